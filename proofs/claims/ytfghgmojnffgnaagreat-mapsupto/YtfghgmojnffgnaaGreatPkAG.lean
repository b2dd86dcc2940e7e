import Derived.Test.YtfghgmojnffgnaaGreatPkAA
import Derived.Test.YtfghgmojnffgnaaGreatPkAF
import Derived.Laws.BitsLemmas
set_option maxHeartbeats 4000000
set_option maxRecDepth 20000
namespace Go.Proofs.YtfghgmojnffgnaaGreat
open Go.RowKit
structure MOk (m : Mp) : Prop where
 rise : rising m
 key : ∀ x ∈ m, keyOk x.1 = true
 val : ∀ x ∈ m, x.2.length <= 64
theorem MOk.nil : MOk [] := ⟨List.Pairwise.nil, fun _ h => (by cases h), fun _ h => (by cases h)⟩
theorem mem_ins {α : Type} {x y : Nm × α} {l : List (Nm × α)} : y ∈ ins x l ↔ y = x \/ y ∈ l := by rw [(ins_perm x l).mem_iff, List.mem_cons]
theorem ins_len {α : Type} (x : Nm × α) (l : List (Nm × α)) : (ins x l).length = l.length + 1 := by rw [(ins_perm x l).length_eq]; rfl
theorem del_len {α : Type} (n : Nm) (l : List (Nm × α)) : (del n l).length <= l.length := List.length_filter_le _ _
theorem opOk_keyOk {o : Ox} (h : opOk o = true) : keyOk o.key = true := by simp only [opOk, Bool.and_eq_true] at h; exact h.1
theorem MOk.doOp {m : Mp} (h : MOk m) {o : Ox} (ho : opOk o = true) : MOk (doOp m o) := by
 unfold Go.Proofs.YtfghgmojnffgnaaGreat.doOp
 split
 . exact ⟨rising_del h.rise, fun x hx => h.key x (mem_del hx), fun x hx => h.val x (mem_del hx)⟩
 . rename_i hg
   refine ⟨rising_ins (rising_del h.rise) (getF_del _ _), fun x hx => ?_, fun x hx => ?_⟩
   . rcases mem_ins.1 hx with rfl | hx
     . exact opOk_keyOk ho
     . exact h.key x (mem_del hx)
   . rcases mem_ins.1 hx with rfl | hx
     . exact opOk_val ho (by simpa using hg)
     . exact h.val x (mem_del hx)
theorem MOk.doAll {m : Mp} (h : MOk m) {l : List Ox} (hl : ∀ o ∈ l, opOk o = true) : MOk (doAll m l) := by
 induction l generalizing m with
 | nil => exact h
 | cons o r ih => exact ih (h.doOp (hl o (by simp))) (fun o' h' => hl o' (by simp [h']))
theorem doOp_len (m : Mp) (o : Ox) : (doOp m o).length <= m.length + 1 := by
 unfold doOp
 split
 . have := del_len o.key m; omega
 . rw [ins_len]; have := del_len o.key m; omega
theorem doAll_len (m : Mp) (l : List Ox) : (doAll m l).length <= m.length + l.length := by
 induction l generalizing m with
 | nil => exact Nat.le_refl _
 | cons o r ih => have := ih (doOp m o); have := doOp_len m o; simp only [doAll, List.foldl_cons, List.length_cons] at *; omega
theorem decOp_ok {l : List UInt8} {o : Ox} {n : Nat} (h : decOp l = some (o, n)) : opOk o = true /\ 2 <= n /\ n <= l.length := by
 unfold decOp at h
 split at h
 . simp only at h
   split at h
   . rename_i h2
     simp only [Option.some.injEq, Prod.mk.injEq] at h
     obtain ⟨rfl, rfl⟩ := h
     refine ⟨?_, by omega, by omega⟩
     simp [opOk, keyOk]; omega
   . cases h
 . simp only at h
   split at h
   . rename_i h2
     simp only [Option.some.injEq, Prod.mk.injEq] at h
     obtain ⟨rfl, rfl⟩ := h
     refine ⟨?_, by omega, by omega⟩
     simp [opOk, keyOk]; omega
   . cases h
theorem decOps_ok : ∀ (k : Nat) (l : List UInt8) (ops : List Ox), decOps k l = some ops -> (∀ o ∈ ops, opOk o = true) /\ 2 * ops.length <= l.length /\ (l ≠ [] -> ops ≠ [])
 | k, [], ops, h => by
   have : ops = [] := by unfold decOps at h; simpa using h.symm
   subst this
   exact ⟨fun _ h => (by cases h), by simp, fun h => absurd rfl h⟩
 | 0, c :: r, ops, h => by simp [decOps] at h
 | k + 1, c :: r, ops, h => by
   rw [decOps] at h
   cases hd : decOp (c :: r) with
   | none => rw [hd] at h; cases h
   | some x =>
     obtain ⟨o, n⟩ := x
     rw [hd] at h
     simp only at h
     obtain ⟨h1, h2, h3⟩ := decOp_ok hd
     cases hr : decOps k ((c :: r).drop n) with
     | none => rw [hr] at h; cases h
     | some rest =>
       rw [hr] at h
       simp only [Option.map_some, Option.some.injEq] at h
       subst h
       obtain ⟨k1, k2, k3⟩ := decOps_ok k _ rest hr
       refine ⟨fun o' ho' => ?_, ?_, fun _ => by simp⟩
       . rcases List.mem_cons.1 ho' with rfl | ho'
         . exact h1
         . exact k1 o' ho'
       . rw [List.length_drop] at k2
         simp only [List.length_cons] at *
         omega
theorem decode_ok {t : List UInt8} {ops : List Ox} {n : Nat} (h : decode t = some (some (ops, n))) : (∀ o ∈ ops, opOk o = true) /\ 8 <= n /\ n <= t.length /\ 2 * ops.length <= n := by
 unfold decode at h
 split at h
 . cases h
 . simp only at h
   split at h
   . cases h
   . split at h
     . cases h
     . rename_i h1 h2 h3
       split at h
       . cases h
       . rename_i ops' hd
         split at h
         . simp only [Option.some.injEq, Prod.mk.injEq] at h
           obtain ⟨rfl, rfl⟩ := h
           obtain ⟨k1, k2, k3⟩ := decOps_ok 8 _ _ hd
           rw [List.length_take, List.length_drop] at k2
           refine ⟨k1, by omega, by omega, by omega⟩
         . cases h
theorem replay_ok : ∀ (f : Nat) (t : List UInt8) (m : Mp) (m' : Mp) (n : Nat), replay f t m = some (m', n) -> MOk m -> MOk m' /\ n <= t.length /\ 2 * m'.length <= 2 * m.length + n
 | 0, t, m, m', n, h, hm => by
   simp only [replay, Option.some.injEq, Prod.mk.injEq] at h
   obtain ⟨rfl, rfl⟩ := h
   exact ⟨hm, Nat.zero_le _, by omega⟩
 | f + 1, t, m, m', n, h, hm => by
   rw [replay] at h
   split at h
   . simp only [Option.some.injEq, Prod.mk.injEq] at h
     obtain ⟨rfl, rfl⟩ := h
     exact ⟨hm, Nat.zero_le _, by omega⟩
   . split at h
     . cases h
     . simp only [Option.some.injEq, Prod.mk.injEq] at h
       obtain ⟨rfl, rfl⟩ := h
       exact ⟨hm, Nat.zero_le _, by omega⟩
     . rename_i ops k hd
       obtain ⟨h1, h2, h3, h4⟩ := decode_ok hd
       cases hr : replay f (t.drop k) (doAll m ops) with
       | none => rw [hr] at h; cases h
       | some x =>
         obtain ⟨m2, n2⟩ := x
         rw [hr] at h
         simp only [Option.map_some, Option.some.injEq, Prod.mk.injEq] at h
         obtain ⟨rfl, rfl⟩ := h
         obtain ⟨k1, k2, k3⟩ := replay_ok f _ _ _ _ hr (hm.doAll h1)
         rw [List.length_drop] at k2
         have := doAll_len m ops
         exact ⟨k1, by omega, by omega⟩
def opsOf (m : Mp) : List Ox := m.map fun x => ⟨x.1, x.2, false⟩
theorem ins_last {α : Type} {x : Nm × α} : ∀ {l : List (Nm × α)}, (∀ y ∈ l, bytesBefore y.1 x.1 = true) -> ins x l = l ++ [x]
 | [], _ => rfl
 | y :: r, h => by
   rw [ins, if_neg, ins_last (fun z hz => h z (by simp [hz]))]
   . rfl
   . have h1 := h y (by simp)
     intro h2
     exact absurd rfl (before_ne (before_trans h1 h2))
theorem doAll_opsOf : ∀ (m a : Mp), rising (a ++ m) -> doAll a (opsOf m) = a ++ m
 | [], a, _ => by simp [opsOf, doAll]
 | x :: r, a, h => by
   have hb : ∀ y ∈ a, bytesBefore y.1 x.1 = true := fun y hy => by
     have := List.pairwise_append.1 h
     exact this.2.2 y hy x (by simp)
   have hd : del x.1 a = a := del_none (getF_none (fun k hk => before_ne (hb _ (List.getElem_mem hk))))
   have e : doOp a ⟨x.1, x.2, false⟩ = a ++ [x] := by simp [doOp, hd, ins_last hb]
   show doAll (doOp a ⟨x.1, x.2, false⟩) (opsOf r) = _
   rw [e, doAll_opsOf r (a ++ [x]) (by simpa using h)]
   simp
theorem opsOf_ok {m : Mp} (h : MOk m) : ∀ o ∈ opsOf m, opOk o = true := by
 intro o ho
 obtain ⟨x, hx, rfl⟩ := List.mem_map.1 ho
 have h1 := h.key x hx
 have h2 := h.val x hx
 simp [opOk, h1, h2]
end Go.Proofs.YtfghgmojnffgnaaGreat
namespace Go.Proofs.YtfghgmojnffgnaaGreat
theorem u32_xor (a b : Nat) (ha : a < 4294967296) (hb : b < 4294967296) : bits .xor .u32 (a : Int) (b : Int) = ((a ^^^ b : Nat) : Int) := by
 show IntKind.u32.wrap ((BitVec.ofInt 32 (a : Int) ^^^ BitVec.ofInt 32 (b : Int)).toNat : Int) = _
 have h1 : (BitVec.ofInt 32 (a : Int)).toNat = a := by rw [BitVec.ofInt_natCast, BitVec.toNat_ofNat]; exact Nat.mod_eq_of_lt (by omega)
 have h2 : (BitVec.ofInt 32 (b : Int)).toNat = b := by rw [BitVec.ofInt_natCast, BitVec.toNat_ofNat]; exact Nat.mod_eq_of_lt (by omega)
 have h3 : a ^^^ b < 2 ^ 32 := Nat.xor_lt_two_pow (by omega) (by omega)
 rw [BitVec.toNat_xor, h1, h2, IntKind.wrap_u32]
 omega
theorem fnvStep_int (n : Nat) (c : UInt8) (hn : n < 4294967296) : bits .xor .u32 (n : Int) ((c.toNat : Int) % 4294967296) * 16777619 % 4294967296 = ((fnvStep n c : Nat) : Int) := by
 have hc : c.toNat < 256 := c.toNat_lt
 have e : ((c.toNat : Int) % 4294967296) = (c.toNat : Int) := by omega
 rw [e, u32_xor n c.toNat hn (by omega)]
 unfold fnvStep
 omega
theorem wraps_i64 (n : Int) (h₀ : 0 <= n) (h₁ : n < 2 ^ 63) : IntKind.i64.wrap n = n := by rw [IntKind.wrap_i64]; omega
theorem wraps_u32 (n : Int) (h₀ : 0 <= n) (h₁ : n < 2 ^ 32) : IntKind.u32.wrap n = n := by rw [IntKind.wrap_u32]; omega
theorem i64_or8 (x y : Int) (hx₀ : 0 <= x) (hx : x % 256 = 0) (hx₁ : x < 9223372036854775808) (h₀ : 0 <= y) (h₁ : y < 256) : bits .or .i64 x y = x + y :=
 bits_join .i64 63 (by decide) wraps_i64 8 x y hx₀ hx hx₁ h₀ h₁ (by omega)
theorem u32_or8 (x y : Int) (hx₀ : 0 <= x) (hx : x % 256 = 0) (hx₁ : x < 4294967296) (h₀ : 0 <= y) (h₁ : y < 256) : bits .or .u32 x y = x + y :=
 bits_join .u32 32 (by decide) wraps_u32 8 x y hx₀ hx hx₁ h₀ h₁ (by omega)
theorem u32_or16 (x y : Int) (hx₀ : 0 <= x) (hx : x % 65536 = 0) (hx₁ : x < 4294967296) (h₀ : 0 <= y) (h₁ : y < 65536) : bits .or .u32 x y = x + y :=
 bits_join .u32 32 (by decide) wraps_u32 16 x y hx₀ hx hx₁ h₀ h₁ (by omega)
theorem u32_or24 (x y : Int) (hx₀ : 0 <= x) (hx : x % 16777216 = 0) (hx₁ : x < 4294967296) (h₀ : 0 <= y) (h₁ : y < 16777216) : bits .or .u32 x y = x + y :=
 bits_join .u32 32 (by decide) wraps_u32 24 x y hx₀ hx hx₁ h₀ h₁ (by omega)
theorem u8_or_fin : ∀ a : Fin 128, bits .or .u8 (a.val : Int) 128 = (a.val : Int) + 128 := by decide
theorem u8_or (n : Nat) (h : n < 128) : bits .or .u8 (n : Int) 128 = (n : Int) + 128 := u8_or_fin ⟨n, h⟩
theorem u8_and_fin : ∀ a : Fin 256, bits .and .u8 (a.val : Int) 128 = if 128 <= a.val then 128 else 0 := by decide
theorem u8_and (n : Nat) (h : n < 256) : bits .and .u8 (n : Int) 128 = if 128 <= n then 128 else 0 := u8_and_fin ⟨n, h⟩
theorem u8_clr_fin : ∀ a : Fin 256, bits .andNot .u8 (a.val : Int) 128 = ((a.val % 128 : Nat) : Int) := by decide
theorem u8_clr (n : Nat) (h : n < 256) : bits .andNot .u8 (n : Int) 128 = ((n % 128 : Nat) : Int) := u8_clr_fin ⟨n, h⟩
end Go.Proofs.YtfghgmojnffgnaaGreat
namespace Go.Proofs.YtfghgmojnffgnaaGreat
open Go.RowKit Go.Maps
abbrev str (n : Nm) : Value := .string ⟨n.toArray⟩
def Opp (w : World) (q : Option Addr) (l : List Ox) : Prop := ∀ i (h : i < l.length), ∃ g off, q = some ⟨g, off, none⟩ /\ w.cell? ⟨g, off + i * 3, none⟩ = some (str l[i].key) /\ w.cell? ⟨g, off + i * 3 + 1, none⟩ = some (str l[i].val) /\ w.cell? ⟨g, off + i * 3 + 2, none⟩ = some (.bool l[i].gone)
def OxLen (l : List Ox) : Prop := ∀ o ∈ l, o.key.length <= 1099511627776 /\ o.val.length <= 1099511627776
theorem cell_below {w w' : World} {a : Addr} {v : Value} (hb : Below w.heap.size w w') (h : w.cell? a = some v) : w'.cell? a = some v :=
 (hb.cell (World.block_lt_of_cell? w a h)).trans h
theorem Opp.below {w w' : World} {q : Option Addr} {l : List Ox} (h : Opp w q l) (hb : Below w.heap.size w w') : Opp w' q l := fun i hi => by
 obtain ⟨g, off, e, h1, h2, h3⟩ := h i hi
 exact ⟨g, off, e, cell_below hb h1, cell_below hb h2, cell_below hb h3⟩
theorem isKey_any (n : Nm) (w : World) (hn : n.length <= 1099511627776) :
   Calls Tryz.prog 75 #[str n] w fun e w' => e = .returned (.bool (keyOk n)) /\ w' = w := by
 have hs : (⟨n.toArray⟩ : ByteArray).size = n.length := rfl
 have H : Hid (keyOk n = (decide (1 <= n.length) && decide (n.length <= 16))) := rfl
 go_enter Tryz.func75, Tryz.ntmps75
 go_wp2
 all_goals go_ret
 all_goals (refine ⟨ret_bool ?_, rfl⟩; rw [H.out, Bool.eq_iff_iff]; simp at *; try omega)
theorem take_snoc_all {l : List Ox} {k : Nat} (h : k < l.length) (hr : (l.take k).all opOk = true) : (l.take (k + 1)).all opOk = opOk l[k] := by
 rw [List.take_succ_eq_append_getElem h, List.all_append, hr]; simp
theorem batchOk_bad {l : List Ox} {k : Nat} (h : k < l.length) (hb : opOk l[k] = false) : batchOk l = false := by
 rw [Bool.eq_false_iff, Ne, batchOk_iff]
 intro hh
 have := hh.2 _ (List.getElem_mem h)
 rw [hb] at this
 cases this
theorem isBatch_any (q : Option Addr) (qc : Nat) (l : List Ox) (w : World) (hl : l.length <= 1099511627776) (hk : OxLen l) (hp : Opp w q l) :
   Calls Tryz.prog 113 #[.slice q l.length qc] w fun e w' => e = .returned (.bool (batchOk l)) /\ Below w.heap.size w w' := by
 by_cases h18 : 1 <= l.length /\ l.length <= 8
 . obtain ⟨h1, h8⟩ := h18
   go_enter Tryz.func113, Tryz.ntmps113
   go_wp2
   go_loopw [15] (fun i wr => ∃ k : Nat, k <= l.length /\ i = .int .i64 k /\ Below w.heap.size w wr /\ (l.take k).all opOk = true) (fun i _ => l.length - (intOf i).toNat)
   case atStart => exact ⟨0, Nat.zero_le _, rfl, Below.refl _ _, rfl⟩
   case round =>
     obtain ⟨k, hk', rfl, hb, hr⟩ := hrel
     have HR : Hid ((l.take k).all opOk = true) := hr
     clear hr
     by_cases hlt : k < l.length
     . obtain ⟨g, off, rfl, c0, c1, c2⟩ := hp.below hb k hlt
       have hkl := hk l[k] (List.getElem_mem hlt)
       have h1' := hkl.1
       have h2' := hkl.2
       have hv : ByteArray.size { data := l[k].val.toArray } = l[k].val.length := rfl
       clear hkl
       go_wp2_with (go_at_call 75; refine (isKey_any _ _ h1').mono ?_; rintro e w' ⟨rfl, rfl⟩)
       . go_roundw
         case rel => exact ⟨k + 1, by omega, by go_num, hb.alloc hb.size _, by rw [take_snoc_all hlt HR.out]; simp [opOk, *]⟩
         case measure => simp [intOf]; omega
       . go_ret
         exact ⟨ret_bool (batchOk_bad hlt (by simp [opOk, *]; omega)).symm, hb.alloc hb.size _⟩
       . go_roundw
         case rel => exact ⟨k + 1, by omega, by go_num, hb.alloc hb.size _, by rw [take_snoc_all hlt HR.out]; simp [opOk, *]; omega⟩
         case measure => simp [intOf]; omega
       . go_ret
         exact ⟨ret_bool (batchOk_bad hlt (by simp [opOk, *])).symm, hb.alloc hb.size _⟩
     . have E : Hid (batchOk l = true) := by
         have := HR.out
         rw [List.take_of_length_le (by omega)] at this
         show batchOk l = true
         rw [batchOk_iff]
         exact ⟨⟨h1, h8⟩, List.all_eq_true.1 this⟩
       go_wp2
       go_ret
       exact ⟨ret_bool E.out.symm, hb⟩
 . have E : Hid (batchOk l = false) := by
     show batchOk l = false
     rw [Bool.eq_false_iff, Ne, batchOk_iff]
     exact fun h => h18 h.1
   have h0 : l.length < 1 \/ 8 < l.length := by omega
   clear h18
   rcases h0 with h0 | h0
   all_goals
     go_enter Tryz.func113, Tryz.ntmps113
     go_wp2
     go_ret
     exact ⟨ret_bool E.out.symm, Below.refl _ _⟩
theorem sum_any (s : List UInt8) (w : World) (hs : s.length <= 1099511627776) :
   Calls Tryz.prog 161 #[str s] w fun e w' => e = .returned (.int .u32 (fnv s)) /\ w' = w := by
 have hz : (⟨s.toArray⟩ : ByteArray).size = s.length := rfl
 go_enter Tryz.func161, Tryz.ntmps161
 go_wp2
 go_loop [3, 7] (fun n i => ∃ k : Nat, k <= s.length /\ i = .int .i64 k /\ n = .int .u32 (fnv (s.take k))) (fun _ i => s.length - (intOf i).toNat)
 case atStart => exact ⟨0, Nat.zero_le _, rfl, rfl⟩
 case round =>
   obtain ⟨k, hk', rfl, rfl⟩ := hrel
   by_cases hlt : k < s.length
   . have hn := fnv_lt (s.take k)
     generalize hN : fnv (s.take k) = N at *
     go_wp2
     go_round
     case rel =>
       refine ⟨k + 1, by omega, by go_num, ?_⟩
       rw [List.take_succ_eq_append_getElem hlt, fnv_snoc, hN, <- fnvStep_int N s[k] hn]
       rfl
     case measure => simp [intOf]; omega
   . have E : Hid (s.take k = s) := List.take_of_length_le (by omega)
     go_wp2
     go_ret
     rw [E.out]
     exact ⟨rfl, rfl⟩
theorem ret_u32 {a b : Int} (h : a = b) : Ending.returned (.int .u32 a) = .returned (.int .u32 b) := by rw [h]
theorem storedSum_any (s : List UInt8) (w : World) (hs : s.length = 4) :
   Calls Tryz.prog 182 #[str s] w fun e w' => e = .returned (.int .u32 (be4N s)) /\ Below w.heap.size w w' := by
 obtain ⟨a, b, c, d, rfl⟩ : ∃ a b c d, s = [a, b, c, d] := by
   match s, hs with
   | [a, b, c, d], _ => exact ⟨a, b, c, d, rfl⟩
 have ha : a.toNat < 256 := a.toNat_lt
 have hb : b.toNat < 256 := b.toNat_lt
 have hc : c.toNat < 256 := c.toNat_lt
 have hd : d.toNat < 256 := d.toNat_lt
 have hz : (⟨[a, b, c, d].toArray⟩ : ByteArray).size = 4 := rfl
 go_enter Tryz.func182, Tryz.ntmps182
 go_wp2
 go_region
 go_wp2
 go_ret
 refine ⟨ret_u32 ?_, (Below.refl _ _).drew⟩
 show bits .or .u32 (bits .or .u32 (bits .or .u32 ((a.toNat : Int) % 4294967296 * 16777216 % 4294967296) ((b.toNat : Int) % 4294967296 * 65536 % 4294967296)) ((c.toNat : Int) % 4294967296 * 256 % 4294967296)) ((d.toNat : Int) % 4294967296) = _
 have e1 : (a.toNat : Int) % 4294967296 * 16777216 % 4294967296 = a.toNat * 16777216 := by omega
 have e2 : (b.toNat : Int) % 4294967296 * 65536 % 4294967296 = b.toNat * 65536 := by omega
 have e3 : (c.toNat : Int) % 4294967296 * 256 % 4294967296 = c.toNat * 256 := by omega
 have e4 : (d.toNat : Int) % 4294967296 = d.toNat := by omega
 rw [e1, e2, e3, e4, u32_or24 ((a.toNat : Int) * 16777216) (b.toNat * 65536) (by omega) (by omega) (by omega) (by omega) (by omega), u32_or16 ((a.toNat : Int) * 16777216 + b.toNat * 65536) (c.toNat * 256) (by omega) (by omega) (by omega) (by omega) (by omega), u32_or8 ((a.toNat : Int) * 16777216 + b.toNat * 65536 + c.toNat * 256) d.toNat (by omega) (by omega) (by omega) (by omega) (by omega)]
 have e : be4N [a, b, c, d] = a.toNat * 16777216 + b.toNat * 65536 + c.toNat * 256 + d.toNat := rfl
 rw [e]
 omega
abbrev aggOp (o : Ox) : Value := .agg #[str o.key, str o.val, .bool o.gone]
theorem wpList_appB (w : World) {ops : Array Oper} {rest : List Oper} {o : Oper} {ac : Act} {Q : Exit -> Act -> World -> Prop} (hgd : o.guard = none) (s x : Operand)
   (ho : o.op = .call { callee := .builtin .append, args := #[s, x], argTypes := #[167, 167] })
   (n0 : Nat) (v : Value) (l c : List UInt8) (g cp : Nat) (hs : ac.eval s = v) (hx : ac.eval x = .slice (some ⟨g, 0, none⟩) c.length cp) (hn0 : n0 <= w.heap.size) (hown : OwnB w n0 v l) (hc : ∀ i (h : i < c.length), w.cell? ⟨g, i, none⟩ = some (encB c[i])) (hlc : l.length + c.length <= 4194304)
   (h : ∀ v' w', OwnB w' n0 v' (l ++ c) -> Kp (fun i => v.ownBlock = some i) w w' -> wpList Tryz.prog ops Q rest (ac.put o.dst v') w') : wpList Tryz.prog ops Q (o :: rest) ac w := by
 obtain ⟨i0, hi, hz0, hz1, hz2⟩ := info_parts Tryz.info5
 refine wpList_append_own _ hgd s x 167 ho n0 5 i0 _ 1 1 Tryz.underlying167 hi hz0 hz1 hz2 rfl (by decide) v l.length (l.map encB) hs hown ⟨g, 0, none⟩ c.length cp (c.map encB) hx (by simp) ?_ (by intro u hu; obtain ⟨c, _, rfl⟩ := List.mem_map.1 hu; rfl) (by unfold maxLen; omega) (by omega) hn0 ?_
 . intro j u hu
   have hj : j < c.length := by simpa using (List.getElem?_eq_some_iff.1 hu).1
   rw [Addr.add_lit, Nat.zero_add, hc j hj]
   rw [List.getElem?_eq_getElem (by simpa using hj)] at hu
   simpa using hu
 . intro v' w' ho' hg' _
   refine h v' w' ?_ ((Kp.refl _ _).grown hg' (fun k hk _ => hk))
   unfold OwnB
   rw [List.length_append, List.map_append]
   exact ho'
theorem wpList_appS (w : World) {ops : Array Oper} {rest : List Oper} {o : Oper} {ac : Act} {Q : Exit -> Act -> World -> Prop} (hgd : o.guard = none) (s x : Operand)
   (ho : o.op = .call { callee := .builtin .append, args := #[s, x], argTypes := #[167, 9] })
   (n0 : Nat) (v : Value) (l c : List UInt8) (hs : ac.eval s = v) (hx : ac.eval x = str c) (hn0 : n0 <= w.heap.size) (hown : OwnB w n0 v l) (hlc : l.length + c.length <= 4194304)
   (h : ∀ v' w', OwnB w' n0 v' (l ++ c) -> Kp (fun i => v.ownBlock = some i) w w' -> wpList Tryz.prog ops Q rest (ac.put o.dst v') w') : wpList Tryz.prog ops Q (o :: rest) ac w := by
 refine wpList_plain hgd fun K hK => ?_
 obtain ⟨i, hi, hz, h1, h2⟩ := info_parts Tryz.info5
 have hsz : (⟨c.toArray⟩ : ByteArray).size = c.length := rfl
 have hsc : Lib.strCells ⟨c.toArray⟩ = c.map encB := rfl
 obtain ⟨v', w', hr, ho', hg, _⟩ := Lib.run_append_own_string (P := Tryz.prog) w n0 167 9 o.type 5 i Tryz.underlying167 Tryz.underlying9 hi hz h1 h2 v l.length (l.map encB) hown ⟨c.toArray⟩ (by rw [hsz]; unfold maxLen; omega) (by rw [hsz]; omega) hn0
 unfold Oper.wp execOp
 simp only [ho, resolve, invoke, builtin, Sem.run_bind, Sem.run_pure, Result.andThen_ok, List.map_toArray, List.map_cons, List.map_nil, hs, hx, hr]
 refine hK _ _ (h v' w' ?_ ((Kp.refl _ _).grown hg (fun k hk _ => hk)))
 unfold OwnB
 rw [hsz, hsc] at ho'
 rw [List.length_append, List.map_append]
 exact ho'
theorem OwnB.kept {w w' : World} {base : Nat} {v : Value} {l : List UInt8} {S : Nat -> Prop} (h : OwnB w base v l) (k : Kp S w w') (hs : ∀ g, v.ownBlock = some g -> ¬ S g) : OwnB w' base v l := k.row h hs
theorem OwnB.alloc {w : World} {base : Nat} {v : Value} {l : List UInt8} (h : OwnB w base v l) (o : Obj) : OwnB (w.alloc o) base v l := h.kept (S := fun _ => False) ((Kp.refl _ _).alloc o) (fun _ _ f => f)
theorem ownB_some {w : World} {base : Nat} {v : Value} {l : List UInt8} (h : OwnB w base v l) : ∃ a n cap, v = .slice a n cap := by
 obtain ⟨a, cap, e⟩ := ownB_shape h; exact ⟨a, _, cap, e⟩
theorem newB (W : World) (b : Nat) (hb : b = W.heap.size) (xs : List Int) (c : List UInt8) (e : xs = c.map fun c => (c.toNat : Int)) (cs : Array Value) (hcs : cs = (xs.map (Value.int .u8)).toArray) (t : TypeId) :
   ∀ i (h : i < c.length), (W.alloc (.cells cs t)).cell? ⟨b, i, none⟩ = some (encB c[i]) := by
 intro i hi
 subst hb
 rw [cell_block (block_new W _), hcs, e]
 simp [encB, hi]
theorem below_own {w w' : World} {v : Value} {l : List UInt8} {n0 : Nat} (hn0 : n0 <= w.heap.size) (ho : OwnB w n0 v l) (k : Kp (fun i => v.ownBlock = some i) w w') : Below n0 w w' :=
 ⟨k.os, k.tape, k.output, k.size, fun i hi => k.block i (by omega) (fun e => by have := (ho.lt i e).1; omega)⟩
theorem appendOp_any (v : Value) (l : List UInt8) (o : Ox) (w : World) (n0 : Nat) (hn0 : n0 <= w.heap.size) (hown : OwnB w n0 v l) (ho : opOk o = true) (hl : l.length <= 65536) :
   Calls Tryz.prog 160 #[v, aggOp o] w fun e w' => ∃ v', e = .returned v' /\ OwnB w' n0 v' (l ++ encOp o) /\ Below n0 w w' := by
 obtain ⟨k1, k2⟩ := opOk_key ho
 have hz1 : (⟨o.key.toArray⟩ : ByteArray).size = o.key.length := rfl
 have hz2 : (⟨o.val.toArray⟩ : ByteArray).size = o.val.length := rfl
 obtain ⟨a, cap, rfl⟩ := ownB_shape hown
 have hgl : ∀ g, (Value.slice a l.length cap).ownBlock = some g -> g < w.heap.size := fun g hg => (hown.lt g hg).2
 cases hg : o.gone
 . have hv := opOk_val ho hg
   have E : Hid (encOp o = UInt8.ofNat o.key.length :: UInt8.ofNat o.val.length :: (o.key ++ o.val)) := by show encOp o = _; simp [encOp, hg]
   have hB : Hid ([(o.key.length : Int), (o.val.length : Int)] = [UInt8.ofNat o.key.length, UInt8.ofNat o.val.length].map fun c => (c.toNat : Int)) := by
     show _ = _
     simp only [List.map_cons, List.map_nil, byte_nat (show o.key.length < 256 by omega), byte_nat (show o.val.length < 256 by omega)]
   go_enter Tryz.func160, Tryz.ntmps160
   go_wp2_with (first
     | (at_builtin; refine wpList_appB _ rfl (.tmp 19) (.tmp 28) rfl n0 (.slice a l.length cap) l [UInt8.ofNat o.key.length, UInt8.ofNat o.val.length] (w.heap.size + 1) 2 rfl rfl (by simp; omega) ((hown.alloc _).alloc _) (newB _ _ (by simp) _ _ hB.out _ rfl _) (by simp; omega) ?_; intro v1 w1 hown1 kp1; have hbx := kp1.at (b := w.heap.size) (block_alloc (block_new w _)) (fun e => Nat.lt_irrefl _ (hgl _ e)); have hb1 := below_own (by simp; omega) ((hown.alloc _).alloc _) kp1; obtain ⟨q0, q1, q2, _⟩ := cells3 hbx; obtain ⟨a1, m1, cap1, rfl⟩ := ownB_some hown1; have hs1 := kp1.size; simp only [World.size_alloc] at hs1)
     | (at_builtin; refine wpList_appS w1 rfl (.tmp 30) (.tmp 32) rfl n0 _ _ o.key rfl rfl (by omega) hown1 (by simp; omega) ?_; intro v2 w2 hown2 kp2; have hgl1 : ∀ g, (Value.slice a1 m1 cap1).ownBlock = some g -> g ≠ w.heap.size := fun g hg e => row_ne hbx hown1 hg (by decide) e; have hb2 := below_own (by omega) hown1 kp2; have hbx2 := kp2.at hbx (fun e => hgl1 _ e rfl); clear q0 q1 q2; obtain ⟨q0, q1, q2, _⟩ := cells3 hbx2; obtain ⟨a2, m2, cap2, rfl⟩ := ownB_some hown2; have hs2 := kp2.size)
     | (at_builtin; refine wpList_appS w2 rfl (.tmp 34) (.tmp 36) rfl n0 _ _ o.val rfl rfl (by omega) hown2 (by simp; omega) ?_; intro v3 w3 hown3 kp3; have hb3 := below_own (by omega) hown2 kp3; obtain ⟨a3, m3, cap3, rfl⟩ := ownB_some hown3)
     | go_in)
   go_ret
   refine ⟨_, rfl, ?_, (((((Below.refl _ w).alloc hn0 _).alloc (by simp; omega) _).trans hb1).trans hb2).trans hb3⟩
   rw [E.out]
   simpa using hown3
 . have E : Hid (encOp o = UInt8.ofNat (o.key.length + 128) :: o.key) := by show encOp o = _; simp [encOp, hg]
   have hB : Hid ([bits BinOp.or IntKind.u8 (o.key.length : Int) 128] = [UInt8.ofNat (o.key.length + 128)].map fun c => (c.toNat : Int)) := by
     show _ = _
     rw [u8_or _ (by omega), List.map_cons, byte_nat (by omega)]; rfl
   go_enter Tryz.func160, Tryz.ntmps160
   go_wp2_with (first
     | (at_builtin; refine wpList_appB _ rfl (.tmp 7) (.tmp 13) rfl n0 (.slice a l.length cap) l [UInt8.ofNat (o.key.length + 128)] (w.heap.size + 1) 1 rfl rfl (by simp; omega) ((hown.alloc _).alloc _) (newB _ _ (by simp) _ _ hB.out _ rfl _) (by simp; omega) ?_; intro v1 w1 hown1 kp1; have hbx := kp1.at (b := w.heap.size) (block_alloc (block_new w _)) (fun e => Nat.lt_irrefl _ (hgl _ e)); have hb1 := below_own (by simp; omega) ((hown.alloc _).alloc _) kp1; obtain ⟨q0, q1, q2, _⟩ := cells3 hbx; obtain ⟨a1, m1, cap1, rfl⟩ := ownB_some hown1; have hs1 := kp1.size; simp only [World.size_alloc] at hs1)
     | (at_builtin; refine wpList_appS w1 rfl (.tmp 15) (.tmp 17) rfl n0 _ _ o.key rfl rfl (by omega) hown1 (by simp; omega) ?_; intro v2 w2 hown2 kp2; have hb2 := below_own (by omega) hown1 kp2; obtain ⟨a2, m2, cap2, rfl⟩ := ownB_some hown2)
     | go_in)
   go_ret
   refine ⟨_, rfl, ?_, ((((Below.refl _ w).alloc hn0 _).alloc (by simp; omega) _).trans hb1).trans hb2⟩
   rw [E.out]
   simpa using hown2
theorem encBody_snoc {l : List Ox} {k : Nat} (h : k < l.length) : encBody (l.take (k + 1)) = encBody (l.take k) ++ encOp l[k] := by
 unfold encBody; rw [List.take_succ_eq_append_getElem h, List.flatMap_append, List.flatMap_singleton]
theorem kp_from {n : Nat} {w w' : World} (h : Below n w w') : Kp (fun k => n <= k) w w' := ⟨h.os, h.tape, h.output, h.size, fun k _ hn => h.block k (by omega)⟩
theorem OwnB.from {w w' : World} {n base : Nat} {v : Value} {l : List UInt8} (h : OwnB w base v l) (k : Below n w w') (hs : ∀ g, v.ownBlock = some g -> g < n) : OwnB w' base v l := h.kept (kp_from k) (fun g hg e => by have := hs g hg; omega)
theorem Encode_any (q : Option Addr) (qc : Nat) (l : List Ox) (w : World) (hbo : batchOk l = true) (hp : Opp w q l) :
   Calls Tryz.prog 114 #[.slice q l.length qc] w fun e w' => e = .returned (str (encode l)) /\ Below w.heap.size w w' := by
 obtain ⟨⟨h1, h8⟩, hop⟩ := batchOk_iff.1 hbo
 obtain ⟨hb1, hb2⟩ := body_len hbo
 obtain ⟨i0, hi, hz0, hz1, hz2⟩ := info_parts Tryz.info5
 go_enter Tryz.func114, Tryz.ntmps114
 go_wp2
 go_loopw [3, 10] (fun v i wr => ∃ k : Nat, k <= l.length /\ i = .int .i64 k /\ OwnB wr w.heap.size v (encBody (l.take k)) /\ Below w.heap.size w wr) (fun _ i _ => l.length - (intOf i).toNat)
 case atStart => exact ⟨0, Nat.zero_le _, rfl, World.ownsRow_nil _ _ _ _, Below.refl _ _⟩
 case round =>
   obtain ⟨k, hk, rfl, hown, hb⟩ := hrel
   by_cases hlt : k < l.length
   . obtain ⟨g, off, rfl, c0, c1, c2⟩ := hp.below hb k hlt
     have hlen := encBody_len (l.take k) (fun o ho => hop o (List.mem_of_mem_take ho))
     rw [List.length_take] at hlen
     obtain ⟨a, n, cap, rfl⟩ := ownB_some hown
     have hs := hb.size
     have hA := appendOp_any (.slice a n cap) (encBody (l.take k)) l[k] (wr.alloc (.cells #[str l[k].key, str l[k].val, .bool l[k].gone] 121)) w.heap.size (by simp; omega) (hown.alloc _) (hop _ (List.getElem_mem hlt)) (by omega)
     go_wp2_with (go_at_call 160; refine hA.mono ?_; rintro e w1 ⟨v1, rfl, hown1, hbl1⟩)
     go_roundw
     case rel => exact ⟨k + 1, by omega, by go_num, by rw [encBody_snoc hlt]; exact hown1, (hb.alloc hb.size _).trans hbl1⟩
     case measure => simp [intOf]; omega
   . rw [List.take_of_length_le (by omega)] at hown
     obtain ⟨a, cap, rfl⟩ := ownB_shape hown
     obtain ⟨g, rfl⟩ : ∃ g, a = some ⟨g, 0, none⟩ := by
       rcases hown.2 with ⟨hv, hn⟩ | ⟨g, cap', cur, hv, _⟩
       . omega
       . exact ⟨g, by simpa using (Value.slice.inj hv).1⟩
     have hs := hb.size
     have hgl := (hown.lt g rfl).2
     have HO : Hid (OwnB wr w.heap.size (.slice (some ⟨g, 0, none⟩) (encBody l).length cap) (encBody l)) := hown
     have HF := fnv_lt (encBody l)
     have HE : Hid (encode l = be2 (encBody l).length ++ be4 (fnv (encBody l)) ++ encBody l) := rfl
     have HSU := fun w => sum_any (encBody l) w (by omega)
     clear hown
     generalize hL : (encBody l).length = L at *
     generalize hN : fnv (encBody l) = N at *
     have H2 : Hid ([(L : Int) / 256, (L : Int) % 256] = (be2 L).map fun c => (c.toNat : Int)) := by
       show _ = _
       simp only [be2, List.map_cons, List.map_nil, byte_mod]
       congr 1
       . omega
     have H4 : Hid ([(N : Int) / 16777216, (N : Int) / 65536 % 256, (N : Int) / 256 % 256, (N : Int) % 256] = (be4 N).map fun c => (c.toNat : Int)) := by
       show _ = _
       simp only [be4, List.map_cons, List.map_nil, byte_mod]
       congr 1
       . omega
     go_wp2_with (first
       | (at_make; refine wpList_make_own _ rfl _ _ 167 rfl wr.heap.size 5 i0 (.int .u8 0) 1 Tryz.underlying167 hi hz0 hz1 _ _ _ (6 + L) rfl rfl rfl (by rw [hz2]; omega) (by unfold maxLen; omega) (Nat.le_refl _) ?_; intro w1 hrow1 hg1; have hr1 : OwnB w1 wr.heap.size (.slice (some ⟨wr.heap.size, 0, none⟩) 0 (6 + L)) [] := hrow1; have hs1 := hg1.size; have ho1 : OwnB w1 w.heap.size (.slice (some ⟨g, 0, none⟩) L cap) (encBody l) := HO.out.kept ((Kp.refl (fun _ => False) _).grown hg1 (fun _ e => by cases e)) (fun _ _ f => f))
       | (at_builtin; refine wpList_appB _ rfl (.tmp 22) (.tmp 30) rfl wr.heap.size (.slice (some ⟨wr.heap.size, 0, none⟩) 0 (6 + L)) [] (be2 L) w1.heap.size 2 rfl rfl (by simp; omega) (hr1.alloc _) (newB _ _ (by simp) _ _ H2.out _ rfl _) (by simp [be2]) ?_; intro v2 w2 hown2 kp2; have hbl2 := below_own (by simp; omega) (hr1.alloc _) kp2; have ho2 := (ho1.alloc _).from hbl2 (fun k hk => by cases hk; omega); have hcv2 := conv_bytes ho2; obtain ⟨a2, m2, cap2, rfl⟩ := ownB_some hown2; have hs2 := kp2.size; simp only [World.size_alloc] at hs2)
       | (go_at_call 161; refine (HSU _).mono ?_; rintro e w2 ⟨rfl, rfl⟩)
       | (at_builtin; refine wpList_appB _ rfl (.tmp 35) (.tmp 47) rfl wr.heap.size _ _ (be4 N) w2.heap.size 4 rfl rfl (by simp; omega) (hown2.alloc _) (newB _ _ (by simp) _ _ H4.out _ rfl _) (by simp [be2, be4]) ?_; intro v3 w3 hown3 kp3; have hbl3 := below_own (by simp; omega) (hown2.alloc _) kp3; have ho3 := (ho2.alloc _).from hbl3 (fun k hk => by cases hk; omega); obtain ⟨a3, m3, cap3, rfl⟩ := ownB_some hown3; have hs3 := kp3.size; simp only [World.size_alloc] at hs3; clear hcv2)
       | (at_builtin; refine wpList_appB w3 rfl (.tmp 49) (.tmp 50) rfl wr.heap.size _ _ (encBody l) g cap rfl (by rw [hL]; rfl) (by omega) hown3 (ownB_cells ho3) (by simp [be2, be4, hL]; omega) ?_; intro v4 w4 hown4 kp4; have hbl4 := below_own (by omega) hown3 kp4; have hcv4 := conv_bytes hown4; obtain ⟨a4, m4, cap4, rfl⟩ := ownB_some hown4; have hs4 := kp4.size)
       | go_in)
     go_ret
     refine ⟨?_, (((((hb.trans ((Below.refl _ wr).grown hg1 hs (fun _ e => by cases e))).alloc (by omega) _).trans (hbl2.mono hs)).alloc (by omega) _).trans (hbl3.mono hs)).trans (hbl4.mono hs)⟩
     rw [HE.out]
     simp
end Go.Proofs.YtfghgmojnffgnaaGreat
