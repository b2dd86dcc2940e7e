import Derived.Test.YtoabedkcieindabGreatDoorQkAA
import Derived.Test.YtoabedkcieindabGreatDoorQkAD
import Derived.WideAt
import Derived.Test.YtoabedkcieindabGreatDoorQkAC
namespace Go.Proofs.YtoabedkcieindabGreatDoor
def dig36 (d : Nat) : UInt8 := UInt8.ofNat (if d < 10 then 48 + d else 87 + d)
def val36 (c : UInt8) : Option Nat := if 48 ≤ c.toNat ∧ c.toNat ≤ 57 then some (c.toNat - 48) else if 97 ≤ c.toNat ∧ c.toNat ≤ 122 then some (c.toNat - 87) else none
def digs : Nat → Nat → List UInt8
  | 0, _ => []
  | k + 1, n => if n < 36 then [dig36 n] else digs k (n / 36) ++ [dig36 (n % 36)]
def fmt36 (n : Nat) : List UInt8 := digs 13 n
def par36 (l : List UInt8) : Option Nat := l.foldl (fun s c => match s, val36 c with | some n, some d => some (n * 36 + d) | _, _ => none) (some 0)
theorem val_dig {d : Nat} (h : d < 36) : val36 (dig36 d) = some d := by
  unfold dig36 val36
  split
  · rw [byte_nat (by omega), if_pos (by omega)]; congr 1; omega
  · rw [byte_nat (by omega), if_neg (by omega), if_pos (by omega)]; congr 1; omega
theorem par_snoc (l : List UInt8) (c : UInt8) : par36 (l ++ [c]) = match par36 l, val36 c with | some n, some d => some (n * 36 + d) | _, _ => none := by
  simp [par36]
theorem par_digs : ∀ (k n : Nat), n < 36 ^ k → 0 < k → par36 (digs k n) = some n
  | 0, _, _, h => absurd h (by omega)
  | k + 1, n, h, _ => by
    unfold digs
    split
    · rename_i h1
      show par36 ([] ++ [dig36 n]) = _
      rw [par_snoc, val_dig h1]; simp [par36]
    · rename_i h1
      have hk : 0 < k := by
        rcases Nat.eq_zero_or_pos k with rfl | h2
        · simp at h; omega
        · exact h2
      have hn : n / 36 < 36 ^ k := by rw [Nat.pow_succ] at h; omega
      rw [par_snoc, par_digs k (n / 36) hn hk, val_dig (Nat.mod_lt _ (by omega))]
      simp only [Option.some.injEq]
      omega
theorem digs_len : ∀ (k n : Nat), (digs k n).length ≤ k
  | 0, _ => by simp [digs]
  | k + 1, n => by
    unfold digs
    split
    · simp
    · have := digs_len k (n / 36); simp; omega
theorem digs_pos (k n : Nat) : 1 ≤ (digs (k + 1) n).length := by
  unfold digs
  split <;> simp
theorem dig_name {d : Nat} (h : d < 36) : nameByte (dig36 d) = true := by
  have : ∀ d : Fin 36, nameByte (dig36 d.1) = true := by decide
  exact this ⟨d, h⟩
theorem digs_name : ∀ (k n : Nat), (digs k n).all nameByte = true
  | 0, _ => rfl
  | k + 1, n => by
    unfold digs
    split
    · rename_i h; simp [dig_name h]
    · simp [digs_name k (n / 36), dig_name (Nat.mod_lt n (show 0 < 36 by omega))]
theorem fmt_par {n : Nat} (h : n < 9223372036854775808) : par36 (fmt36 n) = some n := par_digs 13 n (by omega) (by omega)
theorem fmt_inj {n m : Nat} (hn : n < 9223372036854775808) (hm : m < 9223372036854775808) (h : fmt36 n = fmt36 m) : n = m := by
  have := fmt_par hn
  rw [h, fmt_par hm] at this
  exact (Option.some.inj this).symm
theorem fmt_len (n : Nat) : 1 ≤ (fmt36 n).length ∧ (fmt36 n).length ≤ 13 := ⟨digs_pos 12 n, digs_len 13 n⟩
def numOf (p n : Nm) : Option Nat :=
  if p.isPrefixOf n then
    match par36 (n.drop p.length) with
    | some k => if k < 9223372036854775808 ∧ fmt36 k = n.drop p.length then some k else none
    | none => none
  else none
theorem numOf_fmt (p : Nm) {n : Nat} (h : n < 9223372036854775808) : numOf p (p ++ fmt36 n) = some n := by
  have h1 : p.isPrefixOf (p ++ fmt36 n) = true := by simp [List.isPrefixOf_iff_prefix]
  unfold numOf
  rw [if_pos h1]
  simp [fmt_par h, h]
theorem numOf_is {p n : Nm} {k : Nat} (h : numOf p n = some k) : n = p ++ fmt36 k ∧ k < 9223372036854775808 := by
  unfold numOf at h
  split at h
  · rename_i h1
    split at h
    · split at h
      · rename_i h2
        cases h
        obtain ⟨t, rfl⟩ := List.isPrefixOf_iff_prefix.1 h1
        refine ⟨?_, h2.1⟩
        rw [h2.2]; simp
      · cases h
    · cases h
  · cases h
def logP : Nm := [108, 111, 103, 46]
def tabP : Nm := [116, 97, 98, 108, 101, 46]
def manN : Nm := [109, 97, 110, 105, 102, 101, 115, 116]
def begN : Nm := [98, 101, 103, 117, 110]
def lgN (n : Nat) : Nm := logP ++ fmt36 n
def tbN (n : Nat) : Nm := tabP ++ fmt36 n
theorem lgN_ok (n : Nat) : nameOk (lgN n) = true := by
  obtain ⟨h1, h2⟩ := fmt_len n
  have h3 : (fmt36 n).all nameByte = true := digs_name 13 n
  have h4 : logP.all nameByte = true := by decide
  have h5 : (lgN n).length = 4 + (fmt36 n).length := by simp [lgN, logP]; omega
  unfold nameOk
  rw [Bool.and_eq_true, Bool.and_eq_true, decide_eq_true_eq, decide_eq_true_eq]
  refine ⟨⟨by omega, by omega⟩, ?_⟩
  rw [lgN, List.all_append, h3, h4]; rfl
theorem tbN_ok (n : Nat) : nameOk (tbN n) = true := by
  obtain ⟨h1, h2⟩ := fmt_len n
  have h3 : (fmt36 n).all nameByte = true := digs_name 13 n
  have h4 : tabP.all nameByte = true := by decide
  have h5 : (tbN n).length = 6 + (fmt36 n).length := by simp [tbN, tabP]; omega
  unfold nameOk
  rw [Bool.and_eq_true, Bool.and_eq_true, decide_eq_true_eq, decide_eq_true_eq]
  refine ⟨⟨by omega, by omega⟩, ?_⟩
  rw [tbN, List.all_append, h3, h4]; rfl
theorem manN_ok : nameOk manN = true := by decide
theorem begN_ok : nameOk begN = true := by decide
theorem lgN_inj {n m : Nat} (hn : n < 9223372036854775808) (hm : m < 9223372036854775808) (h : lgN n = lgN m) : n = m := fmt_inj hn hm (List.append_cancel_left h)
theorem tbN_inj {n m : Nat} (hn : n < 9223372036854775808) (hm : m < 9223372036854775808) (h : tbN n = tbN m) : n = m := fmt_inj hn hm (List.append_cancel_left h)
theorem log_tab (n m : Nat) : lgN n ≠ tbN m := by intro h; simp [lgN, tbN, logP, tabP] at h
theorem log_man (n : Nat) : lgN n ≠ manN := by intro h; simp [lgN, manN, logP] at h
theorem tab_man (n : Nat) : tbN n ≠ manN := by intro h; simp [tbN, manN, tabP] at h
theorem log_beg (n : Nat) : lgN n ≠ begN := by intro h; simp [lgN, begN, logP] at h
theorem tab_beg (n : Nat) : tbN n ≠ begN := by intro h; simp [tbN, begN, tabP] at h
theorem man_beg : manN ≠ begN := by decide
def oursN (n : Nm) : Bool := (numOf logP n).isSome || (numOf tabP n).isSome || n == manN || n == begN
end Go.Proofs.YtoabedkcieindabGreatDoor

namespace Go.Proofs.YtoabedkcieindabGreatDoor
def be8 (n : Nat) : List UInt8 := be4 (n / 4294967296) ++ be4 n
theorem be8_len (n : Nat) : (be8 n).length = 8 := rfl
def sealT (b : List UInt8) : List UInt8 := be4 (fnv b) ++ b
structure Pl where
  number : Nat
  level : Nat
structure Man where
  next : Nat
  log : Nat
  tabs : List Pl
def encPl (p : Pl) : List UInt8 := be8 p.number ++ be8 p.level
def encMan (m : Man) : List UInt8 := sealT (be8 m.next ++ (be8 m.log ++ m.tabs.flatMap encPl))
def plsOk (next : Nat) : Nat → List Pl → Bool
  | _, [] => true
  | lv, p :: r => decide (1 ≤ p.number) && decide (p.number < next) && decide (p.level ≤ lv) && plsOk next p.level r
abbrev manOk (m : Man) : Prop := 1 ≤ m.next ∧ m.next < 4611686018427387904 ∧ m.log < 4611686018427387904 ∧ plsOk m.next 4611686018427387904 m.tabs = true ∧ (m.tabs.map (·.number)).Nodup
theorem plsOk_at : ∀ {next lv : Nat} {l : List Pl}, plsOk next lv l = true → ∀ p ∈ l, 1 ≤ p.number ∧ p.number < next ∧ p.level ≤ lv
  | _, _, [], _ => fun _ h => (by cases h)
  | next, lv, p :: r, h => by
    simp only [plsOk, Bool.and_eq_true, decide_eq_true_eq] at h
    intro q hq
    rcases List.mem_cons.1 hq with rfl | hq
    · exact ⟨h.1.1.1, h.1.1.2, h.1.2⟩
    · obtain ⟨a, b, c⟩ := plsOk_at h.2 q hq
      exact ⟨a, b, Nat.le_trans c h.1.2⟩
def encLay (l : List Ox) : List UInt8 := sealT (encBody l)
def layOk : Nm → List Ox → Prop
  | _, [] => True
  | last, o :: r => opOk o = true ∧ bytesBefore o.key last = false ∧ layOk o.key r
theorem bare_key (o : Ox) : (bare o).key = o.key := by unfold bare; split <;> rfl
end Go.Proofs.YtoabedkcieindabGreatDoor





namespace Go.Proofs.YtoabedkcieindabGreatDoor
open Go.RowKit Go.Maps Go.Sort
set_option maxHeartbeats 2000000 in
set_option maxRecDepth 20000 in
theorem seal_any (g cap n0 : Nat) (l : List UInt8) (w : World) (hn0 : n0 ≤ w.heap.size) (hown : OwnB w n0 (.slice (some ⟨g, 0, none⟩) l.length cap) l) (hl : l.length ≤ 4000000) :
    Calls Tryz.prog 166 #[.slice (some ⟨g, 0, none⟩) l.length cap] w fun e w' => e = .returned (str (sealT l)) ∧ Below w.heap.size w w' := by
  obtain ⟨i0, hi, hz0, hz1, hz2⟩ := info_parts Tryz.info5
  have hgl := (hown.lt g rfl).2
  have HO : Hid (OwnB w n0 (.slice (some ⟨g, 0, none⟩) l.length cap) l) := hown
  have HF := fnv_lt l
  have HE : Hid (sealT l = be4 (fnv l) ++ l) := rfl
  have HSU := fun w => sum_any l w (by omega)
  have hcv := conv_bytes hown
  clear hown
  generalize hL : l.length = L at *
  generalize hN : fnv l = N at *
  have H4 : Hid ([(N : Int) / 16777216, (N : Int) / 65536 % 256, (N : Int) / 256 % 256, (N : Int) % 256] = (be4 N).map fun c => (c.toNat : Int)) := by
    show _ = _
    simp only [be4, List.map_cons, List.map_nil, byte_mod]
    congr 1
    · omega
  go_enter Tryz.func166, Tryz.ntmps166
  go_wp2_with (first
    | (go_at_call 234; refine (HSU _).mono ?_; rintro e w0 ⟨rfl, rfl⟩; clear hcv)
    | (at_make; refine wpList_make_own _ rfl _ _ 123 rfl w0.heap.size 5 i0 (.int .u8 0) 1 Tryz.underlying123 hi hz0 hz1 _ _ _ (4 + L) rfl rfl rfl (by rw [hz2]; omega) (by unfold maxLen; omega) (Nat.le_refl _) ?_; intro w1 hrow1 hg1; have hr1 : OwnB w1 w0.heap.size (.slice (some ⟨w0.heap.size, 0, none⟩) 0 (4 + L)) [] := hrow1; have hs1 := hg1.size; have ho1 : OwnB w1 n0 (.slice (some ⟨g, 0, none⟩) L cap) l := HO.out.kept ((Kp.refl (fun _ => False) _).grown hg1 (fun _ e => by cases e)) (fun _ _ f => f))
    | (at_builtin; refine wpList_appB _ rfl (.tmp 12) (.tmp 24) rfl w0.heap.size (.slice (some ⟨w0.heap.size, 0, none⟩) 0 (4 + L)) [] (be4 N) w1.heap.size 4 rfl rfl (by simp; omega) (hr1.alloc _) (newB _ _ (by simp) _ _ H4.out _ rfl _) (by simp [be4]) ?_; intro v3 w3 hown3 kp3; have hbl3 := below_own (by simp; omega) (hr1.alloc _) kp3; have ho3 := (ho1.alloc _).from hbl3 (fun k hk => by cases hk; omega); obtain ⟨a3, m3, cap3, rfl⟩ := ownB_some hown3; have hs3 := kp3.size; simp only [World.size_alloc] at hs3)
    | (at_builtin; refine wpList_appB w3 rfl (.tmp 26) (.tmp 27) rfl w0.heap.size _ _ l g cap rfl (by rw [hL]; rfl) (by omega) hown3 (ownB_cells ho3) (by simp [be4, hL]; omega) ?_; intro v4 w4 hown4 kp4; have hbl4 := below_own (by omega) hown3 kp4; have hcv4 := conv_bytes hown4; obtain ⟨a4, m4, cap4, rfl⟩ := ownB_some hown4; have hs4 := kp4.size)
    | go_in)
  go_ret
  refine ⟨?_, ((((Below.refl _ _).grown hg1 (Nat.le_refl _) (fun _ e => by cases e)).alloc (by omega) _).trans hbl3).trans hbl4⟩
  rw [HE.out]
  simp
end Go.Proofs.YtoabedkcieindabGreatDoor

namespace Go.Proofs.YtoabedkcieindabGreatDoor
open Go.RowKit Go.Maps Go.Sort
theorem Tryz.info103 : (Tryz.prog.info? 103).map (fun i => (i.zero, i.size, i.bytes)) = some (some (.agg #[.string ByteArray.empty, .string ByteArray.empty, .bool false]), 3, 40) := by kernel_rfl
def flatO (l : List Ox) : List Value := l.flatMap fun o => [str o.key, str o.val, .bool o.gone]
def OwnO (w : World) (base : Nat) (v : Value) (l : List Ox) : Prop := w.ownsRow base 103 3 v l.length (flatO l)
theorem flatO_snoc (l : List Ox) (o : Ox) : flatO (l ++ [o]) = flatO l ++ [str o.key, str o.val, .bool o.gone] := by simp [flatO]
theorem flatO_at : ∀ (l : List Ox) (i : Nat) (h : i < l.length), (flatO l)[i * 3]? = some (str l[i].key) ∧ (flatO l)[i * 3 + 1]? = some (str l[i].val) ∧ (flatO l)[i * 3 + 2]? = some (.bool l[i].gone)
  | x :: r, 0, _ => ⟨rfl, rfl, rfl⟩
  | x :: r, i + 1, h => by
    have ih := flatO_at r i (by simpa using h)
    show (str x.key :: str x.val :: .bool x.gone :: flatO r)[(i + 1) * 3]? = _ ∧ (str x.key :: str x.val :: .bool x.gone :: flatO r)[(i + 1) * 3 + 1]? = _ ∧ (str x.key :: str x.val :: .bool x.gone :: flatO r)[(i + 1) * 3 + 2]? = _
    rw [show (i + 1) * 3 = i * 3 + 1 + 1 + 1 by omega]
    simpa using ih
theorem OwnO.opp {w : World} {base : Nat} {v : Value} {l : List Ox} (h : OwnO w base v l) : ∃ q cap, v = .slice q l.length cap ∧ Opp w q l ∧ ∀ a, q = some a → base ≤ a.block ∧ a.block < w.heap.size := by
  rcases h.2 with ⟨hv, hn⟩ | ⟨g, cap, cur, hv, hb, hgg, _⟩
  · exact ⟨none, 0, by rw [hv, hn], fun i hi => by omega, fun a ha => by cases ha⟩
  · refine ⟨_, cap, hv, fun i hi => ?_, fun a ha => by cases ha; exact ⟨hb, lt_of_block hgg⟩⟩
    have hc := World.ownsRow.cells h (g := g) (by rw [hv]; rfl)
    obtain ⟨k0, k1, k2⟩ := flatO_at l i hi
    refine ⟨g, 0, rfl, ?_, ?_, ?_⟩
    · have := hc _ _ k0; rwa [Addr.add_lit] at this
    · have := hc _ _ k1; rwa [Addr.add_lit, ← Nat.add_assoc] at this
    · have := hc _ _ k2; rwa [Addr.add_lit, ← Nat.add_assoc] at this
end Go.Proofs.YtoabedkcieindabGreatDoor



namespace Go.Proofs.YtoabedkcieindabGreatDoor
open Go.RowKit Go.Maps Go.Sort
def num8At (n k : Nat) : UInt8 := UInt8.ofNat (n / 2 ^ (56 - 8 * k))
theorem be8_at (n : Nat) : be8 n = [num8At n 0, num8At n 1, num8At n 2, num8At n 3, num8At n 4, num8At n 5, num8At n 6, num8At n 7] := by
  simp only [be8, be4, num8At, List.cons_append, List.nil_append, List.cons.injEq, and_true]
  refine ⟨?_, ?_, ?_, ?_, ?_, ?_, ?_, ?_⟩ <;> first | trivial | (rw [Nat.div_div_eq_div_mul]) | (rw [show 2 ^ (56 - 8 * 7) = 1 from rfl, Nat.div_one])
theorem be8_snoc (n k : Nat) (h : k < 8) : (be8 n).take (k + 1) = (be8 n).take k ++ [num8At n k] := by
  rw [be8_at]
  match k, h with
  | 0, _ => rfl
  | 1, _ => rfl
  | 2, _ => rfl
  | 3, _ => rfl
  | 4, _ => rfl
  | 5, _ => rfl
  | 6, _ => rfl
  | 7, _ => rfl
def NoB (w w' : World) : Prop := ∀ (k : Nat) (cs : Array Value) (t : TypeId) (z : Nat × Nat), w.heap[k]? = some (.cells cs t z) → t ≠ 5 → w'.heap[k]? = some (.cells cs t z)
theorem NoB.refl (w : World) : NoB w w := fun _ _ _ _ h _ => h
theorem NoB.trans {a b c : World} (h : NoB a b) (k : NoB b c) : NoB a c := fun i cs t z hi ht => k i cs t z (h i cs t z hi ht) ht
theorem NoB.alloc (w : World) (o : Obj) : NoB w (w.alloc o) := fun _ _ _ _ h _ => block_alloc h
theorem NoB.own {w w' : World} {n0 : Nat} {v : Value} {l : List UInt8} (ho : OwnB w n0 v l) (k : Kp (fun i => v.ownBlock = some i) w w') : NoB w w' := fun _ _ _ _ h ht => k.at h (fun e => row_ne h ho e ht rfl)
set_option maxHeartbeats 2000000 in
set_option maxRecDepth 20000 in
theorem appendNumber_any (v : Value) (l : List UInt8) (n : Nat) (w : World) (n0 : Nat) (hn0 : n0 ≤ w.heap.size) (hown : OwnB w n0 v l) (hn : n < 9223372036854775808) (hl : l.length ≤ 4000000) :
    Calls Tryz.prog 205 #[v, .int .i64 n] w fun e w' => ∃ v', e = .returned v' ∧ OwnB w' n0 v' (l ++ be8 n) ∧ Below n0 w w' ∧ NoB w w' := by
  go_enter Tryz.func205, Tryz.ntmps205
  go_wp2
  go_loopw [0, 5] (fun x i wr => ∃ k : Nat, k ≤ 8 ∧ i = .int .i64 (56 - 8 * (k : Int)) ∧ OwnB wr n0 x (l ++ (be8 n).take k) ∧ Below n0 w wr ∧ NoB w wr) (fun _ i _ => (intOf i + 8).toNat)
  case atStart => exact ⟨0, by omega, rfl, by simpa using hown, Below.refl _ _, NoB.refl _⟩
  case round =>
    obtain ⟨k, hk, rfl, ho, hB, hNB⟩ := hrel
    have hs := hB.size
    obtain ⟨a, m, cap, rfl⟩ := ownB_some ho
    by_cases hlt : k < 8
    · have H1 : Hid ([((n / 2 ^ (56 - 8 * k) : Nat) : Int) % 256] = [num8At n k].map fun c => (c.toNat : Int)) := by
        show _ = _
        simp only [num8At, List.map_cons, List.map_nil, byte_mod]
        simp
      have HN : Hid (l ++ (be8 n).take (k + 1) = (l ++ (be8 n).take k) ++ [num8At n k]) := by show _ = _; rw [be8_snoc n k hlt, List.append_assoc]
      have htl : ((be8 n).take k).length = k := by rw [List.length_take, be8_len]; omega
      go_wp2_with (at_builtin; refine wpList_appB _ rfl (.tmp 10) (.tmp 16) rfl n0 _ _ [num8At n k] wr.heap.size 1 rfl rfl (by simp; omega) (ho.alloc _) (newB _ _ (by simp) _ _ H1.out _ rfl _) (by simp [htl]; omega) ?_; intro v1 w1 hown1 kp1; have hb1 := below_own (by simp; omega) (ho.alloc _) kp1; have hnb1 := NoB.own (ho.alloc _) kp1; obtain ⟨a1, m1, cap1, rfl⟩ := ownB_some hown1)
      go_roundw
      case rel => exact ⟨k + 1, by omega, by go_num, by rw [HN.out]; exact hown1, (hB.alloc (by omega) _).trans hb1, (hNB.trans (NoB.alloc _ _)).trans hnb1⟩
      case measure => simp [intOf]; omega
    · have E : Hid ((be8 n).take k = be8 n) := List.take_of_length_le (by rw [be8_len]; omega)
      go_wp2
      go_ret
      refine ⟨_, rfl, ?_, hB, hNB⟩
      rw [E.out] at ho
      exact ho
end Go.Proofs.YtoabedkcieindabGreatDoor

namespace Go.Proofs.YtoabedkcieindabGreatDoor
structure En where
  op : Ox
  batch : Int
abbrev Ly := List En
def srt (l : Ly) : Prop := l.Pairwise fun x y => bytesBefore y.op.key x.op.key = false
def leastI : List Ly → Option Nat
  | [] => none
  | [] :: r => (leastI r).map (· + 1)
  | (e :: _) :: r => match leastI r with
    | none => some 0
    | some i => match (r.getD i []).head? with
      | none => some 0
      | some f => if bytesBefore f.op.key e.op.key then some (i + 1) else some 0
def IsLeast (ls : List Ly) (i : Nat) : Prop :=
  ∃ e, (ls.getD i []).head? = some e ∧ (∀ j f, (ls.getD j []).head? = some f → bytesBefore f.op.key e.op.key = false) ∧
    (∀ j f, j < i → (ls.getD j []).head? = some f → bytesBefore e.op.key f.op.key = true)
theorem lt_le_trans {a b c : Nm} (h1 : bytesBefore a b = true) (h2 : bytesBefore c b = false) : bytesBefore a c = true := by
  by_cases hac : a = c
  · subst hac; rw [h2] at h1; cases h1
  · rcases WideAt.bytes_total a c hac with h | h
    · exact h
    · exact absurd (WideShapes.bytes_trans _ _ _ h h1) (by rw [h2]; simp)
theorem le_trans' {a b c : Nm} (h1 : bytesBefore b a = false) (h2 : bytesBefore c b = false) : bytesBefore c a = false := by
  cases h : bytesBefore c a with
  | false => rfl
  | true => have := lt_le_trans h h1; rw [this] at h2; cases h2
theorem lt_asymm {a b : Nm} (h : bytesBefore a b = true) : bytesBefore b a = false := by
  cases hb : bytesBefore b a with
  | false => rfl
  | true => have := WideShapes.bytes_trans _ _ _ h hb; rw [WideAt.bytes_irrefl] at this; cases this
theorem leastI_none : ∀ {ls : List Ly}, leastI ls = none → ∀ j, ls.getD j [] = []
  | [], _ => fun _ => by simp
  | [] :: r, h => fun j => by
    have h1 : leastI r = none := by simpa [leastI] using h
    cases j with
    | zero => rfl
    | succ j => simpa using leastI_none h1 j
  | (e :: t) :: r, h => by
    unfold leastI at h
    split at h
    · cases h
    · split at h
      · cases h
      · split at h <;> cases h
theorem leastI_is : ∀ {ls : List Ly} {i : Nat}, leastI ls = some i → IsLeast ls i
  | [], _, h => by simp [leastI] at h
  | [] :: r, i, h => by
    simp only [leastI, Option.map_eq_some_iff] at h
    obtain ⟨k, hk, rfl⟩ := h
    obtain ⟨e, h1, h2, h3⟩ := leastI_is hk
    refine ⟨e, by simpa using h1, fun j f hf => ?_, fun j f hj hf => ?_⟩
    · cases j with
      | zero => simp at hf
      | succ j => exact h2 j f (by simpa using hf)
    · cases j with
      | zero => simp at hf
      | succ j => exact h3 j f (by omega) (by simpa using hf)
  | (e :: t) :: r, i, h => by
    unfold leastI at h
    have z : ∀ {g : En}, (((e :: t) :: r).getD 0 []).head? = some g → g = e := fun hg => by simpa using hg.symm
    split at h
    · rename_i hn
      cases h
      have hr := leastI_none hn
      refine ⟨e, by simp, fun j f hf => ?_, fun j f hj _ => absurd hj (by omega)⟩
      cases j with
      | zero => rw [z hf]; exact WideAt.bytes_irrefl _
      | succ j => simp only [List.getD_cons_succ, hr j] at hf; cases hf
    · rename_i k hk
      obtain ⟨e', h1, h2, h3⟩ := leastI_is hk
      rw [h1] at h
      simp only at h
      split at h
      · rename_i hb
        cases h
        refine ⟨e', by simpa using h1, fun j f hf => ?_, fun j f hj hf => ?_⟩
        · cases j with
          | zero => rw [z hf]; exact lt_asymm hb
          | succ j => exact h2 j f (by simpa using hf)
        · cases j with
          | zero => rw [z hf]; exact hb
          | succ j => exact h3 j f (by omega) (by simpa using hf)
      · rename_i hb
        cases h
        have hb' : bytesBefore e'.op.key e.op.key = false := by simpa using hb
        refine ⟨e, by simp, fun j f hf => ?_, fun j f hj _ => absurd hj (by omega)⟩
        cases j with
        | zero => rw [z hf]; exact WideAt.bytes_irrefl _
        | succ j => exact le_trans' hb' (h2 j f (by simpa using hf))
theorem IsLeast.one {ls : List Ly} {i j : Nat} (h : IsLeast ls i) (g : IsLeast ls j) : i = j := by
  obtain ⟨e, a1, a2, a3⟩ := h
  obtain ⟨f, b1, b2, b3⟩ := g
  rcases Nat.lt_trichotomy i j with h | h | h
  · have := b3 i e h a1; rw [a2 j f b1] at this; cases this
  · exact h
  · have := a3 j f h b1; rw [b2 i e a1] at this; cases this
theorem leastI_of {ls : List Ly} {i : Nat} (h : IsLeast ls i) : leastI ls = some i := by
  cases hl : leastI ls with
  | none => obtain ⟨e, h1, -⟩ := h; rw [leastI_none hl i] at h1; cases h1
  | some j => rw [h.one (leastI_is hl)]
def mergeF : Nat → List Ly → Ly
  | 0, _ => []
  | k + 1, ls => match leastI ls with
    | none => []
    | some i => match (ls.getD i []).head? with
      | none => []
      | some e => e :: mergeF k (ls.set i (ls.getD i []).tail)
def mergeL (ls : List Ly) : Ly := mergeF (ls.flatten.length) ls
def atK (k : Nm) (l : Ly) : Ly := l.filter fun e => e.op.key == k
theorem set_flat : ∀ (ls : List Ly) (i : Nat) (e : En) (t : Ly), ls.getD i [] = e :: t → (ls.set i t).flatten.length + 1 = ls.flatten.length
  | [], i, e, t, h => by simp at h
  | l :: r, 0, e, t, h => by
    have : l = e :: t := by simpa using h
    subst this; simp
  | l :: r, i + 1, e, t, h => by
    have := set_flat r i e t (by simpa using h)
    simp only [List.set_cons_succ, List.flatten_cons, List.length_append] at *
    omega
theorem set_atK {k : Nm} : ∀ (ls : List Ly) (i : Nat) (e : En) (t : Ly), ls.getD i [] = e :: t → (e.op.key = k → ∀ j, j < i → atK k (ls.getD j []) = []) →
    atK k ls.flatten = atK k [e] ++ atK k (ls.set i t).flatten
  | [], i, e, t, h, _ => by simp at h
  | l :: r, 0, e, t, h, _ => by
    have : l = e :: t := by simpa using h
    subst this; simp [atK, List.filter_append, List.filter_cons]; split <;> simp
  | l :: r, i + 1, e, t, h, hk => by
    have h1 := set_atK r i e t (by simpa using h) (fun he j hj => by simpa using hk he (j + 1) (by omega))
    have h2 : atK k (l :: r).flatten = atK k l ++ atK k r.flatten := by simp [atK, List.filter_append]
    have h3 : atK k ((l :: r).set (i + 1) t).flatten = atK k l ++ atK k (r.set i t).flatten := by simp [atK, List.filter_append]
    rw [h2, h3, h1]
    by_cases he : e.op.key = k
    · have h0 : atK k l = [] := by simpa using hk he 0 (by omega)
      rw [h0]; simp
    · have : atK k [e] = [] := by simp [atK, he]
      rw [this]; simp
theorem srt_head {l : Ly} {e : En} {t : Ly} (h : srt l) (hl : l = e :: t) : srt t ∧ ∀ x ∈ l, bytesBefore x.op.key e.op.key = false := by
  subst hl
  obtain ⟨h1, h2⟩ := List.pairwise_cons.1 h
  refine ⟨h2, fun x hx => ?_⟩
  rcases List.mem_cons.1 hx with rfl | hx
  · exact WideAt.bytes_irrefl _
  · exact h1 x hx
theorem mem_getD {ls : List Ly} {l : Ly} (h : l ∈ ls) : ∃ i, i < ls.length ∧ ls.getD i [] = l := by
  obtain ⟨i, hi, rfl⟩ := List.mem_iff_getElem.1 h
  exact ⟨i, hi, by rw [List.getD_eq_getElem?_getD, List.getElem?_eq_getElem hi]; rfl⟩
theorem getD_mem {ls : List Ly} {i : Nat} {e : En} {t : Ly} (h : ls.getD i [] = e :: t) : i < ls.length ∧ (e :: t) ∈ ls := by
  rcases Nat.lt_or_ge i ls.length with hi | hi
  · refine ⟨hi, ?_⟩
    rw [List.getD_eq_getElem?_getD, List.getElem?_eq_getElem hi, Option.getD_some] at h
    rw [← h]
    exact List.getElem_mem hi
  · rw [List.getD_eq_getElem?_getD, List.getElem?_eq_none hi] at h; cases h
theorem least_all {ls : List Ly} {i : Nat} {e : En} (hs : ∀ l ∈ ls, srt l) (h : IsLeast ls i) (he : (ls.getD i []).head? = some e) : ∀ x ∈ ls.flatten, bytesBefore x.op.key e.op.key = false := by
  obtain ⟨e', h1, h2, -⟩ := h
  rw [he] at h1
  cases h1
  intro x hx
  obtain ⟨l, hl, hxl⟩ := List.mem_flatten.1 hx
  obtain ⟨j, -, hj⟩ := mem_getD hl
  cases hl' : l with
  | nil => subst hl'; cases hxl
  | cons f t =>
    have := (srt_head (hs l hl) hl').2 x hxl
    exact le_trans' (h2 j f (by rw [hj, hl']; rfl)) this
theorem mergeF_is : ∀ (n : Nat) (ls : List Ly), ls.flatten.length ≤ n → (∀ l ∈ ls, srt l) → srt (mergeF n ls) ∧ (∀ k, atK k (mergeF n ls) = atK k ls.flatten) ∧ (∀ x ∈ mergeF n ls, x ∈ ls.flatten)
  | 0, ls, hn, _ => by
    have : ls.flatten = [] := List.length_eq_zero_iff.1 (by omega)
    rw [this]
    exact ⟨List.Pairwise.nil, fun _ => rfl, fun _ h => h⟩
  | n + 1, ls, hn, hs => by
    cases hl : leastI ls with
    | none =>
      have h0 := leastI_none hl
      have : ls.flatten = [] := by
        rw [List.flatten_eq_nil_iff]
        intro l hl
        obtain ⟨i, -, hi⟩ := mem_getD hl
        rw [← hi, h0 i]
      rw [mergeF, hl, this]
      exact ⟨List.Pairwise.nil, fun _ => rfl, fun _ h => h⟩
    | some i =>
      have hi := leastI_is hl
      obtain ⟨e, h1, h2, h3⟩ := id hi
      obtain ⟨t, ht⟩ : ∃ t, ls.getD i [] = e :: t := by
        cases hg : ls.getD i [] with
        | nil => rw [hg] at h1; cases h1
        | cons a t => rw [hg] at h1; cases h1; exact ⟨t, rfl⟩
      have hall := least_all hs hi h1
      have hst : ∀ l ∈ ls.set i t, srt l := fun l hl => by
        rcases List.mem_or_eq_of_mem_set hl with hl | rfl
        · exact hs l hl
        · exact (srt_head (hs _ (getD_mem ht).2) rfl).1
      have hfl := set_flat ls i e t ht
      obtain ⟨k1, k2, k3⟩ := mergeF_is n (ls.set i t) (by omega) hst
      have e1 : mergeF (n + 1) ls = e :: mergeF n (ls.set i t) := by rw [mergeF, hl]; simp only [ht, List.tail_cons, List.head?_cons]
      have hin : ∀ x ∈ (ls.set i t).flatten, x ∈ ls.flatten := fun x hx => by
        obtain ⟨l, hl, hxl⟩ := List.mem_flatten.1 hx
        rcases List.mem_or_eq_of_mem_set hl with hl | rfl
        · exact List.mem_flatten.2 ⟨l, hl, hxl⟩
        · exact List.mem_flatten.2 ⟨_, (getD_mem ht).2, List.mem_cons_of_mem _ hxl⟩
      rw [e1]
      refine ⟨List.pairwise_cons.2 ⟨fun x hx => hall x (hin x (k3 x hx)), k1⟩, fun k => ?_, fun x hx => ?_⟩
      · have h4 : atK k (e :: mergeF n (ls.set i t)) = atK k [e] ++ atK k (mergeF n (ls.set i t)) := by
          rw [← List.singleton_append]; simp only [atK, List.filter_append]
        rw [h4, k2, set_atK ls i e t ht]
        intro he j hj
        cases hj' : ls.getD j [] with
        | nil => rfl
        | cons f u =>
          have hlt := h3 j f hj (by rw [hj']; rfl)
          have hsj := (srt_head (hs _ (getD_mem hj').2) rfl).2
          refine List.filter_eq_nil_iff.2 fun x hx => ?_
          have h5 := lt_le_trans hlt (hsj x hx)
          simp only [beq_iff_eq]
          intro hxk
          rw [hxk, he, WideAt.bytes_irrefl] at h5
          cases h5
      · rcases List.mem_cons.1 hx with rfl | hx
        · exact List.mem_flatten.2 ⟨_, (getD_mem ht).2, by simp⟩
        · exact hin x (k3 x hx)
theorem mergeL_srt {ls : List Ly} (h : ∀ l ∈ ls, srt l) : srt (mergeL ls) := (mergeF_is _ ls (Nat.le_refl _) h).1
theorem mergeL_at {ls : List Ly} (h : ∀ l ∈ ls, srt l) (k : Nm) : atK k (mergeL ls) = atK k ls.flatten := (mergeF_is _ ls (Nat.le_refl _) h).2.1 k
theorem mergeL_mem {ls : List Ly} (h : ∀ l ∈ ls, srt l) : ∀ x ∈ mergeL ls, x ∈ ls.flatten := (mergeF_is _ ls (Nat.le_refl _) h).2.2
end Go.Proofs.YtoabedkcieindabGreatDoor

namespace Go.Proofs.YtoabedkcieindabGreatDoor
def pickE (b : Int) (l : Ly) : Option En := l.find? fun e => decide (e.batch ≤ b)
def liveE (o : Option En) : Option Nm := match o with | some e => if e.op.gone then none else some e.op.val | none => none
def viewE (b : Int) (l : Ly) (k : Nm) : Option Nm := liveE (pickE b (atK k l))
def behF (b : Int) : Nm → Ly → List (Nm × Nm)
  | _, [] => []
  | last, e :: r => if b < e.batch ∨ e.op.key = last then behF b last r else if e.op.gone then behF b e.op.key r else (e.op.key, e.op.val) :: behF b e.op.key r
theorem atK_cons (k : Nm) (e : En) (l : Ly) : atK k (e :: l) = if e.op.key = k then e :: atK k l else atK k l := by
  simp only [atK, List.filter_cons, beq_iff_eq]
theorem atK_app (k : Nm) (l m : Ly) : atK k (l ++ m) = atK k l ++ atK k m := by simp only [atK, List.filter_append]
theorem pick_cons (b : Int) (e : En) (l : Ly) : pickE b (e :: l) = if e.batch ≤ b then some e else pickE b l := by
  simp only [pickE, List.find?_cons]
  by_cases h : e.batch ≤ b <;> simp [h]
theorem behF_key : ∀ (b : Int) (last : Nm) (l : Ly), srt l → (∀ e ∈ l, bytesBefore e.op.key last = false) → ∀ x ∈ behF b last l, bytesBefore last x.1 = true
  | _, _, [], _, _ => fun _ h => (by cases h)
  | b, last, e :: r, hs, hl => by
    obtain ⟨h1, h2⟩ := List.pairwise_cons.1 hs
    intro x hx
    rw [behF] at hx
    have hr : ∀ f ∈ r, bytesBefore f.op.key last = false := fun f hf => hl f (by simp [hf])
    split at hx
    · exact behF_key b last r h2 hr x hx
    · rename_i hn
      have hne : e.op.key ≠ last := fun h => hn (Or.inr h)
      have he : bytesBefore last e.op.key = true := by
        rcases WideAt.bytes_total _ _ hne with h | h
        · rw [hl e (by simp)] at h; cases h
        · exact h
      have ih := behF_key b e.op.key r h2 h1
      split at hx
      · exact WideShapes.bytes_trans _ _ _ he (ih x hx)
      · rcases List.mem_cons.1 hx with rfl | hx
        · exact he
        · exact WideShapes.bytes_trans _ _ _ he (ih x hx)
theorem behF_rise : ∀ (b : Int) (last : Nm) (l : Ly), srt l → rising (behF b last l)
  | _, _, [], _ => List.Pairwise.nil
  | b, last, e :: r, hs => by
    obtain ⟨h1, h2⟩ := List.pairwise_cons.1 hs
    rw [behF]
    split
    · exact behF_rise b last r h2
    · split
      · exact behF_rise b e.op.key r h2
      · exact List.pairwise_cons.2 ⟨fun x hx => behF_key b e.op.key r h2 h1 x hx, behF_rise b e.op.key r h2⟩
theorem getF_off {α : Type} {k : Nm} : ∀ {l : List (Nm × α)}, (∀ x ∈ l, x.1 ≠ k) → getF k l = none
  | [], _ => rfl
  | x :: r, h => by rw [getF, if_neg (h x (by simp))]; exact getF_off fun y hy => h y (by simp [hy])
theorem behF_get : ∀ (b : Int) (last : Nm) (l : Ly), srt l → (∀ e ∈ l, bytesBefore e.op.key last = false) → ∀ k, k ≠ last → getF k (behF b last l) = viewE b l k
  | _, _, [], _, _ => fun _ _ => rfl
  | b, last, e :: r, hs, hl => by
    obtain ⟨h1, h2⟩ := List.pairwise_cons.1 hs
    intro k hk
    have hr : ∀ f ∈ r, bytesBefore f.op.key last = false := fun f hf => hl f (by simp [hf])
    have hsame : ∀ x ∈ behF b e.op.key r, x.1 ≠ e.op.key := fun x hx h => by
      have := behF_key b e.op.key r h2 h1 x hx
      rw [h, WideAt.bytes_irrefl] at this
      cases this
    rw [behF]
    unfold viewE
    rw [atK_cons]
    by_cases hc : b < e.batch ∨ e.op.key = last
    · rw [if_pos hc, behF_get b last r h2 hr k hk]
      unfold viewE
      by_cases hek : e.op.key = k
      · rw [if_pos hek, pick_cons, if_neg]
        rcases hc with h | h
        · omega
        · exact absurd (hek.symm.trans h) hk
      · rw [if_neg hek]
    · rw [if_neg hc]
      have hb : e.batch ≤ b := by
        rcases Int.lt_or_le b e.batch with h | h
        · exact absurd (Or.inl h) hc
        · exact h
      by_cases hek : e.op.key = k
      · subst hek
        rw [if_pos rfl, pick_cons, if_pos hb]
        cases hg : e.op.gone with
        | true => rw [if_pos rfl, getF_off hsame]; simp [liveE, hg]
        | false => rw [if_neg (by simp), getF, if_pos rfl]; simp [liveE, hg]
      · rw [if_neg hek]
        have ih := behF_get b e.op.key r h2 h1 k (fun h => hek h.symm)
        unfold viewE at ih
        rw [← ih]
        split
        · rfl
        · rw [getF, if_neg hek]
abbrev Mm := List (Nm × Ly)
def MmOk (m : Mm) : Prop := rising m ∧ ∀ x ∈ m, x.1 ≠ [] ∧ x.2 ≠ [] ∧ ∀ e ∈ x.2, e.op.key = x.1
def flatM (m : Mm) : Ly := m.flatMap (·.2)
def versM (last : Int) : Ly → Ly
  | [] => []
  | v :: r => if last < v.batch then r else v :: r
def doM1 (n last : Int) (m : Mm) (o : Ox) : Mm := ins (o.key, ⟨bare o, n⟩ :: versM last ((getF o.key m).getD [])) (del o.key m)
def doM (n last : Int) (m : Mm) (l : List Ox) : Mm := l.foldl (doM1 n last) m
theorem atK_flat : ∀ {m : Mm}, MmOk m → ∀ k, atK k (flatM m) = (getF k m).getD []
  | [], _ => fun _ => rfl
  | x :: r, h => by
    intro k
    obtain ⟨h1, h2⟩ := List.pairwise_cons.1 h.1
    obtain ⟨-, -, h3⟩ := h.2 x (by simp)
    have hr : MmOk r := ⟨h2, fun y hy => h.2 y (by simp [hy])⟩
    have e : flatM (x :: r) = x.2 ++ flatM r := by simp [flatM]
    rw [e, atK_app, atK_flat hr k, getF]
    by_cases hk : x.1 = k
    · rw [if_pos hk]
      have h4 : atK k x.2 = x.2 := by
        refine List.filter_eq_self.2 fun e he => ?_
        rw [h3 e he, hk]; simp
      have h5 : getF k r = none := getF_off fun y hy hyk => by
        have := h1 y hy
        rw [hyk, hk, WideAt.bytes_irrefl] at this
        cases this
      rw [h4, h5]; simp
    · rw [if_neg hk]
      have h4 : atK k x.2 = [] := by
        refine List.filter_eq_nil_iff.2 fun e he => ?_
        rw [h3 e he]; simpa using hk
      rw [h4]; simp
theorem srt_flat : ∀ {m : Mm}, MmOk m → srt (flatM m)
  | [], _ => List.Pairwise.nil
  | x :: r, h => by
    obtain ⟨h1, h2⟩ := List.pairwise_cons.1 h.1
    obtain ⟨-, -, h3⟩ := h.2 x (by simp)
    have e : flatM (x :: r) = x.2 ++ flatM r := by simp [flatM]
    rw [e]
    refine List.pairwise_append.2 ⟨?_, srt_flat ⟨h2, fun y hy => h.2 y (by simp [hy])⟩, fun a ha b hb => ?_⟩
    · refine List.pairwise_of_forall_mem_list fun a ha b hb => ?_
      rw [h3 a ha, h3 b hb]; exact WideAt.bytes_irrefl _
    · obtain ⟨y, hy, hby⟩ := List.mem_flatMap.1 hb
      obtain ⟨-, -, h4⟩ := h.2 y (by simp [hy])
      rw [h3 a ha, h4 b hby]
      exact lt_asymm (h1 y hy)
theorem getF_insOff {α : Type} {n m : Nm} (h : m ≠ n) (x : α) : ∀ fs : List (Nm × α), getF m (ins (n, x) fs) = getF m fs
  | [] => by
    have : ¬ n = m := fun e => h e.symm
    simp [ins, getF, this]
  | y :: r => by
    have hn : ¬ n = m := fun e => h e.symm
    simp only [ins]
    split
    · simp [getF, hn]
    · simp only [getF]; rw [getF_insOff h x r]
theorem vers_mem {last : Int} : ∀ {l : Ly} {e : En}, e ∈ versM last l → e ∈ l
  | [], _, h => h
  | v :: r, _, h => by
    rw [versM] at h
    split at h
    · exact List.mem_cons_of_mem _ h
    · exact h
theorem getF_doM1 {n last : Int} {m : Mm} (h : rising m) (o : Ox) (k : Nm) : getF k (doM1 n last m o) = if k = o.key then some (⟨bare o, n⟩ :: versM last ((getF o.key m).getD [])) else getF k m := by
  unfold doM1
  split
  · rename_i hk
    subst hk
    exact getF_ins (rising_del h) (getF_del _ _)
  · rename_i hk
    rw [getF_insOff hk, getF_del_ne hk]
theorem doM1_ok {n last : Int} {m : Mm} (h : MmOk m) {o : Ox} (ho : o.key ≠ []) : MmOk (doM1 n last m o) := by
  refine ⟨rising_ins (rising_del h.1) (getF_del _ _), fun x hx => ?_⟩
  rcases mem_ins.1 hx with rfl | hx
  · refine ⟨ho, by simp, fun e he => ?_⟩
    rcases List.mem_cons.1 he with rfl | he
    · exact bare_key o
    · have he := vers_mem he
      cases hg : getF o.key m with
      | none => rw [hg] at he; cases he
      | some vs =>
        rw [hg] at he
        exact (h.2 _ (getF_mem hg)).2.2 e he
  · exact h.2 x (List.mem_filter.1 hx).1
theorem bare_gone (o : Ox) : (bare o).gone = o.gone := by unfold bare; split <;> rfl
theorem bare_val {o : Ox} (h : o.gone = false) : (bare o).val = o.val := by unfold bare; rw [h]; simp
theorem view_do1 {n last : Int} {m : Mm} (h : MmOk m) {o : Ox} (ho : o.key ≠ []) (t : Ly) (k : Nm) :
    viewE n (flatM (doM1 n last m o) ++ t) k = (if k = o.key then (if o.gone then none else some o.val) else viewE n (flatM m ++ t) k) ∧
    (last < n → ∀ c, c ≤ last → viewE c (flatM (doM1 n last m o) ++ t) k = viewE c (flatM m ++ t) k) := by
  have h1 := doM1_ok (n := n) (last := last) h ho
  unfold viewE
  rw [atK_app, atK_app, atK_flat h1, atK_flat h, getF_doM1 h.1]
  by_cases hk : k = o.key
  · subst hk
    refine ⟨?_, fun hl c hc => ?_⟩
    · rw [if_pos rfl, if_pos rfl, Option.getD_some, List.cons_append, pick_cons, if_pos (Int.le_refl _)]
      cases hg : o.gone with
      | true => simp [liveE, bare_gone, hg]
      | false => simp [liveE, bare_gone, hg, bare_val hg]
    · rw [if_pos rfl, Option.getD_some, List.cons_append, pick_cons, if_neg (by simp only; omega)]
      cases hv : (getF o.key m).getD [] with
      | nil => rfl
      | cons v r =>
        rw [versM]
        split
        · rename_i hlv
          rw [List.cons_append, pick_cons, if_neg (by omega)]
        · rfl
  · refine ⟨?_, fun hl c hc => ?_⟩
    · rw [if_neg hk, if_neg hk]
    · rw [if_neg hk]
end Go.Proofs.YtoabedkcieindabGreatDoor
