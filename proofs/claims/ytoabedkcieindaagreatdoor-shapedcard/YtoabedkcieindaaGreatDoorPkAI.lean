import Derived.Test.YtoabedkcieindaaGreatDoorPkAH
import Derived.Test.YtoabedkcieindaaGreatDoorPkAG
namespace Go.Proofs.YtoabedkcieindaaGreatDoor

def be8 (n : Nat) : List UInt8 := be4 (n / 4294967296) ++ be4 n
def num8 (l : List UInt8) : Nat := be4N l * 4294967296 + be4N (l.drop 4)

theorem be8_len (n : Nat) : (be8 n).length = 8 := rfl
theorem be4_mod (n : Nat) (r : List UInt8) : be4N (be4 n ++ r) = n % 4294967296 := by
  simp only [be4N, be4, List.cons_append, byteAt_succ, byteAt_zero, byte_mod]
  omega
theorem num8_be8 {n : Nat} (h : n < 18446744073709551616) (r : List UInt8) : num8 (be8 n ++ r) = n := by
  unfold num8 be8
  rw [List.append_assoc, be4_mod, List.drop_left' (be4_len _), be4_mod]
  omega

def sealT (b : List UInt8) : List UInt8 := be4 (fnv b) ++ b
def unsealT (t : List UInt8) : Option (List UInt8) := if t.length < 4 then none else if fnv (t.drop 4) = be4N t then some (t.drop 4) else none

theorem unseal_seal (b : List UInt8) : unsealT (sealT b) = some b := by
  unfold unsealT sealT
  have h1 : (be4 (fnv b) ++ b).drop 4 = b := List.drop_left' (be4_len _)
  rw [if_neg (by simp [be4_len]), h1, be4_back (fnv_lt b), if_pos rfl]

structure Pl where
  number : Nat
  level : Nat

structure Man where
  next : Nat
  log : Nat
  tabs : List Pl

def encPl (p : Pl) : List UInt8 := be8 p.number ++ be8 p.level
def encMan (m : Man) : List UInt8 := sealT (be8 m.next ++ (be8 m.log ++ m.tabs.flatMap encPl))

def decPls : Nat → List UInt8 → List Pl
  | 0, _ => []
  | k + 1, l => ⟨num8 l, num8 (l.drop 8)⟩ :: decPls k (l.drop 16)

def plsOk (next : Nat) : Nat → List Pl → Bool
  | _, [] => true
  | lv, p :: r => decide (1 ≤ p.number) && decide (p.number < next) && decide (p.level ≤ lv) && plsOk next p.level r
abbrev manOk (m : Man) : Prop := 1 ≤ m.next ∧ m.next < 4611686018427387904 ∧ m.log < 4611686018427387904 ∧ plsOk m.next 4611686018427387904 m.tabs = true ∧ (m.tabs.map (·.number)).Nodup

def decMan (t : List UInt8) : Option Man :=
  match unsealT t with
  | none => none
  | some b =>
    if b.length < 16 ∨ (b.length - 16) % 16 ≠ 0 then none else
    let m : Man := ⟨num8 b, num8 (b.drop 8), decPls ((b.length - 16) / 16) (b.drop 16)⟩
    if manOk m then some m else none

theorem encPl_len (p : Pl) : (encPl p).length = 16 := rfl
theorem encPls_len : ∀ l : List Pl, (l.flatMap encPl).length = 16 * l.length
  | [] => rfl
  | p :: r => by rw [List.flatMap_cons, List.length_append, encPl_len, encPls_len r, List.length_cons]; omega

theorem plsOk_at : ∀ {next lv : Nat} {l : List Pl}, plsOk next lv l = true → ∀ p ∈ l, 1 ≤ p.number ∧ p.number < next ∧ p.level ≤ lv
  | _, _, [], _ => fun _ h => (by cases h)
  | next, lv, p :: r, h => by
    simp only [plsOk, Bool.and_eq_true, decide_eq_true_eq] at h
    intro q hq
    rcases List.mem_cons.1 hq with rfl | hq
    · exact ⟨h.1.1.1, h.1.1.2, h.1.2⟩
    · obtain ⟨a, b, c⟩ := plsOk_at h.2 q hq
      exact ⟨a, b, Nat.le_trans c h.1.2⟩

theorem decPls_enc : ∀ (l : List Pl) (r : List UInt8), (∀ p ∈ l, p.number < 18446744073709551616 ∧ p.level < 18446744073709551616) → decPls l.length (l.flatMap encPl ++ r) = l
  | [], _, _ => rfl
  | p :: s, r, h => by
    obtain ⟨h1, h2⟩ := h p (by simp)
    have e : (p :: s).flatMap encPl ++ r = be8 p.number ++ (be8 p.level ++ (s.flatMap encPl ++ r)) := by simp [encPl]
    rw [e, List.length_cons, decPls, num8_be8 h1, List.drop_left' (be8_len _), num8_be8 h2]
    have e2 : (be8 p.number ++ (be8 p.level ++ (s.flatMap encPl ++ r))).drop 16 = s.flatMap encPl ++ r := by
      rw [← List.append_assoc]
      exact List.drop_left' (by simp [be8_len])
    rw [e2, decPls_enc s r (fun q hq => h q (by simp [hq]))]

theorem decMan_enc {m : Man} (h : manOk m) : decMan (encMan m) = some m := by
  obtain ⟨h1, h2, h3, h4, h5⟩ := id h
  have hb := plsOk_at h4
  unfold decMan encMan
  rw [unseal_seal]
  simp only
  have hl : (be8 m.next ++ (be8 m.log ++ m.tabs.flatMap encPl)).length = 16 + 16 * m.tabs.length := by
    rw [List.length_append, List.length_append, be8_len, be8_len, encPls_len]; omega
  rw [hl, if_neg (by omega), num8_be8 (by omega), List.drop_left' (be8_len _), num8_be8 (by omega)]
  have e2 : (be8 m.next ++ (be8 m.log ++ m.tabs.flatMap encPl)).drop 16 = m.tabs.flatMap encPl ++ [] := by
    rw [← List.append_assoc, List.append_nil]
    exact List.drop_left' (by simp [be8_len])
  rw [e2, show (16 + 16 * m.tabs.length - 16) / 16 = m.tabs.length by omega, decPls_enc _ _ (fun p hp => by obtain ⟨a, b, c⟩ := hb p hp; omega), if_pos h]

theorem decMan_ok {t : List UInt8} {m : Man} (h : decMan t = some m) : manOk m ∧ 16 * m.tabs.length + 20 = t.length := by
  unfold decMan at h
  split at h
  · cases h
  · rename_i b hb
    split at h
    · cases h
    · rename_i h1
      simp only at h
      split at h
      · rename_i h2
        cases h
        refine ⟨h2, ?_⟩
        have hbl : b.length + 4 = t.length := by
          unfold unsealT at hb
          split at hb
          · cases hb
          · split at hb
            · cases hb; simp; omega
            · cases hb
        have hp : ∀ (k : Nat) (l : List UInt8), (decPls k l).length = k := by
          intro k
          induction k with
          | zero => intro l; rfl
          | succ k ih => intro l; simp [decPls, ih]
        simp only [hp]
        omega
      · cases h

def encLay (l : List Ox) : List UInt8 := sealT (encBody l)
def decLayB : Nat → Nm → List UInt8 → Option (List Ox)
  | _, _, [] => some []
  | 0, _, _ :: _ => none
  | k + 1, last, c :: r => match decOp (c :: r) with
    | none => none
    | some (o, n) => if bytesBefore o.key last then none else (decLayB k o.key ((c :: r).drop n)).map (o :: ·)
def decLay (t : List UInt8) : Option (List Ox) :=
  match unsealT t with
  | none => none
  | some b => if b = [] then none else decLayB b.length [] b

def layOk : Nm → List Ox → Prop
  | _, [] => True
  | last, o :: r => opOk o = true ∧ bytesBefore o.key last = false ∧ layOk o.key r

theorem bare_key (o : Ox) : (bare o).key = o.key := by unfold bare; split <;> rfl

theorem decLayB_enc : ∀ (k : Nat) (last : Nm) (l : List Ox), (encBody l).length ≤ k → layOk last l → decLayB k last (encBody l) = some (l.map bare)
  | _, _, [], _, _ => by simp [encBody, decLayB]
  | 0, _, o :: r, h, ho => by
    obtain ⟨c, t, hc⟩ := encOp_pos o
    simp [encBody, hc] at h
  | k + 1, last, o :: r, h, ho => by
    obtain ⟨h1, h2, h3⟩ := ho
    have e : encBody (o :: r) = encOp o ++ encBody r := by simp [encBody]
    obtain ⟨c, t, hc⟩ := encOp_pos o
    have hd := decOp_enc h1 (encBody r)
    have hl : (encBody r).length ≤ k := by
      rw [e, List.length_append, hc, List.length_cons] at h; omega
    rw [e, hc, List.cons_append, decLayB]
    rw [hc, List.cons_append] at hd
    rw [hd]
    have hdr : List.drop (encOp o).length (c :: (t ++ encBody r)) = encBody r := by
      rw [← List.cons_append, ← hc]; simp
    simp only [hc, List.length_cons] at hdr ⊢
    rw [hdr, bare_key, if_neg (by rw [h2]; simp), decLayB_enc k o.key r hl h3]
    rfl

theorem decLay_enc {l : List Ox} (h : layOk [] l) (hne : l ≠ []) : decLay (encLay l) = some (l.map bare) := by
  unfold decLay encLay
  rw [unseal_seal]
  simp only
  have hb : encBody l ≠ [] := by
    cases l with
    | nil => exact absurd rfl hne
    | cons o r => obtain ⟨c, t, hc⟩ := encOp_pos o; simp [encBody, hc]
  rw [if_neg hb, decLayB_enc _ _ _ (Nat.le_refl _) h]

theorem decLayB_ok : ∀ (k : Nat) (last : Nm) (b : List UInt8) (l : List Ox), decLayB k last b = some l → layOk last l ∧ 2 * l.length ≤ b.length ∧ (b ≠ [] → l ≠ [])
  | k, _, [], l, h => by
    have : l = [] := by unfold decLayB at h; simpa using h.symm
    subst this
    exact ⟨trivial, by simp, fun h => absurd rfl h⟩
  | 0, _, c :: r, l, h => by simp [decLayB] at h
  | k + 1, last, c :: r, l, h => by
    rw [decLayB] at h
    cases hd : decOp (c :: r) with
    | none => rw [hd] at h; cases h
    | some x =>
      obtain ⟨o, n⟩ := x
      rw [hd] at h
      simp only at h
      obtain ⟨h1, h2, h3⟩ := decOp_ok hd
      split at h
      · cases h
      · rename_i hb
        cases hr : decLayB k o.key ((c :: r).drop n) with
        | none => rw [hr] at h; cases h
        | some rest =>
          rw [hr] at h
          simp only [Option.map_some, Option.some.injEq] at h
          subst h
          obtain ⟨k1, k2, k3⟩ := decLayB_ok k o.key _ rest hr
          refine ⟨⟨h1, by simpa using hb, k1⟩, ?_, fun _ => by simp⟩
          rw [List.length_drop] at k2
          simp only [List.length_cons] at *
          omega

end Go.Proofs.YtoabedkcieindaaGreatDoor

namespace Go.Proofs.YtoabedkcieindaaGreatDoor
open Go.RowKit Go.Maps Go.Sort

theorem be4_bits (a b c d : UInt8) (r : List UInt8) :
    bits .or .u32 (bits .or .u32 (bits .or .u32 ((a.toNat : Int) % 4294967296 * 16777216 % 4294967296) ((b.toNat : Int) % 4294967296 * 65536 % 4294967296)) ((c.toNat : Int) % 4294967296 * 256 % 4294967296)) ((d.toNat : Int) % 4294967296) = (be4N (a :: b :: c :: d :: r) : Int) := by
  have ha : a.toNat < 256 := a.toNat_lt
  have hb : b.toNat < 256 := b.toNat_lt
  have hc : c.toNat < 256 := c.toNat_lt
  have hd : d.toNat < 256 := d.toNat_lt
  have e1 : (a.toNat : Int) % 4294967296 * 16777216 % 4294967296 = a.toNat * 16777216 := by omega
  have e2 : (b.toNat : Int) % 4294967296 * 65536 % 4294967296 = b.toNat * 65536 := by omega
  have e3 : (c.toNat : Int) % 4294967296 * 256 % 4294967296 = c.toNat * 256 := by omega
  have e4 : (d.toNat : Int) % 4294967296 = d.toNat := by omega
  rw [e1, e2, e3, e4, u32_or24 ((a.toNat : Int) * 16777216) (b.toNat * 65536) (by omega) (by omega) (by omega) (by omega) (by omega), u32_or16 ((a.toNat : Int) * 16777216 + b.toNat * 65536) (c.toNat * 256) (by omega) (by omega) (by omega) (by omega) (by omega), u32_or8 ((a.toNat : Int) * 16777216 + b.toNat * 65536 + c.toNat * 256) d.toNat (by omega) (by omega) (by omega) (by omega) (by omega)]
  have e : be4N (a :: b :: c :: d :: r) = a.toNat * 16777216 + b.toNat * 65536 + c.toNat * 256 + d.toNat := rfl
  rw [e]
  omega

def unsV (l : List UInt8) : Nm × Bool := (if l.length < 4 then [] else l.drop 4, (unsealT l).isSome)

set_option maxHeartbeats 1000000 in
theorem unseal_short (l : List UInt8) (w : World) (hl : l.length < 4) :
    Calls Tryz.prog 259 #[str l] w fun e w' => e = .returned (.tuple #[str [], .bool false]) ∧ w' = w := by
  have hz : (⟨l.toArray⟩ : ByteArray).size = l.length := rfl
  go_enter Tryz.func259, Tryz.ntmps259
  go_wp2
  go_ret2
  exact ⟨rfl, rfl⟩

set_option maxHeartbeats 1000000 in
set_option maxRecDepth 20000 in
theorem unseal_long (a b c d : UInt8) (r : List UInt8) (w : World) (hl : r.length ≤ 1048576) :
    Calls Tryz.prog 259 #[str (a :: b :: c :: d :: r)] w fun e w' => e = .returned (.tuple #[str r, .bool (decide ((fnv r : Int) = (be4N (a :: b :: c :: d :: r) : Int)))]) ∧ Below w.heap.size w w' := by
  have hz : (⟨(a :: b :: c :: d :: r).toArray⟩ : ByteArray).size = r.length + 4 := rfl
  have ha0 : (⟨(a :: b :: c :: d :: r).toArray⟩ : ByteArray)[0]'(by rw [hz]; omega) = a := rfl
  have hb0 : (⟨(a :: b :: c :: d :: r).toArray⟩ : ByteArray)[1]'(by rw [hz]; omega) = b := rfl
  have hc0 : (⟨(a :: b :: c :: d :: r).toArray⟩ : ByteArray)[2]'(by rw [hz]; omega) = c := rfl
  have hd0 : (⟨(a :: b :: c :: d :: r).toArray⟩ : ByteArray)[3]'(by rw [hz]; omega) = d := rfl
  have HB := be4_bits a b c d r
  have hex : (⟨(a :: b :: c :: d :: r).toArray⟩ : ByteArray).extract 4 (r.length + 4) = ⟨r.toArray⟩ := by rw [ext_bytes]; congr 2; simp
  have hS := fun w => sum_any r w (by omega)
  generalize hN : be4N (a :: b :: c :: d :: r) = N at *
  go_enter Tryz.func259, Tryz.ntmps259
  go_wp2
  go_region
  go_wp2_with (go_at_call 223; refine (hS _).mono ?_; rintro e w' ⟨rfl, rfl⟩)
  go_ret2
  exact ⟨rfl, (Below.refl _ _).drew⟩

end Go.Proofs.YtoabedkcieindaaGreatDoor

namespace Go.Proofs.YtoabedkcieindaaGreatDoor
open Go.RowKit Go.Maps Go.Sort

theorem wraps_u64 (n : Int) (h₀ : 0 ≤ n) (h₁ : n < 2 ^ 64) : IntKind.u64.wrap n = n := by rw [IntKind.wrap_u64]; omega
theorem u64_or8 (x y : Int) (hx₀ : 0 ≤ x) (hx : x % 256 = 0) (hx₁ : x < 18446744073709551616) (h₀ : 0 ≤ y) (h₁ : y < 256) : bits .or .u64 x y = x + y :=
  bits_join .u64 64 (by decide) wraps_u64 8 x y hx₀ hx hx₁ h₀ h₁ (by omega)

def numK (l : List UInt8) : Nat → Nat
  | 0 => 0
  | k + 1 => numK l k * 256 + byteAt l k
theorem numK_lt (l : List UInt8) : ∀ k, numK l k < 256 ^ k
  | 0 => by simp [numK]
  | k + 1 => by
    have h1 := numK_lt l k
    have h2 := byteAt_lt l k
    rw [numK, Nat.pow_succ]
    omega
theorem byteAt_drop (l : List UInt8) (i j : Nat) : byteAt (l.drop i) j = byteAt l (i + j) := by
  unfold byteAt
  rw [List.getD_eq_getElem?_getD, List.getD_eq_getElem?_getD, List.getElem?_drop]
theorem numK_8 (l : List UInt8) : numK l 8 = num8 l := by
  simp only [numK, num8, be4N, byteAt_drop, Nat.reduceAdd, Nat.add_zero]
  omega

set_option maxHeartbeats 1000000 in
theorem takeNumber_any (l : List UInt8) (w : World) (hl : 8 ≤ l.length) (hl2 : l.length ≤ 1048576) :
    Calls Tryz.prog 260 #[str l] w fun e w' => e = .returned (.int .i64 (wrap64 (num8 l))) ∧ w' = w := by
  have hz : (⟨l.toArray⟩ : ByteArray).size = l.length := rfl
  go_enter Tryz.func260, Tryz.ntmps260
  go_wp2
  go_loop [3, 5] (fun n i => ∃ k : Nat, k ≤ 8 ∧ i = .int .i64 k ∧ n = .int .u64 (numK l k)) (fun _ i => 8 - (intOf i).toNat)
  case atStart => exact ⟨0, by omega, rfl, rfl⟩
  case round =>
    obtain ⟨k, hk, rfl, rfl⟩ := hrel
    by_cases hlt : k < 8
    · have hN : numK l k < 72057594037927936 := by
        have h1 := numK_lt l k
        have h2 : 256 ^ k ≤ 256 ^ 7 := Nat.pow_le_pow_right (by omega) (by omega)
        have h3 : (256 : Nat) ^ 7 = 72057594037927936 := by decide
        omega
      have hb : byteAt l k = l[k].toNat := by unfold byteAt; rw [List.getD_eq_getElem?_getD, List.getElem?_eq_getElem (by omega)]; rfl
      have hc : l[k].toNat < 256 := l[k].toNat_lt
      have hnext : Hid (numK l (k + 1) = numK l k * 256 + l[k].toNat) := by show _ = _; rw [numK, hb]
      generalize numK l k = N at *
      go_wp2
      go_round
      case rel =>
        refine ⟨k + 1, by omega, by go_num, ?_⟩
        rw [hnext.out]
        have e : bits .or .u64 ((N : Int) * 256) (IntKind.u64.wrap (l[k].toNat : Int)) = ((N * 256 + l[k].toNat : Nat) : Int) := by
          rw [wraps_u64 _ (by omega) (by omega), u64_or8 ((N : Int) * 256) l[k].toNat (by omega) (by omega) (by omega) (by omega) (by omega)]
          omega
        exact congrArg (Value.int .u64) e
      case measure => simp [intOf]; omega
    · have E : Hid (numK l k = num8 l) := by
        show _ = _
        rw [show k = 8 by omega]; exact numK_8 l
      go_wp2
      go_ret
      rw [← E.out]
      refine ⟨?_, rfl⟩
      rfl

end Go.Proofs.YtoabedkcieindaaGreatDoor

namespace Go.Proofs.YtoabedkcieindaaGreatDoor
open Go.RowKit Go.Maps Go.Sort

set_option maxHeartbeats 2000000 in
set_option maxRecDepth 20000 in
theorem seal_any (g cap n0 : Nat) (l : List UInt8) (w : World) (hn0 : n0 ≤ w.heap.size) (hown : OwnB w n0 (.slice (some ⟨g, 0, none⟩) l.length cap) l) (hl : l.length ≤ 4000000) :
    Calls Tryz.prog 167 #[.slice (some ⟨g, 0, none⟩) l.length cap] w fun e w' => e = .returned (str (sealT l)) ∧ Below w.heap.size w w' := by
  obtain ⟨i0, hi, hz0, hz1, hz2⟩ := info_parts Tryz.info5
  have hgl := (hown.lt g rfl).2
  have HO : Hid (OwnB w n0 (.slice (some ⟨g, 0, none⟩) l.length cap) l) := hown
  have HF := fnv_lt l
  have HE : Hid (sealT l = be4 (fnv l) ++ l) := rfl
  have HSU := fun w => sum_any l w (by omega)
  have hcv := conv_bytes hown
  clear hown
  generalize hL : l.length = L at *
  generalize hN : fnv l = N at *
  have H4 : Hid ([(N : Int) / 16777216, (N : Int) / 65536 % 256, (N : Int) / 256 % 256, (N : Int) % 256] = (be4 N).map fun c => (c.toNat : Int)) := by
    show _ = _
    simp only [be4, List.map_cons, List.map_nil, byte_mod]
    congr 1
    · omega
  go_enter Tryz.func167, Tryz.ntmps167
  go_wp2_with (first
    | (go_at_call 223; refine (HSU _).mono ?_; rintro e w0 ⟨rfl, rfl⟩; clear hcv)
    | (at_make; refine wpList_make_own _ rfl _ _ 91 rfl w0.heap.size 5 i0 (.int .u8 0) 1 Tryz.underlying91 hi hz0 hz1 _ _ _ (4 + L) rfl rfl rfl (by rw [hz2]; omega) (by unfold maxLen; omega) (Nat.le_refl _) ?_; intro w1 hrow1 hg1; have hr1 : OwnB w1 w0.heap.size (.slice (some ⟨w0.heap.size, 0, none⟩) 0 (4 + L)) [] := hrow1; have hs1 := hg1.size; have ho1 : OwnB w1 n0 (.slice (some ⟨g, 0, none⟩) L cap) l := HO.out.kept ((Kp.refl (fun _ => False) _).grown hg1 (fun _ e => by cases e)) (fun _ _ f => f))
    | (at_builtin; refine wpList_appB _ rfl (.tmp 12) (.tmp 24) rfl w0.heap.size (.slice (some ⟨w0.heap.size, 0, none⟩) 0 (4 + L)) [] (be4 N) w1.heap.size 4 rfl rfl (by simp; omega) (hr1.alloc _) (newB _ _ (by simp) _ _ H4.out _ rfl _) (by simp [be4]) ?_; intro v3 w3 hown3 kp3; have hbl3 := below_own (by simp; omega) (hr1.alloc _) kp3; have ho3 := (ho1.alloc _).from hbl3 (fun k hk => by cases hk; omega); obtain ⟨a3, m3, cap3, rfl⟩ := ownB_some hown3; have hs3 := kp3.size; simp only [World.size_alloc] at hs3)
    | (at_builtin; refine wpList_appB w3 rfl (.tmp 26) (.tmp 27) rfl w0.heap.size _ _ l g cap rfl (by rw [hL]; rfl) (by omega) hown3 (ownB_cells ho3) (by simp [be4, hL]; omega) ?_; intro v4 w4 hown4 kp4; have hbl4 := below_own (by omega) hown3 kp4; have hcv4 := conv_bytes hown4; obtain ⟨a4, m4, cap4, rfl⟩ := ownB_some hown4; have hs4 := kp4.size)
    | go_in)
  go_ret
  refine ⟨?_, ((((Below.refl _ _).grown hg1 (Nat.le_refl _) (fun _ e => by cases e)).alloc (by omega) _).trans hbl3).trans hbl4⟩
  rw [HE.out]
  simp

end Go.Proofs.YtoabedkcieindaaGreatDoor

namespace Go.Proofs.YtoabedkcieindaaGreatDoor
open Go.RowKit Go.Maps Go.Sort

theorem Tryz.info77 : (Tryz.prog.info? 77).map (fun i => (i.zero, i.size, i.bytes)) = some (some (.agg #[.string ByteArray.empty, .string ByteArray.empty, .bool false]), 3, 40) := by kernel_rfl

def flatO (l : List Ox) : List Value := l.flatMap fun o => [str o.key, str o.val, .bool o.gone]

def OwnO (w : World) (base : Nat) (v : Value) (l : List Ox) : Prop := w.ownsRow base 77 3 v l.length (flatO l)

theorem flatO_snoc (l : List Ox) (o : Ox) : flatO (l ++ [o]) = flatO l ++ [str o.key, str o.val, .bool o.gone] := by simp [flatO]

theorem flatO_len (l : List Ox) : (flatO l).length = l.length * 3 := by
  induction l with
  | nil => rfl
  | cons x r ih => show (str x.key :: str x.val :: .bool x.gone :: flatO r).length = _; simp [ih]; omega

theorem flatO_at : ∀ (l : List Ox) (i : Nat) (h : i < l.length), (flatO l)[i * 3]? = some (str l[i].key) ∧ (flatO l)[i * 3 + 1]? = some (str l[i].val) ∧ (flatO l)[i * 3 + 2]? = some (.bool l[i].gone)
  | x :: r, 0, _ => ⟨rfl, rfl, rfl⟩
  | x :: r, i + 1, h => by
    have ih := flatO_at r i (by simpa using h)
    show (str x.key :: str x.val :: .bool x.gone :: flatO r)[(i + 1) * 3]? = _ ∧ (str x.key :: str x.val :: .bool x.gone :: flatO r)[(i + 1) * 3 + 1]? = _ ∧ (str x.key :: str x.val :: .bool x.gone :: flatO r)[(i + 1) * 3 + 2]? = _
    rw [show (i + 1) * 3 = i * 3 + 1 + 1 + 1 by omega]
    simpa using ih

theorem OwnO.opp {w : World} {base : Nat} {v : Value} {l : List Ox} (h : OwnO w base v l) : ∃ q cap, v = .slice q l.length cap ∧ Opp w q l ∧ ∀ a, q = some a → base ≤ a.block ∧ a.block < w.heap.size := by
  rcases h.2 with ⟨hv, hn⟩ | ⟨g, cap, cur, hv, hb, hgg, _⟩
  · exact ⟨none, 0, by rw [hv, hn], fun i hi => by omega, fun a ha => by cases ha⟩
  · refine ⟨_, cap, hv, fun i hi => ?_, fun a ha => by cases ha; exact ⟨hb, lt_of_block hgg⟩⟩
    have hc := World.ownsRow.cells h (g := g) (by rw [hv]; rfl)
    obtain ⟨k0, k1, k2⟩ := flatO_at l i hi
    refine ⟨g, 0, rfl, ?_, ?_, ?_⟩
    · have := hc _ _ k0; rwa [Addr.add_lit] at this
    · have := hc _ _ k1; rwa [Addr.add_lit, ← Nat.add_assoc] at this
    · have := hc _ _ k2; rwa [Addr.add_lit, ← Nat.add_assoc] at this

def DecO (w : World) (base : Nat) (v : Value) : Option (List Ox) → Prop
  | none => v = .slice none 0 0
  | some ops => OwnO w base v ops

def strLen : Value → Nat
  | .string s => s.size
  | _ => 0

theorem decOps_step {k : Nat} {c : UInt8} {r : List UInt8} {o : Ox} {n : Nat} (h : decOp (c :: r) = some (o, n)) : decOps (k + 1) (c :: r) = (decOps k ((c :: r).drop n)).map (o :: ·) := by
  rw [decOps, h]

theorem decOps_no {k : Nat} {c : UInt8} {r : List UInt8} (h : decOp (c :: r) = none) : decOps k (c :: r) = none := by
  cases k with
  | zero => rfl
  | succ k => rw [decOps, h]

set_option maxHeartbeats 2000000 in
set_option maxRecDepth 20000 in
theorem decodeOps_any (b : List UInt8) (w : World) (hl : b.length ≤ 1048576) :
    Calls Tryz.prog 280 #[str b] w fun e w' => ∃ v, e = .returned v ∧ Below w.heap.size w w' ∧ DecO w' w.heap.size v (decOps 8 b) := by
  obtain ⟨i0, hi0, hz0, hz1, hz2⟩ := info_parts Tryz.info77
  go_enter Tryz.func280, Tryz.ntmps280
  go_wp2
  go_loopw [0, 3] (fun x v wr => ∃ (b' : List UInt8) (ops : List Ox), x = str b' ∧ b'.length ≤ b.length ∧ ops.length ≤ 8 ∧ OwnO wr w.heap.size v ops ∧ Below w.heap.size w wr ∧ (decOps (8 - ops.length) b').map (ops ++ ·) = decOps 8 b) (fun x _ _ => strLen x)
  case atStart => exact ⟨b, [], rfl, Nat.le_refl _, by simp, World.ownsRow_nil _ _ _ _, Below.refl _ _, by simp⟩
  case round =>
    obtain ⟨b', ops, rfl, hbl, ho8, hown, hB, hE⟩ := hrel
    have hs := hB.size
    cases b' with
    | nil =>
      have hE' : decOps 8 b = some ops := by rw [← hE]; simp [decOps]
      have HE : Hid (decOps 8 b = some ops) := hE'
      clear hE hE'
      go_wp2
      go_ret
      refine ⟨_, rfl, hB, ?_⟩
      rw [HE.out]
      exact hown
    | cons c r =>
      have hz : (⟨(c :: r).toArray⟩ : ByteArray).size = r.length + 1 := rfl
      have hlr : r.length ≤ 1048576 := by simp at hbl; omega
      have hd := takeOp_any (c :: r) wr (by simp at hbl ⊢; omega)
      obtain ⟨q, cap, rfl, hopp, hqb⟩ := hown.opp
      cases hdo : decOp (c :: r) with
      | none =>
        have HE : Hid (decOps 8 b = none) := by show _ = _; rw [← hE, decOps_no hdo]; rfl
        have hV : decOpV (c :: r) = (opZ, 0) := by simp [decOpV, hdo]
        rw [hV] at hd
        clear hE
        go_wp2_with (go_at_call 323; refine hd.mono ?_; rintro e w1 ⟨rfl, hb1⟩)
        go_ret
        refine ⟨_, rfl, (hB.trans (hb1.mono hs)).alloc (by have := hb1.size; omega) _, ?_⟩
        rw [HE.out]
        rfl
      | some x =>
        obtain ⟨o, n⟩ := x
        obtain ⟨k1, k2, k3⟩ := decOp_ok hdo
        have hV : decOpV (c :: r) = (o, n) := by simp [decOpV, hdo]
        rw [hV] at hd
        have hn3 : n ≤ r.length + 1 := by simpa using k3
        by_cases h8 : ops.length = 8
        · have HE : Hid (decOps 8 b = none) := by show _ = _; rw [← hE, h8]; rfl
          clear hE
          go_wp2_with (go_at_call 323; refine hd.mono ?_; rintro e w1 ⟨rfl, hb1⟩)
          go_ret
          refine ⟨_, rfl, (hB.trans (hb1.mono hs)).alloc (by have := hb1.size; omega) _, ?_⟩
          rw [HE.out]
          rfl
        · have HE : Hid ((decOps (8 - (ops ++ [o]).length) ((c :: r).drop n)).map ((ops ++ [o]) ++ ·) = decOps 8 b) := by
            show _ = _
            rw [← hE]
            obtain ⟨j, hj⟩ : ∃ j, 8 - ops.length = j + 1 := ⟨7 - ops.length, by omega⟩
            rw [hj, decOps_step hdo, List.length_append, List.length_singleton, show 8 - (ops.length + 1) = j by omega, Option.map_map]
            congr 1
            funext l
            simp
          have hex : Hid ((⟨(c :: r).toArray⟩ : ByteArray).extract n (r.length + 1) = ⟨((c :: r).drop n).toArray⟩) := by
            show _ = _
            rw [ext_bytes, List.take_of_length_le (by simp)]
          clear hE
          have n0 : ((n : Int) == 0) = false := by simp; omega
          have n8 : ((ops.length : Int) == 8) = false := by simp; omega
          go_wp2_with (first
            | (go_at_call 323; refine hd.mono ?_; rintro e w1 ⟨rfl, hb1⟩; have hs1 := hb1.size)
            | (at_builtin; refine wpList_append_own _ rfl (.tmp 20) (.tmp 22) 60 rfl w.heap.size 77 i0 _ 3 40 Tryz.underlying60 hi0 hz0 hz1 hz2 rfl (by decide) _ ops.length (flatO ops) rfl ((World.ownsRow.alloc (World.ownsRow.alloc (ownsRow_of_block hown (fun g hg => hb1.block g (World.ownsRow.lt hown g hg).2)) _) _)) ⟨w1.heap.size + 1, 0, none⟩ 1 1 [str o.key, str o.val, .bool o.gone] rfl rfl ?_ (by simp [Value.oneCell']) (by unfold maxLen; omega) (by omega) (by simp; omega) ?_; rotate_left; intro v' w2 hown' hgrow _)
            | go_in)
          · have hb2 : Below w.heap.size w w2 := (((hB.trans (hb1.mono hs)).alloc (by omega) _).alloc (by simp; omega) _).grown hgrow (by simp; omega) (fun k hk => (hown.lt k hk).1)
            have hsz : ((c :: r).drop n).length = r.length + 1 - n := by simp
            go_roundw
            case rel =>
              rw [hex.out]
              refine ⟨_, ops ++ [o], rfl, ?_, by simp; omega, ?_, hb2, HE.out⟩
              · rw [hsz]; simp at hbl; omega
              · unfold OwnO
                rw [flatO_snoc, List.length_append]
                exact hown'
            case measure =>
              rw [hex.out]
              show ((c :: r).drop n).length < (c :: r).length
              rw [hsz]
              simp
              omega
          · intro j u hu
            rw [Addr.add_lit, Nat.zero_add]
            have := block_new (w1.alloc (.cells #[str o.key, str o.val, .bool o.gone] 77)) (.cells #[str o.key, str o.val, .bool o.gone] 77)
            rw [World.size_alloc] at this
            rw [cell_block this]
            simpa using hu

end Go.Proofs.YtoabedkcieindaaGreatDoor
