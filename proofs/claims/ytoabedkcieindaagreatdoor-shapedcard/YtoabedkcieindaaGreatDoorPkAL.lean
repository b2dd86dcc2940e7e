import Derived.Test.YtoabedkcieindaaGreatDoorPkAK
import Derived.Laws.AppendOwnNone
import Derived.Lib.AppendZerosOnto
namespace Go.Proofs.YtoabedkcieindaaGreatDoor
open Go.RowKit Go.Maps Go.Sort

theorem str_app (a b : List UInt8) : (⟨a.toArray⟩ ++ ⟨b.toArray⟩ : ByteArray) = ⟨(a ++ b).toArray⟩ := ByteArray.ext (by simp [ByteArray.data_append])
def Dgt (w wr : World) (b : Nat) (suf : List UInt8) : Prop :=
  ∃ cs : Array Value, wr.heap[b]? = some (.cells cs 357) ∧ cs.size = 65 ∧ (∀ j (h : j < suf.length), cs[65 - suf.length + j]? = some (.int .u8 suf[j].toNat)) ∧ Below w.heap.size w wr

theorem Dgt.cell {w wr : World} {b : Nat} {suf : List UInt8} (h : Dgt w wr b suf) (j : Nat) (hj : j < 65) : ∃ v, wr.cell? ⟨b, j, none⟩ = some v ∧ wr.frozen? ⟨b, j, none⟩ = false := by
  obtain ⟨cs, h1, h2, _⟩ := h
  exact ⟨cs[j]'(by omega), by rw [cell_block h1]; exact Array.getElem?_eq_getElem (by omega), frozen_block h1⟩

theorem Dgt.put {w wr : World} {suf : List UInt8} (h : Dgt w wr w.heap.size suf) (c : UInt8) (j : Nat) (hs : suf.length + j = 64) : Dgt w (wr.setCell ⟨w.heap.size, j, none⟩ (.int .u8 c.toNat)) w.heap.size (c :: suf) := by
  obtain ⟨cs, h1, h2, h3, h4⟩ := h
  refine ⟨_, block_set h1 _, by simpa using h2, fun i hi => ?_, ?_⟩
  · rw [List.length_cons, show 65 - (suf.length + 1) + i = j + i by omega]
    match i, hi with
    | 0, _ => rw [Nat.add_zero, Array.getElem?_setIfInBounds_self_of_lt (by omega)]; simp
    | i + 1, hi =>
      rw [Array.getElem?_setIfInBounds_ne (by omega)]
      have := h3 i (by simpa using hi)
      rw [show 65 - suf.length + i = j + (i + 1) by omega] at this
      simpa using this
  · exact ⟨h4.os, h4.tape, h4.output, by have := h4.size; simp [World.setCell]; exact this, fun k hk => (Below.heap_setCell _ _ _ _ (by simp; omega)).trans (h4.block k hk)⟩

theorem Dgt.below {w wr : World} {b : Nat} {suf : List UInt8} (h : Dgt w wr b suf) : Below w.heap.size w wr := by
  obtain ⟨_, _, _, _, h⟩ := h; exact h
theorem Dgt.conv {w wr : World} {suf : List UInt8} (h : Dgt w wr w.heap.size suf) (j : Nat) (hj : j + suf.length = 65) (cap : Nat) :
    (convert 91 9 (.slice (some ⟨w.heap.size, j, none⟩) suf.length cap)).run Tryz.prog wr = .ok (str suf) wr := by
  obtain ⟨cs, h1, h2, h3, h4⟩ := h
  rw [run_convert_bytes_arg wr _ 5 Tryz.underlying91 Tryz.underlying5 w.heap.size j suf.length cap (suf.map fun c => (c.toNat : Int)) (by simp) (fun i hi => by
    rw [cell_block h1, show j + i = 65 - suf.length + i by omega, h3 i hi]
    simp [List.getD, hi]) _ Tryz.underlying9, nums_bytes]

abbrev dig36s : ByteArray := ⟨#[48, 49, 50, 51, 52, 53, 54, 55, 56, 57, 97, 98, 99, 100, 101, 102, 103, 104, 105, 106, 107, 108, 109, 110, 111, 112, 113, 114, 115, 116, 117, 118, 119, 120, 121, 122]⟩
theorem dig36_at (d : Nat) (h : d < 36) (h' : d < dig36s.size) : dig36s[d] = dig36 d := by
  have : ∀ d : Fin 36, dig36s[d.1]'(by have := d.2; exact this) = dig36 d.1 := by decide
  exact this ⟨d, h⟩

theorem digs_step {k n : Nat} (h : 36 ≤ n) : digs (k + 1) n = digs k (n / 36) ++ [dig36 (n % 36)] := by conv => lhs; unfold digs; rw [if_neg (by omega)]
theorem digs_last {k n : Nat} (h : n < 36) : digs (k + 1) n = [dig36 n] := by unfold digs; rw [if_pos h]

theorem dgt0 (w : World) : Dgt w (w.alloc (.cells Tryz.zeroCells357 357)) w.heap.size [] :=
  ⟨_, block_new w _, by kernel_rfl, fun j hj => by simp at hj, (Below.refl _ _).alloc (Nat.le_refl _) _⟩

theorem slice65 (b j n : Nat) (hj : j + n = 65) (h0 : 0 < n) (W : World) :
    (Instr.sliceAt 357 (.pointer (some ⟨b, 0, none⟩)) (some (.int .i64 j)) none none).run Tryz.prog W = .ok (.slice (some ⟨b, j, none⟩) n n) W := by
  have hal : Tryz.prog.arrayLen 357 = 65 := by simp [Program.arrayLen, Tryz.underlying357]
  rw [run_sliceAt_array_l W 357 ⟨b, 0, none⟩ (by simp [Program.arrayLen, Program.elem, Tryz.underlying357]) .i64 j (by omega) (by rw [hal]; omega)]
  go_simp
  omega

theorem isPow2_36 (w : World) : Calls Tryz.prog 302 #[.int .i64 36] w fun e w' => e = .returned (.bool false) ∧ w' = w := by
  go_enter Tryz.func302, Tryz.ntmps302
  go_wp2
  go_ret
  exact ⟨rfl, rfl⟩

set_option maxHeartbeats 2000000 in
set_option maxRecDepth 20000 in
theorem formatBits_any (n : Nat) (w : World) (hn : n < 9223372036854775808) :
    Calls Tryz.prog 251 #[.slice none 0 0, .int .u64 n, .int .i64 36, .bool false, .bool false] w fun e w' => e = .returned (.tuple #[.slice none 0 0, str (fmt36 n)]) ∧ Below w.heap.size w w' := by
  go_enter Tryz.func251, Tryz.ntmps251
  go_wp2_with (go_at_call 302; refine (isPow2_36 _).mono ?_; rintro e w1 ⟨rfl, rfl⟩)
  go_loopw [1, 13] (fun u i wr => ∃ (k m j : Nat) (suf : List UInt8), u = .int .u64 m ∧ i = .int .i64 (j + 1 : Nat) ∧ m < 36 ^ (k + 1) ∧ k + 53 ≤ j + 1 ∧ m < 9223372036854775808 ∧ j + 1 + suf.length = 65 ∧ digs (k + 1) m ++ suf = fmt36 n ∧ Dgt w wr w.heap.size suf) (fun u _ _ => (intOf u).toNat)
  case atStart => exact ⟨12, n, 64, [], rfl, rfl, by omega, by omega, hn, rfl, by simp [fmt36], dgt0 w⟩
  case round =>
    obtain ⟨k, m, j, suf, rfl, rfl, hm, hkj, hmn, hj, hE, hD⟩ := hrel
    have HE : Hid (digs (k + 1) m ++ suf = fmt36 n) := hE
    have HM : Hid (m < 36 ^ (k + 1)) := hm
    clear hE hm
    have ec : ((j + 1 : Nat) : Int) - 1 = j := by omega
    obtain ⟨v0, cv, cf⟩ := hD.cell j (by omega)
    by_cases hge : 36 ≤ m
    · have hk0 : k ≠ 0 := by
        rintro rfl
        have := HM.out
        omega
      obtain ⟨k, rfl⟩ : ∃ k', k = k' + 1 := ⟨k - 1, by omega⟩
      have hdg := dig36_at (m % 36) (Nat.mod_lt _ (by omega)) (Nat.mod_lt _ (by omega))
      have hdv : m / 36 < 36 ^ (k + 1) := by
        have := HM.out
        rw [Nat.pow_succ] at this
        omega
      have HDV : Hid (m / 36 < 36 ^ (k + 1)) := hdv
      clear hdv
      have hmd : ((m : Int) - (m : Int) / 36 * 36) = ((m % 36 : Nat) : Int) := by omega
      have hD1 := hD.put (dig36 (m % 36)) j (by omega)
      have HS : Hid (digs (k + 1) (m / 36) ++ dig36 (m % 36) :: suf = fmt36 n) := by
        show _ = _
        rw [← HE.out, digs_step hge]
        simp
      obtain ⟨j, rfl⟩ : ∃ j', j = j' + 1 := ⟨j - 1, by omega⟩
      go_wp2
      go_roundw
      case rel => exact ⟨k, m / 36, j, dig36 (m % 36) :: suf, by go_num, by go_num, HDV.out, by omega, by omega, by simp; omega, HS.out, hD1⟩
      case measure => simp [intOf]; omega
    · have hdg := dig36_at m (by omega) (by show m < 36; omega)
      have hD1 := hD.put (dig36 m) j (by omega)
      have hsl := slice65 w.heap.size j (dig36 m :: suf).length (by simp; omega) (by simp)
      have hcv := hD1.conv j (by simp; omega) (dig36 m :: suf).length
      have HF : Hid (fmt36 n = dig36 m :: suf) := by
        show _ = _
        rw [← HE.out, digs_last (by omega)]
        rfl
      simp only [List.length_cons] at hcv
      go_wp2
      go_ret2
      rw [HF.out]
      exact ⟨rfl, hD1.below⟩

set_option maxHeartbeats 1000000 in
theorem iFormatInt_any (n : Nat) (w : World) (hn : n < 9223372036854775808) :
    Calls Tryz.prog 205 #[.int .i64 n, .int .i64 36] w fun e w' => e = .returned (str (fmt36 n)) ∧ Below w.heap.size w w' := by
  have hf := fun w => formatBits_any n w hn
  generalize fmt36 n = T at *
  go_enter Tryz.func205, Tryz.ntmps205
  go_wp2_with (go_at_call 251; refine (hf _).mono ?_; rintro e w1 ⟨rfl, hb⟩)
  go_ret
  exact ⟨rfl, hb⟩

set_option maxHeartbeats 1000000 in
theorem FormatInt_any (n : Nat) (w : World) (hn : n < 9223372036854775808) :
    Calls Tryz.prog 153 #[.int .i64 n, .int .i64 36] w fun e w' => e = .returned (str (fmt36 n)) ∧ Below w.heap.size w w' := by
  have hf := fun w => iFormatInt_any n w hn
  generalize fmt36 n = T at *
  go_enter Tryz.func153, Tryz.ntmps153
  go_wp2_with (go_at_call 205; refine (hf _).mono ?_; rintro e w1 ⟨rfl, hb⟩)
  go_ret
  exact ⟨rfl, hb⟩

set_option maxHeartbeats 1000000 in
theorem logName_any (n : Nat) (w : World) (hn : n < 9223372036854775808) :
    Calls Tryz.prog 98 #[.int .i64 n] w fun e w' => e = .returned (str (lgN n)) ∧ Below w.heap.size w w' := by
  have hf := fun w => FormatInt_any n w hn
  have HL : Hid (lgN n = logP ++ fmt36 n) := rfl
  have hl := (fmt_len n).2
  generalize fmt36 n = T at *
  have hz : (⟨T.toArray⟩ : ByteArray).size = T.length := rfl
  go_enter Tryz.func98, Tryz.ntmps98
  go_wp2_with (go_at_call 153; refine (hf _).mono ?_; rintro e w1 ⟨rfl, hb⟩)
  go_ret
  rw [HL.out]
  exact ⟨congrArg (fun s => Ending.returned (.string s)) (str_app logP T), hb⟩

set_option maxHeartbeats 1000000 in
theorem tableName_any (n : Nat) (w : World) (hn : n < 9223372036854775808) :
    Calls Tryz.prog 266 #[.int .i64 n] w fun e w' => e = .returned (str (tbN n)) ∧ Below w.heap.size w w' := by
  have hf := fun w => FormatInt_any n w hn
  have HL : Hid (tbN n = tabP ++ fmt36 n) := rfl
  have hl := (fmt_len n).2
  generalize fmt36 n = T at *
  have hz : (⟨T.toArray⟩ : ByteArray).size = T.length := rfl
  go_enter Tryz.func266, Tryz.ntmps266
  go_wp2_with (go_at_call 153; refine (hf _).mono ?_; rintro e w1 ⟨rfl, hb⟩)
  go_ret
  rw [HL.out]
  exact ⟨congrArg (fun s => Ending.returned (.string s)) (str_app tabP T), hb⟩

end Go.Proofs.YtoabedkcieindaaGreatDoor

namespace Go.Proofs.YtoabedkcieindaaGreatDoor
open Go.RowKit Go.Maps Go.Sort

section
variable {α : Type} {fl : α → List Value} {sz : Nat}

def Rp (fl : α → List Value) (sz : Nat) (w : World) (q : Option Addr) (l : List α) : Prop := ∀ i (h : i < l.length) j u, (fl l[i])[j]? = some u → ∃ g off, q = some ⟨g, off, none⟩ ∧ w.cell? ⟨g, off + (i * sz + j), none⟩ = some u
def OwnR (t : TypeId) (fl : α → List Value) (sz : Nat) (w : World) (base : Nat) (v : Value) (l : List α) : Prop := w.ownsRow base t sz v l.length (l.flatMap fl)

theorem flatR_at (hfl : ∀ x, (fl x).length = sz) : ∀ (l : List α) (i j : Nat) (h : i < l.length), j < sz → (l.flatMap fl)[i * sz + j]? = (fl l[i])[j]?
  | [], i, j, h, _ => by simp at h
  | x :: r, 0, j, _, hj => by
    rw [List.flatMap_cons, Nat.zero_mul, Nat.zero_add, List.getElem?_append_left (by rw [hfl]; exact hj)]
    rfl
  | x :: r, i + 1, j, h, hj => by
    rw [List.flatMap_cons, List.getElem?_append_right (by rw [hfl, Nat.add_mul]; omega), hfl, show (i + 1) * sz + j - sz = i * sz + j by rw [Nat.add_mul]; omega]
    exact flatR_at hfl r i j (by simpa using h) hj
theorem flatR_len (hfl : ∀ x, (fl x).length = sz) (l : List α) : (l.flatMap fl).length = l.length * sz := by
  induction l with
  | nil => simp
  | cons x r ih => rw [List.flatMap_cons, List.length_append, ih, hfl, List.length_cons, Nat.add_mul]; omega

theorem Rp.below {w w' : World} {q : Option Addr} {l : List α} (h : Rp fl sz w q l) (hb : Below w.heap.size w w') : Rp fl sz w' q l := fun i hi j u hu => by
  obtain ⟨g, off, e, h1⟩ := h i hi j u hu
  exact ⟨g, off, e, cell_below hb h1⟩
theorem Rp.cells (hfl : ∀ x, (fl x).length = sz) (hz : 0 < sz) {w : World} {g off : Nat} {l : List α} (h : Rp fl sz w (some ⟨g, off, none⟩) l) : ∀ j u, (l.flatMap fl)[j]? = some u → w.cell? ((⟨g, off, none⟩ : Addr).add j) = some u := by
  intro j u hu
  have hj : j < l.length * sz := by rw [← flatR_len hfl l]; exact (List.getElem?_eq_some_iff.1 hu).1
  have hi : j / sz < l.length := Nat.div_lt_of_lt_mul (by rw [Nat.mul_comm]; exact hj)
  have e : j = j / sz * sz + j % sz := by rw [Nat.mul_comm]; exact (Nat.div_add_mod j sz).symm
  rw [e, flatR_at hfl l _ _ hi (Nat.mod_lt _ hz)] at hu
  obtain ⟨g', off', e', hc⟩ := h _ hi _ _ hu
  simp only [Option.some.injEq, Addr.mk.injEq] at e'
  obtain ⟨rfl, rfl, _⟩ := e'
  rw [← e] at hc
  rw [Addr.add_lit]
  exact hc

theorem OwnR.rp {t : TypeId} (hfl : ∀ x, (fl x).length = sz) {w : World} {base : Nat} {v : Value} {l : List α} (h : OwnR t fl sz w base v l) : ∃ q cap, v = .slice q l.length cap ∧ l.length ≤ cap ∧ Rp fl sz w q l ∧ (q = none → cap = 0 ∧ l = []) ∧ ∀ a, q = some a → base ≤ a.block ∧ a.block < w.heap.size := by
  rcases h.2 with ⟨hv, hn⟩ | ⟨g, cap, cur, hv, hb, hgg, hnc, _⟩
  · exact ⟨none, 0, by rw [hv, hn], by omega, fun i hi => by omega, fun _ => ⟨rfl, List.eq_nil_of_length_eq_zero hn⟩, fun a ha => by cases ha⟩
  · refine ⟨_, cap, hv, hnc, fun i hi j u hu => ?_, fun e => (by cases e), fun a ha => by cases ha; exact ⟨hb, lt_of_block hgg⟩⟩
    have hj : j < sz := by rw [← hfl l[i]]; exact (List.getElem?_eq_some_iff.1 hu).1
    have hc := World.ownsRow.cells h (g := g) (by rw [hv]; rfl) (i * sz + j) u (by rw [flatR_at hfl l i j hi hj]; exact hu)
    rw [Addr.add_lit] at hc
    exact ⟨g, 0, rfl, hc⟩
theorem OwnR.nil (t : TypeId) (fl : α → List Value) (sz : Nat) (w : World) (base : Nat) : OwnR t fl sz w base (.slice none 0 0) [] := World.ownsRow_nil _ _ _ _
theorem OwnR.kept {t : TypeId} {w w' : World} {base : Nat} {v : Value} {l : List α} {S : Nat → Prop} (h : OwnR t fl sz w base v l) (k : Kp S w w') (hs : ∀ g, v.ownBlock = some g → ¬ S g) : OwnR t fl sz w' base v l := k.row h hs
theorem OwnR.alloc {t : TypeId} {w : World} {base : Nat} {v : Value} {l : List α} (h : OwnR t fl sz w base v l) (o : Obj) : OwnR t fl sz (w.alloc o) base v l := h.kept (S := fun _ => False) ((Kp.refl _ _).alloc o) (fun _ _ f => f)
theorem OwnR.drew {t : TypeId} {w : World} {base : Nat} {v : Value} {l : List α} (h : OwnR t fl sz w base v l) : OwnR t fl sz w.drew base v l := h.kept (S := fun _ => False) ((Kp.refl _ _).drew) (fun _ _ f => f)
theorem OwnR.below {t : TypeId} {w w' : World} {base : Nat} {v : Value} {l : List α} (h : OwnR t fl sz w base v l) (k : Below w.heap.size w w') : OwnR t fl sz w' base v l := h.kept (S := fun _ => False) (Kp.of_below k) (fun _ _ f => f)
theorem OwnR.shape {t : TypeId} {w : World} {base : Nat} {v : Value} {l : List α} (h : OwnR t fl sz w base v l) : ∃ a cap, v = .slice a l.length cap := by
  rcases h.2 with ⟨hv, hn⟩ | ⟨g, cap, cur, hv, _⟩
  · exact ⟨none, 0, by rw [hv, hn]⟩
  · exact ⟨_, _, hv⟩
theorem _root_.Go.World.ownsRow.shapeE {w : World} {base : Nat} {e : TypeId} {size : Nat} {v : Value} {n : Nat} {xs : List Value} (h : w.ownsRow base e size v n xs) : v = .slice none 0 0 ∨ ∃ g cap, v = .slice (some ⟨g, 0, none⟩) n cap := by
  rcases h.2 with ⟨hv, _⟩ | ⟨g, cap, cur, hv, _⟩
  · exact .inl hv
  · exact .inr ⟨g, cap, hv⟩
theorem OwnR.belowOwn {t : TypeId} {w w' : World} {v : Value} {l : List α} {n0 : Nat} (hn0 : n0 ≤ w.heap.size) (ho : OwnR t fl sz w n0 v l) (k : Kp (fun i => v.ownBlock = some i) w w') : Below n0 w w' :=
  ⟨k.os, k.tape, k.output, k.size, fun i hi => k.block i (by omega) (fun e => by have := (World.ownsRow.lt ho i e).1; omega)⟩

theorem wpList_appR (w : World) {ops : Array Oper} {rest : List Oper} {o : Oper} {ac : Act} {Q : Exit → Act → World → Prop} (hgd : o.guard = none) (s x : Operand) (t ts : TypeId) {z : Value} {bytes : Nat}
    (hinfo : (Tryz.prog.info? t).map (fun i => (i.zero, i.size, i.bytes)) = some (some z, sz, bytes)) (hzs : z.cells.size = sz) (hsz : 0 < sz) (hts : Tryz.prog.underlying ts = some (.slice t)) (hfl : ∀ x, (fl x).length = sz) (hone : ∀ x, ∀ u ∈ fl x, u.oneCell' = true)
    (ho : o.op = .call { callee := .builtin .append, args := #[s, x], argTypes := #[ts, ts] })
    (n0 : Nat) (v : Value) (l c : List α) (q : Option Addr) (qc : Nat) (hs : ac.eval s = v) (hx : ac.eval x = .slice q c.length qc) (hn0 : n0 ≤ w.heap.size) (hown : OwnR t fl sz w n0 v l) (hqn : q = none → qc = 0 ∧ c = []) (hqa : ∀ a, q = some a → ∃ g off, a = ⟨g, off, none⟩) (hc : Rp fl sz w q c) (hby : (l.length + c.length) * bytes ≤ 140737488355328) (hml : l.length + c.length ≤ 4611686018427387904)
    (h : ∀ v' w', OwnR t fl sz w' n0 v' (l ++ c) → Kp (fun i => v.ownBlock = some i) w w' → wpList Tryz.prog ops Q rest (ac.put o.dst v') w') : wpList Tryz.prog ops Q (o :: rest) ac w := by
  obtain ⟨i0, hi, hz0, hz1, hz2⟩ := info_parts hinfo
  cases q with
  | none =>
    obtain ⟨rfl, rfl⟩ := hqn rfl
    refine wpList_append_own_none hgd s x ts ho n0 t i0 sz hts hi v l.length (l.flatMap fl) hs hown hx ?_
    have := h v w (by rw [List.append_nil]; exact hown) (Kp.refl _ _)
    exact this
  | some a =>
    obtain ⟨g, off, rfl⟩ := hqa a rfl
    refine wpList_append_own _ hgd s x ts ho n0 t i0 _ sz bytes hts hi hz0 hz1 hz2 hzs hsz v l.length (l.flatMap fl) hs hown ⟨g, off, none⟩ c.length qc (c.flatMap fl) hx (flatR_len hfl c) (hc.cells hfl hsz) (fun u hu => ?_) (by unfold maxLen; omega) hby hn0 ?_
    · obtain ⟨y, _, hy⟩ := List.mem_flatMap.1 hu
      exact hone y u hy
    · intro v' w' ho' hg' _
      refine h v' w' ?_ ((Kp.refl _ _).grown hg' (fun k hk _ => hk))
      unfold OwnR
      rw [List.length_append, List.flatMap_append]
      exact ho'
end

def enC (e : En) : List Value := [str e.op.key, str e.op.val, .bool e.op.gone, .int .i64 e.batch]
theorem enC_len (e : En) : (enC e).length = 4 := rfl
theorem enC_one (e : En) : ∀ u ∈ enC e, u.oneCell' = true := by intro u hu; simp [enC] at hu; rcases hu with rfl | rfl | rfl | rfl <;> rfl
theorem Enp.rp {w : World} {q : Option Addr} {l : Ly} (h : Enp w q l) : Rp enC 4 w q l := by
  intro i hi j u hu
  obtain ⟨g, off, rfl, c0, c1, c2, c3⟩ := h i hi
  refine ⟨g, off, rfl, ?_⟩
  match j, hu with
  | 0, hu => simp [enC] at hu; subst hu; exact c0
  | 1, hu => simp [enC] at hu; subst hu; exact c1
  | 2, hu => simp [enC] at hu; subst hu; exact c2
  | 3, hu => simp [enC] at hu; subst hu; exact c3
theorem Rp.enp {w : World} {q : Option Addr} {l : Ly} (h : Rp enC 4 w q l) : Enp w q l := by
  intro i hi
  obtain ⟨g, off, rfl, c0⟩ := h i hi 0 _ rfl
  obtain ⟨_, _, e1, c1⟩ := h i hi 1 _ rfl
  obtain ⟨_, _, e2, c2⟩ := h i hi 2 _ rfl
  obtain ⟨_, _, e3, c3⟩ := h i hi 3 _ rfl
  cases e1; cases e2; cases e3
  exact ⟨g, off, rfl, c0, c1, c2, c3⟩
abbrev OwnE (w : World) (base : Nat) (v : Value) (l : Ly) : Prop := OwnR 205 enC 4 w base v l

end Go.Proofs.YtoabedkcieindaaGreatDoor

namespace Go.Proofs.YtoabedkcieindaaGreatDoor
open Go.RowKit Go.Maps Go.Sort

set_option maxHeartbeats 2000000 in
set_option maxRecDepth 20000 in
theorem growE_nil (n : Nat) (w : World) (hn : n ≤ 1000000) :
    Calls Tryz.prog 224 #[.slice none 0 0, .int .i64 n] w fun e w' => ∃ v, e = .returned v ∧ Below w.heap.size w w' ∧ OwnE w' w.heap.size v [] := by
  by_cases h0 : n = 0
  · subst h0
    go_enter Tryz.func224, Tryz.ntmps224
    go_wp2
    go_ret
    exact ⟨_, rfl, Below.refl _ _, OwnR.nil _ _ _ _ _⟩
  · obtain ⟨i0, hi, hz0, hz1, hz2⟩ := info_parts Tryz.info205
    have hold : (Builtin.firstCells i0.size 0 (.slice none 0 0)).run Tryz.prog w.drew = .ok ([] : List Value).toArray w.drew := run_firstCells_none w.drew i0.size 0 0 0
    have hrz := fun ty => Lib.run_append_grow_zeros w 162 3 ty 205 i0 _ .i64 .i64 Tryz.underlying162 Tryz.underlying3 hi hz0 none 0 0 [] hold n (by omega) (by omega) (by omega) (by omega) (by rw [hz2]; omega) (growslice_fits (by omega) (by rw [hz2]; omega))
    rw [Nat.zero_add] at hrz
    have hGn := grownCap_ge w n 0 205
    have hGm := grownCap_le_maxLen w n 0 205 (by unfold maxLen; omega)
    generalize grownCap w n 0 205 = G at *
    have hGi : G ≤ 9223372036854775807 := by unfold maxLen at hGm; omega
    go_enter Tryz.func224, Tryz.ntmps224
    go_wp2_with (at_builtin; refine Lib.wpList_append_run _ rfl _ _ _ _ rfl _ _ rfl rfl _ _ (hrz _) ?_)
    all_goals go_ret
    all_goals exact ⟨_, rfl, ((Below.refl _ w).alloc (Nat.le_refl _) _).drew, OwnR.drew (World.ownsRow_made (e := 205) (size := 4) w _ G (Nat.le_refl _) hGm (by simp [size_zeroCells]; omega))⟩

abbrev Sl := Option Addr × Nat × Nat
abbrev slV (s : Sl) : Value := .slice s.1 s.2.1 s.2.2
def slC (s : Sl) : List Value := [slV s]
theorem slC_len (s : Sl) : (slC s).length = 1 := rfl
theorem slC_one (s : Sl) : ∀ u ∈ slC s, u.oneCell' = true := by intro u hu; simp [slC] at hu; subst hu; rfl

structure SlAt (w : World) (s : Sl) (l : Ly) : Prop where
  len : s.2.1 = l.length
  cap : l.length ≤ s.2.2
  nil : s.1 = none → s.2.2 = 0 ∧ l = []
  pl : ∀ a, s.1 = some a → ∃ g off, a = ⟨g, off, none⟩
  row : Enp w s.1 l
theorem SlAt.below {w w' : World} {s : Sl} {l : Ly} (h : SlAt w s l) (k : Below w.heap.size w w') : SlAt w' s l := ⟨h.len, h.cap, h.nil, h.pl, h.row.below k⟩
theorem OwnR.slAt {w : World} {base : Nat} {v : Value} {l : Ly} (h : OwnE w base v l) : ∃ s : Sl, v = slV s ∧ SlAt w s l ∧ ∀ a, s.1 = some a → base ≤ a.block ∧ a.block < w.heap.size := by
  obtain ⟨q, cap, rfl, hc, hr, hn, hb⟩ := h.rp enC_len
  refine ⟨(q, l.length, cap), rfl, ⟨rfl, hc, hn, fun a ha => ?_, hr.enp⟩, hb⟩
  rcases World.ownsRow.shapeE h with h' | ⟨g, c, h'⟩
  · cases (Value.slice.inj h').1; cases ha
  · have := (Value.slice.inj h').1
    rw [show q = some a from ha] at this
    cases this
    exact ⟨g, 0, rfl⟩

structure Lyp (w : World) (q : Option Addr) (xs : List (Sl × Ly)) : Prop where
  row : Rp slC 1 w q (xs.map (·.1))
  each : ∀ x ∈ xs, SlAt w x.1 x.2
theorem Lyp.below {w w' : World} {q : Option Addr} {xs : List (Sl × Ly)} (h : Lyp w q xs) (k : Below w.heap.size w w') : Lyp w' q xs := ⟨h.row.below k, fun x hx => (h.each x hx).below k⟩
theorem Lyp.at {w : World} {q : Option Addr} {xs : List (Sl × Ly)} (h : Lyp w q xs) (i : Nat) (hi : i < xs.length) : ∃ g off, q = some ⟨g, off, none⟩ ∧ w.cell? ⟨g, off + i, none⟩ = some (slV xs[i].1) := by
  obtain ⟨g, off, e, hc⟩ := h.row i (by simpa using hi) 0 (slV xs[i].1) (by simp [slC])
  exact ⟨g, off, e, by simpa using hc⟩

def sumL (xs : List (Sl × Ly)) : Nat := (xs.map fun x => x.2.length).sum
def catL (xs : List (Sl × Ly)) : Ly := xs.flatMap (·.2)
theorem sumL_snoc {xs : List (Sl × Ly)} {k : Nat} (h : k < xs.length) : sumL (xs.take (k + 1)) = sumL (xs.take k) + xs[k].2.length := by
  unfold sumL; rw [List.take_succ_eq_append_getElem h]; simp only [List.map_append, List.sum_append, List.map_cons, List.map_nil, List.sum_cons, List.sum_nil]; omega
theorem sumL_take (xs : List (Sl × Ly)) (k : Nat) : sumL (xs.take k) ≤ sumL xs := by
  conv => rhs; rw [← List.take_append_drop k xs]
  simp only [sumL, List.map_append, List.sum_append]; omega
theorem catL_snoc {xs : List (Sl × Ly)} {k : Nat} (h : k < xs.length) : catL (xs.take (k + 1)) = catL (xs.take k) ++ xs[k].2 := by
  unfold catL; rw [List.take_succ_eq_append_getElem h, List.flatMap_append, List.flatMap_singleton]
theorem catL_len (xs : List (Sl × Ly)) : (catL xs).length = sumL xs := by simp [catL, sumL]

set_option maxHeartbeats 2000000 in
set_option maxRecDepth 20000 in
theorem concatE_any (q : Option Addr) (qc : Nat) (xs : List (Sl × Ly)) (w : World) (hp : Lyp w q xs) (hl : xs.length ≤ 1000000) (hs : sumL xs ≤ 1000000) :
    Calls Tryz.prog 169 #[.slice q xs.length qc] w fun e w' => ∃ v, e = .returned v ∧ Below w.heap.size w w' ∧ OwnE w' w.heap.size v (catL xs) := by
  go_enter Tryz.func169, Tryz.ntmps169
  go_wp2
  go_loop [3, 11] (fun n i => ∃ k : Nat, k ≤ xs.length ∧ i = .int .i64 k ∧ n = .int .i64 (sumL (xs.take k))) (fun _ i => xs.length - (intOf i).toNat)
  case atStart => exact ⟨0, Nat.zero_le _, rfl, rfl⟩
  case round =>
    obtain ⟨k, hk, rfl, rfl⟩ := hrel
    by_cases hlt : k < xs.length
    · obtain ⟨g, off, rfl, c0⟩ := hp.at k hlt
      have hsl := hp.each _ (List.getElem_mem hlt)
      have hln := hsl.len
      have HS : Hid (sumL (xs.take (k + 1)) = sumL (xs.take k) + xs[k].1.2.1) := by show _ = _; rw [sumL_snoc hlt, hln]
      have hle : sumL (xs.take k) + xs[k].1.2.1 ≤ 1000000 := by rw [← HS.out]; exact Nat.le_trans (sumL_take _ _) hs
      generalize hN : sumL (xs.take k) = N at *
      go_wp2
      go_round
      case rel => exact ⟨k + 1, by omega, by go_num, by rw [HS.out]; go_num⟩
      case measure => simp [intOf]; omega
    · have E : Hid (xs.take k = xs) := List.take_of_length_le (by omega)
      rw [E.out]
      have hG := growE_nil (sumL xs) w hs
      generalize hN : sumL xs = N at *
      go_wp2_with (go_at_call 224; refine hG.mono ?_; rintro e w1 ⟨v1, rfl, hb1, hown1⟩; obtain ⟨a1, cap1, rfl⟩ := hown1.shape)
      have hs1 := hb1.size
      have hp1 := hp.below hb1
      go_loopw [6, 27] (fun v i wr => ∃ j : Nat, j ≤ xs.length ∧ i = .int .i64 j ∧ OwnE wr w.heap.size v (catL (xs.take j)) ∧ Below w.heap.size w wr) (fun _ i _ => xs.length - (intOf i).toNat)
      case atStart => exact ⟨0, Nat.zero_le _, rfl, hown1, hb1⟩
      case round =>
        obtain ⟨j, hj, rfl, hown, hb⟩ := hrel
        have hsr := hb.size
        by_cases hlt : j < xs.length
        · have hpr := hp.below hb
          obtain ⟨g, off, rfl, c0⟩ := hpr.at j hlt
          have hsl := hpr.each _ (List.getElem_mem hlt)
          have hC := catL_snoc hlt
          have HC : Hid (catL (xs.take (j + 1)) = catL (xs.take j) ++ xs[j].2) := hC
          have hle : (catL (xs.take j)).length + xs[j].2.length ≤ 1000000 := by rw [← List.length_append, ← hC, catL_len]; exact Nat.le_trans (sumL_take _ _) (by omega)
          clear hC
          obtain ⟨a2, cap2, rfl⟩ := hown.shape
          go_wp2_with (at_builtin; refine wpList_appR _ rfl (.tmp 31) (.tmp 32) 205 162 Tryz.info205 rfl (by decide) Tryz.underlying162 enC_len enC_one rfl w.heap.size _ _ xs[j].2 xs[j].1.1 xs[j].1.2.2 rfl (by rw [← hsl.len]; rfl) hsr hown hsl.nil hsl.pl hsl.row.rp (by omega) (by omega) ?_; intro v3 w3 hown3 kp3; have hb3 := hown.belowOwn hsr kp3; obtain ⟨a3, cap3, rfl⟩ := hown3.shape)
          go_roundw
          case rel => exact ⟨j + 1, by omega, by go_num, by rw [HC.out]; rwa [List.length_append] at hown3, hb.trans hb3⟩
          case measure => simp [intOf]; omega
        · have E2 : Hid (xs.take j = xs) := List.take_of_length_le (by omega)
          rw [E2.out] at hown
          obtain ⟨a2, cap2, rfl⟩ := hown.shape
          go_wp2
          go_ret
          exact ⟨_, rfl, hb, hown⟩

end Go.Proofs.YtoabedkcieindaaGreatDoor
