/- The statements without the document's answer: pick, done, behind, same. -/
import Derived.Test.YtfghgmojnffgnaaGreatCodeY
namespace Go.Proofs.YtfghgmojnffgnaaGreat
open Go.RowKit Go.Maps Go.Sort

/-- A row of pairs, from an address on. -/
def Pairp (w : World) (q : Option Addr) (l : List (Nm × Nm)) : Prop := ∀ i (h : i < l.length), ∃ g off, q = some ⟨g, off, none⟩ ∧ w.cell? ⟨g, off + i * 2, none⟩ = some (str l[i].1) ∧ w.cell? ⟨g, off + i * 2 + 1, none⟩ = some (str l[i].2)
theorem Pairp.below {w w' : World} {q : Option Addr} {l : List (Nm × Nm)} (h : Pairp w q l) (hb : Below w.heap.size w w') : Pairp w' q l := fun i hi => by
  obtain ⟨g, off, e, h1, h2⟩ := h i hi
  exact ⟨g, off, e, cell_below hb h1, cell_below hb h2⟩
theorem flatP_at : ∀ (l : List (Nm × Nm)) (i : Nat) (h : i < l.length), (flatP l)[i * 2]? = some (str l[i].1) ∧ (flatP l)[i * 2 + 1]? = some (str l[i].2)
  | x :: r, 0, _ => ⟨rfl, rfl⟩
  | x :: r, i + 1, h => by
    have ih := flatP_at r i (by simpa using h)
    show (str x.1 :: str x.2 :: flatP r)[(i + 1) * 2]? = _ ∧ (str x.1 :: str x.2 :: flatP r)[(i + 1) * 2 + 1]? = _
    rw [show (i + 1) * 2 = i * 2 + 1 + 1 by omega]
    simpa using ih
theorem OwnP.pairp {w : World} {base : Nat} {v : Value} {l : List (Nm × Nm)} (h : OwnP w base v l) : ∃ q cap, v = .slice q l.length cap ∧ Pairp w q l ∧ ∀ a, q = some a → base ≤ a.block ∧ a.block < w.heap.size := by
  rcases h.2 with ⟨hv, hn⟩ | ⟨g, cap, cur, hv, hb, hgg, _⟩
  · exact ⟨none, 0, by rw [hv, hn], fun i hi => by omega, fun a ha => by cases ha⟩
  · refine ⟨_, cap, hv, fun i hi => ?_, fun a ha => by cases ha; exact ⟨hb, lt_of_block hgg⟩⟩
    have hc := World.ownsRow.cells h (g := g) (by rw [hv]; rfl)
    obtain ⟨k0, k1⟩ := flatP_at l i hi
    refine ⟨g, 0, rfl, ?_, ?_⟩
    · have := hc _ _ k0; rwa [Addr.add_lit] at this
    · have := hc _ _ k1; rwa [Addr.add_lit, ← Nat.add_assoc] at this

theorem drewN_two (w : World) (n m : Nat) : ∃ k, (w.drewN n).drewN m = w.drewN k := ⟨n + m, by simp [World.drewN, Nat.add_assoc]⟩

/-- same, as lists. -/
theorem sameP_take {a b : List (Nm × Nm)} {k : Nat} (ha : k < a.length) (hb : k < b.length) (h : a.take k = b.take k) (e : a[k] = b[k]) : a.take (k + 1) = b.take (k + 1) := by
  rw [List.take_succ_eq_append_getElem ha, List.take_succ_eq_append_getElem hb, h, e]

set_option maxHeartbeats 2000000 in
set_option maxRecDepth 20000 in
theorem ksame_any (q1 q2 : Option Addr) (c1 c2 : Nat) (a b : List (Nm × Nm)) (w : World) (h1 : Pairp w q1 a) (h2 : Pairp w q2 b) (hla : a.length ≤ 4194304) (hlb : b.length ≤ 4194304) :
    Calls Tryz.prog 20 #[.slice q1 a.length c1, .slice q2 b.length c2] w fun e w' => e = .returned (.bool (decide (a = b))) ∧ ∃ n, w' = w.drewN n := by
  by_cases hl : a.length = b.length
  · rw [← hl]
    go_enter Tryz.func20, Tryz.ntmps20
    go_wp2
    go_loopw [5] (fun i wr => ∃ k n : Nat, k ≤ a.length ∧ i = .int .i64 k ∧ a.take k = b.take k ∧ wr = w.drewN n) (fun i _ => a.length - (intOf i).toNat)
    case atStart => exact ⟨0, 0, Nat.zero_le _, rfl, rfl, rfl⟩
    case round =>
      obtain ⟨k, n, hk, rfl, hr, rfl⟩ := hrel
      have HR : Hid (a.take k = b.take k) := hr
      clear hr
      by_cases hlt : k < a.length
      · have hlt2 : k < b.length := by omega
        obtain ⟨g1, o1, rfl, x0, x1⟩ := h1 k hlt
        obtain ⟨g2, o2, rfl, y0, y1⟩ := h2 k hlt2
        have HL : Hid (a.length = b.length) := hl
        clear h1 h2 hl
        by_cases e1 : a[k].1 = b[k].1
        · by_cases e2 : a[k].2 = b[k].2
          · have e : a[k] = b[k] := Prod.ext e1 e2
            rw [← e1] at y0
            rw [← e2] at y1
            go_wp2
            go_quiet (fail)
            go_wp2
            go_roundw
            case rel => exact ⟨k + 1, _, by omega, by go_num, sameP_take hlt hlt2 HR.out e, rfl⟩
            case measure => simp [intOf]; omega
          · have HE : Hid (a = b → False) := fun h => e2 (by subst h; rfl)
            rw [← e1] at y0
            have e2' : (a[k].2 == b[k].2) = false := by simpa using e2
            go_wp2
            go_quiet (fail)
            go_wp2
            go_ret
            exact ⟨ret_bool (by simp; exact HE.out), drewN_two _ _ _⟩
        · have HE : Hid (a = b → False) := fun h => e1 (by subst h; rfl)
          have e1' : (a[k].1 == b[k].1) = false := by simpa using e1
          go_wp2
          go_quiet (fail)
          go_wp2
          go_ret
          exact ⟨ret_bool (by simp; exact HE.out), drewN_two _ _ _⟩
      · have HE : Hid (a = b) := by
          have := HR.out
          rw [List.take_of_length_le (by omega), List.take_of_length_le (by omega)] at this
          exact this
        clear hl
        go_wp2
        go_ret
        exact ⟨ret_bool (by simp; exact HE.out), _, rfl⟩
  · have HE : Hid (a = b → False) := fun h => hl (by rw [h])
    have hl' : ((a.length : Int) != (b.length : Int)) = true := by simp; omega
    go_enter Tryz.func20, Tryz.ntmps20
    go_wp2
    go_ret
    exact ⟨ret_bool (by simp; exact HE.out), 0, rfl⟩

set_option maxHeartbeats 1000000 in
theorem kpick_any (c n : Int) (w : World) (hc0 : -9223372036854775808 ≤ c) (hc1 : c ≤ 9223372036854775807) (hn : 0 < n) (hn2 : n ≤ 4194304) :
    Calls Tryz.prog 11 #[.int .i64 c, .int .i64 n] w fun e w' => ∃ r : Int, e = .returned (.int .i64 r) ∧ 0 ≤ r ∧ r < n ∧ w' = w := by
  by_cases h : c < 0
  · have HM : Hid (-(c + 1).tmod n = (-(c + 1)) % n) := by
      show _ = _
      rw [← Int.neg_tmod, Int.tmod_eq_emod_of_nonneg (by omega)]
    go_enter Tryz.func11, Tryz.ntmps11
    go_wp2
    go_ret
    exact ⟨_, rfl, by rw [HM.out]; exact Int.emod_nonneg _ (by omega), by rw [HM.out]; exact Int.emod_lt_of_pos _ hn, rfl⟩
  · go_enter Tryz.func11, Tryz.ntmps11
    go_wp2
    go_ret
    exact ⟨_, rfl, Int.emod_nonneg _ (by omega), Int.emod_lt_of_pos _ hn, rfl⟩


/-- done: what lies ahead of the key, the key, what lies behind. -/
def kdoneL (l : List (Nm × Nm)) (o : Ox) : List (Nm × Nm) := (l.takeWhile fun x => bytesBefore x.1 o.key) ++ (if o.gone then [] else [(o.key, o.val)]) ++ l.filter fun x => bytesBefore o.key x.1
theorem takeWhile_take {l : List (Nm × Nm)} {p : Nm × Nm → Bool} {k : Nat} (h : k < l.length) (ht : (l.take k).all p = true) : (p l[k] = true → (l.take (k + 1)).all p = true) ∧ (p l[k] = false → l.takeWhile p = l.take k) := by
  constructor
  · intro hp
    rw [List.take_succ_eq_append_getElem h, List.all_append, ht]
    simp [hp]
  · intro hp
    induction l generalizing k with
    | nil => simp at h
    | cons x r ih =>
      cases k with
      | zero => simp only [List.getElem_cons_zero] at hp; simp [List.takeWhile, hp]
      | succ k =>
        simp only [List.take_succ_cons, List.all_cons, Bool.and_eq_true] at ht
        simp only [List.getElem_cons_succ] at hp
        rw [List.takeWhile_cons_of_pos ht.1, List.take_succ_cons, ih (by simpa using h) ht.2 hp]
theorem takeWhile_whole {l : List (Nm × Nm)} {p : Nm × Nm → Bool} (ht : l.all p = true) : l.takeWhile p = l := by
  induction l with
  | nil => rfl
  | cons x r ih => simp only [List.all_cons, Bool.and_eq_true] at ht; rw [List.takeWhile_cons_of_pos ht.1, ih ht.2]

end Go.Proofs.YtfghgmojnffgnaaGreat
