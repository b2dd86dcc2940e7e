import Derived.Test.YtoabedkcieindaaGreatDoorPkAT
import Derived.Test.YtoabedkcieindaaGreatDoorPkAZ
namespace Go.Proofs.YtoabedkcieindaaGreatDoor
open Go.RowKit Go.Maps Go.Sort

theorem manBody_len (m : Man) {k : Nat} (h : k ≤ m.tabs.length) : (manBody m k).length = 16 + 16 * k := by
  induction k with
  | zero => simp [manBody, be8_len]
  | succ k ih => rw [manBody_snoc (by omega), List.length_append, List.length_append, ih (by omega), be8_len, be8_len]; omega

set_option maxHeartbeats 2000000 in
set_option maxRecDepth 20000 in
theorem manEncode_any (q : Option Addr) (qc : Nat) (m : Man) (w : World) (hp : Plp w q m.tabs) (hl : m.tabs.length ≤ 4000) (h1 : m.next < 9223372036854775808) (h2 : m.log < 9223372036854775808) (h3 : ∀ p ∈ m.tabs, p.number < 9223372036854775808 ∧ p.level < 9223372036854775808) :
    Calls Tryz.prog 241 #[.agg #[.int .i64 m.next, .int .i64 m.log, .slice q m.tabs.length qc]] w fun e w' => e = .returned (str (encMan m)) ∧ Below w.heap.size w w' := by
  have hA := appendNumber_any (.slice none 0 0) [] m.next (w.alloc (.cells #[.int .i64 m.next, .int .i64 m.log, .slice q m.tabs.length qc] 252)) (w.heap.size + 1) (by simp) (World.ownsRow_nil _ _ _ _) h1 (by simp)
  go_enter Tryz.func241, Tryz.ntmps241
  go_wp2_with (first
    | (go_at_call 298; refine hA.mono ?_; rintro e w1 ⟨v1, rfl, hown1, hb1, hn1⟩; clear hA hn1; have hbk : w1.heap[w.heap.size]? = some (.cells #[.int .i64 m.next, .int .i64 m.log, .slice q m.tabs.length qc] 252) := (hb1.block _ (by omega)).trans (block_new w _); have hs1 := hb1.size; simp only [World.size_alloc] at hs1; obtain ⟨q0, q1, q2, f0, f1, f2⟩ := cells3 hbk; obtain ⟨a1, n1, cap1, rfl⟩ := ownB_some hown1; have hA2 := appendNumber_any _ _ m.log w1 (w.heap.size + 1) (by omega) hown1 h2 (by simp [be8_len]))
    | (go_at_call 298; refine hA2.mono ?_; rintro e w2 ⟨v2, rfl, hown2, hb2, hn2⟩; clear hA2 hn2 q0 q1 q2 f0 f1 f2; have hbk2 := (hb2.block _ (by omega)).trans hbk; have hs2 := hb2.size; obtain ⟨q0, q1, q2, f0, f1, f2⟩ := cells3 hbk2; obtain ⟨a2, n2, cap2, rfl⟩ := ownB_some hown2)
    | go_in)
  go_loopw [3, 16] (fun v i wr => ∃ k : Nat, k ≤ m.tabs.length ∧ i = .int .i64 k ∧ OwnB wr (w.heap.size + 1) v (manBody m k) ∧ Below w.heap.size w wr ∧ w.heap.size + 1 ≤ wr.heap.size) (fun _ i _ => m.tabs.length - (intOf i).toNat)
  case atStart =>
    refine ⟨0, Nat.zero_le _, rfl, ?_, ?_, by omega⟩
    · simpa [manBody] using hown2
    · exact (((Below.refl _ w).alloc (Nat.le_refl _) _).trans (hb1.mono (by omega))).trans (hb2.mono (by omega))
  case round =>
    clear q0 q1 q2 f0 f1 f2 hbk hbk2 hown1 hown2 hb1 hb2 hs1 hs2
    obtain ⟨k, hk, rfl, hown, hb, hs⟩ := hrel
    have hle : (manBody m k).length ≤ 64016 := by rw [manBody_len m hk]; omega
    have hge : 16 ≤ (manBody m k).length := by rw [manBody_len m hk]; omega
    by_cases hlt : k < m.tabs.length
    · obtain ⟨g, off, rfl, c0, c1⟩ := hp.below hb k hlt
      have h3k := h3 _ (List.getElem_mem hlt)
      have hS := manBody_snoc hlt
      have HS : Hid (manBody m (k + 1) = manBody m k ++ be8 m.tabs[k].number ++ be8 m.tabs[k].level) := hS
      clear hS
      obtain ⟨a, n, cap, rfl⟩ := ownB_some hown
      have hA := appendNumber_any (.slice a n cap) (manBody m k) m.tabs[k].number (wr.alloc (.cells #[encN m.tabs[k].number, encN m.tabs[k].level] 267)) (w.heap.size + 1) (by simp; omega) (hown.alloc _) h3k.1 (by omega)
      go_wp2_with (first
        | (go_at_call 298; refine hA.mono ?_; rintro e w1 ⟨v1, rfl, hown1, hb1, hn1⟩; clear hA; have hbk := hn1 _ _ _ _ (block_new wr _) (by decide); have hs1 := hb1.size; simp only [World.size_alloc] at hs1; obtain ⟨q0, q1, f0, f1⟩ := cells2 hbk; obtain ⟨a1, n1, cap1, rfl⟩ := ownB_some hown1; have hA2 := appendNumber_any _ _ m.tabs[k].level w1 (w.heap.size + 1) (by omega) hown1 h3k.2 (by simp [be8_len]; omega))
        | (go_at_call 298; refine hA2.mono ?_; rintro e w2 ⟨v2, rfl, hown2, hb2, hn2⟩; clear hA2 q0 q1 f0 f1; have hs2 := hb2.size; obtain ⟨a2, n2, cap2, rfl⟩ := ownB_some hown2)
        | go_in)
      go_roundw
      case rel => exact ⟨k + 1, by omega, by go_num, by rw [HS.out]; exact hown2, ((hb.alloc (by omega) _).trans (hb1.mono (by omega))).trans (hb2.mono (by omega)), by omega⟩
      case measure => simp [intOf]; omega
    · have E : manBody m k = be8 m.next ++ (be8 m.log ++ m.tabs.flatMap encPl) := by unfold manBody; rw [List.take_of_length_le (by omega)]
      have HE : Hid (encMan m = sealT (manBody m k)) := by show _ = _; rw [E]; rfl
      clear E
      generalize manBody m k = B at *
      obtain ⟨a, cap, rfl⟩ := ownB_shape hown
      obtain ⟨g, rfl⟩ : ∃ g, a = some ⟨g, 0, none⟩ := by
        rcases hown.2 with ⟨hv, hn⟩ | ⟨g, cap', cur, hv, _⟩
        · omega
        · exact ⟨g, by simpa using (Value.slice.inj hv).1⟩
      have hSe := seal_any g cap (w.heap.size + 1) B wr hs hown (by omega)
      generalize sealT B = T at *
      go_wp2_with (go_at_call 167; refine hSe.mono ?_; rintro e w1 ⟨rfl, hb1⟩)
      go_ret
      rw [HE.out]
      exact ⟨rfl, hb.trans (hb1.mono (by omega))⟩

end Go.Proofs.YtoabedkcieindaaGreatDoor

namespace Go.Proofs.YtoabedkcieindaaGreatDoor
open Go.RowKit Go.Maps Go.Sort Go.Shelf

def CmPost (w w' : World) (S E : Nat → Prop) (T bd bm bsn : Nat) (r : Int × Dk × Ls) : Prop :=
  ∃ S' E' s' l', (∀ k, S' k → Nw S w k) ∧ (∀ k, E' k → Nw E w k) ∧ (∀ k, E' k → ¬ S' k) ∧ ¬ S' T ∧ ¬ S' bm ∧ ¬ S' bsn ∧ ProgAt w' S' bd r.2.1 ∧ LsAt w' E' T bd bm bsn s' l' r.2.2

theorem Our.len {n : Nm} (h : Our n) : n.length ≤ 1000 := by
  rcases h with rfl | rfl | ⟨k, _, rfl | rfl⟩
  · decide
  · decide
  · have := lgN_ok k
    simp only [nameOk, Bool.and_eq_true, decide_eq_true_eq] at this
    omega
  · exact tbN_len k

structure Swp (d : Dk) : Prop where
  ok : d.Ok
  few : d.files.length ≤ 1000000
  live : d.dead = false
  our : ∀ n ∈ nmsOf d.files, Our n
theorem sweepX_own (st : Ls) {d : Dk} (h : Swp d) : sweepX st d = sweepO st.log st.tabs (nmsOf d.files) d := by
  unfold sweepX
  rw [h.live]
  simp only [Bool.false_eq_true, if_false]
  exact sweepF_own st _ d h.our

set_option maxHeartbeats 400000 in
set_option maxRecDepth 20000 in
theorem commit_door (R : Ending → World → Prop) (tmps : Array Value) (T bd bm bsn : Nat) (s : Sl) (l : List Tr) (st : Ls) (d : Dk) (S E : Nat → Prop) (w : World) (hL : LsAt w E T bd bm bsn s l st) (hP : ProgAt w S bd d) (hS : Swp d) (hST : ¬ S T) (hSE : ∀ k, E k → ¬ S k) (hlg : st.log ≤ 1000001) (hl : l.length ≤ 1000) (hnum : ∀ x ∈ l, x.1.number ≤ 10000000000000)
    (hR : ∀ w2, ProgAt w2 (Nw (fun k => S k ∧ k < w.heap.size) w) bd (sweepX st d).2 → Kp (fun k => S k ∧ k < w.heap.size) w w2 → R (.returned (tmps.getD 6 undef)) w2) :
    bodyPostD Tryz.prog Tryz.f182 R Exit.ret { tmps := tmps, defers := [{ target := .fn (.func 164) #[], args := #[.pointer (some ⟨T, 0, none⟩)] }] } w := by
  have hP' : ProgAt w (fun k => S k ∧ k < w.heap.size) bd d := hP.mono (fun k hk s => ⟨s, hk⟩)
  have hsw := sweepD_any .returning T bd st.log s l d _ w (hL.cell 0) (hL.cell 4) (hL.cell 6) (fun h => hST h.1) hL.tab (fun a ha _ h => hSE _ (hL.inT a ha) h.1) hP' hS.ok hS.few hS.live hS.our (fun n hn => (hS.our n hn).len) (by omega) (fun x hx => by have := hnum x hx; omega) hl
  rw [hL.is, ← sweepX_own st hS] at hsw
  show Leaves Tryz.prog Tryz.f182 tmps R _ .returning w
  refine leaves_cons (f := 164) (args := #[.pointer (some ⟨T, 0, none⟩)]) (by simp) (by simp [go_sem]) ?_
  refine hsw.mono ?_
  rintro e u' w2 ⟨rfl, rfl, hP2, k2⟩
  exact ⟨_, results_tmp rfl _ _ _, hR w2 hP2 k2⟩

set_option maxHeartbeats 400000 in
set_option maxRecDepth 20000 in
theorem commit_bad (T bd bm bsn : Nat) (s s2 : Sl) (l l2 : List Tr) (st : Ls) (d : Dk) (S E : Nat → Prop) (log : Nat) (w : World) (hL : LsAt w E T bd bm bsn s l st) (h2 : TrAt w s2 l2) (he2 : TrEs w l2) (hE2 : ∀ x ∈ l2, ∀ a, x.2.1 = some a → E a.block)
    (hP : ProgAt w S bd d) (hok : d.Ok) (hfl : d.files.length ≤ 100000) (hST : ¬ S T) (hSm : ¬ S bm) (hSn : ¬ S bsn) (hSE : ∀ k, E k → ¬ S k) (hnx : st.next ≤ 1000000000000) (hlg : st.log ≤ 1000000) (hl : l.length ≤ 1000) (hl2 : l2.length ≤ 1000)
    (hnum : ∀ x ∈ l, x.1.number ≤ 1000000000000) (hnum2 : ∀ x ∈ l2, x.1.number ≤ 1000000000000 ∧ x.1.level ≤ 1000000) (hes : ∀ x ∈ l2, LyOk x.1.es ∧ x.1.es ≠ [] ∧ x.1.es.length ≤ 500)
    (hA1 : Swp (writtenF st.next (l2.map (·.1)) d).2.1) (hx1 : (writtenF st.next (l2.map (·.1)) d).1 ≠ 0) :
    Calls Tryz.prog 182 #[.pointer (some ⟨T, 0, none⟩), slV s2, .int .i64 log] w fun e w' => e = .returned (.int .i64 (commitX d st (l2.map (·.1)) log).1) ∧ CmPost w w' S E T bd bm bsn (commitX d st (l2.map (·.1)) log) ∧ Kp (fun k => S k ∨ k = T ∨ k = bm) w w' := by
  have hWn := written_any T bd st.next s2 l2 d S w (hL.cell 0) (hL.cell 5) hST h2 he2 (fun x hx a ha _ => hSE _ (hE2 x hx a ha)) hP hok (by omega) (by omega) (fun x hx => by have := hnum2 x hx; omega) hl2 hes
  have hTl := lt_of_block hL.blk
  obtain ⟨X, hX⟩ : ∃ X, writtenF st.next (l2.map (·.1)) d = X := ⟨_, rfl⟩
  rw [hX] at hWn hA1 hx1
  have hx : ¬ X.1 = 0 := hx1
  clear hx1
  · have HC : Hid (commitX d st (l2.map (·.1)) log = (X.1, (sweepX st X.2.1).2, st)) := by show _ = _; unfold commitX; rw [hX]; simp only [ne_eq, hx, not_false_eq_true, if_true]
    clear hX
    obtain ⟨x0, hx0⟩ : ∃ x0, X.1 = x0 := ⟨_, rfl⟩
    rw [hx0] at hx hWn HC
    clear hx0
    go_enter_defers Tryz.func182, Tryz.ntmps182
    go_wp2_with (go_at_call 239; refine hWn.mono ?_; rintro e w1 ⟨v1, n1, rfl, hP1, k1, hs1⟩)
    have hS1T : ¬ (fun k => Nw S w k ∧ v1.ownBlock ≠ some k) T := by rintro ⟨h | h, _⟩; exact hST h; omega
    have hEl : ∀ k, E k → ¬ (fun k => Nw S w k ∧ v1.ownBlock ≠ some k) k := by rintro k h1 ⟨h | h, _⟩; exact hSE k h1 h; have := hL.bnd k h1; omega
    have hL1 : LsAt w1 E T bd bm bsn s l st := hL.kept k1 hST hSm hSn hSE
    refine commit_door _ _ T bd bm bsn s l st X.2.1 _ _ w1 hL1 hP1 hA1 hS1T hEl (by omega) hl (fun x hx => by have := hnum x hx; omega) (fun w2 hP2 k2 => ?_)
    have hbm := hL.mem.lt
    have hbn := lt_of_block hL.snp
    have hz1 := k1.size
    rw [HC.out]
    refine ⟨rfl, ⟨_, _, s, l, fun k hk => hk.elim (fun h => h.1.1) (fun h => .inr (Nat.le_trans hz1 h)), fun k hk => .inl hk, fun k hk h => h.elim (fun h => hEl k hk h.1) (fun h => by have := hL.bnd k hk; omega), fun h => h.elim (fun h => hS1T h.1) (fun h => by omega), ?_, ?_, hP2, hL1.kept k2 (fun h => hS1T h.1) ?_ ?_ (fun k hk h => hEl k hk h.1)⟩, ?_⟩
    · rintro (⟨⟨h | h, _⟩, _⟩ | h); exact hSm h; omega; omega
    · rintro (⟨⟨h | h, _⟩, _⟩ | h); exact hSn h; omega; omega
    · rintro ⟨⟨h | h, _⟩, _⟩; exact hSm h; omega
    · rintro ⟨⟨h | h, _⟩, _⟩; exact hSn h; omega
    · exact (k1.mono (fun k h => .inl h)).trans k2 (fun k hk h => .inl (h.1.1.elim id (fun h => by omega)))

end Go.Proofs.YtoabedkcieindaaGreatDoor
