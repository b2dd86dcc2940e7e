import Derived.Test.YtoabedkcieindaaGreatDoorPkBB
import Derived.Test.YtoabedkcieindaaGreatDoorPkAB
import Derived.Deep.RegionHeld3
import Derived.Deep.DrawnRows
import Derived.StillTailTactics
namespace Go.Proofs.YtoabedkcieindaaGreatDoor
open Go.RowKit Go.Maps Go.Sort Go.Shelf

theorem Kp.low {S : Nat → Prop} {w w1 w2 : World} {T bm : Nat} (hb : Below w.heap.size w w1) (k : Kp (fun k => (S k ∧ k < w.heap.size) ∨ k = T ∨ k = bm) w1 w2) : Kp (fun k => S k ∨ k = T ∨ k = bm) w w2 :=
  (Kp.of_below (S := fun k => S k ∨ k = T ∨ k = bm) hb).trans k (fun _ _ h => h.elim (fun h => .inl h.1) .inr)
theorem CmPost.low {w w1 w2 : World} {S E : Nat → Prop} {T bd bm bsn : Nat} {r : Int × Dk × Ls} (hb : Below w.heap.size w w1) (h : CmPost w1 w2 (fun k => S k ∧ k < w.heap.size) (fun i => E i ∨ (w.heap.size ≤ i ∧ i < w1.heap.size)) T bd bm bsn r) : CmPost w w2 S E T bd bm bsn r := by
  obtain ⟨S', E', s', l', h1, h2, h3⟩ := h
  refine ⟨S', E', s', l', fun k hk => (h1 k hk).elim (fun h => .inl h.1) (fun h => .inr (Nat.le_trans hb.size h)), fun k hk => (h2 k hk).elim (fun h => h.elim .inl (fun h => .inr h.1)) (fun h => .inr (Nat.le_trans hb.size h)), h3⟩

set_option maxHeartbeats 400000 in
set_option maxRecDepth 20000 in
theorem settle_any (T bd bm bsn : Nat) (s s2 : Sl) (l l2 : List Tr) (st : Ls) (d : Dk) (S E : Nat → Prop) (log M : Nat) (w : World) (hL : LsAt w E T bd bm bsn s l st) (hI : ShI w w s2 l2 st.policy M s2 l2) (hM : M ≤ 1000000) (hpo : 0 ≤ st.policy ∧ st.policy ≤ 2) (hE2 : ∀ x ∈ l2, ∀ a, x.2.1 = some a → E a.block)
    (hP : ProgAt w S bd d) (hok : d.Ok) (hfl : d.files.length ≤ 100000) (hST : ¬ S T) (hSm : ¬ S bm) (hSn : ¬ S bsn) (hSE : ∀ k, E k → ¬ S k) (hnx : st.next ≤ 1000000000000) (hlg : st.log ≤ 1000000) (hlog : log ≤ 1000001) (hl : l.length ≤ 1000)
    (hnum : ∀ x ∈ l, x.1.number ≤ 1000000000000) (hsh : ∀ t ∈ shapedX st.policy [] (l2.map (·.1)), t.number ≤ 1000000000000 ∧ t.level ≤ 1000000 ∧ LyOk t.es ∧ t.es ≠ [] ∧ t.es.length ≤ 500)
    (hA1 : Swp (writtenF st.next (shapedX st.policy [] (l2.map (·.1))) d).2.1) (hA2 : Swp (lreplace (writtenF st.next (shapedX st.policy [] (l2.map (·.1))) d).2.1 manN (encMan (manOf (writtenF st.next (shapedX st.policy [] (l2.map (·.1))) d).2.2.1 log (writtenF st.next (shapedX st.policy [] (l2.map (·.1))) d).2.2.2))).2)
    (h3 : (commitX d st (shapedX st.policy [] (l2.map (·.1))) log).1 ≠ 3) :
    Calls Tryz.prog 170 #[.pointer (some ⟨T, 0, none⟩), slV s2, .int .i64 log] w fun e w' => e = .returned (.int .i64 (settleX d st (l2.map (·.1)) log).1) ∧ CmPost w w' S E T bd bm bsn (settleX d st (l2.map (·.1)) log) ∧ Kp (fun k => S k ∨ k = T ∨ k = bm) w w' := by
  obtain ⟨a2, n2, c2⟩ := s2
  obtain rfl : n2 = l2.length := hI.at_.len
  have hkept : st.kept = [] := by unfold Ls.kept; rw [hL.sn0]; rfl
  have hSh := shaped_nil T bsn st.policy M _ l2 w (hL.cell 2) (hL.cell 9) hL.snp hpo hM hI
  have hTl := lt_of_block hL.blk
  have hP0 : ProgAt w (fun k => S k ∧ k < w.heap.size) bd d := hP.mono (fun k hk s => ⟨s, hk⟩)
  have next : ∀ (w1 : World) (s3 : Sl) (l3 : List Tr), ShI w w1 (a2, l2.length, c2) l2 st.policy M s3 l3 → l3.map (·.1) = shapedX st.policy [] (l2.map (·.1)) → Calls Tryz.prog 182 #[.pointer (some ⟨T, 0, none⟩), slV s3, .int .i64 log] w1 fun e w' => e = .returned (.int .i64 (commitX d st (shapedX st.policy [] (l2.map (·.1))) log).1) ∧ CmPost w w' S E T bd bm bsn (commitX d st (shapedX st.policy [] (l2.map (·.1))) log) ∧ Kp (fun k => S k ∨ k = T ∨ k = bm) w w' := fun w1 s3 l3 h e => by
    have hmem : ∀ x ∈ l3, x.1 ∈ shapedX st.policy [] (l2.map (·.1)) := fun x hx => by rw [← e]; exact List.mem_map.2 ⟨x, hx, rfl⟩
    have hC := commit_call T bd bm bsn s s3 l l3 st d (fun k => S k ∧ k < w.heap.size) _ log w1 (hL.grow h.bel) h.at_ h.es (h.inE hE2 (fun x hx => (hsh _ (hmem x hx)).2.2.2.1)) (progBelow hP0 h.bel) hok hfl (fun h => hST h.1) (fun h => hSm h.1) (fun h => hSn h.1) (fun k hk hs => hk.elim (fun hk => hSE k hk hs.1) (fun hk => by omega)) hnx hlg hlog hl h.len hnum (fun x hx => ⟨(hsh _ (hmem x hx)).1, (hsh _ (hmem x hx)).2.1⟩) (fun x hx => (hsh _ (hmem x hx)).2.2) (by rw [e]; exact hA1) (by rw [e]; exact hA2)
    rw [e] at hC
    refine hC.mono ?_
    rintro e' w2 ⟨rfl, hp, hk⟩
    exact ⟨rfl, hp.low h.bel, hk.low h.bel⟩
  have HS : Hid (settleX d st (l2.map (·.1)) log = if ¬ (shapedX st.policy [] (l2.map (·.1))).length < l2.length ∧ log = st.log then (0, d, st) else commitX d st (shapedX st.policy [] (l2.map (·.1))) log) := by
    show _ = _
    unfold settleX
    rw [hkept]
    simp only [List.length_map]
    split
    · rfl
    · rw [if_neg (fun h => h3 h.1)]
  obtain ⟨n, hn⟩ : ∃ n, (shapedX st.policy [] (l2.map (·.1))).length = n := ⟨_, rfl⟩
  rw [hn] at HS
  have HN : Hid ((shapedX st.policy [] (l2.map (·.1))).length = n) := hn
  clear hn
  obtain ⟨Z, hZ⟩ : ∃ Z, commitX d st (shapedX st.policy [] (l2.map (·.1))) log = Z := ⟨_, rfl⟩
  rw [hZ] at next HS h3
  clear hZ
  obtain ⟨z0, hz0⟩ : ∃ z0, Z.1 = z0 := ⟨_, rfl⟩
  rw [hz0] at next h3
  have HZ : Hid (Z.1 = z0) := hz0
  clear hz0 hkept
  rw [show slV (a2, l2.length, c2) = .slice a2 l2.length c2 from rfl] at hSh ⊢
  by_cases hm : n < l2.length
  · have HQ : Hid (settleX d st (l2.map (·.1)) log = Z) := by show _ = _; rw [HS.out, if_neg (fun h => h.1 hm)]
    clear HS
    have hm' : (n : Int) < (l2.length : Int) := by omega
    go_enter Tryz.func170, Tryz.ntmps170
    go_wp2_with (first | (go_at_call 225; refine hSh.mono ?_; rintro e w1 ⟨⟨a3, n3, c3⟩, l3, rfl, hI3, e3⟩; have hn3 : n3 = n := (hI3.at_.len.trans (List.length_map (fun x : Tr => x.1)).symm).trans ((congrArg List.length e3).trans HN.out); subst hn3; have hC := next w1 (a3, n3, c3) l3 hI3 e3; have hslv : slV (a3, n3, c3) = Value.slice a3 n3 c3 := rfl; rw [hslv] at hC ⊢; clear hslv; have c6 := cell_below hI3.bel (hL.cell 6); have E3 : Hid _ := e3; clear e3) | (go_at_call 182; refine hC.mono ?_; rintro e w2 ⟨rfl, hp2, k2⟩))
    go_ret
    rw [HQ.out]
    exact ⟨by rw [HZ.out]; rfl, hp2, k2⟩
  · by_cases hlo : log = st.log
    · have HQ : Hid (settleX d st (l2.map (·.1)) log = (0, d, st)) := by show _ = _; rw [HS.out, if_pos ⟨hm, hlo⟩]
      clear HS
      have hlo' : (log : Int) = (st.log : Int) := by omega
      have hm' : ¬ ((n : Int) < (l2.length : Int)) := by omega
      go_enter Tryz.func170, Tryz.ntmps170
      go_wp2_with (go_at_call 225; refine hSh.mono ?_; rintro e w1 ⟨⟨a3, n3, c3⟩, l3, rfl, hI3, e3⟩; have hn3 : n3 = n := (hI3.at_.len.trans (List.length_map (fun x : Tr => x.1)).symm).trans ((congrArg List.length e3).trans HN.out); subst hn3; have hC := next w1 (a3, n3, c3) l3 hI3 e3; have hslv : slV (a3, n3, c3) = Value.slice a3 n3 c3 := rfl; rw [hslv] at hC ⊢; clear hslv; have c6 := cell_below hI3.bel (hL.cell 6); have E3 : Hid _ := e3; clear e3)
      go_ret
      rw [HQ.out]
      refine ⟨rfl, ⟨fun k => S k ∧ k < w.heap.size, E, s, l, fun k h => .inl h.1, fun k h => .inl h, fun k hk h => hSE k hk h.1, fun h => hST h.1, fun h => hSm h.1, fun h => hSn h.1, progBelow hP0 hI3.bel, hL.below hI3.bel⟩, Kp.of_below hI3.bel⟩
    · have HQ : Hid (settleX d st (l2.map (·.1)) log = Z) := by show _ = _; rw [HS.out, if_neg (fun h => hlo h.2)]
      clear HS
      have hlo' : ¬ ((log : Int) = (st.log : Int)) := by omega
      have hm' : ¬ ((n : Int) < (l2.length : Int)) := by omega
      go_enter Tryz.func170, Tryz.ntmps170
      go_wp2_with (first | (go_at_call 225; refine hSh.mono ?_; rintro e w1 ⟨⟨a3, n3, c3⟩, l3, rfl, hI3, e3⟩; have hn3 : n3 = n := (hI3.at_.len.trans (List.length_map (fun x : Tr => x.1)).symm).trans ((congrArg List.length e3).trans HN.out); subst hn3; have hC := next w1 (a3, n3, c3) l3 hI3 e3; have hslv : slV (a3, n3, c3) = Value.slice a3 n3 c3 := rfl; rw [hslv] at hC ⊢; clear hslv; have c6 := cell_below hI3.bel (hL.cell 6); have E3 : Hid _ := e3; clear e3) | (go_at_call 182; refine hC.mono ?_; rintro e w2 ⟨rfl, hp2, k2⟩))
      go_ret
      rw [HQ.out]
      exact ⟨by rw [HZ.out]; rfl, hp2, k2⟩

end Go.Proofs.YtoabedkcieindaaGreatDoor

namespace Go.Proofs.YtoabedkcieindaaGreatDoor
open Go.RowKit

def Sm (w w' : World) : Prop := Kp (fun _ => False) w w' ∧ w'.heap.size = w.heap.size
@[simp] theorem Sm.rfl' (w : World) : Sm w w := ⟨Kp.refl _ _, rfl⟩
@[simp] theorem Sm.drew' (w w' : World) : Sm w w'.drew ↔ Sm w w' := ⟨fun h => ⟨⟨h.1.os, h.1.tape, h.1.output, h.1.size, h.1.block⟩, h.2⟩, fun h => ⟨h.1.drew, h.2⟩⟩
theorem Sm.below {w w' : World} (h : Sm w w') : Below w.heap.size w w' := h.1.below

end Go.Proofs.YtoabedkcieindaaGreatDoor

namespace Go.Proofs.YtoabedkcieindaaGreatDoor
open Go.RowKit Go.Maps Go.Sort
attribute [local go_sem ↓] Go.wp_at_zero Go.wp_at_succ

set_option maxHeartbeats 400000 in
theorem dTurn_any {w : World} {b : Nat} {m r f dd : Value} {t : Int} (hb : w.heap[b]? = some (.cells #[m, r, f, dd, .int .i64 t] 148)) :
    Calls Tryz.prog 157 #[.pointer (some ⟨b, 0, none⟩)] w fun e w' => e = .returned (.int .i64 t) ∧ w' = w := by
  obtain ⟨c0, c1, c2, c3, c4, f0, f1, f2, f3, f4⟩ := cells5 hb
  clear hb
  go_enter Tryz.func157, Tryz.ntmps157
  go_wp2
  go_ret
  exact ⟨rfl, rfl⟩

set_option maxHeartbeats 400000 in
theorem dTake_any (b : Nat) (d : Dk) (S : Nat → Prop) (w : World) (hP : ProgAt w S b d) (h0 : 0 ≤ d.turn) (h1 : d.turn ≤ 4611686018427387904) :
    Calls Tryz.prog 104 #[.pointer (some ⟨b, 0, none⟩)] w fun e w' => e = .returned (.int .i64 (d.turn + 1)) ∧ ProgAt w' S b { d with turn := d.turn + 1 } ∧ Kp (fun i => i = b) w w' := by
  obtain ⟨bm, ps, hst, hfs⟩ := hP
  obtain ⟨c0, c1, c2, c3, c4, f0, f1, f2, f3, f4⟩ := cells5 hst.blk
  have hst2 := hst.fields (Kp.set1 w b 4 (.int .i64 (d.turn + 1))) ((block_set hst.blk _).trans rfl)
  have ht := dTurn_any hst2.blk
  go_enter Tryz.func104, Tryz.ntmps104
  go_wp2_with (go_at_call 157; refine ht.mono ?_; rintro e w' ⟨rfl, rfl⟩)
  go_ret
  exact ⟨rfl, ⟨bm, ps, hst2, hfs⟩, Kp.set1 _ _ _ _⟩

def lready (dt : Int) (dead : Bool) (st : Ls) : Int := if st.turn ≠ dt then 6 else if dead then 4 else 0

set_option maxHeartbeats 1000000 in
set_option maxRecDepth 20000 in
theorem lReady_any {w : World} {E : Nat → Prop} {bs bd bm bsn : Nat} {s : Sl} {l : List Tr} {st : Ls} (h : LsAt w E bs bd bm bsn s l st) {m r f : Value} {dead : Bool} {t : Int} (hd : w.heap[bd]? = some (.cells #[m, r, f, .bool dead, .int .i64 t] 148)) :
    Calls Tryz.prog 102 #[.pointer (some ⟨bs, 0, none⟩)] w fun e w' => e = .returned (.int .i64 (lready t dead st)) ∧ Below w.heap.size w w' := by
  have c0 : w.cell? ⟨bs, 0, none⟩ = some (.pointer (some ⟨bd, 0, none⟩)) := h.cell 0
  have c1 : w.cell? ⟨bs, 1, none⟩ = some (.int .i64 st.turn) := h.cell 1
  have ht : ∀ w', Sm w w' → _ := fun w' e => dTurn_any (w := w') (e.1.at hd (fun f => f))
  have hdd : ∀ w', Sm w w' → _ := fun w' e => isDead_any (w := w') (e.1.at hd (fun f => f))
  clear h hd
  by_cases e : st.turn = t
  · have HX : Hid (lready t dead st = if dead then 4 else 0) := by simp [Hid, lready, e]
    rw [e] at c1
    go_enter Tryz.func102, Tryz.ntmps102
    go_wp2
    go_region_held3 (fun w' => w'.cell? ⟨bs, 0, none⟩ = some (.pointer (some ⟨bd, 0, none⟩)) ∧ w'.cell? ⟨bs, 1, none⟩ = some (.int .i64 t) ∧ Sm w w') (go_keep)
      (first | (go_at_call 157; refine (ht _ ?_).mono ?_; (simp [*]); rintro e w' ⟨rfl, rfl⟩))
    cases dead
    all_goals
      go_wp2_with (go_at_call 99; refine (hdd _ ?_).mono ?_; (simp); rintro e w' ⟨rfl, rfl⟩)
      go_ret
      rw [HX.out]
      exact ⟨rfl, (Below.refl _ _).drew⟩
  · have HX : Hid (lready t dead st = 6) := by simp [Hid, lready, e]
    go_enter Tryz.func102, Tryz.ntmps102
    go_wp2
    go_region_held3 (fun w' => w'.cell? ⟨bs, 0, none⟩ = some (.pointer (some ⟨bd, 0, none⟩)) ∧ w'.cell? ⟨bs, 1, none⟩ = some (.int .i64 st.turn) ∧ Sm w w') (go_keep)
      (first | (go_at_call 157; refine (ht _ ?_).mono ?_; (simp [*]); rintro e w' ⟨rfl, rfl⟩))
    go_wp2
    go_ret
    rw [HX.out]
    exact ⟨rfl, (Below.refl _ _).drew⟩

set_option maxHeartbeats 400000 in
theorem outcome_any {w : World} {bs bd : Nat} {m r f : Value} {dead : Bool} {t e0 : Int} (c0 : w.cell? ⟨bs, 0, none⟩ = some (.pointer (some ⟨bd, 0, none⟩))) (hd : w.heap[bd]? = some (.cells #[m, r, f, .bool dead, .int .i64 t] 148)) :
    Calls Tryz.prog 111 #[.pointer (some ⟨bs, 0, none⟩), .int .i64 e0] w fun e w' => e = .returned (.int .i64 (if dead then 4 else e0)) ∧ w' = w := by
  have hdd := isDead_any hd
  clear hd
  cases dead
  all_goals
    go_enter Tryz.func111, Tryz.ntmps111
    go_wp2_with (go_at_call 99; refine hdd.mono ?_; rintro e w' ⟨rfl, rfl⟩)
    go_ret
    exact ⟨rfl, rfl⟩

end Go.Proofs.YtoabedkcieindaaGreatDoor

namespace Go.Proofs.YtoabedkcieindaaGreatDoor
open Go.RowKit Go.Maps Go.Sort
attribute [local go_sem ↓] Go.wp_at_zero Go.wp_at_succ

def lwritable (dt : Int) (dead : Bool) (st : Ls) : Int := if lready dt dead st ≠ 0 then lready dt dead st else if st.stuck then 7 else 0

set_option maxHeartbeats 1000000 in
theorem lWritable_any {w : World} {E : Nat → Prop} {bs bd bm bsn : Nat} {s : Sl} {l : List Tr} {st : Ls} (h : LsAt w E bs bd bm bsn s l st) {m r f : Value} {dead : Bool} {t : Int} (hd : w.heap[bd]? = some (.cells #[m, r, f, .bool dead, .int .i64 t] 148)) :
    Calls Tryz.prog 96 #[.pointer (some ⟨bs, 0, none⟩)] w fun e w' => e = .returned (.int .i64 (lwritable t dead st)) ∧ Below w.heap.size w w' := by
  have hr := lReady_any h hd
  by_cases e : lready t dead st = 0
  · have HX : Hid (lwritable t dead st = if st.stuck then 7 else 0) := by simp [Hid, lwritable, e]
    rw [e] at hr
    cases hs : st.stuck
    all_goals
      rw [hs] at HX
      go_enter Tryz.func96, Tryz.ntmps96
      go_wp2_with (go_at_call 102; refine hr.mono ?_; rintro e w1 ⟨rfl, hb⟩; have h1 := h.below hb; have c12 : w1.cell? ⟨bs, 12, none⟩ = some (.bool st.stuck) := h1.cell 12; rw [hs] at c12)
      go_ret
      rw [HX.out]
      exact ⟨rfl, hb⟩
  · have HX : Hid (lwritable t dead st = lready t dead st) := by simp [Hid, lwritable, e]
    have HE : ¬ lready t dead st = 0 := e
    clear e
    generalize lready t dead st = R at *
    go_enter Tryz.func96, Tryz.ntmps96
    go_wp2_with (go_at_call 102; refine hr.mono ?_; rintro e w1 ⟨rfl, hb⟩)
    go_ret
    rw [HX.out]
    exact ⟨rfl, hb⟩


end Go.Proofs.YtoabedkcieindaaGreatDoor

namespace Go.Proofs.YtoabedkcieindaaGreatDoor
open Go.RowKit Go.Maps Go.Sort Go.Shelf


set_option maxHeartbeats 400000 in
set_option maxRecDepth 20000 in
theorem flush_empty (T bd bm bsn : Nat) (s : Sl) (l : List Tr) (st : Ls) (E : Nat → Prop) (w : World) (R : Ending → World → Prop) (hL : LsAt w E T bd bm bsn s l st) (hm0 : st.mem = [])
    (hSt : Calls Tryz.prog 170 #[.pointer (some ⟨T, 0, none⟩), slV s, .int .i64 st.log] w.drew fun e w' => (∃ v, e = .returned v) ∧ R e w') :
    Calls Tryz.prog 117 #[.pointer (some ⟨T, 0, none⟩)] w fun e w' => R e w' := by
  obtain ⟨xs, hmx, hm, _⟩ := hL.mem
  rw [hm0] at hmx
  obtain rfl : xs = [] := by cases xs with | nil => rfl | cons a r => simp [mmOf] at hmx
  have c3 : w.cell? ⟨T, 3, none⟩ = some (.map (some bm)) := hL.cell 3
  have c4 : w.cell? ⟨T, 4, none⟩ = some (slV s) := hL.cell 4
  have c6 : w.cell? ⟨T, 6, none⟩ = some (.int .i64 st.log) := hL.cell 6
  have hsz : Maps.size (datX []) = 0 := rfl
  go_enter Tryz.func117, Tryz.ntmps117
  go_wp2_with (at_len; refine wpList_len_own _ rfl _ 141 rfl 9 162 Tryz.underlying141 _ bm 0 (datX []) rfl hm ?_; rw [hsz])
  refine wp_region_still_tail 9 mixedP (by kernel_rfl) ?_
  simp only [List.take_succ_cons, List.take_zero, List.drop_succ_cons, List.drop_zero]
  (iterate 9 still_step)
  refine wpStill_nil ?_
  rw [show (⟨w.heap, w.tape, w.drawn + 1, w.os, w.output⟩ : World) = w.drew from rfl]
  go_wp2_with (go_at_call 170; refine hSt.mono ?_; rintro e w' ⟨⟨v, rfl⟩, hR⟩)
  exact hR

end Go.Proofs.YtoabedkcieindaaGreatDoor

namespace Go.Proofs.YtoabedkcieindaaGreatDoor
open Go.RowKit Go.Maps Go.Sort Go.Shelf


set_option maxHeartbeats 400000 in
set_option maxRecDepth 20000 in
theorem tend_flush (T bd bm bsn : Nat) (s : Sl) (l : List Tr) (st : Ls) (E : Nat → Prop) (e0 : Int) (w : World) (R : World → Prop) (hL : LsAt w E T bd bm bsn s l st) (hlen : 4096 ≤ st.len)
    (hF : Calls Tryz.prog 117 #[.pointer (some ⟨T, 0, none⟩)] w fun e w' => e = .returned (.int .i64 e0) ∧ R w') :
    Calls Tryz.prog 112 #[.pointer (some ⟨T, 0, none⟩)] w fun e w' => e = .returned (.int .i64 (if e0 = 3 then 0 else e0)) ∧ R w' := by
  have c7 : w.cell? ⟨T, 7, none⟩ = some (.int .i64 st.len) := hL.cell 7
  have hl' : (4096 : Int) ≤ (st.len : Int) := by omega
  by_cases h3 : e0 = 3
  · subst h3
    go_enter Tryz.func112, Tryz.ntmps112
    go_wp2_with (go_at_call 117; refine hF.mono ?_; rintro e w1 ⟨rfl, hR⟩)
    go_ret
    exact ⟨rfl, hR⟩
  · rw [if_neg h3]
    go_enter Tryz.func112, Tryz.ntmps112
    go_wp2_with (go_at_call 117; refine hF.mono ?_; rintro e w1 ⟨rfl, hR⟩)
    go_ret
    exact ⟨rfl, hR⟩

set_option maxHeartbeats 400000 in
set_option maxRecDepth 20000 in
theorem tend_settle (T bd bm bsn : Nat) (s : Sl) (l : List Tr) (st : Ls) (E : Nat → Prop) (e0 : Int) (w : World) (R : World → Prop) (hL : LsAt w E T bd bm bsn s l st) (hlen : ¬ 4096 ≤ st.len)
    (hF : Calls Tryz.prog 170 #[.pointer (some ⟨T, 0, none⟩), slV s, .int .i64 st.log] w.drew fun e w' => e = .returned (.int .i64 e0) ∧ R w') :
    Calls Tryz.prog 112 #[.pointer (some ⟨T, 0, none⟩)] w fun e w' => e = .returned (.int .i64 (if e0 = 3 then 0 else e0)) ∧ R w' := by
  have c7 : w.cell? ⟨T, 7, none⟩ = some (.int .i64 st.len) := hL.cell 7
  have c4 : w.cell? ⟨T, 4, none⟩ = some (slV s) := hL.cell 4
  have c6 : w.cell? ⟨T, 6, none⟩ = some (.int .i64 st.log) := hL.cell 6
  have hl' : ¬ (4096 : Int) ≤ (st.len : Int) := by omega
  by_cases h3 : e0 = 3
  · subst h3
    go_enter Tryz.func112, Tryz.ntmps112
    go_wp2
    refine wp_region_still_tail 9 mixedP (by kernel_rfl) ?_
    simp only [List.take_succ_cons, List.take_zero, List.drop_succ_cons, List.drop_zero]
    (iterate 9 still_step)
    refine wpStill_nil ?_
    rw [show (⟨w.heap, w.tape, w.drawn + 1, w.os, w.output⟩ : World) = w.drew from rfl]
    go_wp2_with (go_at_call 170; refine hF.mono ?_; rintro e w1 ⟨rfl, hR⟩)
    go_ret
    exact ⟨rfl, hR⟩
  · rw [if_neg h3]
    go_enter Tryz.func112, Tryz.ntmps112
    go_wp2
    refine wp_region_still_tail 9 mixedP (by kernel_rfl) ?_
    simp only [List.take_succ_cons, List.take_zero, List.drop_succ_cons, List.drop_zero]
    (iterate 9 still_step)
    refine wpStill_nil ?_
    rw [show (⟨w.heap, w.tape, w.drawn + 1, w.os, w.output⟩ : World) = w.drew from rfl]
    go_wp2_with (go_at_call 170; refine hF.mono ?_; rintro e w1 ⟨rfl, hR⟩)
    go_ret
    exact ⟨rfl, hR⟩

end Go.Proofs.YtoabedkcieindaaGreatDoor

namespace Go.Proofs.YtoabedkcieindaaGreatDoor
open Go.RowKit Go.Maps Go.Sort Go.Shelf

theorem betM_all (m : Mm) : betM [] [] m = flatM m := by
  unfold betM flatM
  rw [List.filter_eq_self.2 (fun x _ => ?_)]
  simp [okB]
  cases x.1 <;> rfl

structure FlI (w w1 : World) (l : List Tr) (es : Ly) (s2 : Sl) (l2 : List Tr) : Prop where
  at_ : TrAt w1 s2 l2
  es_ : TrEs w1 l2
  bel : Below w.heap.size w w1
  is : l2.map (·.1) = l.map (·.1) ++ (if es.isEmpty then [] else [⟨0, 0, es⟩])
  each : ∀ x ∈ l2, x ∈ l ∨ ∀ a, x.2.1 = some a → w.heap.size ≤ a.block ∧ a.block < w1.heap.size

theorem flush_cat (w w2 : World) (l : List Tr) (sq : Option Addr) (n sc : Nat) (es : Ly) (s2 : Sl) (hn : n = l.length) (ht : TrAt w (sq, n, sc) l) (he : TrEs w l) (hll : n ≤ 1000) (hes : es ≠ []) (hs : SlAt w2 s2 es) (hb : Below w.heap.size w w2) (hf : ∀ a, s2.1 = some a → w.heap.size ≤ a.block ∧ a.block < w2.heap.size) :
    Calls Tryz.prog 177 #[.slice (some ⟨w2.heap.size + 1, 0, none⟩) 2 2] ((w2.alloc (.cells #[.int .i64 0, .int .i64 0, slV s2] 164)).alloc (.cells #[.slice sq n sc, .slice (some ⟨w2.heap.size, 0, none⟩) 1 1] 142)) fun e w' => ∃ (q : Option Addr) (m c : Nat), e = .returned (.slice q m c) ∧ FlI w w' l es (q, m, c) (l ++ [(⟨0, 0, es⟩, s2)]) := by
  subst hn
  have hB : Below w.heap.size w ((w2.alloc (.cells #[.int .i64 0, .int .i64 0, slV s2] 164)).alloc (.cells #[.slice sq l.length sc, .slice (some ⟨w2.heap.size, 0, none⟩) 1 1] 142)) := (hb.alloc hb.size _).alloc (by have := hb.size; simp; omega) _
  have hB2 : Below w2.heap.size w2 ((w2.alloc (.cells #[.int .i64 0, .int .i64 0, slV s2] 164)).alloc (.cells #[.slice sq l.length sc, .slice (some ⟨w2.heap.size, 0, none⟩) 1 1] 142)) := ((Below.refl _ w2).alloc (Nat.le_refl _) _).alloc (by simp) _
  have h1 := block_new w2 (.cells #[.int .i64 0, .int .i64 0, slV s2] 164)
  have h2 := block_new (w2.alloc (.cells #[.int .i64 0, .int .i64 0, slV s2] 164)) (.cells #[.slice sq l.length sc, .slice (some ⟨w2.heap.size, 0, none⟩) 1 1] 142)
  rw [World.size_alloc] at h2
  have hL : Ltp ((w2.alloc (.cells #[.int .i64 0, .int .i64 0, slV s2] 164)).alloc (.cells #[.slice sq l.length sc, .slice (some ⟨w2.heap.size, 0, none⟩) 1 1] 142)) (some ⟨w2.heap.size + 1, 0, none⟩) [((sq, l.length, sc), l), ((some ⟨w2.heap.size, 0, none⟩, 1, 1), [(⟨0, 0, es⟩, s2)])] := by
    refine ⟨rp_block slC_len h2 rfl, fun x hx => ?_⟩
    simp only [List.mem_cons, List.not_mem_nil, or_false] at hx
    rcases hx with rfl | rfl
    · exact ht.below hB
    · obtain ⟨a, b, c⟩ := s2
      exact TrAt.one (bes := es) (block_alloc h1)
  have hC := concatT_any (some ⟨w2.heap.size + 1, 0, none⟩) 2 _ _ hL (by simp) (by simp [sumT]; omega)
  simp only [List.length_cons, List.length_nil, Nat.zero_add, Nat.reduceAdd] at hC
  refine hC.mono ?_
  rintro e w3 ⟨v, rfl, hb3, ho⟩
  obtain ⟨⟨q, m, c⟩, rfl, ha, _⟩ := ho.trAt
  have hcat : catT [((sq, l.length, sc), l), (((some ⟨w2.heap.size, 0, none⟩ : Option Addr), 1, 1), [((⟨0, 0, es⟩ : Tb), s2)])] = l ++ [(⟨0, 0, es⟩, s2)] := by simp [catT]
  rw [hcat] at ha
  have hsz := hb3.size
  simp only [World.size_alloc] at hsz
  refine ⟨q, m, c, rfl, ha, fun x hx => ?_, hB.trans (hb3.mono hB.size), ?_, fun x hx => ?_⟩
  · rcases List.mem_append.1 hx with hx | hx
    · exact ((he x hx).below hB).below hb3
    · rw [List.mem_singleton] at hx; subst hx
      exact (hs.below hB2).below hb3
  · rw [List.map_append]
    congr 1
    cases es with
    | nil => exact absurd rfl hes
    | cons a r => rfl
  · rcases List.mem_append.1 hx with hx | hx
    · exact .inl hx
    · rw [List.mem_singleton] at hx; subst hx
      exact .inr fun a ha => ⟨(hf a ha).1, by have := (hf a ha).2; omega⟩

set_option maxHeartbeats 400000 in
set_option maxRecDepth 20000 in
theorem flush_some (T bd bm bsn : Nat) (s : Sl) (l : List Tr) (st : Ls) (E : Nat → Prop) (lw : Bool) (w : World) (R : Ending → World → Prop) (hL : LsAt w E T bd bm bsn s l st) (hm0 : st.mem ≠ []) (hr : rising st.mem) (hml : st.mem.length ≤ 100000) (hfl : (flatM st.mem).length ≤ 100000) (hkn : ∀ x ∈ st.mem, x.1.length ≤ 1099511627776) (hll : l.length ≤ 1000) (hlog : st.log ≤ 1000000) (hlw : lw = l.isEmpty)
    (hSt : ∀ w1 s2 l2, FlI w w1 l (needL [] lw (mergeL [flatM st.mem])) s2 l2 → Calls Tryz.prog 170 #[.pointer (some ⟨T, 0, none⟩), slV s2, .int .i64 ((st.log + 1 : Nat) : Int)] w1 fun e w' => (∃ v, e = .returned v) ∧ R e w') :
    Calls Tryz.prog 117 #[.pointer (some ⟨T, 0, none⟩)] w fun e w' => R e w' := by
  obtain ⟨xs, hmx, hm, _⟩ := id hL.mem
  have hxs : 0 < xs.length := by
    cases xs with
    | nil => exact absurd hmx.symm (by simpa [mmOf] using hm0)
    | cons a r => simp
  have hsz : 0 < Maps.size (datX xs) := by simpa [datX, Maps.size] using hxs
  obtain ⟨sz, hsz'⟩ : ∃ sz, Maps.size (datX xs) = sz := ⟨_, rfl⟩
  rw [hsz'] at hsz
  have HS : Hid (Maps.size (datX xs) = sz) := hsz'
  clear hsz'
  have hz0 : ¬ ((sz : Int) = 0) := by omega
  have c3 : w.cell? ⟨T, 3, none⟩ = some (.map (some bm)) := hL.cell 3
  have c4 : w.cell? ⟨T, 4, none⟩ = some (slV s) := hL.cell 4
  have hBt := between_any bm E st.mem [] [] w hL.mem hr hml hfl hkn
  rw [betM_all] at hBt
  obtain ⟨sq, sn, sc⟩ := s
  obtain rfl : sn = l.length := hL.tab.len
  rw [show slV (sq, l.length, sc) = Value.slice sq l.length sc from rfl] at c4
  have hN : ∀ (w1 : World) (s1 : Sl), SlAt w1 s1 (flatM st.mem) → Below w.heap.size w w1 → Calls Tryz.prog 175 #[.pointer (some ⟨T, 0, none⟩), .slice (some ⟨w1.heap.size, 0, none⟩) 1 1, .bool lw] (w1.alloc (.cells #[slV s1] 162)) fun e w' => ∃ v, e = .returned v ∧ Below (w1.heap.size + 1) (w1.alloc (.cells #[slV s1] 162)) w' ∧ OwnE w' (w1.heap.size + 1) v (needL [] lw (mergeL [flatM st.mem])) := fun w1 s1 h1 hb => by
    have hB : Below w.heap.size w (w1.alloc (.cells #[slV s1] 162)) := hb.alloc hb.size _
    have hp : Lyp (w1.alloc (.cells #[slV s1] 162)) (some ⟨w1.heap.size, 0, none⟩) [(s1, flatM st.mem)] := ⟨rp_block slC_len (block_new w1 _) rfl, fun x hx => by rw [List.mem_singleton] at hx; subst hx; exact h1.below ((Below.refl _ w1).alloc (Nat.le_refl _) _)⟩
    have := needed_nil T bsn (some ⟨w1.heap.size, 0, none⟩) 1 [(s1, flatM st.mem)] lw _ (cell_below hB (hL.cell 9)) ((hL.below hB).snp) hp (fun e => by cases e) (fun a ha => ⟨_, _, (Option.some.inj ha).symm⟩) (by simp) (by simp [sumL]; omega)
    simpa using this
  have hLw : ((l.length : Int) == 0) = lw := by
    rw [hlw]; cases l with
    | nil => rfl
    | cons a r => simp; omega
  obtain ⟨es, hes⟩ : ∃ es, needL [] lw (mergeL [flatM st.mem]) = es := ⟨_, rfl⟩
  rw [hes] at hN hSt
  clear hes
  obtain ⟨n, hn⟩ : ∃ n, l.length = n := ⟨_, rfl⟩
  have HL : Hid (l.length = n) := hn
  have htab := hL.tab
  have c6 : w.cell? ⟨T, 6, none⟩ = some (.int .i64 st.log) := hL.cell 6
  rw [hn] at hLw c4 hll htab
  have HLW : Hid (((n : Int) == 0) = lw) := hLw
  have hlg : ((st.log + 1 : Nat) : Int) = (st.log : Int) + 1 := by omega
  rw [hlg] at hSt
  clear hn hLw hlg
  cases es with
  | nil =>
    go_enter Tryz.func117, Tryz.ntmps117
    go_wp2_with (first
      | (at_len; refine wpList_len_own _ rfl _ 141 rfl 9 162 Tryz.underlying141 _ bm xs.length (datX xs) rfl hm ?_; rw [HS.out])
      | (go_at_call 176; refine hBt.mono ?_; rintro e w1 ⟨v1, rfl, hb1, ho1⟩; obtain ⟨⟨a1, n1, k1⟩, rfl, hs1, hf1⟩ := ho1.slAt; have hN1 := hN w1 (a1, n1, k1) hs1 hb1; rw [show slV (a1, n1, k1) = Value.slice a1 n1 k1 from rfl] at hN1 ⊢; clear hN hBt)
      | (go_at_call 175; rw [HLW.out]; refine hN1.mono ?_; rintro e w2 ⟨v2, rfl, hb2, ho2⟩; obtain ⟨⟨a2, n2, k2⟩, rfl, hs2, hf2⟩ := ho2.slAt; obtain rfl : n2 = 0 := hs2.len; rw [show slV (a2, 0, k2) = Value.slice a2 0 k2 from rfl]; have hB2 : Below w.heap.size w w2 := (hb1.alloc hb1.size _).trans (hb2.mono (by have := hb1.size; omega)); have hSt1 := hSt w2 (sq, n, sc) l ⟨htab.below hB2, hL.es.below hB2, hB2, by simp, fun x hx => .inl hx⟩; have c6' : w2.cell? ⟨T, 6, none⟩ = some (.int .i64 st.log) := cell_below hB2 c6; rw [show slV (sq, n, sc) = Value.slice sq n sc from rfl] at hSt1; clear hSt hN1)
      | (go_at_call 170; refine hSt1.mono ?_; rintro e w3 ⟨⟨v3, rfl⟩, hR⟩))
    exact hR
  | cons e0 r0 =>
    go_enter Tryz.func117, Tryz.ntmps117
    go_wp2_with (first
      | (at_len; refine wpList_len_own _ rfl _ 141 rfl 9 162 Tryz.underlying141 _ bm xs.length (datX xs) rfl hm ?_; rw [HS.out])
      | (go_at_call 176; refine hBt.mono ?_; rintro e w1 ⟨v1, rfl, hb1, ho1⟩; obtain ⟨⟨a1, n1, k1⟩, rfl, hs1, hf1⟩ := ho1.slAt; have hN1 := hN w1 (a1, n1, k1) hs1 hb1; rw [show slV (a1, n1, k1) = Value.slice a1 n1 k1 from rfl] at hN1 ⊢; clear hN hBt)
      | (go_at_call 175; rw [HLW.out]; refine hN1.mono ?_; rintro e w2 ⟨v2, rfl, hb2, ho2⟩; obtain ⟨⟨a2, n2, k2⟩, rfl, hs2, hf2⟩ := ho2.slAt; obtain rfl : n2 = r0.length + 1 := hs2.len; rw [show slV (a2, r0.length + 1, k2) = Value.slice a2 (r0.length + 1) k2 from rfl]; have hB2 : Below w.heap.size w w2 := (hb1.alloc hb1.size _).trans (hb2.mono (by have := hb1.size; omega)); have hCc := flush_cat w w2 l sq n sc (e0 :: r0) (a2, r0.length + 1, k2) HL.out.symm htab hL.es hll (by simp) hs2 hB2 (fun a ha => ⟨by have := (hf2 a ha).1; have := hb1.size; omega, (hf2 a ha).2⟩); rw [show slV (a2, r0.length + 1, k2) = Value.slice a2 (r0.length + 1) k2 from rfl] at hCc; clear hN1)
      | (go_at_call 177; refine hCc.mono ?_; rintro e w3 ⟨q4, m4, c4', rfl, hF⟩; have hSt1 := hSt w3 (q4, m4, c4') _ hF; have c6' : w3.cell? ⟨T, 6, none⟩ = some (.int .i64 st.log) := cell_below hF.bel c6; rw [show slV (q4, m4, c4') = Value.slice q4 m4 c4' from rfl] at hSt1; clear hSt hCc)
      | (go_at_call 170; refine hSt1.mono ?_; rintro e w4 ⟨⟨v3, rfl⟩, hR⟩))
    exact hR

end Go.Proofs.YtoabedkcieindaaGreatDoor
