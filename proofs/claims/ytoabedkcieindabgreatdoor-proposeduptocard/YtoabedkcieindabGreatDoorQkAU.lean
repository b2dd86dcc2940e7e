import Derived.Test.YtoabedkcieindabGreatDoorQkAT
import Derived.StillTailTactics
import Derived.Test.YtoabedkcieindabGreatDoorQkAF
namespace Go.Proofs.YtoabedkcieindabGreatDoor
open Go.RowKit Go.Maps Go.Sort
attribute [local go_sem ↓] Go.wp_at_zero Go.wp_at_succ
set_option maxHeartbeats 400000 in
theorem dTurn_any {w : World} {b : Nat} {m r f dd : Value} {t : Int} (hb : w.heap[b]? = some (.cells #[m, r, f, dd, .int .i64 t] 117)) :
    Calls Tryz.prog 106 #[.pointer (some ⟨b, 0, none⟩)] w fun e w' => e = .returned (.int .i64 t) ∧ w' = w := by
  obtain ⟨c0, c1, c2, c3, c4, f0, f1, f2, f3, f4⟩ := cells5 hb
  clear hb
  go_enter Tryz.func106, Tryz.ntmps106
  go_wp2
  go_ret
  exact ⟨rfl, rfl⟩
set_option maxHeartbeats 400000 in
theorem dTake_any (b : Nat) (d : Dk) (S : Nat → Prop) (w : World) (hP : ProgAt w S b d) (h0 : 0 ≤ d.turn) (h1 : d.turn ≤ 4611686018427387904) :
    Calls Tryz.prog 65 #[.pointer (some ⟨b, 0, none⟩)] w fun e w' => e = .returned (.int .i64 (d.turn + 1)) ∧ ProgAt w' S b { d with turn := d.turn + 1 } ∧ Kp (fun i => i = b) w w' := by
  obtain ⟨bm, ps, hst, hfs⟩ := hP
  obtain ⟨c0, c1, c2, c3, c4, f0, f1, f2, f3, f4⟩ := cells5 hst.blk
  have hst2 := hst.fields (Kp.set1 w b 4 (.int .i64 (d.turn + 1))) ((block_set hst.blk _).trans rfl)
  have ht := dTurn_any hst2.blk
  go_enter Tryz.func65, Tryz.ntmps65
  go_wp2_with (go_at_call 106; refine ht.mono ?_; rintro e w' ⟨rfl, rfl⟩)
  go_ret
  exact ⟨rfl, ⟨bm, ps, hst2, hfs⟩, Kp.set1 _ _ _ _⟩
def lready (dt : Int) (dead : Bool) (st : Ls) : Int := if st.turn ≠ dt then 6 else if dead then 4 else 0
set_option maxHeartbeats 1000000 in
set_option maxRecDepth 20000 in
theorem lReady_any {w : World} {E : Nat → Prop} {bs bd bm bsn : Nat} {s : Sl} {l : List Tr} {st : Ls} (h : LsAt w E bs bd bm bsn s l st) {m r f : Value} {dead : Bool} {t : Int} (hd : w.heap[bd]? = some (.cells #[m, r, f, .bool dead, .int .i64 t] 117)) :
    Calls Tryz.prog 56 #[.pointer (some ⟨bs, 0, none⟩)] w fun e w' => e = .returned (.int .i64 (lready t dead st)) ∧ Below w.heap.size w w' := by
  have c0 : w.cell? ⟨bs, 0, none⟩ = some (.pointer (some ⟨bd, 0, none⟩)) := h.cell 0
  have c1 : w.cell? ⟨bs, 1, none⟩ = some (.int .i64 st.turn) := h.cell 1
  have ht : ∀ w', Sm w w' → _ := fun w' e => dTurn_any (w := w') (e.1.at hd (fun f => f))
  have hdd : ∀ w', Sm w w' → _ := fun w' e => isDead_any (w := w') (e.1.at hd (fun f => f))
  clear h hd
  by_cases e : st.turn = t
  · have HX : Hid (lready t dead st = if dead then 4 else 0) := by simp [Hid, lready, e]
    rw [e] at c1
    go_enter Tryz.func56, Tryz.ntmps56
    go_wp2
    go_region_held3 (fun w' => w'.cell? ⟨bs, 0, none⟩ = some (.pointer (some ⟨bd, 0, none⟩)) ∧ w'.cell? ⟨bs, 1, none⟩ = some (.int .i64 t) ∧ Sm w w') (go_keep)
      (first | (go_at_call 106; refine (ht _ ?_).mono ?_; (simp [*]); rintro e w' ⟨rfl, rfl⟩))
    cases dead
    all_goals
      go_wp2_with (go_at_call 57; refine (hdd _ ?_).mono ?_; (simp); rintro e w' ⟨rfl, rfl⟩)
      go_ret
      rw [HX.out]
      exact ⟨rfl, (Below.refl _ _).drew⟩
  · have HX : Hid (lready t dead st = 6) := by simp [Hid, lready, e]
    go_enter Tryz.func56, Tryz.ntmps56
    go_wp2
    go_region_held3 (fun w' => w'.cell? ⟨bs, 0, none⟩ = some (.pointer (some ⟨bd, 0, none⟩)) ∧ w'.cell? ⟨bs, 1, none⟩ = some (.int .i64 st.turn) ∧ Sm w w') (go_keep)
      (first | (go_at_call 106; refine (ht _ ?_).mono ?_; (simp [*]); rintro e w' ⟨rfl, rfl⟩))
    go_wp2
    go_ret
    rw [HX.out]
    exact ⟨rfl, (Below.refl _ _).drew⟩
set_option maxHeartbeats 400000 in
theorem outcome_any {w : World} {bs bd : Nat} {m r f : Value} {dead : Bool} {t e0 : Int} (c0 : w.cell? ⟨bs, 0, none⟩ = some (.pointer (some ⟨bd, 0, none⟩))) (hd : w.heap[bd]? = some (.cells #[m, r, f, .bool dead, .int .i64 t] 117)) :
    Calls Tryz.prog 54 #[.pointer (some ⟨bs, 0, none⟩), .int .i64 e0] w fun e w' => e = .returned (.int .i64 (if dead then 4 else e0)) ∧ w' = w := by
  have hdd := isDead_any hd
  clear hd
  cases dead
  all_goals
    go_enter Tryz.func54, Tryz.ntmps54
    go_wp2_with (go_at_call 57; refine hdd.mono ?_; rintro e w' ⟨rfl, rfl⟩)
    go_ret
    exact ⟨rfl, rfl⟩
end Go.Proofs.YtoabedkcieindabGreatDoor

namespace Go.Proofs.YtoabedkcieindabGreatDoor
open Go.RowKit Go.Maps Go.Sort
attribute [local go_sem ↓] Go.wp_at_zero Go.wp_at_succ
def lwritable (dt : Int) (dead : Bool) (st : Ls) : Int := if lready dt dead st ≠ 0 then lready dt dead st else if st.stuck then 7 else 0
set_option maxHeartbeats 1000000 in
theorem lWritable_any {w : World} {E : Nat → Prop} {bs bd bm bsn : Nat} {s : Sl} {l : List Tr} {st : Ls} (h : LsAt w E bs bd bm bsn s l st) {m r f : Value} {dead : Bool} {t : Int} (hd : w.heap[bd]? = some (.cells #[m, r, f, .bool dead, .int .i64 t] 117)) :
    Calls Tryz.prog 53 #[.pointer (some ⟨bs, 0, none⟩)] w fun e w' => e = .returned (.int .i64 (lwritable t dead st)) ∧ Below w.heap.size w w' := by
  have hr := lReady_any h hd
  by_cases e : lready t dead st = 0
  · have HX : Hid (lwritable t dead st = if st.stuck then 7 else 0) := by simp [Hid, lwritable, e]
    rw [e] at hr
    cases hs : st.stuck
    all_goals
      rw [hs] at HX
      go_enter Tryz.func53, Tryz.ntmps53
      go_wp2_with (go_at_call 56; refine hr.mono ?_; rintro e w1 ⟨rfl, hb⟩; have h1 := h.below hb; have c12 : w1.cell? ⟨bs, 12, none⟩ = some (.bool st.stuck) := h1.cell 12; rw [hs] at c12)
      go_ret
      rw [HX.out]
      exact ⟨rfl, hb⟩
  · have HX : Hid (lwritable t dead st = lready t dead st) := by simp [Hid, lwritable, e]
    have HE : ¬ lready t dead st = 0 := e
    clear e
    generalize lready t dead st = R at *
    go_enter Tryz.func53, Tryz.ntmps53
    go_wp2_with (go_at_call 56; refine hr.mono ?_; rintro e w1 ⟨rfl, hb⟩)
    go_ret
    rw [HX.out]
    exact ⟨rfl, hb⟩
end Go.Proofs.YtoabedkcieindabGreatDoor

namespace Go.Proofs.YtoabedkcieindabGreatDoor
open Go.RowKit Go.Maps Go.Sort Go.Shelf
set_option maxHeartbeats 400000 in
set_option maxRecDepth 20000 in
theorem flush_empty (T bd bm bsn : Nat) (s : Sl) (l : List Tr) (st : Ls) (E : Nat → Prop) (w : World) (R : Ending → World → Prop) (hL : LsAt w E T bd bm bsn s l st) (hm0 : st.mem = [])
    (hSt : Calls Tryz.prog 118 #[.pointer (some ⟨T, 0, none⟩), slV s, .int .i64 st.log] w.drew fun e w' => (∃ v, e = .returned v) ∧ R e w') :
    Calls Tryz.prog 67 #[.pointer (some ⟨T, 0, none⟩)] w fun e w' => R e w' := by
  obtain ⟨xs, hmx, hm, _⟩ := hL.mem
  rw [hm0] at hmx
  obtain rfl : xs = [] := by cases xs with | nil => rfl | cons a r => simp [mmOf] at hmx
  have c3 : w.cell? ⟨T, 3, none⟩ = some (.map (some bm)) := hL.cell 3
  have c4 : w.cell? ⟨T, 4, none⟩ = some (slV s) := hL.cell 4
  have c6 : w.cell? ⟨T, 6, none⟩ = some (.int .i64 st.log) := hL.cell 6
  have hsz : Maps.size (datX []) = 0 := rfl
  go_enter Tryz.func67, Tryz.ntmps67
  go_wp2_with (at_len; refine wpList_len_own _ rfl _ 107 rfl 9 112 Tryz.underlying107 _ bm 0 (datX []) rfl hm ?_; rw [hsz])
  refine wp_region_still_tail 9 mixedP (by kernel_rfl) ?_
  simp only [List.take_succ_cons, List.take_zero, List.drop_succ_cons, List.drop_zero]
  (iterate 9 still_step)
  refine wpStill_nil ?_
  rw [show (⟨w.heap, w.tape, w.drawn + 1, w.os, w.output⟩ : World) = w.drew from rfl]
  go_wp2_with (go_at_call 118; refine hSt.mono ?_; rintro e w' ⟨⟨v, rfl⟩, hR⟩)
  exact hR
end Go.Proofs.YtoabedkcieindabGreatDoor

namespace Go.Proofs.YtoabedkcieindabGreatDoor
open Go.RowKit Go.Maps Go.Sort Go.Shelf
set_option maxHeartbeats 400000 in
set_option maxRecDepth 20000 in
theorem tend_flush (T bd bm bsn : Nat) (s : Sl) (l : List Tr) (st : Ls) (E : Nat → Prop) (e0 : Int) (w : World) (R : World → Prop) (hL : LsAt w E T bd bm bsn s l st) (hlen : 4096 ≤ st.len)
    (hF : Calls Tryz.prog 67 #[.pointer (some ⟨T, 0, none⟩)] w fun e w' => e = .returned (.int .i64 e0) ∧ R w') :
    Calls Tryz.prog 102 #[.pointer (some ⟨T, 0, none⟩)] w fun e w' => e = .returned (.int .i64 (if e0 = 3 then 0 else e0)) ∧ R w' := by
  have c7 : w.cell? ⟨T, 7, none⟩ = some (.int .i64 st.len) := hL.cell 7
  have hl' : (4096 : Int) ≤ (st.len : Int) := by omega
  by_cases h3 : e0 = 3
  · subst h3
    go_enter Tryz.func102, Tryz.ntmps102
    go_wp2_with (go_at_call 67; refine hF.mono ?_; rintro e w1 ⟨rfl, hR⟩)
    go_ret
    exact ⟨rfl, hR⟩
  · rw [if_neg h3]
    go_enter Tryz.func102, Tryz.ntmps102
    go_wp2_with (go_at_call 67; refine hF.mono ?_; rintro e w1 ⟨rfl, hR⟩)
    go_ret
    exact ⟨rfl, hR⟩
set_option maxHeartbeats 400000 in
set_option maxRecDepth 20000 in
theorem tend_settle (T bd bm bsn : Nat) (s : Sl) (l : List Tr) (st : Ls) (E : Nat → Prop) (e0 : Int) (w : World) (R : World → Prop) (hL : LsAt w E T bd bm bsn s l st) (hlen : ¬ 4096 ≤ st.len)
    (hF : Calls Tryz.prog 118 #[.pointer (some ⟨T, 0, none⟩), slV s, .int .i64 st.log] w.drew fun e w' => e = .returned (.int .i64 e0) ∧ R w') :
    Calls Tryz.prog 102 #[.pointer (some ⟨T, 0, none⟩)] w fun e w' => e = .returned (.int .i64 (if e0 = 3 then 0 else e0)) ∧ R w' := by
  have c7 : w.cell? ⟨T, 7, none⟩ = some (.int .i64 st.len) := hL.cell 7
  have c4 : w.cell? ⟨T, 4, none⟩ = some (slV s) := hL.cell 4
  have c6 : w.cell? ⟨T, 6, none⟩ = some (.int .i64 st.log) := hL.cell 6
  have hl' : ¬ (4096 : Int) ≤ (st.len : Int) := by omega
  by_cases h3 : e0 = 3
  · subst h3
    go_enter Tryz.func102, Tryz.ntmps102
    go_wp2
    refine wp_region_still_tail 9 mixedP (by kernel_rfl) ?_
    simp only [List.take_succ_cons, List.take_zero, List.drop_succ_cons, List.drop_zero]
    (iterate 9 still_step)
    refine wpStill_nil ?_
    rw [show (⟨w.heap, w.tape, w.drawn + 1, w.os, w.output⟩ : World) = w.drew from rfl]
    go_wp2_with (go_at_call 118; refine hF.mono ?_; rintro e w1 ⟨rfl, hR⟩)
    go_ret
    exact ⟨rfl, hR⟩
  · rw [if_neg h3]
    go_enter Tryz.func102, Tryz.ntmps102
    go_wp2
    refine wp_region_still_tail 9 mixedP (by kernel_rfl) ?_
    simp only [List.take_succ_cons, List.take_zero, List.drop_succ_cons, List.drop_zero]
    (iterate 9 still_step)
    refine wpStill_nil ?_
    rw [show (⟨w.heap, w.tape, w.drawn + 1, w.os, w.output⟩ : World) = w.drew from rfl]
    go_wp2_with (go_at_call 118; refine hF.mono ?_; rintro e w1 ⟨rfl, hR⟩)
    go_ret
    exact ⟨rfl, hR⟩
end Go.Proofs.YtoabedkcieindabGreatDoor

namespace Go.Proofs.YtoabedkcieindabGreatDoor
open Go.RowKit Go.Maps Go.Sort Go.Shelf
theorem betM_all (m : Mm) : betM [] [] m = flatM m := by
  unfold betM flatM
  rw [List.filter_eq_self.2 (fun x _ => ?_)]
  simp [okB]
  cases x.1 <;> rfl
structure FlI (w w1 : World) (l : List Tr) (es : Ly) (s2 : Sl) (l2 : List Tr) : Prop where
  at_ : TrAt w1 s2 l2
  es_ : TrEs w1 l2
  bel : Below w.heap.size w w1
  is : l2.map (·.1) = l.map (·.1) ++ (if es.isEmpty then [] else [⟨0, 0, es⟩])
  each : ∀ x ∈ l2, x ∈ l ∨ ∀ a, x.2.1 = some a → w.heap.size ≤ a.block ∧ a.block < w1.heap.size
theorem flush_cat (w w2 : World) (l : List Tr) (sq : Option Addr) (n sc : Nat) (es : Ly) (s2 : Sl) (hn : n = l.length) (ht : TrAt w (sq, n, sc) l) (he : TrEs w l) (hll : n ≤ 1000) (hes : es ≠ []) (hs : SlAt w2 s2 es) (hb : Below w.heap.size w w2) (hf : ∀ a, s2.1 = some a → w.heap.size ≤ a.block ∧ a.block < w2.heap.size) :
    Calls Tryz.prog 120 #[.slice (some ⟨w2.heap.size + 1, 0, none⟩) 2 2] ((w2.alloc (.cells #[.int .i64 0, .int .i64 0, slV s2] 114)).alloc (.cells #[.slice sq n sc, .slice (some ⟨w2.heap.size, 0, none⟩) 1 1] 108)) fun e w' => ∃ (q : Option Addr) (m c : Nat), e = .returned (.slice q m c) ∧ FlI w w' l es (q, m, c) (l ++ [(⟨0, 0, es⟩, s2)]) := by
  subst hn
  have hB : Below w.heap.size w ((w2.alloc (.cells #[.int .i64 0, .int .i64 0, slV s2] 114)).alloc (.cells #[.slice sq l.length sc, .slice (some ⟨w2.heap.size, 0, none⟩) 1 1] 108)) := (hb.alloc hb.size _).alloc (by have := hb.size; simp; omega) _
  have hB2 : Below w2.heap.size w2 ((w2.alloc (.cells #[.int .i64 0, .int .i64 0, slV s2] 114)).alloc (.cells #[.slice sq l.length sc, .slice (some ⟨w2.heap.size, 0, none⟩) 1 1] 108)) := ((Below.refl _ w2).alloc (Nat.le_refl _) _).alloc (by simp) _
  have h1 := block_new w2 (.cells #[.int .i64 0, .int .i64 0, slV s2] 114)
  have h2 := block_new (w2.alloc (.cells #[.int .i64 0, .int .i64 0, slV s2] 114)) (.cells #[.slice sq l.length sc, .slice (some ⟨w2.heap.size, 0, none⟩) 1 1] 108)
  rw [World.size_alloc] at h2
  have hL : Ltp ((w2.alloc (.cells #[.int .i64 0, .int .i64 0, slV s2] 114)).alloc (.cells #[.slice sq l.length sc, .slice (some ⟨w2.heap.size, 0, none⟩) 1 1] 108)) (some ⟨w2.heap.size + 1, 0, none⟩) [((sq, l.length, sc), l), ((some ⟨w2.heap.size, 0, none⟩, 1, 1), [(⟨0, 0, es⟩, s2)])] := by
    refine ⟨rp_block slC_len h2 rfl, fun x hx => ?_⟩
    simp only [List.mem_cons, List.not_mem_nil, or_false] at hx
    rcases hx with rfl | rfl
    · exact ht.below hB
    · obtain ⟨a, b, c⟩ := s2
      exact TrAt.one (bes := es) (block_alloc h1)
  have hC := concatT_any (some ⟨w2.heap.size + 1, 0, none⟩) 2 _ _ hL (by simp) (by simp [sumT]; omega)
  simp only [List.length_cons, List.length_nil, Nat.zero_add, Nat.reduceAdd] at hC
  refine hC.mono ?_
  rintro e w3 ⟨v, rfl, hb3, ho⟩
  obtain ⟨⟨q, m, c⟩, rfl, ha, _⟩ := ho.trAt
  have hcat : catT [((sq, l.length, sc), l), (((some ⟨w2.heap.size, 0, none⟩ : Option Addr), 1, 1), [((⟨0, 0, es⟩ : Tb), s2)])] = l ++ [(⟨0, 0, es⟩, s2)] := by simp [catT]
  rw [hcat] at ha
  have hsz := hb3.size
  simp only [World.size_alloc] at hsz
  refine ⟨q, m, c, rfl, ha, fun x hx => ?_, hB.trans (hb3.mono hB.size), ?_, fun x hx => ?_⟩
  · rcases List.mem_append.1 hx with hx | hx
    · exact ((he x hx).below hB).below hb3
    · rw [List.mem_singleton] at hx; subst hx
      exact (hs.below hB2).below hb3
  · rw [List.map_append]
    congr 1
    cases es with
    | nil => exact absurd rfl hes
    | cons a r => rfl
  · rcases List.mem_append.1 hx with hx | hx
    · exact .inl hx
    · rw [List.mem_singleton] at hx; subst hx
      exact .inr fun a ha => ⟨(hf a ha).1, by have := (hf a ha).2; omega⟩
set_option maxHeartbeats 400000 in
set_option maxRecDepth 20000 in
theorem flush_some (T bd bm bsn : Nat) (s : Sl) (l : List Tr) (st : Ls) (E : Nat → Prop) (lw : Bool) (w : World) (R : Ending → World → Prop) (hL : LsAt w E T bd bm bsn s l st) (hm0 : st.mem ≠ []) (hr : rising st.mem) (hml : st.mem.length ≤ 100000) (hfl : (flatM st.mem).length ≤ 100000) (hkn : ∀ x ∈ st.mem, x.1.length ≤ 1099511627776) (hll : l.length ≤ 1000) (hlog : st.log ≤ 1000000) (hlw : lw = l.isEmpty)
    (hSt : ∀ w1 s2 l2, FlI w w1 l (needL st.kept lw (mergeL [flatM st.mem])) s2 l2 → Calls Tryz.prog 118 #[.pointer (some ⟨T, 0, none⟩), slV s2, .int .i64 ((st.log + 1 : Nat) : Int)] w1 fun e w' => (∃ v, e = .returned v) ∧ R e w') :
    Calls Tryz.prog 67 #[.pointer (some ⟨T, 0, none⟩)] w fun e w' => R e w' := by
  obtain ⟨xs, hmx, hm, _⟩ := id hL.mem
  have hxs : 0 < xs.length := by
    cases xs with
    | nil => exact absurd hmx.symm (by simpa [mmOf] using hm0)
    | cons a r => simp
  have hsz : 0 < Maps.size (datX xs) := by simpa [datX, Maps.size] using hxs
  obtain ⟨sz, hsz'⟩ : ∃ sz, Maps.size (datX xs) = sz := ⟨_, rfl⟩
  rw [hsz'] at hsz
  have HS : Hid (Maps.size (datX xs) = sz) := hsz'
  clear hsz'
  have hz0 : ¬ ((sz : Int) = 0) := by omega
  have c3 : w.cell? ⟨T, 3, none⟩ = some (.map (some bm)) := hL.cell 3
  have c4 : w.cell? ⟨T, 4, none⟩ = some (slV s) := hL.cell 4
  have hBt := between_any bm E st.mem [] [] w hL.mem hr hml hfl hkn
  rw [betM_all] at hBt
  obtain ⟨sq, sn, sc⟩ := s
  obtain rfl : sn = l.length := hL.tab.len
  rw [show slV (sq, l.length, sc) = Value.slice sq l.length sc from rfl] at c4
  have hN : ∀ (w1 : World) (s1 : Sl), SlAt w1 s1 (flatM st.mem) → Below w.heap.size w w1 → Calls Tryz.prog 69 #[.pointer (some ⟨T, 0, none⟩), .slice (some ⟨w1.heap.size, 0, none⟩) 1 1, .bool lw] (w1.alloc (.cells #[slV s1] 112)) fun e w' => ∃ v, e = .returned v ∧ Below (w1.heap.size + 1) (w1.alloc (.cells #[slV s1] 112)) w' ∧ OwnE w' (w1.heap.size + 1) v (needL st.kept lw (mergeL [flatM st.mem])) := fun w1 s1 h1 hb => by
    have hB : Below w.heap.size w (w1.alloc (.cells #[slV s1] 112)) := hb.alloc hb.size _
    have hp : Lyp (w1.alloc (.cells #[slV s1] 112)) (some ⟨w1.heap.size, 0, none⟩) [(s1, flatM st.mem)] := ⟨rp_block slC_len (block_new w1 _) rfl, fun x hx => by rw [List.mem_singleton] at hx; subst hx; exact h1.below ((Below.refl _ w1).alloc (Nat.le_refl _) _)⟩
    have := needed_any T bsn st.snaps (some ⟨w1.heap.size, 0, none⟩) 1 [(s1, flatM st.mem)] lw _ (cell_below hB (hL.cell 9)) ((hL.below hB).snp) hL.sn0 hp (fun e => by cases e) (fun a ha => ⟨_, _, (Option.some.inj ha).symm⟩) (by simp) (by simp [sumL]; omega)
    rw [show st.snaps.map (·.2) = st.kept from rfl] at this
    simpa using this
  have hLw : ((l.length : Int) == 0) = lw := by
    rw [hlw]; cases l with
    | nil => rfl
    | cons a r => simp; omega
  obtain ⟨es, hes⟩ : ∃ es, needL st.kept lw (mergeL [flatM st.mem]) = es := ⟨_, rfl⟩
  rw [hes] at hN hSt
  clear hes
  obtain ⟨n, hn⟩ : ∃ n, l.length = n := ⟨_, rfl⟩
  have HL : Hid (l.length = n) := hn
  have htab := hL.tab
  have c6 : w.cell? ⟨T, 6, none⟩ = some (.int .i64 st.log) := hL.cell 6
  rw [hn] at hLw c4 hll htab
  have HLW : Hid (((n : Int) == 0) = lw) := hLw
  have hlg : ((st.log + 1 : Nat) : Int) = (st.log : Int) + 1 := by omega
  rw [hlg] at hSt
  clear hn hLw hlg
  cases es with
  | nil =>
    go_enter Tryz.func67, Tryz.ntmps67
    go_wp2_with (first
      | (at_len; refine wpList_len_own _ rfl _ 107 rfl 9 112 Tryz.underlying107 _ bm xs.length (datX xs) rfl hm ?_; rw [HS.out])
      | (go_at_call 119; refine hBt.mono ?_; rintro e w1 ⟨v1, rfl, hb1, ho1⟩; obtain ⟨⟨a1, n1, k1⟩, rfl, hs1, hf1⟩ := ho1.slAt; have hN1 := hN w1 (a1, n1, k1) hs1 hb1; rw [show slV (a1, n1, k1) = Value.slice a1 n1 k1 from rfl] at hN1 ⊢; clear hN hBt)
      | (go_at_call 69; rw [HLW.out]; refine hN1.mono ?_; rintro e w2 ⟨v2, rfl, hb2, ho2⟩; obtain ⟨⟨a2, n2, k2⟩, rfl, hs2, hf2⟩ := ho2.slAt; obtain rfl : n2 = 0 := hs2.len; rw [show slV (a2, 0, k2) = Value.slice a2 0 k2 from rfl]; have hB2 : Below w.heap.size w w2 := (hb1.alloc hb1.size _).trans (hb2.mono (by have := hb1.size; omega)); have hSt1 := hSt w2 (sq, n, sc) l ⟨htab.below hB2, hL.es.below hB2, hB2, by simp, fun x hx => .inl hx⟩; have c6' : w2.cell? ⟨T, 6, none⟩ = some (.int .i64 st.log) := cell_below hB2 c6; rw [show slV (sq, n, sc) = Value.slice sq n sc from rfl] at hSt1; clear hSt hN1)
      | (go_at_call 118; refine hSt1.mono ?_; rintro e w3 ⟨⟨v3, rfl⟩, hR⟩))
    exact hR
  | cons e0 r0 =>
    go_enter Tryz.func67, Tryz.ntmps67
    go_wp2_with (first
      | (at_len; refine wpList_len_own _ rfl _ 107 rfl 9 112 Tryz.underlying107 _ bm xs.length (datX xs) rfl hm ?_; rw [HS.out])
      | (go_at_call 119; refine hBt.mono ?_; rintro e w1 ⟨v1, rfl, hb1, ho1⟩; obtain ⟨⟨a1, n1, k1⟩, rfl, hs1, hf1⟩ := ho1.slAt; have hN1 := hN w1 (a1, n1, k1) hs1 hb1; rw [show slV (a1, n1, k1) = Value.slice a1 n1 k1 from rfl] at hN1 ⊢; clear hN hBt)
      | (go_at_call 69; rw [HLW.out]; refine hN1.mono ?_; rintro e w2 ⟨v2, rfl, hb2, ho2⟩; obtain ⟨⟨a2, n2, k2⟩, rfl, hs2, hf2⟩ := ho2.slAt; obtain rfl : n2 = r0.length + 1 := hs2.len; rw [show slV (a2, r0.length + 1, k2) = Value.slice a2 (r0.length + 1) k2 from rfl]; have hB2 : Below w.heap.size w w2 := (hb1.alloc hb1.size _).trans (hb2.mono (by have := hb1.size; omega)); have hCc := flush_cat w w2 l sq n sc (e0 :: r0) (a2, r0.length + 1, k2) HL.out.symm htab hL.es hll (by simp) hs2 hB2 (fun a ha => ⟨by have := (hf2 a ha).1; have := hb1.size; omega, (hf2 a ha).2⟩); rw [show slV (a2, r0.length + 1, k2) = Value.slice a2 (r0.length + 1) k2 from rfl] at hCc; clear hN1)
      | (go_at_call 120; refine hCc.mono ?_; rintro e w3 ⟨q4, m4, c4', rfl, hF⟩; have hSt1 := hSt w3 (q4, m4, c4') _ hF; have c6' : w3.cell? ⟨T, 6, none⟩ = some (.int .i64 st.log) := cell_below hF.bel c6; rw [show slV (q4, m4, c4') = Value.slice q4 m4 c4' from rfl] at hSt1; clear hSt hCc)
      | (go_at_call 118; refine hSt1.mono ?_; rintro e w4 ⟨⟨v3, rfl⟩, hR⟩))
    exact hR
end Go.Proofs.YtoabedkcieindabGreatDoor

namespace Go.Proofs.YtoabedkcieindabGreatDoor
structure Stl (d : Dk) : Prop where
  al : d.dead = false
  lf : d.left < 0
theorem Stl.burn {d : Dk} (h : Stl d) (fs : List (Nm × Fl)) : Stl { d.burn with files := fs } := by
  have := h.lf
  exact ⟨h.al, by simp only [Dk.burn]; omega⟩
theorem Stl.write {d : Dk} (h : Stl d) {n : Nm} (hn : nameOk n = true) (t : List UInt8) : Stl (d.write n t).2 ∧ (d.write n t).2.turn = d.turn ∧ ((d.write n t).1 = 3 ∨ ((d.write n t).1 = 0 ∧ (getF n (d.write n t).2.files).isSome = true)) := by
  have hl := h.lf
  unfold Dk.write
  rw [if_neg (by rw [h.al]; simp), if_neg (by rw [hn]; simp)]
  split
  · exact ⟨h, rfl, Or.inl rfl⟩
  · rw [if_neg (by omega)]
    refine ⟨h.burn _, rfl, Or.inr ⟨rfl, ?_⟩⟩
    simp only
    have hu : ∀ (f : Fl → Fl) (l : List (Nm × Fl)), (getF n l).isSome = true → (getF n (upd n f l)).isSome = true := by
      intro f l
      induction l with
      | nil => intro h; exact h
      | cons x r ih =>
        intro h
        have e : upd n f (x :: r) = (if x.1 = n then (x.1, f x.2) else x) :: upd n f r := rfl
        rw [e]
        by_cases hx : x.1 = n
        · rw [if_pos hx, getF, if_pos hx]; rfl
        · rw [if_neg hx, getF, if_neg hx]
          rw [getF, if_neg hx] at h
          exact ih h
    have hi : ∀ (x : Fl) (l : List (Nm × Fl)), (getF n (ins (n, x) l)).isSome = true := by
      intro x l
      induction l with
      | nil => simp [ins, getF]
      | cons y r ih =>
        rw [ins]
        split
        · simp [getF]
        · rw [getF]
          split
          · rfl
          · exact ih
    split
    · rename_i hs; exact hu _ _ hs
    · exact hi _ _
theorem Stl.sync {d : Dk} (h : Stl d) {n : Nm} (hn : (getF n d.files).isSome = true) : (d.sync n).1 = 0 ∧ Stl (d.sync n).2 ∧ (d.sync n).2.turn = d.turn ∧ (d.sync n).2.files = upd n allSafe d.files := by
  have hl := h.lf
  have hno : ¬ (getF n d.files).isNone = true := by cases hg : getF n d.files with | none => rw [hg] at hn; cases hn | some f => simp
  unfold Dk.sync
  rw [if_neg (by rw [h.al]; simp), if_neg hno, if_neg (by omega)]
  exact ⟨rfl, h.burn _, rfl, rfl⟩
theorem getF_upd_some {n m : Nm} (f : Fl → Fl) : ∀ {l : List (Nm × Fl)}, (getF n l).isSome = true → (getF n (upd m f l)).isSome = true
  | [], h => h
  | x :: r, h => by
    have e : upd m f (x :: r) = (if x.1 = m then (x.1, f x.2) else x) :: upd m f r := rfl
    have e1 : (if x.1 = m then (x.1, f x.2) else x).1 = x.1 := by split <;> rfl
    rw [e, getF]
    rw [getF] at h
    rw [e1]
    split
    · rfl
    · rename_i hx; rw [if_neg hx] at h; exact getF_upd_some f h
theorem Stl.rename {d : Dk} (h : Stl d) {n m : Nm} (hm : nameOk m = true) (hn : (getF n d.files).isSome = true) : (d.rename n m).1 = 0 ∧ Stl (d.rename n m).2 ∧ (d.rename n m).2.turn = d.turn := by
  have hl := h.lf
  unfold Dk.rename
  rw [if_neg (by rw [h.al]; simp), if_neg (by rw [hm]; simp)]
  cases hg : getF n d.files with
  | none => rw [hg] at hn; cases hn
  | some f =>
    simp only
    rw [if_neg (by omega)]
    exact ⟨rfl, h.burn _, rfl⟩
theorem Stl.remove {d : Dk} (h : Stl d) {n : Nm} (hn : (getF n d.files).isSome = true) : (d.remove n).1 = 0 ∧ Stl (d.remove n).2 ∧ (d.remove n).2.turn = d.turn ∧ (d.remove n).2.files = del n d.files := by
  have hl := h.lf
  have hno : ¬ (getF n d.files).isNone = true := by cases hg : getF n d.files with | none => rw [hg] at hn; cases hn | some f => simp
  unfold Dk.remove
  rw [if_neg (by rw [h.al]; simp), if_neg hno, if_neg (by omega)]
  exact ⟨rfl, h.burn _, rfl, rfl⟩
theorem getF_name {α : Type} : ∀ {l : List (Nm × α)} {n : Nm}, n ∈ l.map (·.1) → (getF n l).isSome = true
  | [], _, h => by cases h
  | x :: r, n, h => by
    rw [getF]
    split
    · rfl
    · rename_i hx
      rw [List.map_cons] at h
      rcases List.mem_cons.1 h with rfl | h
      · exact absurd rfl hx
      · exact getF_name h
theorem rising_nodup {α : Type} {l : List (Nm × α)} (h : rising l) : (l.map (·.1)).Nodup := by
  unfold rising at h
  refine List.pairwise_map.2 (h.imp fun {x y} hxy he => ?_)
  rw [he, WideAt.bytes_irrefl] at hxy
  cases hxy
end Go.Proofs.YtoabedkcieindabGreatDoor

namespace Go.Proofs.YtoabedkcieindabGreatDoor
structure Says (d : Dk) (m : Man) (ts bs : List (List Ox)) (p : List UInt8) : Prop where
  man : (getF manN d.files = none ∧ m = ⟨1, 0, []⟩) ∨ ∃ f, getF manN d.files = some f ∧ f.bytes = encMan m
  ok : manOk m
  len : ts.length = m.tabs.length
  tab : ∀ (i : Nat) (h : i < m.tabs.length) (h' : i < ts.length), ∃ f, getF (tbN m.tabs[i].number) d.files = some f ∧ f.bytes = encLay ts[i] ∧ layOk [] ts[i] ∧ ts[i] ≠ []
  log : (getF (lgN m.log) d.files = none ∧ bs = [] ∧ p = []) ∨ ∃ f, getF (lgN m.log) d.files = some f ∧ f.bytes = logOf bs ++ p
  bok : ∀ b ∈ bs, batchOk b = true
  cut : isCut p
  may : ∀ x ∈ d.files, oursN x.1 = true ∧ (numOf logP x.1).getD 0 ≤ m.log ∧ (numOf tabP x.1).getD 0 ≤ m.next + m.tabs.length
theorem opOk_ne {o : Ox} (h : opOk o = true) : o.key ≠ [] := fun e => by
  have := (opOk_key h).1
  rw [e] at this
  simp at this
end Go.Proofs.YtoabedkcieindabGreatDoor

namespace Go.Proofs.YtoabedkcieindabGreatDoor
def needM (m : Man) (n : Nm) : Prop := n = manN ∨ n = lgN m.log ∨ ∃ q ∈ m.tabs, n = tbN q.number
def mayM (m : Man) (n : Nm) : Prop := oursN n = true ∧ (numOf logP n).getD 0 ≤ m.log ∧ (numOf tabP n).getD 0 ≤ m.next + m.tabs.length
theorem Says.keep {d d' : Dk} {m : Man} {ts bs : List (List Ox)} {p : List UInt8} (h : Says d m ts bs p) (hk : ∀ n, needM m n → getF n d'.files = getF n d.files) (hs : ∀ x ∈ d'.files, mayM m x.1) : Says d' m ts bs p where
  man := by rw [hk _ (.inl rfl)]; exact h.man
  ok := h.ok
  len := h.len
  tab := fun i a b => by rw [hk _ (.inr (.inr ⟨_, List.getElem_mem a, rfl⟩))]; exact h.tab i a b
  log := by rw [hk _ (.inr (.inl rfl))]; exact h.log
  bok := h.bok
  cut := h.cut
  may := hs
structure Dur (d : Dk) (m : Man) (ts bs : List (List Ox)) (p : List UInt8) (n : Nat) : Prop where
  says : Says d m ts bs p
  sman : ∀ f, getF manN d.files = some f → f.safe = f.bytes.length
  stab : ∀ q ∈ m.tabs, ∀ f, getF (tbN q.number) d.files = some f → f.safe = f.bytes.length
  le : n ≤ bs.length
  slog : ∀ f, getF (lgN m.log) d.files = some f → (logOf (bs.take n)).length ≤ f.safe ∧ f.safe ≤ f.bytes.length
theorem Dur.keep {d d' : Dk} {m : Man} {ts bs : List (List Ox)} {p : List UInt8} {n : Nat} (h : Dur d m ts bs p n) (hk : ∀ n, needM m n → getF n d'.files = getF n d.files) (hs : ∀ x ∈ d'.files, mayM m x.1) : Dur d' m ts bs p n where
  says := h.says.keep hk hs
  sman := by rw [hk _ (.inl rfl)]; exact h.sman
  stab := fun q hq => by rw [hk _ (.inr (.inr ⟨q, hq, rfl⟩))]; exact h.stab q hq
  le := h.le
  slog := by rw [hk _ (.inr (.inl rfl))]; exact h.slog
end Go.Proofs.YtoabedkcieindabGreatDoor

namespace Go.Proofs.YtoabedkcieindabGreatDoor
structure Off (m : Man) (d d' : Dk) : Prop where
  need : ∀ n, needM m n → getF n d'.files = getF n d.files
  may : (∀ x ∈ d.files, mayM m x.1) → ∀ x ∈ d'.files, mayM m x.1
  rise : rising d.files → rising d'.files
  quota : d'.quota = d.quota
  turn : d'.turn = d.turn
  dead : d.dead = true → d'.dead = true
theorem Off.refl (m : Man) (d : Dk) : Off m d d := ⟨fun _ _ => rfl, id, id, rfl, rfl, id⟩
theorem Off.trans {m : Man} {a b c : Dk} (h : Off m a b) (g : Off m b c) : Off m a c :=
  ⟨fun n hn => (g.need n hn).trans (h.need n hn), fun x => g.may (h.may x), fun x => g.rise (h.rise x), g.quota.trans h.quota, g.turn.trans h.turn, fun x => g.dead (h.dead x)⟩
theorem Dur.off {d d' : Dk} {m : Man} {ts bs : List (List Ox)} {p : List UInt8} {n : Nat} (h : Dur d m ts bs p n) (o : Off m d d') : Dur d' m ts bs p n := h.keep o.need (o.may h.says.may)
theorem getF_updOff {n k : Nm} (h : k ≠ n) (f : Fl → Fl) : ∀ l : List (Nm × Fl), getF k (upd n f l) = getF k l
  | [] => rfl
  | x :: r => by
    have e : upd n f (x :: r) = (if x.1 = n then (x.1, f x.2) else x) :: upd n f r := rfl
    rw [e, getF, getF, getF_updOff h f r]
    by_cases hx : x.1 = n
    · rw [if_pos hx]
      have : ¬ x.1 = k := fun h9 => h (h9.symm.trans hx)
      simp only [if_neg this]
    · rw [if_neg hx]
theorem getF_updAt {n : Nm} (f : Fl → Fl) {x : Fl} : ∀ {l : List (Nm × Fl)}, getF n l = some x → getF n (upd n f l) = some (f x)
  | [], h => by cases h
  | y :: r, h => by
    have e : upd n f (y :: r) = (if y.1 = n then (y.1, f y.2) else y) :: upd n f r := rfl
    rw [e]
    rw [getF] at h
    by_cases hy : y.1 = n
    · rw [if_pos hy] at h
      cases h
      rw [if_pos hy, getF, if_pos hy]
    · rw [if_neg hy] at h
      rw [if_neg hy, getF, if_neg hy, getF_updAt f h]
theorem names_upd (n : Nm) (f : Fl → Fl) : ∀ l : List (Nm × Fl), (upd n f l).map (·.1) = l.map (·.1)
  | [] => rfl
  | x :: r => by
    have e : upd n f (x :: r) = (if x.1 = n then (x.1, f x.2) else x) :: upd n f r := rfl
    rw [e, List.map_cons, List.map_cons, names_upd n f r]
    split <;> rfl
theorem rising_by {l l' : List (Nm × Fl)} (h : l'.map (·.1) = l.map (·.1)) (hr : rising l) : rising l' := by
  have h1 : (l.map (·.1)).Pairwise fun x y => bytesBefore x y = true := List.pairwise_map.2 hr
  rw [← h] at h1
  exact List.pairwise_map.1 h1
theorem mem_names {l l' : List (Nm × Fl)} (h : l'.map (·.1) = l.map (·.1)) {P : Nm → Prop} (hp : ∀ x ∈ l, P x.1) : ∀ x ∈ l', P x.1 := fun x hx => by
  have : x.1 ∈ l.map (·.1) := by rw [← h]; exact List.mem_map.2 ⟨x, hx, rfl⟩
  obtain ⟨y, hy, e⟩ := List.mem_map.1 this
  rw [← e]
  exact hp y hy
theorem isSome_none {α : Type} {o : Option α} (h : ¬ o.isSome = true) : o = none := by cases o with | none => rfl | some x => exact absurd rfl h
theorem Off.write {m : Man} (d : Dk) {n : Nm} (hn : ¬ needM m n) (hm : mayM m n) (t : List UInt8) : Off m d (d.write n t).2 := by
  unfold Dk.write
  split
  · exact Off.refl m d
  · rename_i hd
    split
    · exact Off.refl m d
    · split
      · exact Off.refl m d
      · split
        · exact ⟨fun _ _ => rfl, id, id, rfl, rfl, fun _ => rfl⟩
        · refine ⟨fun k hk => ?_, fun h => ?_, fun h => ?_, rfl, rfl, fun h => absurd h hd⟩
          · have hkn : k ≠ n := fun e => hn (e ▸ hk)
            simp only
            split
            · exact getF_updOff hkn _ _
            · exact getF_insOff hkn _ _
          · simp only
            split
            · exact mem_names (names_upd _ _ _) h
            · intro x hx
              rcases mem_ins.1 hx with rfl | hx
              · exact hm
              · exact h x hx
          · simp only
            split
            · exact rising_by (names_upd _ _ _) h
            · rename_i hg
              exact rising_ins h (isSome_none hg)
theorem Off.sync {m : Man} (d : Dk) {n : Nm} (hn : ¬ needM m n) : Off m d (d.sync n).2 := by
  unfold Dk.sync
  split
  · exact Off.refl m d
  · rename_i hd
    split
    · exact Off.refl m d
    · split
      · exact ⟨fun _ _ => rfl, id, id, rfl, rfl, fun _ => rfl⟩
      · exact ⟨fun k hk => getF_updOff (fun e : k = n => hn (e ▸ hk)) _ _, fun h => mem_names (names_upd _ _ _) h, fun h => rising_by (names_upd _ _ _) h, rfl, rfl, fun h => absurd h hd⟩
theorem Off.remove {m : Man} (d : Dk) {n : Nm} (hn : ¬ needM m n) : Off m d (d.remove n).2 := by
  unfold Dk.remove
  split
  · exact Off.refl m d
  · rename_i hd
    split
    · exact Off.refl m d
    · split
      · exact ⟨fun _ _ => rfl, id, id, rfl, rfl, fun _ => rfl⟩
      · exact ⟨fun k hk => getF_del_ne (fun e : k = n => hn (e ▸ hk)) _, fun h x hx => h x (List.mem_filter.1 hx).1, fun h => rising_del h, rfl, rfl, fun h => absurd h hd⟩
theorem Off.lwrite {m : Man} (d : Dk) {n : Nm} (hn : ¬ needM m n) (hm : mayM m n) (t : List UInt8) : Off m d (lwrite d n t).2 := by
  unfold Go.Proofs.YtoabedkcieindabGreatDoor.lwrite
  simp only
  split
  · exact Off.write d hn hm t
  · exact (Off.write d hn hm t).trans (Off.sync _ hn)
def Same (s : Ls) (m : Man) : Prop := s.log = m.log ∧ s.tabs.map (·.number) = m.tabs.map (·.number)
theorem Same.needs {s : Ls} {m : Man} (h : Same s m) {n : Nm} (hn : s.needs n = false) : ¬ needM m n := by
  unfold Ls.needs at hn
  simp only [Bool.or_eq_false_iff, List.any_eq_false, beq_eq_false_iff_ne] at hn
  obtain ⟨⟨h1, h2⟩, h3⟩ := hn
  rintro (rfl | rfl | ⟨q, hq, rfl⟩)
  · exact h1 rfl
  · exact h2 (by rw [h.1])
  · have : q.number ∈ s.tabs.map (·.number) := by rw [h.2]; exact List.mem_map.2 ⟨q, hq, rfl⟩
    obtain ⟨t, ht, e⟩ := List.mem_map.1 this
    have := h3 t ht
    rw [e] at this
    simp at this
theorem Off.sweepF {s : Ls} {m : Man} (h : Same s m) : ∀ (ns : List Nm) (d : Dk), Off m d (sweepF s ns d).2
  | [], d => Off.refl m d
  | n :: r, d => by
    rw [Go.Proofs.YtoabedkcieindabGreatDoor.sweepF]
    split
    · exact Off.sweepF h r d
    · rename_i hn
      have hn' : s.needs n = false := by
        simp only [Bool.or_eq_true, not_or, Bool.not_eq_true] at hn
        exact hn.2
      have o := Off.remove (m := m) d (h.needs hn')
      simp only
      split
      · exact o
      · exact o.trans (Off.sweepF h r _)
theorem Off.sweepX {s : Ls} {m : Man} (h : Same s m) (d : Dk) : Off m d (sweepX s d).2 := by
  unfold Go.Proofs.YtoabedkcieindabGreatDoor.sweepX
  split
  · exact Off.refl m d
  · exact Off.sweepF h _ d
theorem tbN_free {m : Man} (h : manOk m) {k : Nat} (h1 : m.next ≤ k) (h2 : k < 9223372036854775808) : ¬ needM m (tbN k) := by
  rintro (e | e | ⟨q, hq, e⟩)
  · exact tab_man _ e
  · exact log_tab _ _ e.symm
  · have hb := plsOk_at h.2.2.2.1 q hq
    have := tbN_inj h2 (by have := h.2.1; omega) e
    omega
theorem numOf_logtab (k : Nat) : numOf logP (tbN k) = none := by
  cases hg : numOf logP (tbN k) with
  | none => rfl
  | some j => exact absurd (numOf_is hg).1.symm (log_tab j k)
theorem tbN_may {m : Man} {k : Nat} (h1 : k ≤ m.next + m.tabs.length) (h2 : k < 9223372036854775808) : mayM m (tbN k) := by
  have hk : numOf tabP (tbN k) = some k := numOf_fmt tabP h2
  refine ⟨by simp [oursN, hk], ?_, ?_⟩
  · rw [numOf_logtab]; simp
  · rw [hk]; simpa using h1
theorem begN_free (m : Man) : ¬ needM m begN := by
  rintro (e | e | ⟨q, hq, e⟩)
  · exact man_beg e.symm
  · exact log_beg _ e.symm
  · exact tab_beg _ e.symm
theorem begN_may (m : Man) : mayM m begN := by
  refine ⟨by simp [oursN], ?_, ?_⟩
  · have : numOf logP begN = none := by decide
    rw [this]; simp
  · have : numOf tabP begN = none := by decide
    rw [this]; simp
end Go.Proofs.YtoabedkcieindabGreatDoor
