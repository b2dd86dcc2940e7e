/- The program's store: Turn, Take, Ready, Writable. -/
import Derived.Test.YtfghgmojnffgnaaGreatCodeO
import Derived.Test.YtfghgmojnffgnaaGreatSm
namespace Go.Proofs.YtfghgmojnffgnaaGreat
open Go.RowKit Go.Maps Go.Sort
attribute [local go_sem ↓] Go.wp_at_zero Go.wp_at_succ

structure St where
  turn : Int
  m : Mp
  loose : Bool
  stuck : Bool

def stCells (bd bm : Nat) (st : St) : Obj := .cells #[.pointer (some ⟨bd, 0, none⟩), .int .i64 st.turn, .map (some bm), .bool st.loose, .bool st.stuck] 126

/-- Block bs is a store, over the disk at bd. -/
structure StAt (w : World) (T : Nat → Prop) (bs bd bm : Nat) (st : St) : Prop where
  blk : w.heap[bs]? = some (stCells bd bm st)
  map : MAt w bm st.m
  ts : T bs
  tm : T bm
theorem StAt.kept {w w' : World} {S T : Nat → Prop} {bs bd bm : Nat} {st : St} (h : StAt w T bs bd bm st) (k : Kp S w w') (hs : ∀ i, T i → ¬ S i) : StAt w' T bs bd bm st :=
  ⟨k.at h.blk (hs _ h.ts), h.map.kept k (hs _ h.tm), h.ts, h.tm⟩
theorem StAt.below {w w' : World} {T : Nat → Prop} {bs bd bm : Nat} {st : St} (h : StAt w T bs bd bm st) (k : Below w.heap.size w w') : StAt w' T bs bd bm st := h.kept (S := fun _ => False) (Kp.of_below k) (fun _ _ f => f)
theorem StAt.mono {w : World} {S T : Nat → Prop} {bs bd bm : Nat} {st : St} (h : StAt w T bs bd bm st) (hT : ∀ k, k < w.heap.size → T k → S k) : StAt w S bs bd bm st :=
  ⟨h.blk, h.map, hT _ (lt_of_block h.blk) h.ts, hT _ h.map.lt h.tm⟩
theorem StAt.raw {w : World} {T : Nat → Prop} {bs bd bm : Nat} {st : St} (h : StAt w T bs bd bm st) : w.heap[bs]? = some (.cells #[.pointer (some ⟨bd, 0, none⟩), .int .i64 st.turn, .map (some bm), .bool st.loose, .bool st.stuck] 126) := h.blk

set_option maxHeartbeats 400000 in
theorem dTurn_any {w : World} {b : Nat} {m r f dd : Value} {t : Int} (hb : w.heap[b]? = some (.cells #[m, r, f, dd, .int .i64 t] 129)) :
    Calls Tryz.prog 121 #[.pointer (some ⟨b, 0, none⟩)] w fun e w' => e = .returned (.int .i64 t) ∧ w' = w := by
  obtain ⟨c0, c1, c2, c3, c4, f0, f1, f2, f3, f4⟩ := cells5 hb
  clear hb
  go_enter Tryz.func121, Tryz.ntmps121
  go_wp2
  go_ret
  exact ⟨rfl, rfl⟩

set_option maxHeartbeats 400000 in
theorem dTake_any (b : Nat) (d : Dk) (S : Nat → Prop) (w : World) (hP : ProgAt w S b d) (h0 : 0 ≤ d.turn) (h1 : d.turn ≤ 4611686018427387904) :
    Calls Tryz.prog 78 #[.pointer (some ⟨b, 0, none⟩)] w fun e w' => e = .returned (.int .i64 (d.turn + 1)) ∧ ProgAt w' S b { d with turn := d.turn + 1 } ∧ Kp (fun i => i = b) w w' := by
  obtain ⟨bm, ps, hst, hfs⟩ := hP
  obtain ⟨c0, c1, c2, c3, c4, f0, f1, f2, f3, f4⟩ := cells5 hst.blk
  have hst2 := hst.fields (Kp.set1 w b 4 (.int .i64 (d.turn + 1))) ((block_set hst.blk _).trans rfl)
  have ht := dTurn_any hst2.blk
  go_enter Tryz.func78, Tryz.ntmps78
  go_wp2_with (go_at_call 121; refine ht.mono ?_; rintro e w' ⟨rfl, rfl⟩)
  go_ret
  exact ⟨rfl, ⟨bm, ps, hst2, hfs⟩, Kp.set1 _ _ _ _⟩

def ready (dt : Int) (dead : Bool) (st : St) : Int := if st.turn ≠ dt then 6 else if dead then 4 else 0
def writable (dt : Int) (dead : Bool) (st : St) : Int := if ready dt dead st ≠ 0 then ready dt dead st else if st.stuck then 7 else 0

set_option maxHeartbeats 1000000 in
set_option maxRecDepth 20000 in
theorem Ready_any {w : World} {T : Nat → Prop} {bs bd bm : Nat} {st : St} (h : StAt w T bs bd bm st) {m r f : Value} {dead : Bool} {t : Int} (hd : w.heap[bd]? = some (.cells #[m, r, f, .bool dead, .int .i64 t] 129)) :
    Calls Tryz.prog 74 #[.pointer (some ⟨bs, 0, none⟩)] w fun e w' => e = .returned (.int .i64 (ready t dead st)) ∧ Below w.heap.size w w' := by
  obtain ⟨c0, c1, c2, c3, c4, f0, f1, f2, f3, f4⟩ := cells5 h.raw
  have ht : ∀ w', Sm w w' → _ := fun w' e => dTurn_any (w := w') (e.1.at hd (fun f => f))
  have hdd : ∀ w', Sm w w' → _ := fun w' e => isDead_any (w := w') (e.1.at hd (fun f => f))
  clear h hd
  by_cases e : st.turn = t
  · have HX : Hid (ready t dead st = if dead then 4 else 0) := by simp [Hid, ready, e]
    rw [e] at c1
    go_enter Tryz.func74, Tryz.ntmps74
    go_wp2
    go_region_held3 (fun w' => w'.cell? ⟨bs, 0, none⟩ = some (.pointer (some ⟨bd, 0, none⟩)) ∧ w'.cell? ⟨bs, 1, none⟩ = some (.int .i64 t) ∧ Sm w w') (go_keep)
      (first | (go_at_call 121; refine (ht _ ?_).mono ?_; (simp [*]); rintro e w' ⟨rfl, rfl⟩))
    cases dead
    all_goals
      go_wp2_with (go_at_call 71; refine (hdd _ ?_).mono ?_; (simp); rintro e w' ⟨rfl, rfl⟩)
      go_ret
      rw [HX.out]
      exact ⟨rfl, (Below.refl _ _).drew⟩
  · have HX : Hid (ready t dead st = 6) := by simp [Hid, ready, e]
    go_enter Tryz.func74, Tryz.ntmps74
    go_wp2
    go_region_held3 (fun w' => w'.cell? ⟨bs, 0, none⟩ = some (.pointer (some ⟨bd, 0, none⟩)) ∧ w'.cell? ⟨bs, 1, none⟩ = some (.int .i64 st.turn) ∧ Sm w w') (go_keep)
      (first | (go_at_call 121; refine (ht _ ?_).mono ?_; (simp [*]); rintro e w' ⟨rfl, rfl⟩))
    go_wp2
    go_ret
    rw [HX.out]
    exact ⟨rfl, (Below.refl _ _).drew⟩

set_option maxHeartbeats 1000000 in
theorem Writable_any {w : World} {T : Nat → Prop} {bs bd bm : Nat} {st : St} (h : StAt w T bs bd bm st) {m r f : Value} {dead : Bool} {t : Int} (hd : w.heap[bd]? = some (.cells #[m, r, f, .bool dead, .int .i64 t] 129)) :
    Calls Tryz.prog 69 #[.pointer (some ⟨bs, 0, none⟩)] w fun e w' => e = .returned (.int .i64 (writable t dead st)) ∧ Below w.heap.size w w' := by
  have hr := Ready_any h hd
  by_cases e : ready t dead st = 0
  · have HX : Hid (writable t dead st = if st.stuck then 7 else 0) := by simp [Hid, writable, e]
    rw [e] at hr
    cases hs : st.stuck
    all_goals
      rw [hs] at HX
      go_enter Tryz.func69, Tryz.ntmps69
      go_wp2_with (go_at_call 74; refine hr.mono ?_; rintro e w1 ⟨rfl, hb⟩; have h1 := h.below hb; obtain ⟨c0, c1, c2, c3, c4, f0, f1, f2, f3, f4⟩ := cells5 h1.raw; rw [hs] at c4)
      go_ret
      rw [HX.out]
      exact ⟨rfl, hb⟩
  · have HX : Hid (writable t dead st = ready t dead st) := by simp [Hid, writable, e]
    have HE : ¬ ready t dead st = 0 := e
    clear e
    generalize ready t dead st = R at *
    go_enter Tryz.func69, Tryz.ntmps69
    go_wp2_with (go_at_call 74; refine hr.mono ?_; rintro e w1 ⟨rfl, hb⟩)
    go_ret
    rw [HX.out]
    exact ⟨rfl, hb⟩

set_option maxHeartbeats 400000 in
theorem sinner_any {w : World} {bx bs : Nat} (h1 : w.heap[bx]? = some (.cells #[.pointer (some ⟨bs, 0, none⟩)] 93)) :
    Calls Tryz.prog 32 #[.pointer (some ⟨bx, 0, none⟩)] w fun e w' => e = .returned (.pointer (some ⟨bs, 0, none⟩)) ∧ w' = w := by
  obtain ⟨c0, z0⟩ := cells1 h1
  clear h1
  go_enter Tryz.func32, Tryz.ntmps32
  go_wp2
  go_ret
  exact ⟨rfl, rfl⟩

end Go.Proofs.YtfghgmojnffgnaaGreat
