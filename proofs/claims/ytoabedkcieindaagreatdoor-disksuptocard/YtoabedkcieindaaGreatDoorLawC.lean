/- The statement's world: its disks, the lists that came out; who owns which block. -/
import Derived.Test.YtoabedkcieindaaGreatDoorLawB
namespace Go.Proofs.YtoabedkcieindaaGreatDoor
open Go.RowKit Go.Maps Go.Sort

structure DR where
  bk : Nat
  bx : Nat
  bY : Nat
  dx : Dk
  dy : Dk

structure TX where
  v : Value
  m : Nat

def TextAt (w : World) (C : Nat → Prop) (t : TX) : Prop := ∃ a n cap, t.v = .slice a n cap ∧ n ≤ 4194400 ∧ ∀ i, i < n → ∃ g, a = some ⟨g, 0, none⟩ ∧ C g ∧ w.cell? ⟨g, i, none⟩ = some (encS (textOf t.m))

def ptrB (b : Nat) : Value := .pointer (some ⟨b, 0, none⟩)

/-- The i-th disk. N: no more files than that. -/
structure DiskAt (w : World) (own : Nat → Nat) (N i : Nat) (r : DR) : Prop where
  blk : w.heap[r.bk]? = some (.cells #[ptrB r.bx, ptrB r.bY, .pointer none] 132)
  ck : own r.bk = 3 + 3 * i
  x : XAt w (fun k => own k = 4 + 3 * i) r.bx r.dx
  y : RefAt w (fun k => own k = 5 + 3 * i) r.bY r.dy
  okx : r.dx.Ok
  oky : r.dy.Ok
  lx : r.dx.files.length ≤ N
  ly : r.dy.files.length ≤ N

structure Inv (w : World) (own : Nat → Nat) (bW N : Nat) (rs : List DR) (ts : List TX) (nxt : Nat) (vd vt vm : Value) : Prop where
  blk : w.heap[bW]? = some (.cells #[vd, .slice none 0 0, .slice none 0 0, vt, .slice none 0 0, .slice none 0 0, vm, .int .i64 nxt] 102)
  cW : own bW = 1
  rowd : w.ownsRow 0 105 1 vd rs.length (rs.map fun r => ptrB r.bk)
  rowt : w.ownsRow 0 67 1 vt ts.length (ts.map (·.v))
  rowm : w.ownsRow 0 3 1 vm ts.length (ts.map fun t => .int .i64 t.m)
  cd : ∀ g, vd.ownBlock = some g → own g = 1
  ct : ∀ g, vt.ownBlock = some g → own g = 1
  cm : ∀ g, vm.ownBlock = some g → own g = 1
  text : ∀ t ∈ ts, TextAt w (fun g => own g = 2) t ∧ t.m ≤ nxt
  disk : ∀ i (h : i < rs.length), DiskAt w own N i rs[i]

def recolor (own : Nat → Nat) (w : World) (c : Nat) (k : Nat) : Nat := if k < w.heap.size then own k else c

theorem recolor_old {own : Nat → Nat} {w : World} {c k : Nat} (h : k < w.heap.size) : recolor own w c k = own k := if_pos h
theorem recolor_new {own : Nat → Nat} {w : World} {c k : Nat} (h : w.heap.size ≤ k) : recolor own w c k = c := if_neg (by omega)

theorem XAt.recolor {w w' : World} {own : Nat → Nat} {c c' b : Nat} {d : Dk} (h : XAt w (fun k => own k = c) b d) (kp : Kp (fun k => own k = c') w w') (hne : c ≠ c') : XAt w' (fun k => recolor own w c' k = c) b d :=
  ((h.mono (T := fun k => own k = c ∧ k < w.heap.size) (fun _ hk s => ⟨s, hk⟩)).kept kp (fun _ s e => hne (s.1.symm.trans e))).mono (fun _ _ s => (recolor_old s.2).trans s.1)
theorem RefAt.recolor {w w' : World} {own : Nat → Nat} {c c' b : Nat} {d : Dk} (h : RefAt w (fun k => own k = c) b d) (kp : Kp (fun k => own k = c') w w') (hne : c ≠ c') : RefAt w' (fun k => recolor own w c' k = c) b d :=
  ((h.mono (T := fun k => own k = c ∧ k < w.heap.size) (fun _ hk s => ⟨s, hk⟩)).kept kp (fun _ s e => hne (s.1.symm.trans e))).mono (fun _ _ s => (recolor_old s.2).trans s.1)
theorem TextAt.recolor {w w' : World} {own : Nat → Nat} {c' : Nat} {t : TX} (h : TextAt w (fun g => own g = 2) t) (kp : Kp (fun k => own k = c') w w') (hne : 2 ≠ c') : TextAt w' (fun g => recolor own w c' g = 2) t := by
  obtain ⟨a, n, cap, h1, h2, h3⟩ := h
  refine ⟨a, n, cap, h1, h2, fun i hi => ?_⟩
  obtain ⟨g, rfl, hg, hc⟩ := h3 i hi
  have hlt := World.block_lt_of_cell? w ⟨g, i, none⟩ hc
  exact ⟨g, rfl, (recolor_old hlt).trans hg, (World.cell?_of_block (kp.block g hlt (fun e => hne (hg.symm.trans e)))).trans hc⟩
theorem DiskAt.recolor {w w' : World} {own : Nat → Nat} {N i c' : Nat} {r : DR} (h : DiskAt w own N i r) (kp : Kp (fun k => own k = c') w w') (h3 : 3 + 3 * i ≠ c') (h4 : 4 + 3 * i ≠ c') (h5 : 5 + 3 * i ≠ c') : DiskAt w' (recolor own w c') N i r :=
  ⟨kp.at h.blk (fun e => h3 (h.ck.symm.trans e)), (recolor_old (lt_of_block h.blk)).trans h.ck, h.x.recolor kp h4, h.y.recolor kp h5, h.okx, h.oky, h.lx, h.ly⟩

theorem row_recolor {w w' : World} {own : Nat → Nat} {c' : Nat} {e : TypeId} {size n : Nat} {v : Value} {xs : List Value} (h : w.ownsRow 0 e size v n xs) (hc : ∀ g, v.ownBlock = some g → own g = 1) (kp : Kp (fun k => own k = c') w w') (hne : 1 ≠ c') :
    w'.ownsRow 0 e size v n xs ∧ ∀ g, v.ownBlock = some g → recolor own w c' g = 1 :=
  ⟨kp.row h (fun g hg e => hne ((hc g hg).symm.trans e)), fun g hg => (recolor_old (h.lt g hg).2).trans (hc g hg)⟩

/-- Nothing of the world's own is written. -/
theorem Inv.quiet {w w' : World} {own : Nat → Nat} {bW N : Nat} {rs : List DR} {ts : List TX} {nxt : Nat} {vd vt vm : Value} (h : Inv w own bW N rs ts nxt vd vt vm) (kp : Kp (fun k => own k = 0) w w') : Inv w' (recolor own w 0) bW N rs ts nxt vd vt vm :=
  ⟨kp.at h.blk (fun e => by have := h.cW; omega), (recolor_old (lt_of_block h.blk)).trans h.cW, (row_recolor h.rowd h.cd kp (by omega)).1, (row_recolor h.rowt h.ct kp (by omega)).1, (row_recolor h.rowm h.cm kp (by omega)).1,
   (row_recolor h.rowd h.cd kp (by omega)).2, (row_recolor h.rowt h.ct kp (by omega)).2, (row_recolor h.rowm h.cm kp (by omega)).2, fun t ht => ⟨(h.text t ht).1.recolor kp (by omega), (h.text t ht).2⟩, fun i hi => (h.disk i hi).recolor kp (by omega) (by omega) (by omega)⟩

/-- The i-th disk of the program's has turned. -/
theorem Inv.stepX {w w' : World} {own : Nat → Nat} {bW N N' : Nat} {rs : List DR} {ts : List TX} {nxt : Nat} {vd vt vm : Value} (h : Inv w own bW N rs ts nxt vd vt vm) (i : Nat) (hi : i < rs.length) (kp : Kp (fun k => own k = 4 + 3 * i) w w') (d' : Dk)
    (hx : XAt w' (Nw (fun k => own k = 4 + 3 * i) w) rs[i].bx d') (hok : d'.Ok) (hl : d'.files.length ≤ N') (hN : N ≤ N') : Inv w' (recolor own w (4 + 3 * i)) bW N' (rs.set i { rs[i] with dx := d' }) ts nxt vd vt vm := by
  have hd := h.disk i hi
  refine ⟨kp.at h.blk (fun e => by have := h.cW; omega), (recolor_old (lt_of_block h.blk)).trans h.cW, ?_, (row_recolor h.rowt h.ct kp (by omega)).1, (row_recolor h.rowm h.cm kp (by omega)).1,
   (row_recolor h.rowd h.cd kp (by omega)).2, (row_recolor h.rowt h.ct kp (by omega)).2, (row_recolor h.rowm h.cm kp (by omega)).2, fun t ht => ⟨(h.text t ht).1.recolor kp (by omega), (h.text t ht).2⟩, fun j hj => ?_⟩
  · have := (row_recolor h.rowd h.cd kp (by omega)).1
    rw [List.length_set, List.map_set]
    rwa [show (rs.map fun r => ptrB r.bk).set i (ptrB rs[i].bk) = rs.map fun r => ptrB r.bk by
      apply List.ext_getElem
      · simp
      · intro a h1 h2
        rw [List.getElem_set]
        split
        · rename_i e; subst e; simp
        · rfl]
  · rw [List.length_set] at hj
    by_cases e : i = j
    · subst e
      rw [List.getElem_set_self]
      have hlt : ∀ k, k < w'.heap.size → Nw (fun k => own k = 4 + 3 * i) w k → recolor own w (4 + 3 * i) k = 4 + 3 * i := fun k _ s => by
        rcases Nat.lt_or_ge k w.heap.size with h1 | h1
        · rcases s with s | s
          · exact (recolor_old h1).trans s
          · omega
        · exact recolor_new h1
      exact ⟨kp.at hd.blk (fun e => by have h9 := hd.ck; simp only at e; omega), (recolor_old (lt_of_block hd.blk)).trans hd.ck, hx.mono hlt, hd.y.recolor kp (by omega), hok, hd.oky, hl, Nat.le_trans hd.ly hN⟩
    · rw [List.getElem_set_ne e]
      have hdj := (h.disk j hj).recolor kp (by omega) (by omega) (by omega)
      exact ⟨hdj.blk, hdj.ck, hdj.x, hdj.y, hdj.okx, hdj.oky, Nat.le_trans hdj.lx hN, Nat.le_trans hdj.ly hN⟩

/-- The i-th disk of the document's has turned. -/
theorem Inv.stepY {w w' : World} {own : Nat → Nat} {bW N N' : Nat} {rs : List DR} {ts : List TX} {nxt : Nat} {vd vt vm : Value} (h : Inv w own bW N rs ts nxt vd vt vm) (i : Nat) (hi : i < rs.length) (kp : Kp (fun k => own k = 5 + 3 * i) w w') (d' : Dk)
    (hy : RefAt w' (Nw (fun k => own k = 5 + 3 * i) w) rs[i].bY d') (hok : d'.Ok) (hl : d'.files.length ≤ N') (hN : N ≤ N') : Inv w' (recolor own w (5 + 3 * i)) bW N' (rs.set i { rs[i] with dy := d' }) ts nxt vd vt vm := by
  have hd := h.disk i hi
  refine ⟨kp.at h.blk (fun e => by have := h.cW; omega), (recolor_old (lt_of_block h.blk)).trans h.cW, ?_, (row_recolor h.rowt h.ct kp (by omega)).1, (row_recolor h.rowm h.cm kp (by omega)).1,
   (row_recolor h.rowd h.cd kp (by omega)).2, (row_recolor h.rowt h.ct kp (by omega)).2, (row_recolor h.rowm h.cm kp (by omega)).2, fun t ht => ⟨(h.text t ht).1.recolor kp (by omega), (h.text t ht).2⟩, fun j hj => ?_⟩
  · have := (row_recolor h.rowd h.cd kp (by omega)).1
    rw [List.length_set, List.map_set]
    rwa [show (rs.map fun r => ptrB r.bk).set i (ptrB rs[i].bk) = rs.map fun r => ptrB r.bk by
      apply List.ext_getElem
      · simp
      · intro a h1 h2
        rw [List.getElem_set]
        split
        · rename_i e; subst e; simp
        · rfl]
  · rw [List.length_set] at hj
    by_cases e : i = j
    · subst e
      rw [List.getElem_set_self]
      have hlt : ∀ k, k < w'.heap.size → Nw (fun k => own k = 5 + 3 * i) w k → recolor own w (5 + 3 * i) k = 5 + 3 * i := fun k _ s => by
        rcases Nat.lt_or_ge k w.heap.size with h1 | h1
        · rcases s with s | s
          · exact (recolor_old h1).trans s
          · omega
        · exact recolor_new h1
      exact ⟨kp.at hd.blk (fun e => by have h9 := hd.ck; simp only at e; omega), (recolor_old (lt_of_block hd.blk)).trans hd.ck, hd.x.recolor kp (by omega), hy.mono hlt, hd.okx, hok, Nat.le_trans hd.lx hN, hl⟩
    · rw [List.getElem_set_ne e]
      have hdj := (h.disk j hj).recolor kp (by omega) (by omega) (by omega)
      exact ⟨hdj.blk, hdj.ck, hdj.x, hdj.y, hdj.okx, hdj.oky, Nat.le_trans hdj.lx hN, Nat.le_trans hdj.ly hN⟩

end Go.Proofs.YtoabedkcieindaaGreatDoor
