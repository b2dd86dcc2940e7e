/- The statement: played. -/
import Derived.Test.YtoabedkcieindaaGreatDoorLawP
namespace Go.Proofs.YtoabedkcieindaaGreatDoor
open Go.RowKit Go.Maps Go.Sort
attribute [local go_sem ↓] Go.wp_at_zero Go.wp_at_succ

theorem step_any {w : World} {own : Nat → Nat} {bW N : Nat} {rs : List DR} {ts : List TX} {nxt : Nat} {vd vt vm : Value} (h : Inv w own bW N rs ts nxt vd vt vm) (hsy : ∀ r ∈ rs, r.dx = r.dy) (hr0 : 0 < rs.length) (hrs : rs.length ≤ 4194304) (hN : N ≤ 4194300) (hts : ts.length ≤ 16777216) (hnx : nxt ≤ 1099511627770)
    (o : OpV) (ho : OpOk w own o) (hK : o.K ≤ 10) :
    Calls Tryz.prog 51 #[ptrB bW, .agg o.cells] w fun e w' => e = .returned (.bool true) ∧ Step w own bW N rs ts nxt w' := by
  rcases (by omega : o.K < 1 ∨ o.K = 1 ∨ (2 ≤ o.K ∧ o.K ≤ 8) ∨ 9 ≤ o.K) with e | e | e | e
  · exact step_low h hsy o e
  · exact step_made h hsy (by omega) o e
  · exact step_plain h hsy hr0 hrs hN hts hnx o ho e.1 e.2
  · exact step_power h hsy hr0 hrs hN o ho e hK

/-- The slice q holds these steps. -/
def Opsp (w : World) (q : Option Addr) (os : List OpV) : Prop := ∀ i (h : i < os.length), ∃ g off, q = some ⟨g, off, none⟩ ∧ g < w.heap.size ∧ ∀ j (hj : j < os[i].cells.size), w.cell? ⟨g, off + i * 9 + j, none⟩ = some os[i].cells[j]

theorem Opsp.below {w w' : World} {q : Option Addr} {os : List OpV} (h : Opsp w q os) (hb : Below w.heap.size w w') : Opsp w' q os := by
  intro i hi
  obtain ⟨g, off, e, hg, hc⟩ := h i hi
  exact ⟨g, off, e, Nat.lt_of_lt_of_le hg hb.size, fun j hj => (hb.cell (p := ⟨g, off + i * 9 + j, none⟩) hg).trans (hc j hj)⟩

/-- Behind j steps of the script. -/
structure Played (W w : World) (own : Nat → Nat) (bW j : Nat) (rs : List DR) (ts : List TX) (nxt : Nat) (vd vt vm : Value) : Prop where
  inv : Inv w own bW (j + 1) rs ts nxt vd vt vm
  below : Below W.heap.size W w
  old : ∀ k, k < W.heap.size → own k = 0
  r0 : 0 < rs.length
  r1 : rs.length ≤ j + 2
  t : ts.length ≤ 4 * j + 4
  n : nxt ≤ j + 1
  sync : ∀ r ∈ rs, r.dx = r.dy

theorem Played.next {W w w' : World} {own : Nat → Nat} {bW j : Nat} {rs : List DR} {ts : List TX} {nxt : Nat} {vd vt vm : Value} (h : Played W w own bW j rs ts nxt vd vt vm) (st : Step w own bW (j + 1) rs ts nxt w') : ∃ own' rs' ts' nxt' vd' vt' vm', Played W w' own' bW (j + 1) rs' ts' nxt' vd' vt' vm' := by
  obtain ⟨kp, own', rs', ts', nxt', vd', vt', vm', L⟩ := st
  have h1 := L.len
  have h2 := L.tlen
  have h3 := L.nx
  have h4 := h.r0
  have h5 := h.r1
  have h6 := h.t
  have h7 := h.n
  have hsz := h.below.size
  refine ⟨own', rs', ts', nxt', vd', vt', vm', L.inv, ?_, fun k hk => (L.old k (by omega)).trans (h.old k hk), by omega, by omega, by omega, by omega, L.sync⟩
  exact ⟨kp.os.trans h.below.os, kp.tape.trans h.below.tape, kp.output.trans h.below.output, Nat.le_trans hsz kp.size, fun k hk => (kp.block k (by omega) (fun e => e (h.old k hk))).trans (h.below.block k hk)⟩

theorem Played.quiet {W w w' : World} {own : Nat → Nat} {bW j : Nat} {rs : List DR} {ts : List TX} {nxt : Nat} {vd vt vm : Value} (h : Played W w own bW j rs ts nxt vd vt vm) (hb : Below w.heap.size w w') : Played W w' (recolor own w 0) bW j rs ts nxt vd vt vm :=
  ⟨h.inv.quiet (Kp.of_below hb), h.below.trans (hb.mono h.below.size), fun k hk => (recolor_old (Nat.lt_of_lt_of_le hk h.below.size)).trans (h.old k hk), h.r0, h.r1, h.t, h.n, h.sync⟩
theorem Played.more {W w : World} {own : Nat → Nat} {bW j : Nat} {rs : List DR} {ts : List TX} {nxt : Nat} {vd vt vm : Value} (h : Played W w own bW j rs ts nxt vd vt vm) : Played W w own bW (j + 1) rs ts nxt vd vt vm := by
  have h5 := h.r1
  have h6 := h.t
  have h7 := h.n
  exact ⟨h.inv.more (Nat.le_succ _), h.below, h.old, h.r0, by omega, by omega, by omega, h.sync⟩

theorem opOk_at {W w : World} {own : Nat → Nat} {o : OpV} (h : OpOk W (fun _ => 0) o) (hb : Below W.heap.size W w) (ho : ∀ k, k < W.heap.size → own k = 0) : OpOk w own o :=
  h.step (Kp.of_below hb) (fun k hk => ho k hk)

def zeroW : Obj := .cells #[.slice none 0 0, .slice none 0 0, .slice none 0 0, .slice none 0 0, .slice none 0 0, .slice none 0 0, .slice none 0 0, .int .i64 0] 102

theorem inv_new (W : World) : Inv (W.alloc zeroW) (fun k => if k < W.heap.size then 0 else 1) W.heap.size 0 [] [] 0 (.slice none 0 0) (.slice none 0 0) (.slice none 0 0) :=
  ⟨block_new W _, if_neg (by omega), World.ownsRow_nil _ _ _ _, World.ownsRow_nil _ _ _ _, World.ownsRow_nil _ _ _ _, fun g hg => (by cases hg), fun g hg => (by cases hg), fun g hg => (by cases hg), fun t ht => (by cases ht), fun i hi => absurd hi (Nat.not_lt_zero _)⟩

/-- The first disk is made. -/
theorem made_first (W : World) : Calls Tryz.prog 49 #[ptrB W.heap.size, .int .i64 100] (W.alloc zeroW) fun e w' => e = .returned (.bool true) ∧ Below W.heap.size W w' ∧ ∃ own g cap r, Inv w' own W.heap.size 0 [r] [] 0 (.slice (some ⟨g, 0, none⟩) 1 cap) (.slice none 0 0) (.slice none 0 0) ∧
    (∀ k, k < W.heap.size → own k = 0) ∧ r.dx = r.dy ∧ w'.cell? ⟨g, 0, none⟩ = some (ptrB r.bk) := by
  refine (made_any (inv_new W) (Nat.zero_le _) 100).mono ?_
  rintro e w1 ⟨rfl, kp1, own1, rs1, vd1, hI1, ho1, hr1⟩
  rcases hr1 with ⟨_, h⟩ | ⟨_, r, rfl, h1, h2⟩
  · exact absurd h (by decide)
  obtain ⟨a, cap, rfl, _, _, _, hc⟩ := row1 hI1.rowd
  obtain ⟨g, rfl, _, hc⟩ := hc 0 (by simp)
  refine ⟨rfl, ?_, own1, g, cap, r, hI1, fun k hk => ?_, h1.trans h2.symm, hc⟩
  · have hsz := kp1.size
    exact ⟨kp1.os, kp1.tape, kp1.output, by simp at hsz; omega, fun k hk => (kp1.block k (by simp; omega) (by simp [hk])).trans (Below.heap_alloc _ _ _ (by omega))⟩
  · rw [ho1 k (by simp; omega)]
    simp [hk]

/-- .. and holds a file. -/
theorem plain_first {W w1 : World} (hb1 : Below W.heap.size W w1) {own : Nat → Nat} {vd : Value} {r : DR} (hI : Inv w1 own W.heap.size 0 [r] [] 0 vd (.slice none 0 0) (.slice none 0 0)) (ho : ∀ k, k < W.heap.size → own k = 0) (hr : r.dx = r.dy) :
    Calls Tryz.prog 50 #[ptrB W.heap.size, ptrB r.bk, .agg #[.int .i64 2, .int .i64 0, .int .i64 0, .int .i64 0, .string ⟨#[97]⟩, .string ⟨#[102, 105, 114, 115, 116]⟩, .slice none 0 0, .slice none 0 0, .bool false]] w1 fun e w' =>
      e = .returned (.bool true) ∧ ∃ own' rs' ts' nxt' vd' vt' vm', Played W w' own' W.heap.size 0 rs' ts' nxt' vd' vt' vm' := by
  refine (plain_write hI 0 (by simp) (fun x hx => by rw [List.mem_singleton.1 hx]; exact hr) (by omega) [97] [102, 105, 114, 115, 116] (by simp) (by simp) _ _ _ _ _ _).mono ?_
  rintro e w' ⟨rfl, kp, own', rs', ts', nxt', vd', vt', vm', L⟩
  have h1 := L.len
  have h2 := L.tlen
  have h3 := L.nx
  have hsz := hb1.size
  simp at h1 h2
  refine ⟨rfl, own', rs', ts', nxt', vd', vt', vm', L.inv, ?_, fun k hk => (L.old k (by omega)).trans (ho k hk), by omega, by omega, by omega, by omega, L.sync⟩
  exact ⟨kp.os.trans hb1.os, kp.tape.trans hb1.tape, kp.output.trans hb1.output, Nat.le_trans hsz kp.size, fun k hk => (kp.block k (by omega) (fun e => e (ho k hk))).trans (hb1.block k hk)⟩

set_option maxHeartbeats 1000000 in
set_option maxRecDepth 20000 in
theorem played_any (W : World) (q : Option Addr) (cap : Nat) (os : List OpV) (hl : os.length ≤ 1048576) (hops : Opsp W q os) (hok : ∀ o ∈ os, OpOk W (fun _ => 0) o) :
    Calls Tryz.prog 15 #[.slice q os.length cap, .int .i64 10] W fun e w' => e = .returned (.bool true) ∧ Below W.heap.size W w' := by
  have hm := made_first W
  unfold zeroW ptrB at hm
  go_enter Tryz.func15, Tryz.ntmps15
  go_wp2_with (first | (go_at_call 49; refine hm.mono ?_; rintro e w1 ⟨rfl, hb1, own1, g, cap1, r, hI1, ho1, hr1, hcg⟩; clear hm; obtain ⟨c0, -, -, -, -, -, -, -, -⟩ := cells8 hI1.blk; have hp1 := plain_first hb1 hI1 ho1 hr1; unfold ptrB at hp1; clear hI1) | (go_at_call 50; refine hp1.mono ?_; rintro e w2 ⟨rfl, own2, rs2, ts2, nxt2, vd2, vt2, vm2, hP2⟩; clear hp1 hcg c0))
  go_loopw [6, 7] (fun b i wr => b = .bool true ∧ ∃ j : Nat, j ≤ os.length ∧ i = .int .i64 j ∧ ∃ own rs ts nxt vd vt vm, Played W wr own W.heap.size j rs ts nxt vd vt vm) (fun _ i _ => os.length - (intOf i).toNat)
  case atStart => exact ⟨rfl, 0, Nat.zero_le _, rfl, own2, rs2, ts2, nxt2, vd2, vt2, vm2, hP2⟩
  case round =>
    obtain ⟨rfl, j, hj, rfl, own3, rs3, ts3, nxt3, vd3, vt3, vm3, hP⟩ := hrel
    clear hP2
    by_cases hlt : j < os.length
    · obtain ⟨g3, off, rfl, hg3, hc⟩ := hops j hlt
      have ho := opOk_at (hok _ (List.getElem_mem hlt)) hP.below hP.old
      have hcs : ∀ k (hk : k < os[j].cells.size), wr.cell? ⟨g3, off + j * 9 + k, none⟩ = some os[j].cells[k] := fun k hk => (hP.below.cell (p := ⟨g3, off + j * 9 + k, none⟩) hg3).trans (hc k hk)
      generalize os[j] = o at *
      have q0 : wr.cell? ⟨g3, off + j * 9, none⟩ = some (.int .i64 o.K) := hcs 0 (by simp [OpV.cells])
      have q1 : wr.cell? ⟨g3, off + j * 9 + 1, none⟩ = some (.int .i64 o.D) := hcs 1 (by simp [OpV.cells])
      have q2 : wr.cell? ⟨g3, off + j * 9 + 2, none⟩ = some (.int .i64 o.A) := hcs 2 (by simp [OpV.cells])
      have q3 : wr.cell? ⟨g3, off + j * 9 + 3, none⟩ = some o.B := hcs 3 (by simp [OpV.cells])
      have q4 : wr.cell? ⟨g3, off + j * 9 + 4, none⟩ = some (.string ⟨o.S.toArray⟩) := hcs 4 (by simp [OpV.cells])
      have q5 : wr.cell? ⟨g3, off + j * 9 + 5, none⟩ = some (.string ⟨o.T.toArray⟩) := hcs 5 (by simp [OpV.cells])
      have q6 : wr.cell? ⟨g3, off + j * 9 + 6, none⟩ = some o.ops := hcs 6 (by simp [OpV.cells])
      have q7 : wr.cell? ⟨g3, off + j * 9 + 7, none⟩ = some (.slice o.q o.ks.length o.qc) := hcs 7 (by simp [OpV.cells])
      have q8 : wr.cell? ⟨g3, off + j * 9 + 8, none⟩ = some o.old := hcs 8 (by simp [OpV.cells])
      have r1 := hP.r1
      have t1 := hP.t
      have n1 := hP.n
      by_cases hK : o.K ≤ 10
      · have hst := step_any hP.inv hP.sync hP.r0 (by omega) (by omega) (by omega) (by omega) o ho hK
        unfold OpV.cells ptrB at hst
        have HP : Hid (Played W wr own3 W.heap.size j rs3 ts3 nxt3 vd3 vt3 vm3) := hP
        clear hcs hc ho hP hok hops
        go_wp2_with (first
          | (go_at_call 51; refine hst.mono ?_; rintro e w4 ⟨rfl, hs4⟩; clear hst q0 q1 q2 q3 q4 q5 q6 q7 q8; obtain ⟨own5, rs5, ts5, nxt5, vd5, vt5, vm5, hP5⟩ := HP.out.next hs4; have hlk := looks_any hP5.inv (by have := hP5.t; omega) (by have := hP5.n; omega); unfold ptrB at hlk; have HP5 : Hid (Played W w4 own5 W.heap.size (j + 1) rs5 ts5 nxt5 vd5 vt5 vm5) := hP5; clear hP5 hs4)
          | (go_at_call 52; refine hlk.mono ?_; rintro e w6 ⟨rfl, hb6⟩; clear hlk))
        go_roundw
        case rel => exact ⟨rfl, j + 1, by omega, by go_num, _, _, _, _, _, _, _, HP5.out.quiet hb6⟩
        case measure => simp [intOf]; omega
      · clear hcs hc ho hok hops
        have HP : Hid (Played W wr own3 W.heap.size j rs3 ts3 nxt3 vd3 vt3 vm3) := hP
        clear hP
        go_wp2
        go_roundw
        case rel => exact ⟨rfl, j + 1, by omega, by go_num, _, _, _, _, _, _, _, HP.out.more⟩
        case measure => simp [intOf]; omega
    · clear hok hops
      have HB : Hid (Below W.heap.size W wr) := hP.below
      clear hP
      go_wp2
      go_ret
      exact ⟨rfl, HB.out⟩

set_option maxHeartbeats 1000000 in
theorem disks_any (W : World) (q : Option Addr) (cap : Nat) (os : List OpV) (hl : os.length ≤ 1048576) (hops : Opsp W q os) (hok : ∀ o ∈ os, OpOk W (fun _ => 0) o) :
    Calls Tryz.prog 3 #[.slice q os.length cap] W fun e w' => e = .returned (.bool true) ∧ Below W.heap.size W w' := by
  have hp := played_any W q cap os hl hops hok
  go_enter Tryz.func3, Tryz.ntmps3
  go_wp2_with (go_at_call 15; refine hp.mono ?_; rintro e w1 ⟨rfl, hb1⟩; clear hp)
  go_ret
  exact ⟨rfl, hb1⟩

end Go.Proofs.YtoabedkcieindaaGreatDoor
