import Derived.Test.YtfghgmojnffgnaaGreatPkBY
import Derived.Test.YtfghgmojnffgnaaGreatPkAL
import Derived.ProofKit
import Derived.OpenShut
import Derived.JoinedCond
import Derived.Deep.Slices
set_option maxHeartbeats 4000000
set_option maxRecDepth 20000
namespace Go.Proofs.YtfghgmojnffgnaaGreat.M
open Go.RowKit Go.Maps Go.Sort
attribute [local go_sem ↓] Go.wp_at_zero Go.wp_at_succ
def Opsp (w : World) (q : Option Addr) (os : List OpV) : Prop := ∀ i (h : i < os.length), ∃ g off, q = some ⟨g, off, none⟩ /\ g < w.heap.size /\ ∀ j (hj : j < os[i].cells.size), w.cell? ⟨g, off + i * 9 + j, none⟩ = some os[i].cells[j]
def sumW (os : List OpV) (j : Nat) : Nat := ((os.take j).map OpV.wt).sum
theorem sumW_succ {os : List OpV} {j : Nat} (h : j < os.length) : sumW os (j + 1) = sumW os j + os[j].wt := by
 unfold sumW
 rw [List.take_succ_eq_append_getElem h, List.map_append, List.sum_append]
 rfl
theorem sumW_le {os : List OpV} {n : Nat} : ∀ {j : Nat}, j <= n -> n <= os.length -> sumW os j <= sumW os n := by
 induction n with
 | zero => intro j h _; obtain rfl : j = 0 := by omega
           exact Nat.le_refl _
 | succ n ih =>
   intro j h hn
   rcases Nat.lt_or_ge j (n + 1) with h1 | h1
   . have := ih (j := j) (by omega) (by omega)
     rw [sumW_succ (by omega)]
     omega
   . obtain rfl : j = n + 1 := by omega
     exact Nat.le_refl _
structure Played (W w : World) (own : Nat -> Nat) (bW N j : Nat) (rs : List DR) (ts : List TX) (nxt : Nat) (vd vt vm : Value) (zz : PX) : Prop where
 inv : Inv w own bW N rs ts nxt vd vt vm zz
 below : Below W.heap.size W w
 old : ∀ k, k < W.heap.size -> own k = 0
 r0 : 0 < rs.length
 r1 : rs.length <= j + 2
 t : ts.length <= 4 * j + 4
 p : zz.ps.length <= 4 * j + 4
 n : nxt <= j + 1
 sync : ∀ r ∈ rs, r.dx = r.dy
section
variable {W w w' : World} {own : Nat -> Nat} {bW N j : Nat} {rs : List DR} {ts : List TX} {nxt : Nat} {vd vt vm : Value} {zz : PX}
theorem Played.next (h : Played W w own bW N j rs ts nxt vd vt vm zz) {M : Nat} (st : StepM w own bW M rs ts nxt zz w') : ∃ own' rs' ts' nxt' vd' vt' vm' zz', Played W w' own' bW M (j + 1) rs' ts' nxt' vd' vt' vm' zz' := by
 obtain ⟨kp, own', rs', ts', nxt', vd', vt', vm', zz', L⟩ := st
 have h1 := L.len
 have h2 := L.tlen
 have h3 := L.nx
 have h4 := h.r0
 have h5 := h.r1
 have h6 := h.t
 have h7 := h.n
 have h8 := L.plen
 have h9 := h.p
 have hsz := h.below.size
 refine ⟨own', rs', ts', nxt', vd', vt', vm', zz', L.inv, ?_, fun k hk => (L.old k (by omega)).trans (h.old k hk), by omega, by omega, by omega, by omega, by omega, L.sync⟩
 exact ⟨kp.os.trans h.below.os, kp.tape.trans h.below.tape, kp.output.trans h.below.output, Nat.le_trans hsz kp.size, fun k hk => (kp.block k (by omega) (fun e => e (h.old k hk))).trans (h.below.block k hk)⟩
theorem Played.quiet (h : Played W w own bW N j rs ts nxt vd vt vm zz) (hb : Below w.heap.size w w') : Played W w' (recolor own w 0) bW N j rs ts nxt vd vt vm zz :=
 ⟨h.inv.quiet (Kp.of_below hb), h.below.trans (hb.mono h.below.size), fun k hk => (recolor_old (Nat.lt_of_lt_of_le hk h.below.size)).trans (h.old k hk), h.r0, h.r1, h.t, h.p, h.n, h.sync⟩
theorem Played.more (h : Played W w own bW N j rs ts nxt vd vt vm zz) {M : Nat} (hM : N <= M) : Played W w own bW M (j + 1) rs ts nxt vd vt vm zz := by
 have h5 := h.r1
 have h6 := h.t
 have h7 := h.n
 have h9 := h.p
 exact ⟨h.inv.more hM, h.below, h.old, h.r0, by omega, by omega, by omega, by omega, h.sync⟩
end
theorem opOk_at {W w : World} {own : Nat -> Nat} {o : OpV} (h : OpOk W (fun _ => 0) o) (hb : Below W.heap.size W w) (ho : ∀ k, k < W.heap.size -> own k = 0) : OpOk w own o :=
 h.step (Kp.of_below hb) (fun k hk => ho k hk)
def zeroW : Obj := .cells #[.slice none 0 0, .slice none 0 0, .slice none 0 0, .slice none 0 0, .slice none 0 0, .slice none 0 0, .slice none 0 0, .int .i64 0] 61
theorem inv_new (W : World) : Inv (W.alloc zeroW) (fun k => if k < W.heap.size then 0 else 1) W.heap.size 0 [] [] 0 (.slice none 0 0) (.slice none 0 0) (.slice none 0 0) ⟨.slice none 0 0, .slice none 0 0, []⟩ :=
 ⟨block_new W _, if_neg (by omega), World.ownsRow_nil _ _ _ _, World.ownsRow_nil _ _ _ _, World.ownsRow_nil _ _ _ _, World.ownsRow_nil _ _ _ _, World.ownsRow_nil _ _ _ _, fun g hg => (by cases hg), fun g hg => (by cases hg), fun g hg => (by cases hg), fun g hg => (by cases hg), fun g hg => (by cases hg), fun g hg => (by cases hg), fun t ht => (by cases ht), fun t ht => (by cases ht), fun i hi => absurd hi (Nat.not_lt_zero _)⟩
theorem made_first (W : World) : Calls Tryz.prog 23 #[ptrB W.heap.size, .int .i64 100] (W.alloc zeroW) fun e w' => e = .returned (.bool true) /\ Below W.heap.size W w' /\ ∃ own g cap r, Inv w' own W.heap.size 0 [r] [] 0 (.slice (some ⟨g, 0, none⟩) 1 cap) (.slice none 0 0) (.slice none 0 0) ⟨.slice none 0 0, .slice none 0 0, []⟩ /\
   (∀ k, k < W.heap.size -> own k = 0) /\ r.dx = r.dy /\ r.kn = none /\ w'.cell? ⟨g, 0, none⟩ = some (ptrB r.bk) := by
 refine (made_any (inv_new W) (Nat.zero_le _) 100).mono ?_
 rintro e w1 ⟨rfl, kp1, own1, rs1, vd1, hI1, ho1, hr1⟩
 rcases hr1 with ⟨_, h⟩ | ⟨_, r, rfl, h1, h2, h3⟩
 . exact absurd h (by decide)
 obtain ⟨a, cap, rfl, _, _, _, hc⟩ := row1 hI1.rowd
 obtain ⟨g, rfl, _, hc⟩ := hc 0 (by simp)
 refine ⟨rfl, ?_, own1, g, cap, r, hI1, fun k hk => ?_, h1.trans h2.symm, h3, hc⟩
 . have hsz := kp1.size
   exact ⟨kp1.os, kp1.tape, kp1.output, by simp at hsz; omega, fun k hk => (kp1.block k (by simp; omega) (by simp [hk])).trans (Below.heap_alloc _ _ _ (by omega))⟩
 . rw [ho1 k (by simp; omega)]
   simp [hk]
theorem plain_first {W w1 : World} (hb1 : Below W.heap.size W w1) {own : Nat -> Nat} {vd : Value} {r : DR} (hI : Inv w1 own W.heap.size 0 [r] [] 0 vd (.slice none 0 0) (.slice none 0 0) ⟨.slice none 0 0, .slice none 0 0, []⟩) (ho : ∀ k, k < W.heap.size -> own k = 0) (hr : r.dx = r.dy) (hk : r.kn = none) :
   Calls Tryz.prog 24 #[ptrB W.heap.size, ptrB r.bk, .agg #[.int .i64 2, .int .i64 0, .int .i64 0, .int .i64 0, .string ⟨#[97]⟩, .string ⟨#[102, 105, 114, 115, 116]⟩, .slice none 0 0, .slice none 0 0, .bool false]] w1 fun e w' =>
     e = .returned (.bool true) /\ ∃ own' rs' ts' nxt' vd' vt' vm' zz', Played W w' own' W.heap.size 1 0 rs' ts' nxt' vd' vt' vm' zz' := by
 refine (plain_write hI 0 (by simp) hk (fun x hx => by rw [List.mem_singleton.1 hx]; exact hr) (by omega) [97] [102, 105, 114, 115, 116] (by simp) (by simp) _ _ _ _ _ _).mono ?_
 rintro e w' ⟨rfl, kp, own', rs', ts', nxt', vd', vt', vm', zz', L⟩
 have h1 := L.len
 have h2 := L.tlen
 have h3 := L.nx
 have h4 := L.plen
 have hsz := hb1.size
 simp at h1 h2 h4
 refine ⟨rfl, own', rs', ts', nxt', vd', vt', vm', zz', L.inv, ?_, fun k hk => (L.old k (by omega)).trans (ho k hk), by omega, by omega, by omega, by omega, by omega, L.sync⟩
 exact ⟨kp.os.trans hb1.os, kp.tape.trans hb1.tape, kp.output.trans hb1.output, Nat.le_trans hsz kp.size, fun k hk => (kp.block k (by omega) (fun e => e (ho k hk))).trans (hb1.block k hk)⟩
theorem played_any (W : World) (q : Option Addr) (cap : Nat) (os : List OpV) (hl : os.length <= 1048576) (hsum : 1 + sumW os os.length <= 1048576) (hops : Opsp W q os) (hok : ∀ o ∈ os, OpOk W (fun _ => 0) o) :
   Calls Tryz.prog 8 #[.slice q os.length cap, .int .i64 17] W fun e w' => e = .returned (.bool true) /\ Below W.heap.size W w' := by
 have hm := made_first W
 unfold zeroW ptrB at hm
 go_enter Tryz.func8, Tryz.ntmps8
 go_wp2_with (first | (go_at_call 23; refine hm.mono ?_; rintro e w1 ⟨rfl, hb1, own1, g, cap1, r, hI1, ho1, hr1, hk1, hcg⟩; clear hm; obtain ⟨c0, -, -, -, -, -, -, -, -⟩ := cells8 hI1.blk; have hp1 := plain_first hb1 hI1 ho1 hr1 hk1; unfold ptrB at hp1; clear hI1) | (go_at_call 24; refine hp1.mono ?_; rintro e w2 ⟨rfl, own2, rs2, ts2, nxt2, vd2, vt2, vm2, zz2, hP2⟩; clear hp1 hcg c0))
 go_loopw [6, 7] (fun b i wr => b = .bool true /\ ∃ j : Nat, j <= os.length /\ i = .int .i64 j /\ ∃ own rs ts nxt vd vt vm zz, Played W wr own W.heap.size (1 + sumW os j) j rs ts nxt vd vt vm zz) (fun _ i _ => os.length - (intOf i).toNat)
 case atStart => exact ⟨rfl, 0, Nat.zero_le _, rfl, own2, rs2, ts2, nxt2, vd2, vt2, vm2, zz2, hP2⟩
 case round =>
   obtain ⟨rfl, j, hj, rfl, own3, rs3, ts3, nxt3, vd3, vt3, vm3, zz3, hP⟩ := hrel
   clear hP2
   by_cases hlt : j < os.length
   . obtain ⟨g3, off, rfl, hg3, hc⟩ := hops j hlt
     have ho := opOk_at (hok _ (List.getElem_mem hlt)) hP.below hP.old
     have hcs : ∀ k (hk : k < os[j].cells.size), wr.cell? ⟨g3, off + j * 9 + k, none⟩ = some os[j].cells[k] := fun k hk => (hP.below.cell (p := ⟨g3, off + j * 9 + k, none⟩) hg3).trans (hc k hk)
     have hsj := sumW_le (os := os) (n := os.length) (j := j) (by omega) (Nat.le_refl _)
     have HSS : Hid (sumW os (j + 1) = sumW os j + os[j].wt) := sumW_succ hlt
     generalize os[j] = o at *
     have q0 : wr.cell? ⟨g3, off + j * 9, none⟩ = some (.int .i64 o.K) := hcs 0 (by simp [OpV.cells])
     have q1 : wr.cell? ⟨g3, off + j * 9 + 1, none⟩ = some (.int .i64 o.D) := hcs 1 (by simp [OpV.cells])
     have q2 : wr.cell? ⟨g3, off + j * 9 + 2, none⟩ = some (.int .i64 o.A) := hcs 2 (by simp [OpV.cells])
     have q3 : wr.cell? ⟨g3, off + j * 9 + 3, none⟩ = some o.B := hcs 3 (by simp [OpV.cells])
     have q4 : wr.cell? ⟨g3, off + j * 9 + 4, none⟩ = some (.string ⟨o.S.toArray⟩) := hcs 4 (by simp [OpV.cells])
     have q5 : wr.cell? ⟨g3, off + j * 9 + 5, none⟩ = some (.string ⟨o.T.toArray⟩) := hcs 5 (by simp [OpV.cells])
     have q6 : wr.cell? ⟨g3, off + j * 9 + 6, none⟩ = some (.slice o.qo o.os.length o.oc) := hcs 6 (by simp [OpV.cells])
     have q7 : wr.cell? ⟨g3, off + j * 9 + 7, none⟩ = some (.slice o.q o.ks.length o.qc) := hcs 7 (by simp [OpV.cells])
     have q8 : wr.cell? ⟨g3, off + j * 9 + 8, none⟩ = some (.bool o.old) := hcs 8 (by simp [OpV.cells])
     have r1 := hP.r1
     have t1 := hP.t
     have n1 := hP.n
     have p1 := hP.p
     by_cases hK : o.K <= 17
     . have hst := step_any hP.inv hP.sync hP.r0 (by omega) (by omega) (by omega) (by omega) (by omega) o ho hK
       unfold OpV.cells ptrB at hst
       have HP : Hid (Played W wr own3 W.heap.size (1 + sumW os j) j rs3 ts3 nxt3 vd3 vt3 vm3 zz3) := hP
       clear hcs hc ho hP hok hops
       go_wp2_with (first
         | (go_at_call 25; refine hst.mono ?_; rintro e w4 ⟨rfl, hs4⟩; clear hst q0 q1 q2 q3 q4 q5 q6 q7 q8; obtain ⟨own5, rs5, ts5, nxt5, vd5, vt5, vm5, zz5, hP5⟩ := HP.out.next hs4; have hlk := looks_any hP5.inv (by have := hP5.t; omega) (by have := hP5.p; omega) (by have := hP5.n; omega); unfold ptrB at hlk; have HP5 : Hid (Played W w4 own5 W.heap.size (1 + sumW os j + o.wt) (j + 1) rs5 ts5 nxt5 vd5 vt5 vm5 zz5) := hP5; clear hP5 hs4)
         | (go_at_call 26; refine hlk.mono ?_; rintro e w6 ⟨rfl, hb6⟩; clear hlk))
       go_roundw
       case rel =>
         have hQ := HP5.out.quiet hb6
         rw [Nat.add_assoc, <- HSS.out] at hQ
         exact ⟨rfl, j + 1, by omega, by go_num, _, _, _, _, _, _, _, _, hQ⟩
       case measure => simp [intOf]; omega
     . clear hcs hc ho hok hops
       have HP : Hid (Played W wr own3 W.heap.size (1 + sumW os j) j rs3 ts3 nxt3 vd3 vt3 vm3 zz3) := hP
       clear hP
       go_wp2
       go_roundw
       case rel => exact ⟨rfl, j + 1, by omega, by go_num, _, _, _, _, _, _, _, _, HP.out.more (by rw [HSS.out]; omega)⟩
       case measure => simp [intOf]; omega
   . clear hok hops
     have HB : Hid (Below W.heap.size W wr) := hP.below
     clear hP
     go_wp2
     go_ret
     exact ⟨rfl, HB.out⟩
theorem Opsp.below {w w' : World} {q : Option Addr} {os : List OpV} (h : Opsp w q os) (hb : Below w.heap.size w w') : Opsp w' q os := fun i hi => by
 obtain ⟨g, off, e, hg, hc⟩ := h i hi
 exact ⟨g, off, e, Nat.lt_of_lt_of_le hg hb.size, fun j hj => (hb.cell (p := ⟨g, off + i * 9 + j, none⟩) hg).trans (hc j hj)⟩
theorem maps_any (W : World) (q : Option Addr) (cap : Nat) (os : List OpV) (hl : os.length <= 1048576) (hsum : 1 + sumW os os.length <= 1048576) (hops : Opsp W q os) (hok : ∀ o ∈ os, OpOk W (fun _ => 0) o) :
   Calls Tryz.prog 4 #[.slice q os.length cap] W fun e w' => e = .returned (.bool true) /\ Below W.heap.size W w' := by
 have ho := opened_any W
 have hp : ∀ w', Below W.heap.size W w' -> _ := fun w' hb => played_any w' q cap os hl hsum (hops.below hb) (fun o ho => opOk_at (hok o ho) hb (fun _ _ => rfl))
 clear hops hok
 go_enter Tryz.func4, Tryz.ntmps4
 go_wp2_with (first
   | (go_at_call 9; refine ho.mono ?_; rintro e w1 ⟨rfl, hb1⟩; clear ho)
   | (go_at_call 8; refine (hp w1 hb1).mono ?_; rintro e w2 ⟨rfl, hb2⟩; clear hp))
 go_ret
 exact ⟨by first | rfl | simp, hb1.trans (hb2.mono hb1.size)⟩
end Go.Proofs.YtfghgmojnffgnaaGreat.M
namespace Go.Proofs.YtfghgmojnffgnaaGreat
open Go.ChangeShapes Go.WideShapes Go.ChangeAt Go.RowKit
theorem kbulk_list {H : Type} : ∀ l : List (DataW H), l.length <= Rows.uptoBulkAll l /\ ∀ d ∈ l, Rows.uptoBulk d <= Rows.uptoBulkAll l
 | [] => ⟨Nat.zero_le _, fun _ h => by cases h⟩
 | x :: r => by
   obtain ⟨h1, h2⟩ := kbulk_list r
   have hx : 0 < Rows.uptoBulk x := by
     rcases x with (_ | _) | _ | _ | _ | _ | _ | _ | _ <;> simp [Rows.uptoBulk]
   refine ⟨by simp only [Rows.uptoBulkAll, List.length_cons]; omega, fun d hd => ?_⟩
   rcases List.mem_cons.1 hd with rfl | hd
   . simp only [Rows.uptoBulkAll]; omega
   . have := h2 d hd
     simp only [Rows.uptoBulkAll]; omega
theorem Tryz.cellsk121 : Tryz.prog.cellsOf 121 = 3 := by kernel_rfl
theorem Tryz.cellsk3 : Tryz.prog.cellsOf 3 = 1 := by kernel_rfl
theorem Tryz.cellsk4 : Tryz.prog.cellsOf 4 = 1 := by kernel_rfl
theorem Tryz.cellsk9 : Tryz.prog.cellsOf 9 = 1 := by kernel_rfl
theorem Tryz.cellsk65 : Tryz.prog.cellsOf 65 = 1 := by kernel_rfl
theorem Tryz.laidOutK : laidOutB Tryz.prog = true := by kernel_rfl
theorem Tryz.ownK : ownKnob Tryz.prog.godebug = none := by kernel_rfl
section
variable {H : Type} {enc : TypeId × Value -> H}
def Ox.nul : Ox := ⟨[], [], false⟩
end
end Go.Proofs.YtfghgmojnffgnaaGreat
namespace Go.Proofs.YtfghgmojnffgnaaGreat.M
open Go.ChangeShapes Go.WideShapes Go.ChangeAt Go.RowKit
theorem bulk_pos {H : Type} (x : DataW H) : 0 < Rows.uptoBulk x := by
 rcases x with (_ | _) | _ | _ | _ | _ | _ | _ | _ <;> simp [Rows.uptoBulk]
theorem bulk_append {H : Type} : ∀ a b : List (DataW H), Rows.uptoBulkAll (a ++ b) = Rows.uptoBulkAll a + Rows.uptoBulkAll b
 | [], b => by simp [Rows.uptoBulkAll]
 | x :: a, b => by
   have := bulk_append a b
   simp only [List.cons_append, Rows.uptoBulkAll] at this ⊢
   omega
theorem bulk_range {H : Type} (D : Nat -> DataW H) (f : Nat -> Nat) : ∀ n, (∀ i, i < n -> f i <= Rows.uptoBulk (D i)) -> ((List.range n).map f).sum <= Rows.uptoBulkAll ((List.range n).map D)
 | 0, _ => by simp
 | n + 1, h => by
   have h1 := bulk_range D f n (fun i hi => h i (by omega))
   have h2 := h n (by omega)
   rw [List.range_succ, List.map_append, List.map_append, List.sum_append, bulk_append]
   simp only [List.map_cons, List.map_nil, List.sum_cons, List.sum_nil, Rows.uptoBulkAll]
   omega
theorem Tryz.cells67 : Tryz.prog.cellsOf 67 = 9 := by kernel_rfl
theorem Tryz.cells27 : Tryz.prog.cellsOf 27 = 1 := by kernel_rfl
section
variable {H : Type} {enc : TypeId × Value -> H}
theorem ox_open2 {W : World} {a' : Addr} {n : Nat} {cs : List Value} {d : DataW H} {pl : List MemPlace} (hc : W.cells? 0 a' 3 = some cs) (h : DataW.trod enc Tryz.prog W 0 (fun _ => true) true n 121 cs = some (d, pl)) :
   ∃ o : Ox, (W.cell? (a'.add 0) = some (str o.key) /\ W.cell? (a'.add 1) = some (str o.val) /\ W.cell? (a'.add 2) = some (.bool o.gone)) /\ o.key.length + o.val.length + 4 <= Rows.uptoBulk d := by
 obtain ⟨xs, n', rfl, hx, hcl, hxl, hf⟩ := DataW.trod_struct Tryz.underlying121 h
 obtain ⟨_, _, hcell⟩ := World.cells?_some hc
 rw [Tryz.cellsk121] at hcl
 match cs, hcl, hcell with
 | [c0, c1, c2], _, hcell =>
   match xs, hxl with
   | [x0, x1, x2], _ =>
     have f0 : DataW.trod enc Tryz.prog W 0 (fun _ => true) true n' 9 (([c0, c1, c2].drop 0).take (Tryz.prog.cellsOf 9)) = some x0 := hf 0 _ rfl
     rw [Tryz.cellsk9] at f0
     replace f0 : DataW.trod enc Tryz.prog W 0 (fun _ => true) true n' 9 [c0] = some x0 := f0
     have f1 : DataW.trod enc Tryz.prog W 0 (fun _ => true) true n' 9 (([c0, c1, c2].drop 1).take (Tryz.prog.cellsOf 9)) = some x1 := hf 1 _ rfl
     rw [Tryz.cellsk9] at f1
     replace f1 : DataW.trod enc Tryz.prog W 0 (fun _ => true) true n' 9 [c1] = some x1 := f1
     have f2 : DataW.trod enc Tryz.prog W 0 (fun _ => true) true n' 4 (([c0, c1, c2].drop 2).take (Tryz.prog.cellsOf 4)) = some x2 := hf 2 _ rfl
     rw [Tryz.cellsk4] at f2
     replace f2 : DataW.trod enc Tryz.prog W 0 (fun _ => true) true n' 4 [c2] = some x2 := f2
     obtain ⟨s, e0, y0, _⟩ := DataW.trod_string Tryz.underlying9 f0
     obtain ⟨t, e1, y1, _⟩ := DataW.trod_string Tryz.underlying9 f1
     obtain ⟨b, e2, _⟩ := DataW.trod_bool Tryz.underlying4 f2
     simp only [List.cons.injEq, and_true] at e0 e1 e2
     subst e0 e1 e2
     have hd : d = .agg [x0.1, x1.1, x2.1] := (Prod.mk.inj hx).1
     refine ⟨⟨s.data.toList, t.data.toList, b⟩, ⟨?_, ?_, ?_⟩, ?_⟩
     . rw [hcell 0 (by omega)]; rfl
     . rw [hcell 1 (by omega)]; rfl
     . rw [hcell 2 (by omega)]; rfl
     . subst hd
       rw [y0, y1]
       simp only [Rows.uptoBulk, Rows.uptoBulkAll]
       have := bulk_pos x2.1
       omega
theorem ops_open2 {W : World} {n : Nat} {c : Value} {x : DataW H × List MemPlace} (h : DataW.trod enc Tryz.prog W 0 (fun _ => true) true n 65 [c] = some x) :
   ∃ q qc ops, c = .slice q (ops : List Ox).length qc /\ lens ops + 4 * ops.length + 1 <= Rows.uptoBulk x.1 /\ Opp W q ops /\ (q = none -> ops = [] /\ qc = 0) /\ ∀ a, q = some a -> 0 < ops.length -> a.block < W.heap.size := by
 rcases Deep.open_slice Tryz.underlying65 h with ⟨hcs, hx⟩ | ⟨a, len, cap, m, n', D, Pl, hcs, _, hl, hm, hmm, hx, hel⟩
 . simp at hcs
   subst hcs
   exact ⟨none, 0, [], rfl, bulk_pos _, fun i hi => absurd hi (Nat.not_lt_zero _), fun _ => ⟨rfl, rfl⟩, fun a ha => by cases ha⟩
 . simp at hcs
   subst hcs
   simp only [if_true] at hmm
   have hop : ∀ i, i < len -> ∃ o : Ox, (W.cell? ((a.add (i * 3)).add 0) = some (str o.key) /\ W.cell? ((a.add (i * 3)).add 1) = some (str o.val) /\ W.cell? ((a.add (i * 3)).add 2) = some (.bool o.gone)) /\ o.key.length + o.val.length + 4 <= Rows.uptoBulk (D i) := fun i hi => by
     obtain ⟨cs', hc, ht⟩ := hel i (by omega)
     rw [Tryz.cellsk121] at hc
     exact ox_open2 hc ht
   obtain ⟨f, hf⟩ := @Deep.choose_lt Ox ⟨Ox.nul⟩ _ _ hop
   have hsp : 0 < len -> a.spot = none /\ a.block < W.heap.size := fun h0 => by
     have hc0 := (hf 0 h0).1.1
     have e0 : (a.add (0 * 3)).add 0 = a := by simp [Addr.add]
     rw [e0] at hc0
     exact ⟨World.cell?_spot hc0, World.block_lt_of_cell? W a hc0⟩
   refine ⟨some a, cap, (List.range len).map f, by simp, ?_, fun i hi => ?_, fun e => (by cases e), fun b hb h0 => ?_⟩
   . rw [hx]
     simp only [Rows.uptoBulk]
     have h1 := bulk_range D (fun i => (f i).key.length + (f i).val.length + 4) len (fun i hi => (hf i hi).2)
     have h2 : lens ((List.range len).map f) + 4 * ((List.range len).map f).length = ((List.range len).map fun i => (f i).key.length + (f i).val.length + 4).sum := by
       generalize List.range len = rr
       induction rr with
       | nil => rfl
       | cons y r ih =>
         simp only [lens, List.map_cons, List.sum_cons, List.length_cons] at ih ⊢
         omega
     omega
   . have hi' : i < len := by simpa using hi
     obtain ⟨h1, h2⟩ := hsp (by omega)
     obtain ⟨g, off, sp⟩ := a
     simp only at h1
     subst h1
     simp only [List.getElem_map, List.getElem_range]
     obtain ⟨k0, k1, k2⟩ := (hf i hi').1
     rw [Deep.add_add, Addr.add_lit] at k0 k1 k2
     exact ⟨g, off, rfl, by simpa using k0, by rw [Nat.add_assoc]; exact k1, by rw [Nat.add_assoc]; exact k2⟩
   . cases hb
     exact (hsp (by simpa using h0)).2
theorem list_op {W : World} {n : Nat} {c : Value} {x : DataW H × List MemPlace} (h : DataW.trod enc Tryz.prog W 0 (fun _ => true) true n 27 [c] = some x) :
   ∃ q qc ks, c = .slice q (ks : List Int).length qc /\ ks.length <= Rows.uptoBulk x.1 /\ Intp W q ks /\ (q = none -> ks = [] /\ qc = 0) /\ ∀ a, q = some a -> 0 < ks.length -> a.block < W.heap.size := by
 rcases open_ints Tryz.underlying27 Tryz.underlying3 Tryz.cellsk3 h with ⟨hcs, hx⟩ | ⟨a, len, cap, zs, hcs, _, hl, hm, hz, hx, hcell, hwz⟩
 . simp at hcs
   subst hcs
   exact ⟨none, 0, [], rfl, Nat.zero_le _, fun i hi => absurd hi (Nat.not_lt_zero _), fun _ => ⟨rfl, rfl⟩, fun a ha => (by cases ha)⟩
 . simp at hcs
   subst hcs
   simp only [if_true] at hz
   have hlen : (zs.take len).length = len := by simp; omega
   have hsp : 0 < len -> a.spot = none /\ a.block < W.heap.size := fun h0 => by
     have hc := hcell 0 (by omega)
     have e0 : a.add 0 = a := by simp [Addr.add]
     rw [e0] at hc
     exact ⟨World.cell?_spot hc, World.block_lt_of_cell? W a hc⟩
   refine ⟨some a, cap, zs.take len, by rw [hlen], ?_, ?_, fun e => (by cases e), fun b hb h0 => ?_⟩
   . rw [hx, hlen]
     have := (kbulk_list (lits (H := H) .i64 (zs.take len))).1
     simp only [Rows.uptoBulk]
     simp only [lits, List.length_map, hlen] at this
     simp only [lits] at this ⊢
     omega
   . intro i hi
     rw [hlen] at hi
     obtain ⟨g, off, sp⟩ := a
     obtain rfl : sp = none := (hsp (by omega)).1
     refine ⟨g, off, rfl, ?_⟩
     have hc := hcell i (by omega)
     rw [Addr.add_lit] at hc
     rw [hc]
     simp [List.getD, List.getElem?_eq_getElem (show i < zs.length by omega)]
   . cases hb
     rw [hlen] at h0
     exact (hsp h0).2
theorem op_open {W : World} {a' : Addr} {n : Nat} {cs : List Value} {d : DataW H} {pl : List MemPlace} (hc : W.cells? 0 a' 9 = some cs) (h : DataW.trod enc Tryz.prog W 0 (fun _ => true) true n 67 cs = some (d, pl)) :
   ∃ o : OpV, (∀ j (hj : j < o.cells.size), W.cell? (a'.add j) = some o.cells[j]) /\ o.wt + 8 <= Rows.uptoBulk d /\ (Rows.uptoBulk d <= 1048576 -> OpOk W (fun _ => 0) o) := by
 obtain ⟨xs, n', rfl, hx, hcl, hxl, hf⟩ := DataW.trod_struct Tryz.underlying67 h
 obtain ⟨_, _, hcell⟩ := World.cells?_some hc
 rw [Tryz.cells67] at hcl
 match cs, hcl, hcell with
 | [c0, c1, c2, c3, c4, c5, c6, c7, c8], _, hcell =>
   match xs, hxl with
   | [x0, x1, x2, x3, x4, x5, x6, x7, x8], _ =>
     have f0 : DataW.trod enc Tryz.prog W 0 (fun _ => true) true n' 3 (([c0, c1, c2, c3, c4, c5, c6, c7, c8].drop 0).take (Tryz.prog.cellsOf 3)) = some x0 := hf 0 _ rfl
     rw [Tryz.cellsk3] at f0
     replace f0 : DataW.trod enc Tryz.prog W 0 (fun _ => true) true n' 3 [c0] = some x0 := f0
     have f1 : DataW.trod enc Tryz.prog W 0 (fun _ => true) true n' 3 (([c0, c1, c2, c3, c4, c5, c6, c7, c8].drop 1).take (Tryz.prog.cellsOf 3)) = some x1 := hf 1 _ rfl
     rw [Tryz.cellsk3] at f1
     replace f1 : DataW.trod enc Tryz.prog W 0 (fun _ => true) true n' 3 [c1] = some x1 := f1
     have f2 : DataW.trod enc Tryz.prog W 0 (fun _ => true) true n' 3 (([c0, c1, c2, c3, c4, c5, c6, c7, c8].drop 2).take (Tryz.prog.cellsOf 3)) = some x2 := hf 2 _ rfl
     rw [Tryz.cellsk3] at f2
     replace f2 : DataW.trod enc Tryz.prog W 0 (fun _ => true) true n' 3 [c2] = some x2 := f2
     have f4 : DataW.trod enc Tryz.prog W 0 (fun _ => true) true n' 9 (([c0, c1, c2, c3, c4, c5, c6, c7, c8].drop 4).take (Tryz.prog.cellsOf 9)) = some x4 := hf 4 _ rfl
     rw [Tryz.cellsk9] at f4
     replace f4 : DataW.trod enc Tryz.prog W 0 (fun _ => true) true n' 9 [c4] = some x4 := f4
     have f5 : DataW.trod enc Tryz.prog W 0 (fun _ => true) true n' 9 (([c0, c1, c2, c3, c4, c5, c6, c7, c8].drop 5).take (Tryz.prog.cellsOf 9)) = some x5 := hf 5 _ rfl
     rw [Tryz.cellsk9] at f5
     replace f5 : DataW.trod enc Tryz.prog W 0 (fun _ => true) true n' 9 [c5] = some x5 := f5
     have f7 : DataW.trod enc Tryz.prog W 0 (fun _ => true) true n' 27 (([c0, c1, c2, c3, c4, c5, c6, c7, c8].drop 7).take (Tryz.prog.cellsOf 27)) = some x7 := hf 7 _ rfl
     rw [Tryz.cells27] at f7
     replace f7 : DataW.trod enc Tryz.prog W 0 (fun _ => true) true n' 27 [c7] = some x7 := f7
     have f6 : DataW.trod enc Tryz.prog W 0 (fun _ => true) true n' 65 (([c0, c1, c2, c3, c4, c5, c6, c7, c8].drop 6).take (Tryz.prog.cellsOf 65)) = some x6 := hf 6 _ rfl
     rw [Tryz.cellsk65] at f6
     replace f6 : DataW.trod enc Tryz.prog W 0 (fun _ => true) true n' 65 [c6] = some x6 := f6
     have f8 : DataW.trod enc Tryz.prog W 0 (fun _ => true) true n' 4 (([c0, c1, c2, c3, c4, c5, c6, c7, c8].drop 8).take (Tryz.prog.cellsOf 4)) = some x8 := hf 8 _ rfl
     rw [Tryz.cellsk4] at f8
     replace f8 : DataW.trod enc Tryz.prog W 0 (fun _ => true) true n' 4 [c8] = some x8 := f8
     obtain ⟨qo, oc, ops, e6, b6, i6, z6, q6⟩ := ops_open2 f6
     obtain ⟨old, e8, _⟩ := DataW.trod_bool Tryz.underlying4 f8
     obtain ⟨K, e0, _, _⟩ := DataW.trod_int Tryz.underlying3 f0
     obtain ⟨D, e1, _, w1⟩ := DataW.trod_int Tryz.underlying3 f1
     obtain ⟨A, e2, _, w2⟩ := DataW.trod_int Tryz.underlying3 f2
     obtain ⟨s, e4, y4, _⟩ := DataW.trod_string Tryz.underlying9 f4
     obtain ⟨t, e5, y5, _⟩ := DataW.trod_string Tryz.underlying9 f5
     obtain ⟨q, qc, ks, e7, b7, i7, z7, q7⟩ := list_op f7
     simp only [List.cons.injEq, and_true] at e0 e1 e2 e4 e5 e8
     subst e0 e1 e2 e4 e5 e6 e7 e8
     have hd : d = .agg [x0.1, x1.1, x2.1, x3.1, x4.1, x5.1, x6.1, x7.1, x8.1] := (Prod.mk.inj hx).1
     have p0 := bulk_pos x0.1
     have p1 := bulk_pos x1.1
     have p2 := bulk_pos x2.1
     have p3 := bulk_pos x3.1
     have p7 := bulk_pos x7.1
     have p8 := bulk_pos x8.1
     have hbd : Rows.uptoBulk d = Rows.uptoBulk x0.1 + (Rows.uptoBulk x1.1 + (Rows.uptoBulk x2.1 + (Rows.uptoBulk x3.1 + (s.data.toList.length + 1 + (t.data.toList.length + 1 + (Rows.uptoBulk x6.1 + (Rows.uptoBulk x7.1 + (Rows.uptoBulk x8.1 + 0)))))))) + 1 := by
       rw [hd, y4, y5]
       simp only [Rows.uptoBulk, Rows.uptoBulkAll]
     refine ⟨⟨K, D, A, c3, s.data.toList, t.data.toList, qo, oc, ops, q, qc, ks, old⟩, ?_, ?_, fun hb => ?_⟩
     . intro j hj
       have hj9 : j < 9 := by simpa [OpV.cells] using hj
       rw [hcell j hj9]
       rcases (by omega : j = 0 \/ j = 1 \/ j = 2 \/ j = 3 \/ j = 4 \/ j = 5 \/ j = 6 \/ j = 7 \/ j = 8) with rfl | rfl | rfl | rfl | rfl | rfl | rfl | rfl | rfl <;> simp [OpV.cells]
     . rw [hbd]
       unfold OpV.wt
       simp only
       omega
     . rw [hbd] at hb
       exact ⟨(bounds_i64 w1).1, (bounds_i64 w1).2, (bounds_i64 w2).2, by simp only; omega, by simp only; omega, by simp only; omega, i7, z7, fun a ha h0 => ⟨rfl, q7 a ha h0⟩, by simp only; omega, by simp only; omega, i6, z6, fun a ha h0 => ⟨rfl, q6 a ha h0⟩⟩
def OpV.nul : OpV := ⟨0, 0, 0, .bool false, [], [], none, 0, [], none, 0, [], false⟩
theorem script_open {W : World} {a0 : Option Addr} {len cap : Nat} {d : DataW H} {ps : List MemPlace} (h : DataW.Trod enc Tryz.prog W 0 (fun _ => true) true 22 (.slice a0 len cap) d ps) (hb : Rows.uptoBulk d <= 1048576) :
   ∃ os : List OpV, os.length = len /\ os.length <= 1048576 /\ 1 + sumW os os.length <= 1048576 /\ Opsp W a0 os /\ ∀ o ∈ os, OpOk W (fun _ => 0) o := by
 obtain ⟨fuel, hf⟩ := h
 rcases Deep.open_slice Tryz.underlying22 hf with ⟨hcs, _⟩ | ⟨a, len', cap', m, n, D, Pl, hcs, _, hl, hm, hmm, hx, hel⟩
 . simp [Value.cells] at hcs
   obtain ⟨rfl, rfl, rfl⟩ := hcs
   exact ⟨[], rfl, Nat.zero_le _, by simp [sumW], fun i hi => absurd hi (Nat.not_lt_zero _), fun o ho => by cases ho⟩
 . simp [Value.cells] at hcs
   obtain ⟨rfl, rfl, rfl⟩ := hcs
   simp only [if_true] at hmm
   have hd : d = .slice ((List.range len).map D) ((List.range (m - len)).map fun j => D (len + j)) := (Prod.mk.inj hx).1
   have hle : ∀ i, i < len -> Rows.uptoBulk (D i) <= 1048576 := fun i hi => by
     have h1 := (kbulk_list ((List.range len).map D)).2 (D i) (List.mem_map.2 ⟨i, List.mem_range.2 hi, rfl⟩)
     rw [hd] at hb
     simp only [Rows.uptoBulk] at hb
     omega
   have hlen : len <= 1048576 := by
     have h1 := (kbulk_list ((List.range len).map D)).1
     rw [hd] at hb
     simp only [Rows.uptoBulk] at hb
     simp only [List.length_map, List.length_range] at h1
     omega
   have hop : ∀ i, i < len -> ∃ o : OpV, (∀ j (hj : j < o.cells.size), W.cell? ((a.add (i * 9)).add j) = some o.cells[j]) /\ OpOk W (fun _ => 0) o /\ o.wt + 8 <= Rows.uptoBulk (D i) := fun i hi => by
     obtain ⟨cs', hc, ht⟩ := hel i (by omega)
     rw [Tryz.cells67] at hc
     obtain ⟨o, h1, h3, h2⟩ := op_open hc ht
     exact ⟨o, h1, h2 (hle i hi), h3⟩
   obtain ⟨f, hf⟩ := @Deep.choose_lt OpV ⟨OpV.nul⟩ _ _ hop
   refine ⟨(List.range len).map f, by simp, by simpa using hlen, ?_, fun i hi => ?_, fun o ho => ?_⟩
   . have h1 := bulk_range D (fun i => (f i).wt) len (fun i hi => by have := (hf i hi).2.2; omega)
     rw [hd] at hb
     simp only [Rows.uptoBulk] at hb
     have h2 : sumW ((List.range len).map f) ((List.range len).map f).length = ((List.range len).map fun i => (f i).wt).sum := by
       unfold sumW
       rw [List.take_of_length_le (Nat.le_refl _), List.map_map]
       rfl
     omega
   . have hi' : i < len := by simpa using hi
     have h9 : ∀ o : OpV, o.cells.size = 9 := fun o => by simp [OpV.cells]
     have hc0 := (hf 0 (by omega)).1 0 (by rw [h9]; omega)
     have e0 : (a.add (0 * 9)).add 0 = a := by simp [Addr.add]
     rw [e0] at hc0
     have hsp := World.cell?_spot hc0
     obtain ⟨g, off, sp⟩ := a
     simp only at hsp
     subst hsp
     refine ⟨g, off, rfl, World.block_lt_of_cell? W ⟨g, off, none⟩ hc0, fun j hj => ?_⟩
     simp only [List.getElem_map, List.getElem_range] at hj ⊢
     have hcj := (hf i hi').1 j hj
     rw [Deep.add_add, Addr.add_lit] at hcj
     rw [Nat.add_assoc]
     exact hcj
   . obtain ⟨i, hi, rfl⟩ := List.mem_map.1 ho
     exact (hf i (List.mem_range.1 hi)).2.1
theorem contract (W : World) (base : Nat) (args : Array Value) (ds gs : List (DataW H)) (before : List MemPlace)
   (hval : ∀ (j : Nat) t v, Tryz.f4.params[j]? = some t -> args[j]? = some v -> Value.okWide Tryz.prog W .any base t v)
   (hW : DataW.Whole enc Tryz.prog Tryz.f4.params.toList Rows.mapsSpec.vars false W args.toList ds gs before) (hk : Rows.uptoSmall H (ds ++ gs) = true) :
   Calls Tryz.prog 4 args W fun e W' => ∃ v, e = .returned v /\ Rows.mapsSpec.post enc Tryz.prog Tryz.f4 false true false false W args v W' := by
 have hW' := hW
 obtain ⟨p, q, hA0, hV, rfl, hfz, hnd⟩ := hW
 have hA : DataW.TrodAll enc Tryz.prog W 0 (fun _ => true) true Tryz.f4.params.toList args.toList ds p := hA0
 rw [Tryz.params4] at hA hval
 obtain ⟨v0, d0, rfl, rfl, h0⟩ := trodAll_one hA
 obtain ⟨rfl, rfl⟩ := trodVars_none hV
 have h0k := h0
 obtain ⟨a0, len, cap, rfl⟩ := okWide_slice Tryz.underlying22 (hval 0 22 v0 rfl rfl)
 clear hA0
 simp only [List.append_nil] at hW' hk
 have hb : Rows.uptoBulkAll [d0] <= 1048576 := of_decide_eq_true hk
 simp only [Rows.uptoBulkAll, Nat.add_zero] at hb
 obtain ⟨os, rfl, hl, hsum, hops, hok⟩ := script_open h0 hb
 have hlt : ∀ x ∈ p, x.block < W.heap.size := fun x hx => by simpa using hW'.lt x hx
 refine (maps_any W a0 cap os hl hsum hops hok).mono fun e W' ⟨he, hbl⟩ => ?_
 subst he
 exact ⟨_, rfl, ⟨_, _, _, [], _, [], hW', trodAll_mk1 (shut_bool Tryz.underlying4 _), trodAll_mk1 (Below.trod Tryz.laidOutK (by kernel_rfl) (of_decide_eq_true (by kernel_rfl)) h0k hbl hlt), rfl, hbl.frame _, fun h => by cases h⟩⟩
theorem lifted (os : Os) (started : os.Started) (H : Type) (enc : TypeId × Value -> H) (F : Stop.Interp) :
   ReturnsInHanded {} Tryz.checked os 4 .any ((Rows.OpenSpec.upto Rows.mapsSpec).pre6 enc Tryz.prog Tryz.f4 Rows.mapsUptoRow.domain false) (((Rows.OpenSpec.upto Rows.mapsSpec).at F).post enc Tryz.prog Tryz.f4 false true false false) := by
 refine returnsInHanded_of_cond (C := Tryz.checked) (s := Rows.OpenSpec.upto Rows.mapsSpec) (k := Rows.uptoSmall) rfl Tryz.ownK started (by kernel_rfl) Tryz.func4
   (OpenSpec.witness (enc := enc) (C := Tryz.checked) (s := Rows.OpenSpec.upto Rows.mapsSpec) (k := Rows.uptoSmall) rfl false ⟨#[], #[.slice none 0 0], []⟩ 8 (by kernel_rfl) (by kernel_rfl) (by kernel_rfl)
     (x := ([.nil], [], [])) (by kernel_rfl) rfl (by kernel_rfl)) ?_
 intro W base args ds gs before hval hW _ hk _
 exact contract W base args ds gs before hval hW hk
end
end Go.Proofs.YtfghgmojnffgnaaGreat.M
namespace Go.Proofs.YtfghgmojnffgnaaGreat
open Go.ChangeShapes Go.WideShapes Go.ChangeAt Go.RowKit
theorem maps_upto_holds : Rows.MapsUptoSaid :=
 OpenClaim.holds_of_cond 4 Tryz.f4 rfl rfl rfl rfl rfl rfl rfl ⟨rfl, rfl, rfl, rfl, rfl⟩ rfl rfl rfl rfl rfl (by kernel_rfl) Tryz.func4 (by kernel_rfl)
   (of_decide_eq_true (by kernel_rfl)) (by unfold Func.isWrapper; first | (rw [if_pos (by decide +kernel)]; kernel_rfl) | (rw [if_neg (by decide +kernel)]; exact ⟨rfl, rfl⟩))
   (fun os started H enc _ F => M.lifted os started H enc F)
end Go.Proofs.YtfghgmojnffgnaaGreat
