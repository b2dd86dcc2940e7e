import Derived.Test.YtoabedkcieindaaGreatDoorHkBB
import Derived.Test.YtoabedkcieindaaGreatDoorHkBC
import Derived.Test.YtoabedkcieindaaGreatDoorHkAX
import Derived.Test.YtoabedkcieindaaGreatDoorHkBA
namespace Go.Proofs.YtoabedkcieindaaGreatDoor
open Go.RowKit Go.Maps Go.Sort Go.Shelf
variable {Q : Sq}
def fromL (lo : Nm) (M : Mp) : Mp := M.filter fun x => !bytesBefore x.1 lo
def fromE (lo : Nm) (l : Ly) : Ly := l.filter fun e => !bytesBefore e.op.key lo
theorem drop_start {lo : Nm} : ∀ {l : Ly}, srt l → l.drop (startN lo l) = fromE lo l
  | [], _ => rfl
  | e :: r, hs => by
    obtain ⟨h1, h2⟩ := List.pairwise_cons.1 hs
    have ih := drop_start (lo := lo) h2
    unfold startN fromE at *
    rw [List.takeWhile_cons, List.filter_cons]
    cases hb : bytesBefore e.op.key lo with
    | true => simpa using ih
    | false =>
      simp only [Bool.false_eq_true, if_false, List.length_nil, List.drop_zero, Bool.not_false, if_true]
      congr 1
      refine (List.filter_eq_self.2 fun x hx => ?_).symm
      have := le_trans' hb (h1 x hx)
      simp [this]
theorem betL_from {lo : Nm} {l : Ly} (hs : srt l) : betL lo [] l = fromE lo l := by unfold betL; rw [if_pos rfl]; exact drop_start hs
theorem betM_from {lo : Nm} : ∀ {m : Mm}, (∀ x ∈ m, ∀ e ∈ x.2, e.op.key = x.1) → betM lo [] m = fromE lo (flatM m)
  | [], _ => rfl
  | x :: r, h => by
    have ih := betM_from (lo := lo) (m := r) (fun y hy => h y (by simp [hy]))
    have hx := h x (by simp)
    unfold betM fromE flatM at *
    rw [List.filter_cons, List.flatMap_cons, List.filter_append]
    cases hb : bytesBefore x.1 lo with
    | true =>
      have e1 : (x.2.filter fun e => !bytesBefore e.op.key lo) = [] := List.filter_eq_nil_iff.2 fun e he => by rw [hx e he, hb]; simp
      rw [e1, List.nil_append, ← ih]
      simp [okB, hb]
    | false =>
      have e1 : (x.2.filter fun e => !bytesBefore e.op.key lo) = x.2 := List.filter_eq_self.2 fun e he => by rw [hx e he, hb]; rfl
      rw [e1, ← ih]
      simp [okB, hb]
theorem fromE_flat (lo : Nm) (ls : List Ly) : (ls.map (fromE lo)).flatten = fromE lo ls.flatten := by
  induction ls with
  | nil => rfl
  | cons l r ih => rw [List.map_cons, List.flatten_cons, List.flatten_cons, ih]; unfold fromE; rw [List.filter_append]
theorem fromE_srt {lo : Nm} {l : Ly} (h : srt l) : srt (fromE lo l) := List.Pairwise.filter _ h
theorem atK_from (lo k : Nm) (l : Ly) : atK k (fromE lo l) = if bytesBefore k lo then [] else atK k l := by
  unfold atK fromE
  rw [List.filter_filter]
  split
  · rename_i hb
    refine List.filter_eq_nil_iff.2 fun e _ => ?_
    by_cases hk : e.op.key = k
    · rw [hk, hb]; simp
    · simp [hk]
  · rename_i hb
    refine List.filter_congr fun e _ => ?_
    by_cases hk : e.op.key = k
    · rw [hk]; simp [hb]
    · simp [hk]
theorem getF_from (lo k : Nm) : ∀ (M : Mp), getF k (fromL lo M) = if bytesBefore k lo then none else getF k M
  | [] => by simp [fromL, getF]
  | x :: r => by
    have ih := getF_from lo k r
    unfold fromL at *
    rw [List.filter_cons]
    by_cases hx : x.1 = k
    · subst hx
      cases hb : bytesBefore x.1 lo with
      | true => rw [hb] at ih; simpa using ih
      | false => simp [getF]
    · cases hb : bytesBefore x.1 lo with
      | true => simp only [Bool.not_true, Bool.false_eq_true, if_false]; rw [ih]; simp [getF, hx]
      | false => simp only [Bool.not_false, if_true]; rw [getF, if_neg hx, ih]; simp [getF, hx]
theorem fromL_rise {lo : Nm} {M : Mp} (h : rising M) : rising (fromL lo M) := List.Pairwise.filter _ h
theorem Lsu.layFrom {d : Dk} {s : Ls} {M : Mp} {n c : Nat} (h : Lsu d s M n c Q) (lo : Nm) : betM lo [] s.mem :: (newF s.tabs).map (betL lo []) = s.layers.map (fromE lo) := by
  unfold Ls.layers
  rw [List.map_cons, betM_from (fun x hx => (h.mok.2 x hx).2.2)]
  congr 1
  exact List.map_congr_left fun l hl => betL_from (newF_srt h.srt l hl)
theorem Lsu.scanB {d : Dk} {s : Ls} {M : Mp} {n c : Nat} (h : Lsu d s M n c Q) (lo : Nm) {b : Int} {N : Mp} (hrN : rising N) (hvN : ∀ k, viewE b s.layers.flatten k = getF k N) : scanX b lo [] s = fromL lo N := by
  unfold scanX
  rw [h.layFrom]
  have hsr : ∀ l ∈ s.layers.map (fromE lo), Go.Proofs.YtoabedkcieindaaGreatDoor.srt l := fun l hl => by
    obtain ⟨x, hx, rfl⟩ := List.mem_map.1 hl
    exact fromE_srt (h.lsrt x hx)
  have hs := mergeL_srt hsr
  refine rising_ext (behF_rise _ _ _ hs) (fromL_rise hrN) (fun k => ?_)
  have hno : ∀ e ∈ mergeL (s.layers.map (fromE lo)), bytesBefore e.op.key [] = false := fun e _ => before_nil _
  have hvw : viewE b (mergeL (s.layers.map (fromE lo))) k = getF k (fromL lo N) := by
    have h2 := view_merge hsr b [] k
    rw [List.append_nil, List.append_nil] at h2
    rw [h2, fromE_flat]
    unfold viewE
    rw [atK_from, getF_from]
    split
    · rfl
    · exact hvN k
  by_cases hk : k = []
  · subst hk
    have h1 : getF [] (behF b [] (mergeL (s.layers.map (fromE lo)))) = none := getF_off fun x hx e => by
      have := behF_key b [] _ hs hno x hx
      rw [e, WideAt.bytes_irrefl] at this
      cases this
    rw [h1, ← hvw]
    unfold viewE
    have : atK [] (mergeL (s.layers.map (fromE lo))) = [] := List.filter_eq_nil_iff.2 fun e he => by
      have h3 := mergeL_mem hsr e he
      rw [fromE_flat] at h3
      have := opOk_ne (h.lok e (List.mem_filter.1 h3).1).1
      simpa using this
    rw [this]; rfl
  · rw [behF_get _ _ _ hs hno k hk, hvw]
theorem Lsu.scan {d : Dk} {s : Ls} {M : Mp} {n c : Nat} (h : Lsu d s M n c Q) (lo : Nm) : scanX s.batch lo [] s = fromL lo M := h.scanB lo h.rise h.view
set_option maxHeartbeats 400000 in
theorem scanB_lsu (T bd bm bsn : Nat) (s : Sl) (l : List Tr) (d : Dk) (st : Ls) (S E : Nat → Prop) (M N : Mp) (n c : Nat) (b : Int) (lo : Nm) (lim : Int) (w : World) (h : Lsy w S E T bd bm bsn s l d st) (hl : Lsu d st M n c Q) (hn : n ≤ 110) (hrN : rising N) (hvN : ∀ k, viewE b st.layers.flatten k = getF k N) (hl0 : 0 ≤ lim) (hl1 : lim ≤ 9223372036854775807) :
    Calls Tryz.prog 116 #[.pointer (some ⟨T, 0, none⟩), .int .i64 b, str lo, str [], .int .i64 lim] w fun e w' => ∃ v, e = .returned (.tuple #[v, .int .i64 0]) ∧ OwnPr w' w.heap.size v ((fromL lo N).take lim.toNat) ∧ Below w.heap.size w w' := by
  have hL := h.at_
  have hents := hl.ents
  have hfew := hl.few
  have hml := hl.memlen
  have hlen : l.length = st.tabs.length := by rw [← hL.is]; simp
  have hin : ∀ x ∈ l, x.1 ∈ st.tabs := fun x hx => by rw [← hL.is]; exact List.mem_map.2 ⟨x, hx, rfl⟩
  have hsr : ∀ l ∈ st.layers.map (fromE lo), srt l := fun l hl' => by
    obtain ⟨x, hx, rfl⟩ := List.mem_map.1 hl'
    exact fromE_srt (hl.lsrt x hx)
  have hmm : ∀ e ∈ mergeL (st.layers.map (fromE lo)), e ∈ st.layers.flatten := fun e he => by
    have h3 := mergeL_mem hsr e he
    rw [fromE_flat] at h3
    exact (List.mem_filter.1 h3).1
  have := scanBehind_any T bd bm bsn s l st E b lo [] lim w hL hl.mok.1 (by omega) (by omega) hl.keylen (by omega) (fun x hx => ⟨by have := entsT_at (hin x hx); omega, hl.srt _ (hin x hx)⟩) hl0 hl1 (by
    rw [hl.layFrom]
    intro e he hg
    have h1 := (hl.lok e (hmm e he)).1
    have h2 := (opOk_key h1).2
    have h3 := opOk_val h1 hg
    exact ⟨by omega, by omega⟩) (by
    rw [hl.layFrom]
    unfold mergeL
    refine Nat.le_trans (mergeF_len _ _) ?_
    rw [fromE_flat]
    have h4 : (fromE lo st.layers.flatten).length ≤ st.layers.flatten.length := List.length_filter_le _ _
    have := hl.laylen
    omega)
  rw [hl.scanB lo hrN hvN] at this
  exact this
theorem sScan_lsu (T bd bm bsn : Nat) (s : Sl) (l : List Tr) (d : Dk) (st : Ls) (S E : Nat → Prop) (M : Mp) (n c : Nat) (lo : Nm) (lim : Int) (w : World) (h : Lsy w S E T bd bm bsn s l d st) (hl : Lsu d st M n c Q) (hn : n ≤ 110) (hl0 : 0 ≤ lim) (hl1 : lim ≤ 9223372036854775807) :
    Calls Tryz.prog 66 #[.pointer (some ⟨T, 0, none⟩), str lo, str [], .int .i64 lim] w fun e w' => ∃ v, e = .returned (.tuple #[v, .int .i64 0]) ∧ OwnPr w' w.heap.size v ((fromL lo M).take lim.toNat) ∧ Below w.heap.size w w' := by
  obtain ⟨dm, dr, df, hd, _⟩ := h.prog.raw
  have := sScan_any T bd bm bsn s l st E lo [] lim w h.at_ hd hl.lwr.2 (fun w1 hb => by rw [hl.scan lo]; exact scanB_lsu T bd bm bsn s l d st S E M M n c st.batch lo lim w1 (h.below hb) hl hn hl.rise hl.view hl0 hl1)
  rw [hl.scan] at this
  exact this
def gotM (o : Option Nm) : Value × Value := match o with | some v => (str v, .bool true) | none => (str [], .bool false)
theorem gotE_M {b : Int} {k : Nm} {L : Ly} (h : ∀ e ∈ L, bareE e) : gotE (pickE b (atK k L)) = gotM (viewE b L k) := by
  unfold viewE
  cases hp : pickE b (atK k L) with
  | none => rfl
  | some e =>
    have he := h e (List.mem_filter.1 (List.mem_of_find?_eq_some hp)).1
    simp only [gotE, liveE]
    cases hg : e.op.gone with
    | true => rw [he hg]; rfl
    | false => rfl
end Go.Proofs.YtoabedkcieindaaGreatDoor

namespace Go.Proofs.YtoabedkcieindaaGreatDoor
open Go.RowKit Go.Maps Go.Sort Go.Shelf
variable {Q : Sq}
set_option maxHeartbeats 400000 in
set_option maxRecDepth 20000 in
theorem batchOf_any (T bd bm bsn : Nat) (s : Sl) (l : List Tr) (st : Ls) (E : Nat → Prop) (id : Int) (w : World) (hL : LsAt w E T bd bm bsn s l st) {m r f : Value} {dead : Bool} {t : Int} (hd : w.heap[bd]? = some (.cells #[m, r, f, .bool dead, .int .i64 t] 148)) (h0 : lready t dead st = 0) (hid : I64 id) :
    Calls Tryz.prog 118 #[.pointer (some ⟨T, 0, none⟩), .int .i64 id] w fun e w' => e = .returned (.tuple #[.int .i64 (snB (snF id st.snaps)), .int .i64 (if (snF id st.snaps).isSome then 0 else 8)]) ∧ Below w.heap.size w w' := by
  have hR := lReady_any hL hd
  rw [h0] at hR
  have c9' := hL.cell 9
  have hlk := fun w1 (hb : Below w.heap.size w w1) => (hL.below hb).snp.look hid
  cases hs : snF id st.snaps with
  | none =>
    rw [hs] at hlk
    simp only [snB, Option.isSome_none] at hlk ⊢
    simp only [Bool.false_eq_true, if_false]
    go_enter Tryz.func118, Tryz.ntmps118
    go_wp2_with (go_at_call 102; refine hR.mono ?_; rintro e w1 ⟨rfl, hb1⟩; have c9 : w1.cell? ⟨T, 9, none⟩ = some (.map (some bsn)) := cell_below hb1 c9'; have hlk1 := hlk w1 hb1; clear hR c9' hlk)
    go_ret2
    exact ⟨rfl, hb1⟩
  | some p =>
    rw [hs] at hlk
    simp only [snB, Option.isSome_some] at hlk ⊢
    simp only [if_true]
    go_enter Tryz.func118, Tryz.ntmps118
    go_wp2_with (go_at_call 102; refine hR.mono ?_; rintro e w1 ⟨rfl, hb1⟩; have c9 : w1.cell? ⟨T, 9, none⟩ = some (.map (some bsn)) := cell_below hb1 c9'; have hlk1 := hlk w1 hb1; clear hR c9' hlk)
    go_ret2
    exact ⟨rfl, hb1⟩
theorem LsAt.resnap {w w' : World} {E : Nat → Prop} {T bd bm bsn : Nat} {s : Sl} {l : List Tr} {st st' : Ls} (h : LsAt w E T bd bm bsn s l st) (k : Kp (fun i => i = T ∨ i = bsn) w w') (hb : w'.heap[T]? = some (lsC bd bm bsn s st')) (hs : SnAt w' bsn st'.snaps) (hl : st'.snaps.length ≤ 1000) (hm : st'.mem = st.mem) (ht : st'.tabs = st.tabs) : LsAt w' E T bd bm bsn s l st' := by
  have hTm : T ≠ bm := h.mem.ne h.blk
  have nE : ∀ i, E i → ¬ (i = T ∨ i = bsn) := by
    rintro i hi (e | e)
    · exact h.nE.1 (e ▸ hi)
    · exact h.nE.2.2 (e ▸ hi)
  exact ⟨hb, by rw [hm]; exact h.mem.kept k (by rintro (e | e); exact hTm e.symm; exact h.ne e) nE, hs, hl, h.tab.kept k (fun a ha _ => nE _ (h.inT a ha)), h.es.kept k (fun x hx a ha => nE _ (h.inE x hx a ha)), by rw [ht]; exact h.is, h.inT, h.inE, h.ne, h.nE, fun i hi => Nat.lt_of_lt_of_le (h.bnd i hi) k.size⟩
theorem Lsy.resnap {w w' : World} {S E : Nat → Prop} {T bd bm bsn : Nat} {s : Sl} {l : List Tr} {d : Dk} {st st' : Ls} (h : Lsy w S E T bd bm bsn s l d st) (k : Kp (fun i => i = T ∨ i = bsn) w w') (hb : w'.heap[T]? = some (lsC bd bm bsn s st')) (hs : SnAt w' bsn st'.snaps) (hl : st'.snaps.length ≤ 1000) (hm : st'.mem = st.mem) (ht : st'.tabs = st.tabs) : Lsy w' S E T bd bm bsn s l d st' :=
  ⟨h.prog.kept k (by rintro i hi (e | e); exact h.nT (e ▸ hi); exact h.nn (e ▸ hi)), h.at_.resnap k hb hs hl hm ht, h.dj, h.nT, h.nm, h.nn⟩
def snapL (st : Ls) : Ls := { st with taken := st.taken + 1, snaps := st.snaps ++ [(st.taken + 1, st.batch)] }
def relL (id : Int) (st : Ls) : Ls := { st with snaps := st.snaps.filter fun p => !decide (p.1 = id) }
set_option maxHeartbeats 1000000 in
set_option maxRecDepth 20000 in
theorem sSnap_any (T bd bm bsn : Nat) (s : Sl) (l : List Tr) (d : Dk) (st : Ls) (S E : Nat → Prop) (w : World) (h : Lsy w S E T bd bm bsn s l d st) (h0 : lready d.turn d.dead st = 0) (hsl : st.snaps.length < 8) (htk : 0 ≤ st.taken ∧ st.taken ≤ 1000000) (hbt : I64 st.batch) (hlt : ∀ p ∈ st.snaps, p.1 < st.taken + 1) :
    Calls Tryz.prog 67 #[.pointer (some ⟨T, 0, none⟩)] w fun e w' => e = .returned (.tuple #[.int .i64 (st.taken + 1), .int .i64 0]) ∧ Lsy w' S E T bd bm bsn s l d (snapL st) ∧ Kp (fun i => i = T ∨ i = bsn) w w' := by
  obtain ⟨dm, dr, df, hd, _⟩ := h.prog.raw
  have hR := lReady_any h.at_ hd
  rw [h0] at hR
  clear hd
  have hbl := hbt
  go_enter Tryz.func67, Tryz.ntmps67
  go_wp2_with (first
    | (go_at_call 102; refine hR.mono ?_; rintro e w1 ⟨rfl, hb1⟩; have h1 := h.below hb1; have c9 : w1.cell? ⟨T, 9, none⟩ = some (.map (some bsn)) := h1.at_.cell 9; have c10 : w1.cell? ⟨T, 10, none⟩ = some (.int .i64 st.taken) := h1.at_.cell 10; have z10 := h1.at_.frozen 10; have hln := h1.at_.snp.own; clear hR)
    | (at_len; refine wpList_len_own _ rfl _ 143 rfl 3 3 Tryz.underlying143 _ bsn _ (datI st.snaps) rfl hln ?_; rw [sizeI]))
  have kT := Kp.set1 w1 T 10 (.int .i64 (st.taken + 1))
  have hbT : (w1.setCell ⟨T, 10, none⟩ (.int .i64 (st.taken + 1))).heap[T]? = some (lsC bd bm bsn s { st with taken := st.taken + 1 }) := by
    rw [block_set h1.at_.blk]; rfl
  have hTn : T ≠ bsn := h1.at_.snp.ne h1.at_.blk
  have hsn2 : SnAt (w1.setCell ⟨T, 10, none⟩ (.int .i64 (st.taken + 1))) bsn st.snaps := h1.at_.snp.kept kT (fun e => hTn e.symm)
  generalize w1.setCell ⟨T, 10, none⟩ (.int .i64 (st.taken + 1)) = w2 at *
  have c9' : w2.cell? ⟨T, 9, none⟩ = some (.map (some bsn)) := cell_block hbT
  have c10' : w2.cell? ⟨T, 10, none⟩ = some (.int .i64 (st.taken + 1)) := cell_block hbT
  have c8' : w2.cell? ⟨T, 8, none⟩ = some (.int .i64 st.batch) := cell_block hbT
  clear c9 c10 z10 hln
  refine wp_region_still_tail 12 mixedP (by kernel_rfl) ?_
  simp only [List.take_succ_cons, List.take_zero, List.drop_succ_cons, List.drop_zero]
  (iterate 12 still_step)
  refine wpStill_nil ?_
  rw [show (⟨w2.heap, w2.tape, w2.drawn + 1, w2.os, w2.output⟩ : World) = w2.drew from rfl]
  have kd : Kp (fun i => i = T ∨ i = bsn) w2 w2.drew := (Kp.refl _ _).drew
  have hsn3 : SnAt w2.drew bsn st.snaps := hsn2.kept ((Kp.refl (fun _ => False) w2).drew) (fun f => f)
  obtain ⟨w3, hrun, hsn4, k3⟩ := hsn3.put (id := st.taken + 1) (b := st.batch) (by unfold I64; omega) hbt (by omega) hlt
  have hb3 : w3.heap[T]? = some (lsC bd bm bsn s { st with taken := st.taken + 1 }) := k3.at (show w2.drew.heap[T]? = _ from hbT) hTn
  have c10'' : w3.cell? ⟨T, 10, none⟩ = some (.int .i64 (st.taken + 1)) := cell_block hb3
  go_wp2
  go_ret2
  have kk : Kp (fun i => i = T ∨ i = bsn) w1 w3 := ((kT.mono (fun _ e => .inl e)).trans kd (fun _ _ e => e)).trans k3 (fun _ _ e => .inr e)
  exact ⟨rfl, h1.resnap kk hb3 hsn4 (by simp [snapL]; omega) rfl rfl, (Kp.of_below (S := fun i => i = T ∨ i = bsn) hb1).trans kk (fun _ _ e => e)⟩
set_option maxHeartbeats 400000 in
set_option maxRecDepth 20000 in
theorem sRel_any (T bd bm bsn : Nat) (s : Sl) (l : List Tr) (d : Dk) (st : Ls) (S E : Nat → Prop) (id : Int) (w : World) (h : Lsy w S E T bd bm bsn s l d st) (h0 : lready d.turn d.dead st = 0) (hid : I64 id) (hs : (snF id st.snaps).isSome = true) :
    Calls Tryz.prog 69 #[.pointer (some ⟨T, 0, none⟩), .int .i64 id] w fun e w' => e = .returned (.int .i64 0) ∧ Lsy w' S E T bd bm bsn s l d (relL id st) ∧ Kp (fun i => i = T ∨ i = bsn) w w' := by
  obtain ⟨dm, dr, df, hd, _⟩ := h.prog.raw
  have hB := batchOf_any T bd bm bsn s l st E id w h.at_ hd h0 hid
  rw [hs] at hB
  simp only [if_true] at hB
  clear hd
  generalize snB (snF id st.snaps) = b at *
  go_enter Tryz.func69, Tryz.ntmps69
  go_wp2_with (go_at_call 118; refine hB.mono ?_; rintro e w1 ⟨rfl, hb1⟩; have h1 := h.below hb1; have c9 : w1.cell? ⟨T, 9, none⟩ = some (.map (some bsn)) := h1.at_.cell 9; obtain ⟨w3, hrun, hsn3, k3⟩ := h1.at_.snp.drop hid 0; clear hB)
  have hTn : T ≠ bsn := h1.at_.snp.ne h1.at_.blk
  have hb3 : w3.heap[T]? = some (lsC bd bm bsn s (relL id st)) := k3.at h1.at_.blk hTn
  go_ret
  have kk : Kp (fun i => i = T ∨ i = bsn) w1 w3 := k3.mono (fun _ e => .inr e)
  exact ⟨rfl, h1.resnap kk hb3 hsn3 (Nat.le_trans (List.length_filter_le _ _) h1.at_.sn0) rfl rfl, (Kp.of_below (S := fun i => i = T ∨ i = bsn) hb1).trans kk (fun _ _ e => e)⟩
set_option maxHeartbeats 400000 in
set_option maxRecDepth 20000 in
theorem sRel_no (T bd bm bsn : Nat) (s : Sl) (l : List Tr) (d : Dk) (st : Ls) (S E : Nat → Prop) (id : Int) (w : World) (h : Lsy w S E T bd bm bsn s l d st) (h0 : lready d.turn d.dead st = 0) (hid : I64 id) (hs : (snF id st.snaps).isSome = false) :
    Calls Tryz.prog 69 #[.pointer (some ⟨T, 0, none⟩), .int .i64 id] w fun e w' => e = .returned (.int .i64 8) ∧ Below w.heap.size w w' := by
  obtain ⟨dm, dr, df, hd, _⟩ := h.prog.raw
  have hB := batchOf_any T bd bm bsn s l st E id w h.at_ hd h0 hid
  rw [hs] at hB
  simp only [Bool.false_eq_true, if_false] at hB
  clear hd
  generalize snB (snF id st.snaps) = b at *
  go_enter Tryz.func69, Tryz.ntmps69
  go_wp2_with (go_at_call 118; refine hB.mono ?_; rintro e w1 ⟨rfl, hb1⟩; clear hB)
  go_ret
  exact ⟨rfl, hb1⟩
set_option maxHeartbeats 400000 in
set_option maxRecDepth 20000 in
theorem sScanAt_no (T bd bm bsn : Nat) (s : Sl) (l : List Tr) (d : Dk) (st : Ls) (S E : Nat → Prop) (id : Int) (lo hi : Nm) (lim : Int) (w : World) (h : Lsy w S E T bd bm bsn s l d st) (h0 : lready d.turn d.dead st = 0) (hid : I64 id) (hs : (snF id st.snaps).isSome = false) :
    Calls Tryz.prog 70 #[.pointer (some ⟨T, 0, none⟩), .int .i64 id, str lo, str hi, .int .i64 lim] w fun e w' => e = .returned (.tuple #[.slice none 0 0, .int .i64 8]) ∧ Below w.heap.size w w' := by
  obtain ⟨dm, dr, df, hd, _⟩ := h.prog.raw
  have hB := batchOf_any T bd bm bsn s l st E id w h.at_ hd h0 hid
  rw [hs] at hB
  simp only [Bool.false_eq_true, if_false] at hB
  clear hd
  generalize snB (snF id st.snaps) = b at *
  go_enter Tryz.func70, Tryz.ntmps70
  go_wp2_with (go_at_call 118; refine hB.mono ?_; rintro e w1 ⟨rfl, hb1⟩; clear hB)
  go_ret2
  exact ⟨rfl, hb1⟩
theorem snF_map (id : Int) (q : List (Int × Int × Mp)) : snF id (q.map fun q => (q.1, q.2.1)) = (q.find? fun q => decide (q.1 = id)).map fun q => (q.1, q.2.1) := by
  unfold snF
  rw [List.find?_map]
  rfl
theorem Lsu.found {d : Dk} {s : Ls} {M : Mp} {n c : Nat} (h : Lsu d s M n c Q) {id : Int} {q : Int × Int × Mp} (hq : Q.l.find? (fun q => decide (q.1 = id)) = some q) : snF id s.snaps = some (q.1, q.2.1) ∧ q ∈ Q.l := by
  rw [h.sn, snF_map, hq]
  exact ⟨rfl, List.mem_of_find?_eq_some hq⟩
theorem Lsu.lost {d : Dk} {s : Ls} {M : Mp} {n c : Nat} (h : Lsu d s M n c Q) {id : Int} (hq : Q.l.find? (fun q => decide (q.1 = id)) = none) : (snF id s.snaps).isSome = false := by
  rw [h.sn, snF_map, hq]; rfl
set_option maxHeartbeats 400000 in
set_option maxRecDepth 20000 in
theorem sScanAt_lsu (T bd bm bsn : Nat) (s : Sl) (l : List Tr) (d : Dk) (st : Ls) (S E : Nat → Prop) (M : Mp) (n c : Nat) (id : Int) (q : Int × Int × Mp) (lo : Nm) (lim : Int) (w : World) (h : Lsy w S E T bd bm bsn s l d st) (hl : Lsu d st M n c Q) (hn : n ≤ 110) (hid : I64 id) (hq : Q.l.find? (fun q => decide (q.1 = id)) = some q) (hl0 : 0 ≤ lim) (hl1 : lim ≤ 9223372036854775807) :
    Calls Tryz.prog 70 #[.pointer (some ⟨T, 0, none⟩), .int .i64 id, str lo, str [], .int .i64 lim] w fun e w' => ∃ v, e = .returned (.tuple #[v, .int .i64 0]) ∧ OwnPr w' w.heap.size v ((fromL lo q.2.2).take lim.toNat) ∧ Below w.heap.size w w' := by
  obtain ⟨dm, dr, df, hd, _⟩ := h.prog.raw
  obtain ⟨f1, f2⟩ := hl.found hq
  obtain ⟨_, u2, u3⟩ := hl.snk q f2
  have hB := batchOf_any T bd bm bsn s l st E id w h.at_ hd hl.lwr.2 hid
  rw [f1] at hB
  simp only [snB, Option.isSome_some, if_true] at hB
  clear hd
  have hS := fun w1 (hb : Below w.heap.size w w1) => scanB_lsu T bd bm bsn s l d st S E M q.2.2 n c q.2.1 lo lim w1 (h.below hb) hl hn u2 u3 hl0 hl1
  generalize (fromL lo q.2.2).take lim.toNat = X at *
  generalize q.2.1 = b at *
  go_enter Tryz.func70, Tryz.ntmps70
  go_wp2_with (first
    | (go_at_call 118; refine hB.mono ?_; rintro e w1 ⟨rfl, hb1⟩; have hS1 := hS w1 hb1; clear hB hS)
    | (go_at_call 116; refine hS1.mono ?_; rintro e w2 ⟨v, rfl, ho, hb2⟩; obtain ⟨a2, k2, rfl⟩ := ho.shape; clear hS1))
  go_ret2
  refine ⟨_, rfl, ?_, hb1.trans (hb2.mono hb1.size)⟩
  exact OwnR.lowP ho hb1.size
theorem getB_lsu (T bd bm bsn : Nat) (s : Sl) (l : List Tr) (d : Dk) (st : Ls) (S E : Nat → Prop) (M N : Mp) (n c : Nat) (b : Int) (key : Nm) (w : World) (h : Lsy w S E T bd bm bsn s l d st) (hl : Lsu d st M n c Q) (hn : n ≤ 110) (hvN : ∀ k, viewE b st.layers.flatten k = getF k N) (hk : keyOk key = true) :
    Calls Tryz.prog 103 #[.pointer (some ⟨T, 0, none⟩), .int .i64 b, str key] w fun e w' => e = .returned (.tuple #[(gotM (getF key N)).1, (gotM (getF key N)).2, .int .i64 0]) ∧ Below w.heap.size w w' := by
  have hL := h.at_
  have hents := hl.ents
  have hfew := hl.few
  have hlen : l.length = st.tabs.length := by rw [← hL.is]; simp
  have hkk : key.length ≤ 16 := by unfold keyOk at hk; simp at hk; omega
  have hfl : ∀ e ∈ (getF key st.mem).getD [], e ∈ flatM st.mem := fun e he => by
    rw [← atK_flat hl.mok key] at he
    exact (List.mem_filter.1 he).1
  have hval : ∀ e, opOk e.op = true → bareE e → e.op.val.length ≤ 1048576 := fun e h1 h2 => by
    cases hg : e.op.gone with
    | true => rw [h2 hg]; simp
    | false => have := opOk_val h1 hg; omega
  have := getBehind_any T bd bm bsn s l st E b key w hL hk (by omega) (by omega) (fun y hy => by
    rcases List.mem_cons.1 hy with rfl | hy
    · refine ⟨?_, ?_, fun e he => hval e (hl.mop e (hfl e he)).1 (hl.mbar e (hfl e he))⟩
      · rw [← atK_flat hl.mok key]; exact List.Pairwise.filter _ (srt_flat hl.mok)
      · rw [← atK_flat hl.mok key]
        have h4 : (atK key (flatM st.mem)).length ≤ (flatM st.mem).length := List.length_filter_le _ _
        omega
    · refine ⟨newF_srt hl.srt y hy, ?_, fun e he => ?_⟩
      · have h1 : y.length ≤ (newF st.tabs).flatten.length := (List.sublist_flatten_of_mem hy).length_le
        rw [newF_len] at h1
        omega
      · obtain ⟨x, hx, hxe⟩ := newF_mem (List.mem_flatten.2 ⟨y, hy, he⟩)
        exact hval e (hl.tok x hx e hxe).1 (hl.tbar x hx e hxe))
  have e1 : atK key ((getF key st.mem).getD [] :: newF st.tabs).flatten = atK key st.layers.flatten := by
    rw [Lsu.lay, List.flatten_cons, atK_app, atK_app, atK_flat hl.mok key]
    congr 1
    rw [← atK_flat hl.mok key]
    unfold atK
    rw [List.filter_filter]
    simp
  rw [e1, gotE_M (fun e he => (hl.lok e he).2.2), hvN key] at this
  exact this
set_option maxHeartbeats 400000 in
set_option maxRecDepth 20000 in
theorem sGetAt_lsu (T bd bm bsn : Nat) (s : Sl) (l : List Tr) (d : Dk) (st : Ls) (S E : Nat → Prop) (M : Mp) (n c : Nat) (id : Int) (q : Int × Int × Mp) (key : Nm) (w : World) (h : Lsy w S E T bd bm bsn s l d st) (hl : Lsu d st M n c Q) (hn : n ≤ 110) (hid : I64 id) (hq : Q.l.find? (fun q => decide (q.1 = id)) = some q) (hk : keyOk key = true) :
    Calls Tryz.prog 71 #[.pointer (some ⟨T, 0, none⟩), .int .i64 id, str key] w fun e w' => e = .returned (.tuple #[(gotM (getF key q.2.2)).1, (gotM (getF key q.2.2)).2, .int .i64 0]) ∧ Below w.heap.size w w' := by
  obtain ⟨dm, dr, df, hd, _⟩ := h.prog.raw
  obtain ⟨f1, f2⟩ := hl.found hq
  obtain ⟨_, u2, u3⟩ := hl.snk q f2
  have hB := batchOf_any T bd bm bsn s l st E id w h.at_ hd hl.lwr.2 hid
  rw [f1] at hB
  simp only [snB, Option.isSome_some, if_true] at hB
  clear hd
  have hS := fun w1 (hb : Below w.heap.size w w1) => getB_lsu T bd bm bsn s l d st S E M q.2.2 n c q.2.1 key w1 (h.below hb) hl hn u3 hk
  generalize gotM (getF key q.2.2) = X at *
  obtain ⟨x1, x2⟩ := X
  generalize q.2.1 = b at *
  go_enter Tryz.func71, Tryz.ntmps71
  go_wp2_with (first
    | (go_at_call 118; refine hB.mono ?_; rintro e w1 ⟨rfl, hb1⟩; have hS1 := hS w1 hb1; clear hB hS)
    | (go_at_call 103; refine hS1.mono ?_; rintro e w2 ⟨rfl, hb2⟩; clear hS1))
  go_ret3
  exact ⟨rfl, hb1.trans (hb2.mono hb1.size)⟩
def Sq.add (Q : Sq) (b : Int) (M : Mp) : Sq := ⟨Q.tk + 1, Q.l ++ [((Q.tk : Int) + 1, b, M)]⟩
def Sq.rel (Q : Sq) (id : Int) : Sq := ⟨Q.tk, Q.l.filter fun q => !decide (q.1 = id)⟩
theorem Lsu.snapped {d : Dk} {s : Ls} {M : Mp} {n c : Nat} (h : Lsu d s M n c Q) : Lsu d (snapL s) M n c (Q.add s.batch M) := by
  obtain ⟨bs, m, hL, e1, e2⟩ := h.lin
  refine ⟨⟨bs, m, ⟨hL.dur, hL.cln, hL.rise⟩, e1, e2⟩, h.ok, h.stl, h.qu, h.turn, h.pol, ?_, h.stk, h.mok, h.mop, h.bat, h.rise, h.view, h.srt, h.tok, h.ne, h.lv, h.ents, h.lev, h.few, h.log, h.next, h.mbar, h.tbar, h.lo, ?_, fun q hq => ?_⟩
  · simp [snapL, Sq.add, h.sn, h.tkn]
  · simp [snapL, Sq.add, h.tkn]
  · rcases List.mem_append.1 (show q ∈ Q.l ++ [((Q.tk : Int) + 1, s.batch, M)] from hq) with hq | hq
    · obtain ⟨⟨u0, u1, u2⟩, u3, u4⟩ := h.snk q hq
      exact ⟨⟨u0, u1, by simp only [Sq.add]; omega⟩, u3, u4⟩
    · rw [List.mem_singleton] at hq
      subst hq
      exact ⟨⟨h.bat.1, Int.le_refl _, by simp [Sq.add]⟩, h.rise, h.view⟩
theorem Lsu.released {d : Dk} {s : Ls} {M : Mp} {n c : Nat} (h : Lsu d s M n c Q) (id : Int) : Lsu d (relL id s) M n c (Q.rel id) := by
  obtain ⟨bs, m, hL, e1, e2⟩ := h.lin
  refine ⟨⟨bs, m, ⟨hL.dur, hL.cln, hL.rise⟩, e1, e2⟩, h.ok, h.stl, h.qu, h.turn, h.pol, ?_, h.stk, h.mok, h.mop, h.bat, h.rise, h.view, h.srt, h.tok, h.ne, h.lv, h.ents, h.lev, h.few, h.log, h.next, h.mbar, h.tbar, h.lo, h.tkn, fun q hq => h.snk q (List.mem_filter.1 hq).1⟩
  simp only [relL, Sq.rel, h.sn, List.filter_map]
  rfl
end Go.Proofs.YtoabedkcieindaaGreatDoor

namespace Go.Proofs.YtoabedkcieindaaGreatDoor
open Go.RowKit Go.Maps Go.Sort Go.Shelf
def Lg (w : World) (U : Nat → Prop) (bx bz : Nat) (M : Mp) (n c : Nat) (Q : Sq) : Prop := ∃ d st, Lx w U bx bz d st ∧ Lsu d st M n c Q
variable {Q : Sq}
theorem Lg.kept {w w' : World} {U V : Nat → Prop} {bx bz : Nat} {M : Mp} {n c : Nat} (h : Lg w U bx bz M n c Q) (k : Kp V w w') (hV : ∀ i, U i → ¬ V i) : Lg w' U bx bz M n c Q := by
  obtain ⟨d, st, h1, h2⟩ := h
  exact ⟨d, st, h1.kept k hV, h2⟩
theorem Lg.below {w w' : World} {U : Nat → Prop} {bx bz : Nat} {M : Mp} {n c : Nat} (h : Lg w U bx bz M n c Q) (k : Below w.heap.size w w') : Lg w' U bx bz M n c Q := h.kept (V := fun _ => False) (Kp.of_below k) (fun _ _ f => f)
theorem Lg.mono {w : World} {U V : Nat → Prop} {bx bz : Nat} {M : Mp} {n c : Nat} (h : Lg w U bx bz M n c Q) (hV : ∀ k, k < w.heap.size → U k → V k) : Lg w V bx bz M n c Q := by
  obtain ⟨d, st, h1, h2⟩ := h
  exact ⟨d, st, h1.mono hV, h2⟩
theorem Lg.up {w : World} {U : Nat → Prop} {bx bz : Nat} {M : Mp} {n c c' : Nat} (h : Lg w U bx bz M n c Q) (hc : c ≤ c') : Lg w U bx bz M n c' Q := by
  obtain ⟨d, st, h1, h2⟩ := h
  exact ⟨d, st, h1, h2.up hc⟩
set_option maxHeartbeats 400000 in
theorem xBatch_lg (bx bz : Nat) (U : Nat → Prop) (M : Mp) (n c : Nat) (q : Option Addr) (qc : Nat) (ops : List Ox) (w : World) (h : Lg w U bx bz M n c Q) (hc : c ≤ 1000000000) (hb : batchOk ops = true) (hn : n + ops.length ≤ 110) (hk : OxLen ops) (hp : Opp w q ops) (hq : ∀ a, q = some a → 0 < ops.length → ¬ U a.block) :
    Calls Tryz.prog 34 #[.pointer (some ⟨bz, 0, none⟩), .slice q ops.length qc] w fun e w' => e = .returned (.int .i64 0) ∧ Lg w' (Nw U w) bx bz (doAll M ops) (n + ops.length) (c + 1) Q ∧ Kp U w w' := by
  obtain ⟨d, st, hx, hl⟩ := h
  obtain ⟨bd, T, bm, bsn, S, E, s, l, h1, h2, h3, h4, h5, h6⟩ := hx.ex
  have hin := sinner_any h2
  have hB := sBatch_lsu T bd bm bsn s l d st S E M n c q qc ops w h6 hl hc hb hn hk hp (fun a ha h0 => ⟨fun x => hq a ha h0 (h5 _ (.inl x)).1, fun e => hq a ha h0 (by rw [e]; exact (h5 T (.inr (.inr (.inl rfl)))).1)⟩)
  have hlX := (hl.batchX hc hb hn).2
  generalize lbatchX d st ops = X at *
  go_enter Tryz.func34, Tryz.ntmps34
  go_wp2_with (first
    | (go_at_call 53; refine hin.mono ?_; rintro e w' ⟨rfl, rfl⟩; clear hin)
    | (go_at_call 63; refine hB.mono ?_; rintro e w1 ⟨rfl, hc1, k1⟩; clear hB))
  go_ret
  obtain ⟨a, b⟩ := Lx.step h1 h2 h3 h4 h5 hc1 k1
  exact ⟨rfl, ⟨_, _, a, hlX⟩, b⟩
set_option maxHeartbeats 400000 in
theorem xFlush_lg (bx bz : Nat) (U : Nat → Prop) (M : Mp) (n c : Nat) (w : World) (h : Lg w U bx bz M n c Q) (hn : n ≤ 110) (hc : c ≤ 1000000000) :
    Calls Tryz.prog 39 #[.pointer (some ⟨bz, 0, none⟩)] w fun e w' => e = .returned (.int .i64 0) ∧ Lg w' (Nw U w) bx bz M n (c + 1) Q ∧ Kp U w w' := by
  obtain ⟨d, st, hx, hl⟩ := h
  obtain ⟨bd, T, bm, bsn, S, E, s, l, h1, h2, h3, h4, h5, h6⟩ := hx.ex
  have hin := sinner_any h2
  have hB := sFlush_lsu T bd bm bsn s l d st S E M n c w h6 hl hn hc
  have hlX := (hl.flush hn hc).2
  generalize flushX d st = X at *
  go_enter Tryz.func39, Tryz.ntmps39
  go_wp2_with (first
    | (go_at_call 53; refine hin.mono ?_; rintro e w' ⟨rfl, rfl⟩; clear hin)
    | (go_at_call 68; refine hB.mono ?_; rintro e w1 ⟨rfl, hc1, k1⟩; clear hB))
  go_ret
  obtain ⟨a, b⟩ := Lx.step h1 h2 h3 h4 h5 hc1 k1
  exact ⟨rfl, ⟨_, _, a, hlX⟩, b⟩
set_option maxHeartbeats 400000 in
theorem xScan_lg (bx bz : Nat) (U : Nat → Prop) (M : Mp) (n c : Nat) (lo : Nm) (lim : Int) (w : World) (h : Lg w U bx bz M n c Q) (hn : n ≤ 110) (hl0 : 0 ≤ lim) (hl1 : lim ≤ 9223372036854775807) :
    Calls Tryz.prog 37 #[.pointer (some ⟨bz, 0, none⟩), str lo, str [], .int .i64 lim] w fun e w' => ∃ v, e = .returned (.tuple #[v, .int .i64 0]) ∧ Below w.heap.size w w' ∧ OwnP w' w.heap.size v ((fromL lo M).take lim.toNat) := by
  obtain ⟨d, st, hx, hl⟩ := h
  obtain ⟨bd, T, bm, bsn, S, E, s, l, h1, h2, h3, h4, h5, h6⟩ := hx.ex
  have hin := sinner_any h2
  have hB := sScan_lsu T bd bm bsn s l d st S E M n c lo lim w h6 hl hn hl0 hl1
  generalize (fromL lo M).take lim.toNat = X at *
  go_enter Tryz.func37, Tryz.ntmps37
  go_wp2_with (first
    | (go_at_call 53; refine hin.mono ?_; rintro e w' ⟨rfl, rfl⟩; clear hin)
    | (go_at_call 66; refine hB.mono ?_; rintro e w1 ⟨v, rfl, ho, hb⟩; obtain ⟨a2, k2, rfl⟩ := ho.shape; clear hB))
  go_ret2
  exact ⟨_, rfl, hb, ho⟩
set_option maxHeartbeats 400000 in
theorem Lx.snap {w w' : World} {U S E : Nat → Prop} {bx bz bd T bm bsn : Nat} {s : Sl} {l : List Tr} {d : Dk} {st' : Ls} (h1 : w.heap[bx]? = some (.cells #[.pointer (some ⟨bd, 0, none⟩)] 116)) (h2 : w.heap[bz]? = some (.cells #[.pointer (some ⟨T, 0, none⟩)] 118)) (h3 : U bx) (h4 : U bz) (h5 : ∀ k, (S k ∨ E k ∨ k = T ∨ k = bm ∨ k = bsn) → U k ∧ k ≠ bx ∧ k ≠ bz)
    (hy : Lsy w' S E T bd bm bsn s l d st') (k : Kp (fun i => i = T ∨ i = bsn) w w') : Lx w' U bx bz d st' ∧ Kp U w w' := by
  have q : ∀ k, (k = T ∨ k = bsn) → U k ∧ k ≠ bx ∧ k ≠ bz := by
    rintro k (e | e)
    · exact h5 k (.inr (.inr (.inl e)))
    · exact h5 k (.inr (.inr (.inr (.inr e))))
  exact ⟨⟨bd, T, bm, bsn, S, E, s, l, k.at h1 (fun x => (q _ x).2.1 rfl), k.at h2 (fun x => (q _ x).2.2 rfl), h3, h4, h5, hy⟩, k.mono (fun i x => (q i x).1)⟩
set_option maxHeartbeats 400000 in
theorem xSnap_lg (bx bz : Nat) (U : Nat → Prop) (M : Mp) (n c : Nat) (w : World) (h : Lg w U bx bz M n c Q) (hn : n ≤ 110) (hQ : Q.l.length < 8 ∧ Q.tk ≤ 1000000) :
    Calls Tryz.prog 38 #[.pointer (some ⟨bz, 0, none⟩)] w fun e w' => e = .returned (.tuple #[.int .i64 ((Q.tk : Int) + 1), .int .i64 0]) ∧ (∃ b, Lg w' U bx bz M n c (Q.add b M)) ∧ Kp U w w' := by
  obtain ⟨d, st, hx, hl⟩ := h
  obtain ⟨bd, T, bm, bsn, S, E, s, l, h1, h2, h3, h4, h5, h6⟩ := hx.ex
  have hin := sinner_any h2
  have htk := hl.tkn
  have hbt := hl.bat
  have hB := sSnap_any T bd bm bsn s l d st S E w h6 hl.lwr.2 (by rw [hl.sn, List.length_map]; exact hQ.1) (by omega) (by unfold I64; omega) (fun p hp => by
    rw [hl.sn] at hp
    obtain ⟨q, hq, rfl⟩ := List.mem_map.1 hp
    have := (hl.snk q hq).1.2.2
    simp only
    omega)
  have hlX := hl.snapped
  rw [htk] at hB
  generalize snapL st = X at *
  go_enter Tryz.func38, Tryz.ntmps38
  go_wp2_with (first
    | (go_at_call 53; refine hin.mono ?_; rintro e w' ⟨rfl, rfl⟩; clear hin)
    | (go_at_call 67; refine hB.mono ?_; rintro e w1 ⟨rfl, hy1, k1⟩; clear hB))
  go_ret2
  obtain ⟨a, b⟩ := Lx.snap h1 h2 h3 h4 h5 hy1 k1
  exact ⟨rfl, ⟨_, _, _, a, hlX⟩, b⟩
set_option maxHeartbeats 400000 in
theorem xRel_lg (bx bz : Nat) (U : Nat → Prop) (M : Mp) (n c : Nat) (id : Int) (q : Int × Int × Mp) (w : World) (h : Lg w U bx bz M n c Q) (_ : n ≤ 110) (hid : I64 id) (hq : Q.l.find? (fun q => decide (q.1 = id)) = some q) :
    Calls Tryz.prog 40 #[.pointer (some ⟨bz, 0, none⟩), .int .i64 id] w fun e w' => e = .returned (.int .i64 0) ∧ Lg w' U bx bz M n c (Q.rel id) ∧ Kp U w w' := by
  obtain ⟨d, st, hx, hl⟩ := h
  obtain ⟨bd, T, bm, bsn, S, E, s, l, h1, h2, h3, h4, h5, h6⟩ := hx.ex
  have hin := sinner_any h2
  have hB := sRel_any T bd bm bsn s l d st S E id w h6 hl.lwr.2 hid (by rw [(hl.found hq).1]; rfl)
  have hlX := hl.released id
  generalize relL id st = X at *
  go_enter Tryz.func40, Tryz.ntmps40
  go_wp2_with (first
    | (go_at_call 53; refine hin.mono ?_; rintro e w' ⟨rfl, rfl⟩; clear hin)
    | (go_at_call 69; refine hB.mono ?_; rintro e w1 ⟨rfl, hy1, k1⟩; clear hB))
  go_ret
  obtain ⟨a, b⟩ := Lx.snap h1 h2 h3 h4 h5 hy1 k1
  exact ⟨rfl, ⟨_, _, a, hlX⟩, b⟩
set_option maxHeartbeats 400000 in
theorem xRel_no (bx bz : Nat) (U : Nat → Prop) (M : Mp) (n c : Nat) (id : Int) (w : World) (h : Lg w U bx bz M n c Q) (hid : I64 id) (hq : Q.l.find? (fun q => decide (q.1 = id)) = none) :
    Calls Tryz.prog 40 #[.pointer (some ⟨bz, 0, none⟩), .int .i64 id] w fun e w' => e = .returned (.int .i64 8) ∧ Below w.heap.size w w' := by
  obtain ⟨d, st, hx, hl⟩ := h
  obtain ⟨bd, T, bm, bsn, S, E, s, l, h1, h2, h3, h4, h5, h6⟩ := hx.ex
  have hin := sinner_any h2
  have hB := sRel_no T bd bm bsn s l d st S E id w h6 hl.lwr.2 hid (hl.lost hq)
  go_enter Tryz.func40, Tryz.ntmps40
  go_wp2_with (first
    | (go_at_call 53; refine hin.mono ?_; rintro e w' ⟨rfl, rfl⟩; clear hin)
    | (go_at_call 69; refine hB.mono ?_; rintro e w1 ⟨rfl, hb1⟩; clear hB))
  go_ret
  exact ⟨rfl, hb1⟩
set_option maxHeartbeats 400000 in
theorem xScanAt_no (bx bz : Nat) (U : Nat → Prop) (M : Mp) (n c : Nat) (id : Int) (lo hi : Nm) (lim : Int) (w : World) (h : Lg w U bx bz M n c Q) (hid : I64 id) (hq : Q.l.find? (fun q => decide (q.1 = id)) = none) :
    Calls Tryz.prog 41 #[.pointer (some ⟨bz, 0, none⟩), .int .i64 id, str lo, str hi, .int .i64 lim] w fun e w' => e = .returned (.tuple #[.slice none 0 0, .int .i64 8]) ∧ Below w.heap.size w w' := by
  obtain ⟨d, st, hx, hl⟩ := h
  obtain ⟨bd, T, bm, bsn, S, E, s, l, h1, h2, h3, h4, h5, h6⟩ := hx.ex
  have hin := sinner_any h2
  have hB := sScanAt_no T bd bm bsn s l d st S E id lo hi lim w h6 hl.lwr.2 hid (hl.lost hq)
  go_enter Tryz.func41, Tryz.ntmps41
  go_wp2_with (first
    | (go_at_call 53; refine hin.mono ?_; rintro e w' ⟨rfl, rfl⟩; clear hin)
    | (go_at_call 70; refine hB.mono ?_; rintro e w1 ⟨rfl, hb1⟩; clear hB))
  go_ret2
  exact ⟨rfl, hb1⟩
set_option maxHeartbeats 400000 in
theorem xScanAt_lg (bx bz : Nat) (U : Nat → Prop) (M : Mp) (n c : Nat) (id : Int) (q : Int × Int × Mp) (lo : Nm) (lim : Int) (w : World) (h : Lg w U bx bz M n c Q) (hn : n ≤ 110) (hid : I64 id) (hq : Q.l.find? (fun q => decide (q.1 = id)) = some q) (hl0 : 0 ≤ lim) (hl1 : lim ≤ 9223372036854775807) :
    Calls Tryz.prog 41 #[.pointer (some ⟨bz, 0, none⟩), .int .i64 id, str lo, str [], .int .i64 lim] w fun e w' => ∃ v, e = .returned (.tuple #[v, .int .i64 0]) ∧ Below w.heap.size w w' ∧ OwnP w' w.heap.size v ((fromL lo q.2.2).take lim.toNat) := by
  obtain ⟨d, st, hx, hl⟩ := h
  obtain ⟨bd, T, bm, bsn, S, E, s, l, h1, h2, h3, h4, h5, h6⟩ := hx.ex
  have hin := sinner_any h2
  have hB := sScanAt_lsu T bd bm bsn s l d st S E M n c id q lo lim w h6 hl hn hid hq hl0 hl1
  generalize (fromL lo q.2.2).take lim.toNat = X at *
  clear hq
  go_enter Tryz.func41, Tryz.ntmps41
  go_wp2_with (first
    | (go_at_call 53; refine hin.mono ?_; rintro e w' ⟨rfl, rfl⟩; clear hin)
    | (go_at_call 70; refine hB.mono ?_; rintro e w1 ⟨v, rfl, ho, hb⟩; obtain ⟨a2, k2, rfl⟩ := ho.shape; clear hB))
  go_ret2
  exact ⟨_, rfl, hb, ho⟩
set_option maxHeartbeats 400000 in
theorem xGetAt_lg (bx bz : Nat) (U : Nat → Prop) (M : Mp) (n c : Nat) (id : Int) (q : Int × Int × Mp) (key : Nm) (w : World) (h : Lg w U bx bz M n c Q) (hn : n ≤ 110) (hid : I64 id) (hq : Q.l.find? (fun q => decide (q.1 = id)) = some q) (hk : keyOk key = true) :
    Calls Tryz.prog 42 #[.pointer (some ⟨bz, 0, none⟩), .int .i64 id, str key] w fun e w' => e = .returned (.tuple #[(gotM (getF key q.2.2)).1, (gotM (getF key q.2.2)).2, .int .i64 0]) ∧ Below w.heap.size w w' := by
  obtain ⟨d, st, hx, hl⟩ := h
  obtain ⟨bd, T, bm, bsn, S, E, s, l, h1, h2, h3, h4, h5, h6⟩ := hx.ex
  have hin := sinner_any h2
  have hB := sGetAt_lsu T bd bm bsn s l d st S E M n c id q key w h6 hl hn hid hq hk
  generalize gotM (getF key q.2.2) = X at *
  obtain ⟨x1, x2⟩ := X
  clear hq
  go_enter Tryz.func42, Tryz.ntmps42
  go_wp2_with (first
    | (go_at_call 53; refine hin.mono ?_; rintro e w' ⟨rfl, rfl⟩; clear hin)
    | (go_at_call 71; refine hB.mono ?_; rintro e w1 ⟨rfl, hb⟩; clear hB))
  go_ret3
  exact ⟨rfl, hb⟩
end Go.Proofs.YtoabedkcieindaaGreatDoor
