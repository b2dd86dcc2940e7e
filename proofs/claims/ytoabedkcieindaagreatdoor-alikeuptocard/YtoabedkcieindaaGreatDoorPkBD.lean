import Derived.Test.YtoabedkcieindaaGreatDoorPkBC
import Derived.Test.YtoabedkcieindaaGreatDoorPkAW
import Derived.Test.YtoabedkcieindaaGreatDoorPkBB
import Derived.Test.YtoabedkcieindaaGreatDoorPkAR
namespace Go.Proofs.YtoabedkcieindaaGreatDoor
open Go.RowKit Go.Maps Go.Sort Go.Shelf
set_option maxHeartbeats 400000 in
set_option maxRecDepth 20000 in
theorem sGet_any (T bd bm bsn : Nat) (s : Sl) (l : List Tr) (st : Ls) (E : Nat → Prop) (key : Nm) (w : World) (hL : LsAt w E T bd bm bsn s l st) {m r f : Value} {dead : Bool} {t : Int} (hd : w.heap[bd]? = some (.cells #[m, r, f, .bool dead, .int .i64 t] 148)) (h0 : lready t dead st = 0)
    (hk : keyOk key = true) (hll : l.length ≤ 1000) (hkl : key.length ≤ 1048576) (hsr : ∀ y ∈ (getF key st.mem).getD [] :: newF st.tabs, srt y ∧ y.length ≤ 1000000 ∧ ∀ e ∈ y, e.op.val.length ≤ 1048576) :
    Calls Tryz.prog 58 #[.pointer (some ⟨T, 0, none⟩), str key] w fun e w' => e = .returned (.tuple #[(gotE (pickE st.batch (atK key ((getF key st.mem).getD [] :: newF st.tabs).flatten))).1, (gotE (pickE st.batch (atK key ((getF key st.mem).getD [] :: newF st.tabs).flatten))).2, .int .i64 0]) ∧ Below w.heap.size w w' := by
  have hR := lReady_any hL hd
  rw [h0] at hR
  have c8' := hL.cell 8
  have hSc := fun w1 (hb : Below w.heap.size w w1) => getBehind_any T bd bm bsn s l st E st.batch key w1 (hL.below hb) hk hll hkl hsr
  generalize gotE (pickE st.batch (atK key ((getF key st.mem).getD [] :: newF st.tabs).flatten)) = X at *
  obtain ⟨x1, x2⟩ := X
  go_enter Tryz.func58, Tryz.ntmps58
  go_wp2_with (first
    | (go_at_call 102; refine hR.mono ?_; rintro e w1 ⟨rfl, hb1⟩; have c8 : w1.cell? ⟨T, 8, none⟩ = some (.int .i64 st.batch) := cell_below hb1 c8'; have hSc1 := hSc w1 hb1; clear hR c8' hSc)
    | (go_at_call 103; refine hSc1.mono ?_; rintro e w2 ⟨rfl, hb2⟩))
  go_ret3
  exact ⟨rfl, hb1.trans (hb2.mono hb1.size)⟩
def safeL (s : Ls) : Ls := { s with loose := false }
set_option maxHeartbeats 400000 in
set_option maxRecDepth 20000 in
theorem sSync_any (T bd bm bsn : Nat) (s : Sl) (l : List Tr) (d : Dk) (st : Ls) (S E : Nat → Prop) (w : World) (h : Lsy w S E T bd bm bsn s l d st) (hok : d.Ok) (h0 : lwritable d.turn d.dead st = 0) (hlg : st.log ≤ 1000000) (hlo : st.loose = true) (hs : (d.sync (lgN st.log)).1 = 0) :
    Calls Tryz.prog 54 #[.pointer (some ⟨T, 0, none⟩)] w fun e w' => e = .returned (.int .i64 0) ∧ CmPost w w' S E T bd bm bsn (0, (d.sync (lgN st.log)).2, safeL st) ∧ Kp (fun k => S k ∨ k = T ∨ k = bm) w w' := by
  obtain ⟨dm, dr, df, hd, _⟩ := h.prog.raw
  have hw := lWritable_any h.at_ hd
  rw [h0] at hw
  clear hd
  have hlN := fun w1 => logName_any st.log w1 (by omega)
  have hP0 : ProgAt w (fun k => S k ∧ k < w.heap.size) bd d := h.prog.mono (fun k hk s => ⟨s, hk⟩)
  have hWr := fun w4 (hb4 : Below w.heap.size w w4) => dSync_any bd d (lgN st.log) (fun k => S k ∧ k < w.heap.size) w4 (progBelow hP0 hb4) hok (by have := lgN_ok st.log; simp only [nameOk, Bool.and_eq_true, decide_eq_true_eq] at this; unfold maxLen; omega)
  rw [hs] at hWr
  have c0 := h.at_.cell 0
  have c6 := h.at_.cell 6
  generalize (d.sync (lgN st.log)).2 = d1 at *
  go_enter Tryz.func54, Tryz.ntmps54
  go_wp2_with (go_at_call 96; refine hw.mono ?_; rintro e w3 ⟨rfl, hB3⟩; have c11 : w3.cell? ⟨T, 11, none⟩ = some (.bool st.loose) := (h.at_.below hB3).cell 11; rw [hlo] at c11; clear hw)
  have hB3d : Below w.heap.size w w3.drew := hB3.trans ((Below.refl _ w3).drew.mono hB3.size)
  refine wp_calm ?_
  refine wp_region_E (S := fun w' => w'.cell? ⟨T, 0, none⟩ = some (.pointer (some ⟨bd, 0, none⟩)) ∧ w'.cell? ⟨T, 6, none⟩ = some (.int .i64 st.log)) mixedP ?_
  have hc : w3.drew.cell? ⟨T, 0, none⟩ = some (.pointer (some ⟨bd, 0, none⟩)) ∧ w3.drew.cell? ⟨T, 6, none⟩ = some (.int .i64 st.log) := ⟨cell_below hB3d c0, cell_below hB3d c6⟩
  refine wpAnyE_take (i := 0) (L := 1) (v := .pointer (some ⟨T, 0, none⟩)) rfl rfl (by decide) (by kernel_rfl) (by kernel_rfl) (by kernel_rfl) (by kernel_rfl) (by kernel_rfl) (fun _ _ _ h => h) (Or.inl ⟨by rfl, fun w' hS => ?_⟩) hc ?_
  · skip
    go_simp
  refine wpAnyE_take (i := 1) (L := 2) (v := .pointer (some ⟨T, 0, none⟩)) rfl rfl (by decide) (by kernel_rfl) (by kernel_rfl) (by kernel_rfl) (by kernel_rfl) (by kernel_rfl) (fun _ _ _ h => h) (Or.inl ⟨by rfl, fun w' hS => ?_⟩) hc ?_
  · skip
    go_simp
  refine wpAnyE_take (i := 2) (L := 3) (v := .pointer (some ⟨T, 0, none⟩)) rfl rfl (by decide) (by kernel_rfl) (by kernel_rfl) (by kernel_rfl) (by kernel_rfl) (by kernel_rfl) (fun _ _ _ h => h) (Or.inl ⟨by rfl, fun w' hS => ?_⟩) hc ?_
  · skip
    go_simp
  refine wpAnyE_take (i := 3) (L := 9) (v := .pointer (some ⟨bd, 0, none⟩)) rfl rfl (by decide) (by kernel_rfl) (by kernel_rfl) (by kernel_rfl) (by kernel_rfl) (by kernel_rfl) (fun _ _ _ h => h) (Or.inl ⟨by rfl, fun w' hS => ?_⟩) hc ?_
  · obtain ⟨u0, u6⟩ := hS
    go_simp
  refine wpAnyE_take (i := 4) (L := 5) (v := .pointer (some ⟨T, 0, none⟩)) rfl rfl (by decide) (by kernel_rfl) (by kernel_rfl) (by kernel_rfl) (by kernel_rfl) (by kernel_rfl) (fun _ _ _ h => h) (Or.inl ⟨by rfl, fun w' hS => ?_⟩) hc ?_
  · skip
    go_simp
  refine wpAnyE_take (i := 5) (L := 6) (v := .pointer (some ⟨T, 0, none⟩)) rfl rfl (by decide) (by kernel_rfl) (by kernel_rfl) (by kernel_rfl) (by kernel_rfl) (by kernel_rfl) (fun _ _ _ h => h) (Or.inl ⟨by rfl, fun w' hS => ?_⟩) hc ?_
  · skip
    go_simp
  refine wpAnyE_take (i := 6) (L := 7) (v := .pointer (some ⟨T, 6, none⟩)) rfl rfl (by decide) (by kernel_rfl) (by kernel_rfl) (by kernel_rfl) (by kernel_rfl) (by kernel_rfl) (fun _ _ _ h => h) (Or.inl ⟨by rfl, fun w' hS => ?_⟩) hc ?_
  · skip
    go_simp
  refine wpAnyE_take (i := 7) (L := 8) (v := .int .i64 st.log) rfl rfl (by decide) (by kernel_rfl) (by kernel_rfl) (by kernel_rfl) (by kernel_rfl) (by kernel_rfl) (fun _ _ _ h => h) (Or.inl ⟨by rfl, fun w' hS => ?_⟩) hc ?_
  · obtain ⟨u0, u6⟩ := hS
    go_simp
  refine wpAnyE_one (i := 8) (by kernel_rfl) rfl (by rfl) (fun K hK => ?_)
  go_simp
  refine (hlN _).mono ?_
  rintro e w4 ⟨rfl, hb4⟩
  have hB4 := hB3d.trans (hb4.mono hB3d.size)
  refine hK.out _ _ ⟨cell_below hB4 c0, cell_below hB4 c6⟩ ?_
  clear hK
  refine wpAnyE_one (i := 9) (by kernel_rfl) rfl (by rfl) (fun K hK => ?_)
  go_simp
  refine (hWr w4 hB4).mono ?_
  rintro e w5 ⟨rfl, hP5, k5⟩
  have hL5 : LsAt w5 E T bd bm bsn s l st := (h.at_.below hB4).kept k5 (fun x => h.nT x.1) (fun x => h.nm x.1) (fun x => h.nn x.1) (fun k hk x => h.dj k hk x.1)
  refine hK.out _ _ ⟨hL5.cell 0, hL5.cell 6⟩ ?_
  clear hK
  refine wpAnyE_last (i := 10) (by kernel_rfl) rfl (by rfl) (by kernel_rfl) (by kernel_rfl) (fun K hK => ?_)
  go_simp
  refine hK.out _ _ ?_
  clear hK hc hWr hlN c0 c6
  have c11' : w5.cell? ⟨T, 11, none⟩ = some (.bool st.loose) := hL5.cell 11
  have z11 := hL5.frozen 11
  go_wp2
  go_ret
  have hT := lt_of_block h.at_.blk
  have z4 := hB4.size
  have z5 := k5.size
  have kT : Kp (fun i => i = T) w5 (w5.setCell ⟨T, 11, none⟩ (.bool false)) := Kp.set1 w5 T 11 _
  have hb6 : (w5.setCell ⟨T, 11, none⟩ (.bool false)).heap[T]? = some (lsC bd bm bsn s (safeL st)) := by
    have := block_set hL5.blk (.bool false) (j := 11)
    simpa [lsC, safeL] using this
  have hL6 := hL5.recell (st' := safeL st) kT hb6 rfl h.at_.sn0 rfl
  have p5 : ProgAt w5 (fun k => Nw (fun k => S k ∧ k < w.heap.size) w4 k ∧ k < w5.heap.size) bd d1 := hP5.mono (fun k hk x => ⟨x, hk⟩)
  have p6 := p5.kept kT (fun i hi e => by subst e; rcases hi.1 with x | x; exact h.nT x.1; omega)
  have hM := h.at_.mem.lt
  have hN := lt_of_block h.at_.snp
  refine ⟨rfl, ⟨_, E, s, l, fun k hk => ?_, fun k hk => .inl hk, fun k hk hs => ?_, fun hs => ?_, fun hs => ?_, fun hs => ?_, p6, hL6⟩, ?_⟩
  · rcases hk.1 with x | x
    · exact .inl x.1
    · exact .inr (by omega)
  · rcases hs.1 with y | y
    · exact h.dj k hk y.1
    · have := h.at_.bnd k hk; omega
  · rcases hs.1 with x | x
    · exact h.nT x.1
    · omega
  · rcases hs.1 with x | x
    · exact h.nm x.1
    · omega
  · rcases hs.1 with x | x
    · exact h.nn x.1
    · omega
  · have a1 : Kp (fun k => S k ∨ k = T ∨ k = bm) w w4 := Kp.of_below hB4
    have a2 := a1.trans k5 (fun i _ x => .inl x.1)
    exact a2.trans kT (fun i _ x => .inr (.inl x))
end Go.Proofs.YtoabedkcieindaaGreatDoor

namespace Go.Proofs.YtoabedkcieindaaGreatDoor
open Go.RowKit Go.Maps Go.Sort Go.Shelf
def fromL (lo : Nm) (M : Mp) : Mp := M.filter fun x => !bytesBefore x.1 lo
def fromE (lo : Nm) (l : Ly) : Ly := l.filter fun e => !bytesBefore e.op.key lo
theorem drop_start {lo : Nm} : ∀ {l : Ly}, srt l → l.drop (startN lo l) = fromE lo l
  | [], _ => rfl
  | e :: r, hs => by
    obtain ⟨h1, h2⟩ := List.pairwise_cons.1 hs
    have ih := drop_start (lo := lo) h2
    unfold startN fromE at *
    rw [List.takeWhile_cons, List.filter_cons]
    cases hb : bytesBefore e.op.key lo with
    | true => simpa using ih
    | false =>
      simp only [Bool.false_eq_true, if_false, List.length_nil, List.drop_zero, Bool.not_false, if_true]
      congr 1
      refine (List.filter_eq_self.2 fun x hx => ?_).symm
      have := le_trans' hb (h1 x hx)
      simp [this]
theorem betL_from {lo : Nm} {l : Ly} (hs : srt l) : betL lo [] l = fromE lo l := by unfold betL; rw [if_pos rfl]; exact drop_start hs
theorem betM_from {lo : Nm} : ∀ {m : Mm}, (∀ x ∈ m, ∀ e ∈ x.2, e.op.key = x.1) → betM lo [] m = fromE lo (flatM m)
  | [], _ => rfl
  | x :: r, h => by
    have ih := betM_from (lo := lo) (m := r) (fun y hy => h y (by simp [hy]))
    have hx := h x (by simp)
    unfold betM fromE flatM at *
    rw [List.filter_cons, List.flatMap_cons, List.filter_append]
    cases hb : bytesBefore x.1 lo with
    | true =>
      have e1 : (x.2.filter fun e => !bytesBefore e.op.key lo) = [] := List.filter_eq_nil_iff.2 fun e he => by rw [hx e he, hb]; simp
      rw [e1, List.nil_append, ← ih]
      simp [okB, hb]
    | false =>
      have e1 : (x.2.filter fun e => !bytesBefore e.op.key lo) = x.2 := List.filter_eq_self.2 fun e he => by rw [hx e he, hb]; rfl
      rw [e1, ← ih]
      simp [okB, hb]
theorem fromE_flat (lo : Nm) (ls : List Ly) : (ls.map (fromE lo)).flatten = fromE lo ls.flatten := by
  induction ls with
  | nil => rfl
  | cons l r ih => rw [List.map_cons, List.flatten_cons, List.flatten_cons, ih]; unfold fromE; rw [List.filter_append]
theorem fromE_srt {lo : Nm} {l : Ly} (h : srt l) : srt (fromE lo l) := List.Pairwise.filter _ h
theorem atK_from (lo k : Nm) (l : Ly) : atK k (fromE lo l) = if bytesBefore k lo then [] else atK k l := by
  unfold atK fromE
  rw [List.filter_filter]
  split
  · rename_i hb
    refine List.filter_eq_nil_iff.2 fun e _ => ?_
    by_cases hk : e.op.key = k
    · rw [hk, hb]; simp
    · simp [hk]
  · rename_i hb
    refine List.filter_congr fun e _ => ?_
    by_cases hk : e.op.key = k
    · rw [hk]; simp [hb]
    · simp [hk]
theorem getF_from (lo k : Nm) : ∀ (M : Mp), getF k (fromL lo M) = if bytesBefore k lo then none else getF k M
  | [] => by simp [fromL, getF]
  | x :: r => by
    have ih := getF_from lo k r
    unfold fromL at *
    rw [List.filter_cons]
    by_cases hx : x.1 = k
    · subst hx
      cases hb : bytesBefore x.1 lo with
      | true => rw [hb] at ih; simpa using ih
      | false => simp [getF]
    · cases hb : bytesBefore x.1 lo with
      | true => simp only [Bool.not_true, Bool.false_eq_true, if_false]; rw [ih]; simp [getF, hx]
      | false => simp only [Bool.not_false, if_true]; rw [getF, if_neg hx, ih]; simp [getF, hx]
theorem fromL_rise {lo : Nm} {M : Mp} (h : rising M) : rising (fromL lo M) := List.Pairwise.filter _ h
theorem Lsu.layFrom {d : Dk} {s : Ls} {M : Mp} {n c : Nat} (h : Lsu d s M n c) (lo : Nm) : betM lo [] s.mem :: (newF s.tabs).map (betL lo []) = s.layers.map (fromE lo) := by
  unfold Ls.layers
  rw [List.map_cons, betM_from (fun x hx => (h.mok.2 x hx).2.2)]
  congr 1
  exact List.map_congr_left fun l hl => betL_from (newF_srt h.srt l hl)
theorem Lsu.scan {d : Dk} {s : Ls} {M : Mp} {n c : Nat} (h : Lsu d s M n c) (lo : Nm) : scanX s.batch lo [] s = fromL lo M := by
  unfold scanX
  rw [h.layFrom]
  have hsr : ∀ l ∈ s.layers.map (fromE lo), Go.Proofs.YtoabedkcieindaaGreatDoor.srt l := fun l hl => by
    obtain ⟨x, hx, rfl⟩ := List.mem_map.1 hl
    exact fromE_srt (h.lsrt x hx)
  have hs := mergeL_srt hsr
  refine rising_ext (behF_rise _ _ _ hs) (fromL_rise h.rise) (fun k => ?_)
  have hno : ∀ e ∈ mergeL (s.layers.map (fromE lo)), bytesBefore e.op.key [] = false := fun e _ => before_nil _
  have hvw : viewE s.batch (mergeL (s.layers.map (fromE lo))) k = getF k (fromL lo M) := by
    have h2 := view_merge hsr s.batch [] k
    rw [List.append_nil, List.append_nil] at h2
    rw [h2, fromE_flat]
    unfold viewE
    rw [atK_from, getF_from]
    split
    · rfl
    · exact h.view k
  by_cases hk : k = []
  · subst hk
    have h1 : getF [] (behF s.batch [] (mergeL (s.layers.map (fromE lo)))) = none := getF_off fun x hx e => by
      have := behF_key s.batch [] _ hs hno x hx
      rw [e, WideAt.bytes_irrefl] at this
      cases this
    rw [h1, ← hvw]
    unfold viewE
    have : atK [] (mergeL (s.layers.map (fromE lo))) = [] := List.filter_eq_nil_iff.2 fun e he => by
      have h3 := mergeL_mem hsr e he
      rw [fromE_flat] at h3
      have := opOk_ne (h.lok e (List.mem_filter.1 h3).1).1
      simpa using this
    rw [this]; rfl
  · rw [behF_get _ _ _ hs hno k hk, hvw]
set_option maxHeartbeats 400000 in
theorem sScan_lsu (T bd bm bsn : Nat) (s : Sl) (l : List Tr) (d : Dk) (st : Ls) (S E : Nat → Prop) (M : Mp) (n c : Nat) (lo : Nm) (lim : Int) (w : World) (h : Lsy w S E T bd bm bsn s l d st) (hl : Lsu d st M n c) (hn : n ≤ 110) (hl0 : 0 ≤ lim) (hl1 : lim ≤ 9223372036854775807) :
    Calls Tryz.prog 66 #[.pointer (some ⟨T, 0, none⟩), str lo, str [], .int .i64 lim] w fun e w' => ∃ v, e = .returned (.tuple #[v, .int .i64 0]) ∧ OwnPr w' w.heap.size v ((fromL lo M).take lim.toNat) ∧ Below w.heap.size w w' := by
  obtain ⟨dm, dr, df, hd, _⟩ := h.prog.raw
  have hL := h.at_
  have hents := hl.ents
  have hfew := hl.few
  have hml := hl.memlen
  have hlen : l.length = st.tabs.length := by rw [← hL.is]; simp
  have hin : ∀ x ∈ l, x.1 ∈ st.tabs := fun x hx => by rw [← hL.is]; exact List.mem_map.2 ⟨x, hx, rfl⟩
  have hsr : ∀ l ∈ st.layers.map (fromE lo), srt l := fun l hl' => by
    obtain ⟨x, hx, rfl⟩ := List.mem_map.1 hl'
    exact fromE_srt (hl.lsrt x hx)
  have hmm : ∀ e ∈ mergeL (st.layers.map (fromE lo)), e ∈ st.layers.flatten := fun e he => by
    have h3 := mergeL_mem hsr e he
    rw [fromE_flat] at h3
    exact (List.mem_filter.1 h3).1
  have := sScan_any T bd bm bsn s l st E lo [] lim w hL hd hl.lwr.2 (fun w1 hb => scanBehind_any T bd bm bsn s l st E st.batch lo [] lim w1 (hL.below hb) hl.mok.1 (by omega) (by omega) hl.keylen (by omega) (fun x hx => ⟨by have := entsT_at (hin x hx); omega, hl.srt _ (hin x hx)⟩) hl0 hl1 (by
    rw [hl.layFrom]
    intro e he hg
    have h1 := (hl.lok e (hmm e he)).1
    have h2 := (opOk_key h1).2
    have h3 := opOk_val h1 hg
    exact ⟨by omega, by omega⟩) (by
    rw [hl.layFrom]
    unfold mergeL
    refine Nat.le_trans (mergeF_len _ _) ?_
    rw [fromE_flat]
    have h4 : (fromE lo st.layers.flatten).length ≤ st.layers.flatten.length := List.length_filter_le _ _
    have := hl.laylen
    omega))
  rw [hl.scan] at this
  exact this
def gotM (o : Option Nm) : Value × Value := match o with | some v => (str v, .bool true) | none => (str [], .bool false)
theorem gotE_M {b : Int} {k : Nm} {L : Ly} (h : ∀ e ∈ L, bareE e) : gotE (pickE b (atK k L)) = gotM (viewE b L k) := by
  unfold viewE
  cases hp : pickE b (atK k L) with
  | none => rfl
  | some e =>
    have he := h e (List.mem_filter.1 (List.mem_of_find?_eq_some hp)).1
    simp only [gotE, liveE]
    cases hg : e.op.gone with
    | true => rw [he hg]; rfl
    | false => rfl
theorem sGet_lsu (T bd bm bsn : Nat) (s : Sl) (l : List Tr) (d : Dk) (st : Ls) (S E : Nat → Prop) (M : Mp) (n c : Nat) (key : Nm) (w : World) (h : Lsy w S E T bd bm bsn s l d st) (hl : Lsu d st M n c) (hn : n ≤ 110) (hk : keyOk key = true) :
    Calls Tryz.prog 58 #[.pointer (some ⟨T, 0, none⟩), str key] w fun e w' => e = .returned (.tuple #[(gotM (getF key M)).1, (gotM (getF key M)).2, .int .i64 0]) ∧ Below w.heap.size w w' := by
  obtain ⟨dm, dr, df, hd, _⟩ := h.prog.raw
  have hL := h.at_
  have hents := hl.ents
  have hfew := hl.few
  have hlen : l.length = st.tabs.length := by rw [← hL.is]; simp
  have hkk : key.length ≤ 16 := by unfold keyOk at hk; simp at hk; omega
  have hfl : ∀ e ∈ (getF key st.mem).getD [], e ∈ flatM st.mem := fun e he => by
    rw [← atK_flat hl.mok key] at he
    exact (List.mem_filter.1 he).1
  have hval : ∀ e, opOk e.op = true → bareE e → e.op.val.length ≤ 1048576 := fun e h1 h2 => by
    cases hg : e.op.gone with
    | true => rw [h2 hg]; simp
    | false => have := opOk_val h1 hg; omega
  have := sGet_any T bd bm bsn s l st E key w hL hd hl.lwr.2 hk (by omega) (by omega) (fun y hy => by
    rcases List.mem_cons.1 hy with rfl | hy
    · refine ⟨?_, ?_, fun e he => hval e (hl.mop e (hfl e he)).1 (hl.mbar e (hfl e he))⟩
      · rw [← atK_flat hl.mok key]; exact List.Pairwise.filter _ (srt_flat hl.mok)
      · rw [← atK_flat hl.mok key]
        have h4 : (atK key (flatM st.mem)).length ≤ (flatM st.mem).length := List.length_filter_le _ _
        omega
    · refine ⟨newF_srt hl.srt y hy, ?_, fun e he => ?_⟩
      · have h1 : y.length ≤ (newF st.tabs).flatten.length := (List.sublist_flatten_of_mem hy).length_le
        rw [newF_len] at h1
        omega
      · obtain ⟨x, hx, hxe⟩ := newF_mem (List.mem_flatten.2 ⟨y, hy, he⟩)
        exact hval e (hl.tok x hx e hxe).1 (hl.tbar x hx e hxe))
  have e1 : atK key ((getF key st.mem).getD [] :: newF st.tabs).flatten = atK key st.layers.flatten := by
    rw [Lsu.lay, List.flatten_cons, atK_app, atK_app, atK_flat hl.mok key]
    congr 1
    rw [← atK_flat hl.mok key]
    unfold atK
    rw [List.filter_filter]
    simp
  rw [e1, gotE_M (fun e he => (hl.lok e he).2.2), hl.view key] at this
  exact this
end Go.Proofs.YtoabedkcieindaaGreatDoor

namespace Go.Proofs.YtoabedkcieindaaGreatDoor
open Go.RowKit Go.Maps Go.Sort Go.Shelf
theorem wp_region_S {P : Program} {id : Nat} {Q : Exit → Act → World → Prop} {a : Act} {w : World} {l : List Oper} (hm : P.follows .mixedOrders = true) (hB : Region.lexB .any l.toArray = true)
    (h : StillS P l.toArray w.drew (fun a' => Q .normal a' w.drew) l a) : (Code.region id l.toArray true).wp P Q a w := wp_region_still_lit hm hB h.out
theorem TrAt.no (w : World) : TrAt w (none, 0, 0) [] := ⟨rfl, Nat.le_refl _, fun _ => ⟨rfl, rfl⟩, fun a ha => (by cases ha), fun i hi => by simp at hi⟩
set_option maxRecDepth 100000 in
set_option maxHeartbeats 400000 in
theorem replaced_nil (b : Tr) (w : World) (hb : b.2.2.1 = b.1.es.length) (hbl : b.1.es.length ≤ 1000000) :
    Calls Tryz.prog 183 #[.slice none 0 0, .int .i64 0, .int .i64 0, .agg #[.int .i64 b.1.number, .int .i64 b.1.level, slV b.2]] w fun e w' => ∃ v, e = .returned v ∧ Below w.heap.size w w' ∧ OwnT w' w.heap.size v (if b.1.es = [] then [] else [b]) := by
  obtain ⟨⟨bn, blv, bes⟩, ⟨ba, bnn, bc⟩⟩ := b
  simp only at hb hbl
  subst hb
  cases bes with
  | nil =>
    simp only [List.length_nil, if_true]
    go_enter Tryz.func183, Tryz.ntmps183
    go_wp2
    refine wp_calm ?_
    refine wp_region_E (S := fun _ => True) (by kernel_rfl) ?_
    refine wpAnyE_take (i := 0) (L := 2) (v := .slice none 0 0) rfl rfl (by decide) (by kernel_rfl) (by kernel_rfl) (by kernel_rfl) (by kernel_rfl) (by kernel_rfl) (fun _ _ _ h => h) (Or.inl ⟨by rfl, fun w' hS => ?_⟩) trivial ?_
    · go_simp
    refine wpAnyE_take (i := 1) (L := 2) (v := .int .i64 0) rfl rfl (by decide) (by kernel_rfl) (by kernel_rfl) (by kernel_rfl) (by kernel_rfl) (by kernel_rfl) (fun _ _ _ h => h) (Or.inl ⟨by rfl, fun w' hS => ?_⟩) trivial ?_
    · go_simp
    refine wpAnyE_take (i := 2) (L := 6) (v := .slice none 0 0) rfl rfl (by decide) (by kernel_rfl) (by kernel_rfl) (by kernel_rfl) (by kernel_rfl) (by kernel_rfl) (fun _ _ _ h => h) (Or.inl ⟨by rfl, fun w' hS => ?_⟩) trivial ?_
    · go_simp
    refine wpAnyE_take (i := 3) (L := 5) (v := .slice none 0 0) rfl rfl (by decide) (by kernel_rfl) (by kernel_rfl) (by kernel_rfl) (by kernel_rfl) (by kernel_rfl) (fun _ _ _ h => h) (Or.inl ⟨by rfl, fun w' hS => ?_⟩) trivial ?_
    · go_simp
    refine wpAnyE_take (i := 4) (L := 5) (v := .int .i64 0) rfl rfl (by decide) (by kernel_rfl) (by kernel_rfl) (by kernel_rfl) (by kernel_rfl) (by kernel_rfl) (fun _ _ _ h => h) (Or.inl ⟨by rfl, fun w' hS => ?_⟩) trivial ?_
    · go_simp
    refine wpAnyE_take (i := 5) (L := 6) (v := .slice none 0 0) rfl rfl (by decide) (by kernel_rfl) (by kernel_rfl) (by kernel_rfl) (by kernel_rfl) (by kernel_rfl) (fun _ _ _ h => h) (Or.inl ⟨by rfl, fun w' hS => ?_⟩) trivial ?_
    · go_simp
    refine wpAnyE_one (i := 6) (by kernel_rfl) rfl (by rfl) (fun K hK => ?_)
    go_simp
    have hB : Below w.heap.size w (((w.alloc (.cells #[.int .i64 bn, .int .i64 blv, .slice ba 0 bc] 164)).alloc (.cells #[.slice none 0 0, .slice none 0 0] 142)).drew) := (((Below.refl _ w).alloc (Nat.le_refl _) _).alloc (by simp) _).drew
    have hL : Ltp (((w.alloc (.cells #[.int .i64 bn, .int .i64 blv, .slice ba 0 bc] 164)).alloc (.cells #[.slice none 0 0, .slice none 0 0] 142)).drew) (some ⟨w.heap.size + 1, 0, none⟩) [((none, 0, 0), []), ((none, 0, 0), [])] := by
      refine ⟨rp_block slC_len (w := ((w.alloc _).alloc _).drew) (by have := block_new (w.alloc (.cells #[.int .i64 bn, .int .i64 blv, .slice ba 0 bc] 164)) (.cells #[.slice none 0 0, .slice none 0 0] 142); rw [World.size_alloc] at this; exact this) rfl, fun x hx => ?_⟩
      simp only [List.mem_cons, List.not_mem_nil, or_false] at hx
      rcases hx with rfl | rfl
      · exact TrAt.no _
      · exact TrAt.no _
    refine hK.out _ _ trivial ?_
    clear hK
    have hC := concatT_any (some ⟨w.heap.size + 1, 0, none⟩) 2 _ _ hL (by simp) (by simp [sumT])
    simp only [List.length_cons, List.length_nil, Nat.zero_add, Nat.reduceAdd] at hC
    refine wpAnyE_one (i := 7) (by kernel_rfl) rfl (by rfl) (fun K hK => ?_)
    go_simp
    refine hC.mono ?_
    rintro e1 w1 ⟨v1, rfl, hb1, ho1⟩
    refine hK.out _ _ trivial ?_
    clear hK
    refine wpAnyE_last (i := 8) (by kernel_rfl) rfl (by rfl) (by kernel_rfl) (by kernel_rfl) (fun K hK => ?_)
    go_simp
    refine hK.out _ _ ?_
    clear hK
    go_wp2
    go_ret
    exact ⟨_, rfl, hB.trans (hb1.mono (by simp; omega)), by
      have := ho1.lowT (base' := w.heap.size) (by simp; omega)
      simpa [catT] using this⟩
  | cons e r =>
    simp only [List.length_cons, reduceCtorEq, if_false] at hbl ⊢
    go_enter Tryz.func183, Tryz.ntmps183
    go_wp2
    refine wp_calm ?_
    have hbx : (w.alloc (.cells #[.int .i64 bn, .int .i64 blv, .slice ba (r.length + 1) bc] 164)).drew.heap[w.heap.size]? = some (.cells #[.int .i64 bn, .int .i64 blv, .slice ba (r.length + 1) bc] 164) := block_new w _
    refine wp_region_E (S := fun w' => w'.heap[w.heap.size]? = some (.cells #[.int .i64 bn, .int .i64 blv, .slice ba (r.length + 1) bc] 164)) (by kernel_rfl) ?_
    refine wpAnyE_take (i := 0) (L := 2) (v := .slice none 0 0) rfl rfl (by decide) (by kernel_rfl) (by kernel_rfl) (by kernel_rfl) (by kernel_rfl) (by kernel_rfl) (fun _ _ _ h => h) (Or.inl ⟨by rfl, fun w' hS => ?_⟩) hbx ?_
    · go_simp
    refine wpAnyE_take (i := 1) (L := 2) (v := .int .i64 0) rfl rfl (by decide) (by kernel_rfl) (by kernel_rfl) (by kernel_rfl) (by kernel_rfl) (by kernel_rfl) (fun _ _ _ h => h) (Or.inl ⟨by rfl, fun w' hS => ?_⟩) hbx ?_
    · go_simp
    refine wpAnyE_take (i := 2) (L := 8) (v := .slice none 0 0) rfl rfl (by decide) (by kernel_rfl) (by kernel_rfl) (by kernel_rfl) (by kernel_rfl) (by kernel_rfl) (fun _ _ _ h => h) (Or.inl ⟨by rfl, fun w' hS => ?_⟩) hbx ?_
    · go_simp
    refine wpAnyE_take (i := 3) (L := 4) (v := .agg #[.int .i64 bn, .int .i64 blv, .slice ba (r.length + 1) bc]) rfl rfl (by decide) (by kernel_rfl) (by kernel_rfl) (by kernel_rfl) (by kernel_rfl) (by kernel_rfl) (fun _ _ _ h => h) (Or.inl ⟨by rfl, fun w' hS => ?_⟩) hbx ?_
    · obtain ⟨u0, u1, u2, _⟩ := cells3 hS; go_simp
    refine wpAnyE_take (i := 5) (L := 7) (v := .slice none 0 0) rfl rfl (by decide) (by kernel_rfl) (by kernel_rfl) (by kernel_rfl) (by kernel_rfl) (by kernel_rfl) (fun _ _ _ h => h) (Or.inl ⟨by rfl, fun w' hS => ?_⟩) hbx ?_
    · go_simp
    refine wpAnyE_take (i := 6) (L := 7) (v := .int .i64 0) rfl rfl (by decide) (by kernel_rfl) (by kernel_rfl) (by kernel_rfl) (by kernel_rfl) (by kernel_rfl) (fun _ _ _ h => h) (Or.inl ⟨by rfl, fun w' hS => ?_⟩) hbx ?_
    · go_simp
    refine wpAnyE_take (i := 7) (L := 8) (v := .slice none 0 0) rfl rfl (by decide) (by kernel_rfl) (by kernel_rfl) (by kernel_rfl) (by kernel_rfl) (by kernel_rfl) (fun _ _ _ h => h) (Or.inl ⟨by rfl, fun w' hS => ?_⟩) hbx ?_
    · go_simp
    refine wpAnyE_one (i := 4) (by kernel_rfl) rfl (by rfl) (fun K hK => ?_)
    go_simp
    refine hK.out _ _ (block_alloc hbx) ?_
    clear hK
    refine wpAnyE_one (i := 8) (by kernel_rfl) rfl (by rfl) (fun K hK => ?_)
    go_simp
    have hB : Below w.heap.size w ((((w.alloc (.cells #[.int .i64 bn, .int .i64 blv, .slice ba (r.length + 1) bc] 164)).alloc (.cells #[.int .i64 bn, .int .i64 blv, .slice ba (r.length + 1) bc] 164)).alloc (.cells #[.slice none 0 0, .slice (some ⟨w.heap.size + 1, 0, none⟩) 1 1, .slice none 0 0] 142)).drew) := ((((Below.refl _ w).alloc (Nat.le_refl _) _).alloc (by simp) _).alloc (by simp; omega) _).drew
    have hL : Ltp ((((w.alloc (.cells #[.int .i64 bn, .int .i64 blv, .slice ba (r.length + 1) bc] 164)).alloc (.cells #[.int .i64 bn, .int .i64 blv, .slice ba (r.length + 1) bc] 164)).alloc (.cells #[.slice none 0 0, .slice (some ⟨w.heap.size + 1, 0, none⟩) 1 1, .slice none 0 0] 142)).drew) (some ⟨w.heap.size + 2, 0, none⟩) [((none, 0, 0), []), ((some ⟨w.heap.size + 1, 0, none⟩, 1, 1), [(⟨bn, blv, e :: r⟩, (ba, r.length + 1, bc))]), ((none, 0, 0), [])] := by
      refine ⟨rp_block slC_len (w := (((w.alloc _).alloc _).alloc _).drew) (by have := block_new ((w.alloc (.cells #[.int .i64 bn, .int .i64 blv, .slice ba (r.length + 1) bc] 164)).alloc (.cells #[.int .i64 bn, .int .i64 blv, .slice ba (r.length + 1) bc] 164)) (.cells #[.slice none 0 0, .slice (some ⟨w.heap.size + 1, 0, none⟩) 1 1, .slice none 0 0] 142); rw [World.size_alloc, World.size_alloc] at this; exact this) rfl, fun x hx => ?_⟩
      simp only [List.mem_cons, List.not_mem_nil, or_false] at hx
      rcases hx with rfl | rfl | rfl
      · exact TrAt.no _
      · exact TrAt.one (w := (((w.alloc _).alloc _).alloc _).drew) (by have := block_new (w.alloc (.cells #[.int .i64 bn, .int .i64 blv, .slice ba (r.length + 1) bc] 164)) (.cells #[.int .i64 bn, .int .i64 blv, .slice ba (r.length + 1) bc] 164); rw [World.size_alloc] at this; exact block_alloc this)
      · exact TrAt.no _
    refine hK.out _ _ (block_alloc (block_alloc (block_new w _))) ?_
    clear hK
    have hC := concatT_any (some ⟨w.heap.size + 2, 0, none⟩) 3 _ _ hL (by simp) (by simp [sumT])
    simp only [List.length_cons, List.length_nil, Nat.zero_add, Nat.reduceAdd] at hC
    refine wpAnyE_one (i := 9) (by kernel_rfl) rfl (by rfl) (fun K hK => ?_)
    go_simp
    refine hC.mono ?_
    rintro e1 w1 ⟨v1, rfl, hb1, ho1⟩
    refine hK.out _ _ ((hb1.block _ (by simp <;> omega)).trans (block_alloc (block_alloc (block_new w _)))) ?_
    clear hK
    refine wpAnyE_last (i := 10) (by kernel_rfl) rfl (by rfl) (by kernel_rfl) (by kernel_rfl) (fun K hK => ?_)
    go_simp
    refine hK.out _ _ ?_
    clear hK
    go_wp2
    go_ret
    exact ⟨_, rfl, hB.trans (hb1.mono (by simp; omega)), by
      have := ho1.lowT (base' := w.heap.size) (by simp; omega)
      simpa [catT] using this⟩
set_option maxHeartbeats 400000 in
theorem highest_any (T bd bm bsn : Nat) (s : Sl) (l : List Tr) (st : Ls) (E : Nat → Prop) (w : World) (hL : LsAt w E T bd bm bsn s l st) (hll : l.length ≤ 1000) :
    Calls Tryz.prog 234 #[.pointer (some ⟨T, 0, none⟩)] w fun e w' => e = .returned (.int .i64 ((l.map (·.1.level)).getD 0 0 : Nat)) ∧ w' = w := by
  obtain ⟨sq, sn, sc⟩ := s
  obtain rfl : sn = l.length := hL.tab.len
  have c4 : w.cell? ⟨T, 4, none⟩ = some (.slice sq l.length sc) := hL.cell 4
  cases l with
  | nil =>
    go_enter Tryz.func234, Tryz.ntmps234
    go_wp2
    go_ret
    exact ⟨rfl, rfl⟩
  | cons x r =>
    obtain ⟨g, off, hq, d1⟩ := hL.tab.row 0 (by simp) 1 _ rfl
    simp only at hq
    subst hq
    simp only [Nat.zero_mul, List.getElem_cons_zero] at d1
    go_enter Tryz.func234, Tryz.ntmps234
    go_wp2
    go_ret
    exact ⟨rfl, rfl⟩
def alreadyX (st : Ls) (n : Nat) : Bool := st.mem.isEmpty && decide (st.tabs.length ≤ 1) && (st.tabs.isEmpty || decide ((st.tabs.map fun t => t.es.length).getD 0 0 = n))
set_option maxRecDepth 100000 in
set_option maxHeartbeats 400000 in
theorem isAlready_any (T bd bm bsn : Nat) (s : Sl) (l : List Tr) (st : Ls) (E : Nat → Prop) (hi n : Nat) (qa : Option Addr) (qc : Nat) (w : World) (hL : LsAt w E T bd bm bsn s l st) (hll : l.length ≤ 1000) (hel : ∀ x ∈ l, x.1.es.length ≤ 1000000) :
    Calls Tryz.prog 235 #[.pointer (some ⟨T, 0, none⟩), .agg #[.int .i64 0, .int .i64 hi, .slice qa n qc]] w fun e w' => e = .returned (.bool (alreadyX st n)) ∧ Below w.heap.size w w' := by
  obtain ⟨xs, hmx, hm, _⟩ := id hL.mem
  have hxm : st.mem.length = xs.length := by rw [← hmx]; simp [mmOf]
  have hsz : Maps.size (datX xs) = xs.length := by simp [datX, Maps.size]
  obtain ⟨sz, hsz'⟩ : ∃ sz, Maps.size (datX xs) = sz := ⟨_, rfl⟩
  have HS : Hid (Maps.size (datX xs) = sz) := hsz'
  rw [hsz'] at hsz
  clear hsz'
  have c3 : w.cell? ⟨T, 3, none⟩ = some (.map (some bm)) := hL.cell 3
  obtain ⟨sq, sn, sc⟩ := s
  obtain rfl : sn = l.length := hL.tab.len
  have c4 : w.cell? ⟨T, 4, none⟩ = some (.slice sq l.length sc) := hL.cell 4
  have hB := (Below.refl w.heap.size w).alloc (Nat.le_refl _) (.cells #[.int .i64 0, .int .i64 hi, .slice qa n qc] 164)
  have hm' := hm.alloc (.cells #[.int .i64 0, .int .i64 hi, .slice qa n qc] 164)
  replace c3 := cell_below hB c3
  replace c4 := cell_below hB c4
  have htab := hL.tab.below hB
  have hmem : st.mem.isEmpty = decide (sz = 0) := by
    cases hh : st.mem with
    | nil => rw [hh] at hxm; simp at hxm; simp; omega
    | cons a r => rw [hh] at hxm; simp at hxm; simp; omega
  have hst : st.tabs = l.map (·.1) := hL.is.symm
  have htx : st.tabs.isEmpty = l.isEmpty := by rw [hst]; simp
  have htl : st.tabs.length = l.length := by rw [hst]; simp
  have hte : (st.tabs.map fun t => t.es.length).getD 0 0 = (l.map fun x => x.1.es.length).getD 0 0 := by rw [hst]; simp [Function.comp_def]
  have E0 : Hid (alreadyX st n = (decide (sz = 0) && decide (l.length ≤ 1) && (l.isEmpty || decide ((l.map fun x => x.1.es.length).getD 0 0 = n)))) := by show _ = _; unfold alreadyX; rw [hmem, htx, htl, hte]
  clear hmem htx htl hte hst hxm hsz
  by_cases hz : sz = 0
  · subst hz
    cases l with
    | nil =>
      go_enter Tryz.func235, Tryz.ntmps235
      go_wp2_with (at_len; refine wpList_len_own _ rfl _ 141 rfl 9 162 Tryz.underlying141 _ bm xs.length (datX xs) rfl hm' ?_; rw [HS.out])
      have hBd := hB.drew
      generalize w.alloc (.cells #[.int .i64 0, .int .i64 hi, .slice qa n qc] 164) = W at *
      replace c4 := cell_below ((Below.refl _ W).drew) c4
      refine wp_region_S mixedP (by kernel_rfl) ?_
      (iterate 21 (refine StillS.step (fun K hK => ?_); go_simp; refine hK _ ?_; clear hK K))
      refine StillS.nil ?_
      go_wp2
      go_ret
      rw [E0.out]
      exact ⟨rfl, hBd⟩
    | cons x r =>
      cases r with
      | nil =>
        obtain ⟨g, off, hq, d2⟩ := htab.row 0 (by simp) 2 _ rfl
        simp only at hq
        subst hq
        simp only [Nat.zero_mul, List.getElem_cons_zero] at d2
        obtain ⟨⟨xa, xb, xe⟩, ⟨xq, xn, xc⟩⟩ := x
        obtain rfl : xn = xe.length := (hL.es ((⟨xa, xb, xe⟩ : Tb), ((xq, xn, xc) : Sl)) (by simp)).len
        have hxe := hel _ (List.mem_singleton.2 rfl)
        simp only at hxe
        replace d2 := (show _ = some (Value.slice xq xe.length xc) from d2)
        obtain ⟨b0, b1, b2, _⟩ := cells3 (block_new w (.cells #[.int .i64 0, .int .i64 hi, .slice qa n qc] 164))
        by_cases hee : xe.length = n
        · have hee' : (xe.length : Int) = (n : Int) := by omega
          go_enter Tryz.func235, Tryz.ntmps235
          go_wp2_with (at_len; refine wpList_len_own _ rfl _ 141 rfl 9 162 Tryz.underlying141 _ bm xs.length (datX xs) rfl hm' ?_; rw [HS.out])
          have hBd := hB.drew
          generalize w.alloc (.cells #[.int .i64 0, .int .i64 hi, .slice qa n qc] 164) = W at *
          replace c4 := cell_below ((Below.refl _ W).drew) c4
          replace d2 := cell_below ((Below.refl _ W).drew) d2
          replace b2 := cell_below ((Below.refl _ W).drew) b2
          refine wp_region_S mixedP (by kernel_rfl) ?_
          (iterate 21 (refine StillS.step (fun K hK => ?_); go_simp; refine hK _ ?_; clear hK K))
          refine StillS.nil ?_
          go_wp2
          go_ret
          rw [E0.out]
          refine ⟨?_, hBd⟩
          simp [hee]
        · have hee' : ¬ (xe.length : Int) = (n : Int) := by omega
          go_enter Tryz.func235, Tryz.ntmps235
          go_wp2_with (at_len; refine wpList_len_own _ rfl _ 141 rfl 9 162 Tryz.underlying141 _ bm xs.length (datX xs) rfl hm' ?_; rw [HS.out])
          have hBd := hB.drew
          generalize w.alloc (.cells #[.int .i64 0, .int .i64 hi, .slice qa n qc] 164) = W at *
          replace c4 := cell_below ((Below.refl _ W).drew) c4
          replace d2 := cell_below ((Below.refl _ W).drew) d2
          replace b2 := cell_below ((Below.refl _ W).drew) b2
          refine wp_region_S mixedP (by kernel_rfl) ?_
          (iterate 21 (refine StillS.step (fun K hK => ?_); go_simp; refine hK _ ?_; clear hK K))
          refine StillS.nil ?_
          go_wp2
          go_ret
          rw [E0.out]
          refine ⟨?_, hBd⟩
          simp [hee]
          omega
      | cons y r =>
        have hlen : (1 : Int) < ((r.length : Int) + 1 + 1) := by omega
        go_enter Tryz.func235, Tryz.ntmps235
        go_wp2_with (at_len; refine wpList_len_own _ rfl _ 141 rfl 9 162 Tryz.underlying141 _ bm xs.length (datX xs) rfl hm' ?_; rw [HS.out])
        go_ret
        rw [E0.out]
        refine ⟨?_, hB⟩
        simp
  · have hz0 : (0 : Int) < (sz : Int) := by omega
    go_enter Tryz.func235, Tryz.ntmps235
    go_wp2_with (at_len; refine wpList_len_own _ rfl _ 141 rfl 9 162 Tryz.underlying141 _ bm xs.length (datX xs) rfl hm' ?_; rw [HS.out])
    go_ret
    rw [E0.out, decide_eq_false hz]
    exact ⟨rfl, hB⟩
end Go.Proofs.YtoabedkcieindaaGreatDoor
