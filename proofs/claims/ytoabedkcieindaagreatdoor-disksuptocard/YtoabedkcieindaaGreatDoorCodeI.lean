/- The program's disk: Crash. -/
import Derived.Test.YtoabedkcieindaaGreatDoorCodeH
namespace Go.Proofs.YtoabedkcieindaaGreatDoor
open Go.RowKit Go.Maps Go.Sort

theorem kept_len (k : Int) (f : Fl) (h : f.safe ≤ f.bytes.length) : (kept k f).bytes.length = keptN k f := by
  rw [kept_eq]; simp only [List.length_take]; unfold keptN; omega
theorem nms_len {α : Type} (l : List (Nm × α)) : (nmsOf l).length = l.length := by simp [nmsOf]
theorem nms_at {α : Type} (l : List (Nm × α)) (i : Nat) (h : i < l.length) : (nmsOf l)[i]'(by rw [nms_len]; exact h) = l[i].1 := by simp [nmsOf]
theorem nms_fs (ps : PL) : nmsOf (fsOf ps) = nmsOf ps := by simp [nmsOf, fsOf]
theorem crashK_names (ks : List Int) (fs : List (Nm × Fl)) (j : Nat) : nmsOf (crashK ks fs j) = nmsOf fs := by
  apply List.ext_getElem
  · rw [nms_len, nms_len, crashK_len]
  · intro i h1 h2
    rw [nms_len] at h2
    rw [nms_at _ _ (by rw [crashK_len]; exact h2), nms_at _ _ h2]
    have hl : ((crashL ks fs).take j).length = min j fs.length := by simp [crashL_len]
    simp only [crashK]
    by_cases h : i < j
    · rw [List.getElem_append_left (by omega), List.getElem_take, crashL_at ks fs i h2]
    · rw [List.getElem_append_right (by omega)]
      simp only [hl, List.getElem_drop]
      congr 2
      omega
theorem rising_names {α β : Type} {l : List (Nm × α)} {m : List (Nm × β)} (h : nmsOf l = nmsOf m) (hr : rising m) : rising l := by
  unfold rising at *
  have h1 : (nmsOf m).Pairwise (fun x y => bytesBefore x y = true) := by unfold nmsOf; rw [List.pairwise_map]; exact hr
  rw [← h] at h1
  unfold nmsOf at h1
  rwa [List.pairwise_map] at h1
theorem used_crashK (ks : List Int) (fs : List (Nm × Fl)) (j : Nat) (h : j < fs.length) (hs : fs[j].2.safe ≤ fs[j].2.bytes.length) : used (crashK ks fs (j + 1)) + fs[j].2.bytes.length = used (crashK ks fs j) + keptN (ks.getD j 0) fs[j].2 := by
  rw [crashK_succ ks fs j h]
  have := used_set (crashK ks fs j) j (by rw [crashK_len]; exact h) (fs[j].1, kept (ks.getD j 0) fs[j].2)
  rw [crashK_here ks fs j h] at this
  simp only [kept_len _ _ hs] at this
  exact this
theorem used_crashK_le (ks : List Int) (fs : List (Nm × Fl)) (hs : ∀ x ∈ fs, x.2.safe ≤ x.2.bytes.length) : ∀ j, j ≤ fs.length → used (crashK ks fs j) ≤ used fs
  | 0, _ => by simp [crashK]
  | j + 1, h => by
    have h1 := used_crashK ks fs j (by omega) (hs _ (List.getElem_mem _))
    have h2 := used_crashK_le ks fs hs j (by omega)
    have h3 : keptN (ks.getD j 0) (fs[j]'(by omega)).2 ≤ (fs[j]'(by omega)).2.bytes.length := by have := hs _ (List.getElem_mem (l := fs) (n := j) (by omega)); unfold keptN; omega
    omega

set_option maxHeartbeats 2000000 in
set_option maxRecDepth 20000 in
theorem dCrash_any (b : Nat) (d : Dk) (q : Option Addr) (qc : Nat) (ks : List Int) (S : Nat → Prop) (w : World) (hP : ProgAt w S b d) (hok : d.Ok) (hl : d.files.length ≤ 4194303) (hkl : ks.length ≤ 4611686018427387904) (hi : Intp w q ks) (hq : ∀ a, q = some a → 0 < ks.length → ¬ S a.block) :
    Calls Tryz.prog 57 #[.pointer (some ⟨b, 0, none⟩), .slice q ks.length qc] w fun e w' => e = .returned (.tuple #[]) ∧ ProgAt w' (Nw S w) b (d.crash ks) ∧ Kp S w w' := by
  obtain ⟨bm, ps, hst0, hfs⟩ := id hP
  have hst : PrSt w (fun k => S k ∧ k < w.heap.size) b bm ps ((d.quota : Int) - used d.files) d.left d.dead d.turn := hst0.mono (fun k hk s => ⟨s, hk⟩)
  have hri : rising ps := rising_ps (by rw [hfs]; exact hok.rise)
  have hpl : ps.length ≤ 4194303 := by rw [← fs_len, hfs]; exact hl
  have hord := order_any hst hri (by omega)
  have hN : nmsOf ps = nmsOf d.files := by rw [← hfs, nms_fs]
  rw [hN] at hord
  have hsb := hst0.sb
  have hst0' : Hid (PrSt w S b bm ps ((d.quota : Int) - used d.files) d.left d.dead d.turn) := hst0
  obtain ⟨quota, fs, left, dead, turn⟩ := d
  simp only at *
  have hnl : (nmsOf fs).length = fs.length := nms_len fs
  obtain ⟨c0, c1, c2, c3, c8, f0, f1, f2, f3, f9⟩ := cells5 hst.blk
  clear hst0 hP
  go_enter Tryz.func57, Tryz.ntmps57
  go_wp2_with (go_at_call 100; refine hord.mono ?_; rintro e wB ⟨vo, rfl, hblB, hoB⟩; clear hord; obtain ⟨ao, co, rfl, hoc⟩ := ownS_shape hoB)
  have hlo : ∀ g, (Value.slice ao fs.length co).ownBlock = some g → w.heap.size ≤ g ∧ g < wB.heap.size := fun g hg => World.ownsRow.lt hoB g (by rw [hnl]; exact hg)
  have hoB' : OwnS wB 0 (.slice ao fs.length co) (nmsOf fs) := by rw [hnl] at hoB; exact ownsRow_base hoB (Nat.zero_le _)
  have hszB := hblB.size
  have hiB : Intp wB q ks := hi.kept (S := fun _ => False) (Kp.of_below hblB) (fun _ _ _ f => f)
  have hqT : ∀ i (h : i < ks.length) a, q = some a → ¬ Nw (fun k => S k ∧ k < w.heap.size) wB a.block := fun i h a ha => by
    obtain ⟨g, off, e, hc⟩ := hi i h
    rw [ha] at e
    obtain rfl := Option.some.inj e
    have := World.block_lt_of_cell? w ⟨g, off + i, none⟩ hc
    rintro (s | s)
    · exact hq _ ha (by omega) s.1
    · simp only at s this; omega
  have hstB := (hst.below hblB).mono (T := Nw (fun k => S k ∧ k < w.heap.size) wB) (fun _ _ s => .inl s)
  have hsafe : ∀ x ∈ fs, x.2.safe ≤ x.2.bytes.length := hok.safe
  have hby : ∀ i (h : i < fs.length), fs[i].2.bytes.length ≤ 1048576 := fun i h => Nat.le_trans (used_ge fs i h) (Nat.le_trans hok.used hok.quota)
  have hu1 := hok.used
  have hu2 := hok.quota
  have hrise := hok.rise
  have hname := hok.name
  simp only at hu1 hu2 hrise hname
  have HOK : Hid True := trivial
  clear hok hst hoc hoB hN c0 c1 c2 c3 f0 f1 f2 f3 hnl
  go_loopw [12] (fun i wr => ∃ (j : Nat) (ps' : PL), j ≤ fs.length ∧ i = .int .i64 j ∧ Kp (Nw (fun k => S k ∧ k < w.heap.size) wB) wB wr ∧ PrSt wr (Nw (fun k => S k ∧ k < w.heap.size) wB) b bm ps' ((quota : Int) - used (crashK ks fs j)) left dead turn ∧ fsOf ps' = crashK ks fs j) (fun i _ => fs.length - (intOf i).toNat)
  case atStart => exact ⟨0, ps, Nat.zero_le _, rfl, Kp.refl _ _, by simpa [crashK] using hstB, by simpa [crashK] using hfs⟩
  case round =>
    obtain ⟨j, ps', hj, rfl, kp, hsr, hfr⟩ := hrel
    have hoR : OwnS wr 0 (.slice ao fs.length co) (nmsOf fs) := kp.row hoB' (fun g hg => by
      have := hlo g hg
      rintro (s | s)
      · have := s.2; omega
      · omega)
    by_cases hlt : j < fs.length
    · obtain ⟨a2, c2, e2, hoc2⟩ := ownS_shape hoR
      obtain ⟨g, rfl, _, hcell⟩ := hoc2 j (by rw [nms_len]; exact hlt)
      rw [nms_at fs j hlt] at hcell
      obtain ⟨rfl, -, rfl⟩ : ao = some ⟨g, 0, none⟩ ∧ fs.length = (nmsOf fs).length ∧ co = c2 := by simpa using e2
      unfold encS at hcell
      have hjp : j < ps'.length := by rw [← fs_len, hfr, crashK_len]; exact hlt
      have hpj : (fsOf ps')[j]'(by rw [fs_len]; exact hjp) = fs[j] := by
        have : (fsOf ps')[j]? = (crashK ks fs j)[j]? := by rw [hfr]
        rw [List.getElem?_eq_getElem (by rw [fs_len]; exact hjp), List.getElem?_eq_getElem (by rw [crashK_len]; exact hlt), crashK_here ks fs j hlt] at this
        exact Option.some.inj this
      have hpj' : ps'[j].1 = fs[j].1 ∧ ps'[j].2.fl = fs[j].2 := by
        have h3 : (ps'[j].1, ps'[j].2.fl) = fs[j] := by rw [← hpj]; simp [fsOf]
        rw [← h3]; exact ⟨rfl, rfl⟩
      have hrp : rising ps' := rising_ps (by rw [hfr]; exact rising_names (crashK_names ks fs j) hrise)
      have hgp : getF fs[j].1 ps' = some ps'[j].2 := getF_at hjp hpj'.1 (fun i hi' e => by
        have := rising_at hrp (i := i) (j := j) (by omega) hjp (e.trans hpj'.1.symm)
        omega)
      have hnj : fs[j].1.length ≤ 20 := hname _ (List.getElem_mem hlt)
      have hlk := look hsr.map fs[j].1 (by unfold maxLen; omega)
      rw [hgp] at hlk
      simp only [ptrOf] at hlk
      have hup := used_crashK ks fs j hlt (hsafe _ (List.getElem_mem hlt))
      have hul := used_crashK_le ks fs hsafe j (by omega)
      have hbj := hby j hlt
      have hcr := fun keep => dcrash_any (k := j) (n := fs[j].1) (p := ps'[j].2) hsr hjp (by rw [← hpj'.1]) keep (by rw [hpj'.2]; exact hsafe _ (List.getElem_mem hlt)) (by rw [hpj'.2]; exact hbj) (by omega) (by omega)
      simp only [hpj'.2] at hcr
      have hstep : ∀ (p' : PF) w2, p'.fl = kept (ks.getD j 0) fs[j].2 → PrSt w2 (Nw (Nw (fun k => S k ∧ k < w.heap.size) wB) wr) b bm (ps'.set j (fs[j].1, p')) ((quota : Int) - used (crashK ks fs j) + fs[j].2.bytes.length - keptN (ks.getD j 0) fs[j].2) left dead turn → Kp (Nw (fun k => S k ∧ k < w.heap.size) wB) wr w2 →
          Kp (Nw (fun k => S k ∧ k < w.heap.size) wB) wB w2 ∧ PrSt w2 (Nw (fun k => S k ∧ k < w.heap.size) wB) b bm (ps'.set j (fs[j].1, p')) ((quota : Int) - used (crashK ks fs (j + 1))) left dead turn ∧ fsOf (ps'.set j (fs[j].1, p')) = crashK ks fs (j + 1) := fun p' w2 h1 h2 h3 => by
        refine ⟨kp.trans h3 (fun _ _ s => s), ?_, ?_⟩
        · rw [show (quota : Int) - used (crashK ks fs (j + 1)) = (quota : Int) - used (crashK ks fs j) + fs[j].2.bytes.length - keptN (ks.getD j 0) fs[j].2 by omega]
          exact h2.mono (fun _ _ s => s.elim (fun s => s) (fun h => .inr (Nat.le_trans kp.size h)))
        · rw [fs_set, hfr, crashK_succ ks fs j hlt, h1]
      have HS : Hid (∀ (p' : PF) w2, p'.fl = kept (ks.getD j 0) fs[j].2 → PrSt w2 (Nw (Nw (fun k => S k ∧ k < w.heap.size) wB) wr) b bm (ps'.set j (fs[j].1, p')) ((quota : Int) - used (crashK ks fs j) + fs[j].2.bytes.length - keptN (ks.getD j 0) fs[j].2) left dead turn → Kp (Nw (fun k => S k ∧ k < w.heap.size) wB) wr w2 →
          Kp (Nw (fun k => S k ∧ k < w.heap.size) wB) wB w2 ∧ PrSt w2 (Nw (fun k => S k ∧ k < w.heap.size) wB) b bm (ps'.set j (fs[j].1, p')) ((quota : Int) - used (crashK ks fs (j + 1))) left dead turn ∧ fsOf (ps'.set j (fs[j].1, p')) = crashK ks fs (j + 1)) := hstep
      obtain ⟨r0, r1, r2, r3, r8, r4, r5, r6, r7, r9⟩ := cells5 hsr.blk
      have HIR : Hid (∀ h : j < ks.length, ∃ gk ok, q = some ⟨gk, ok, none⟩ ∧ wr.cell? ⟨gk, ok + j, none⟩ = some (.int .i64 ks[j])) := fun h => (hiB.kept kp (fun a ha _ => hqT j h a ha)) j h
      clear hstep hpj hpj' hrp hgp hoc2 e2 hiB hqT hi hq hoB' hlo hoR hup hul hby hsafe hname hrise hstB hst0'
      by_cases hjk : j < ks.length
      · obtain ⟨gk, ok, rfl, hck⟩ := HIR.out hjk
        have hkd : ks.getD j 0 = ks[j] := getD_in hjk
        rw [hkd] at HS
        go_wp2_with (go_at_call 101; refine (hcr ks[j]).mono ?_; rintro e w2 ⟨rfl, ⟨p', hp1, hp2, hp3⟩, kp3⟩)
        have HZ := HS.out p' w2 hp1 hp3 kp3
        have HZ' : Hid (Kp (Nw (fun k => S k ∧ k < w.heap.size) wB) wB w2 ∧ PrSt w2 (Nw (fun k => S k ∧ k < w.heap.size) wB) b bm (ps'.set j (fs[j].1, p')) ((quota : Int) - used (crashK ks fs (j + 1))) left dead turn ∧ fsOf (ps'.set j (fs[j].1, p')) = crashK ks fs (j + 1)) := HZ
        clear HZ hp1 hp2 hp3 kp3 hcr
        go_roundw
        case rel => exact ⟨j + 1, _, by omega, by go_num, HZ'.out⟩
        case measure => simp [intOf]; omega
      · have hkd : ks.getD j 0 = 0 := getD_out (by omega)
        rw [hkd] at HS
        go_wp2_with (go_at_call 101; refine (hcr 0).mono ?_; rintro e w2 ⟨rfl, ⟨p', hp1, hp2, hp3⟩, kp3⟩)
        have HZ := HS.out p' w2 hp1 hp3 kp3
        have HZ' : Hid (Kp (Nw (fun k => S k ∧ k < w.heap.size) wB) wB w2 ∧ PrSt w2 (Nw (fun k => S k ∧ k < w.heap.size) wB) b bm (ps'.set j (fs[j].1, p')) ((quota : Int) - used (crashK ks fs (j + 1))) left dead turn ∧ fsOf (ps'.set j (fs[j].1, p')) = crashK ks fs (j + 1)) := HZ
        clear HZ hp1 hp2 hp3 kp3 hcr
        go_roundw
        case rel => exact ⟨j + 1, _, by omega, by go_num, HZ'.out⟩
        case measure => simp [intOf]; omega
    · have : j = fs.length := by omega
      subst this
      rw [crashK_end] at hsr hfr
      obtain ⟨r0, r1, r2, r3, r8, r4, r5, r6, r7, r9⟩ := cells5 hsr.blk
      clear hiB hqT hi hq hoB' hlo hoR hby hsafe hname hrise hstB
      go_wp2
      go_end0
      have h1 := hsr.fields (Kp.set1 wr b 2 (.int .i64 (-1))) ((block_set hsr.blk _).trans rfl)
      have h2 := h1.fields (Kp.set1 _ b 3 (.bool false)) ((block_set h1.blk _).trans rfl)
      have h3 := h2.fields (Kp.set1 _ b 4 (.int .i64 (Go.RowKit.wrap64 (turn + 1)))) ((block_set h2.blk _).trans rfl)
      refine ⟨rfl, ⟨bm, ps', h3.mono (fun k _ s => ?_), hfr⟩, ?_⟩
      · rcases s with s | s
        · exact .inl s.1
        · exact .inr (Nat.le_trans hszB s)
      · refine kpNw ((((((Kp.of_below (S := Nw S w) hblB).trans kp (fun i hi s => ?_)).put (.inl hsb) _).put (.inl hsb) _).put (.inl hsb) _))
        rcases s with s | s
        · exact .inl s.1
        · omega

end Go.Proofs.YtoabedkcieindaaGreatDoor
