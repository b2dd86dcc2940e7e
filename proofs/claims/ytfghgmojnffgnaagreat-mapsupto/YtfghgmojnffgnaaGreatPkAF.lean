import Derived.Test.YtfghgmojnffgnaaGreatPkAE
set_option maxHeartbeats 4000000
set_option maxRecDepth 20000
namespace Go.Proofs.YtfghgmojnffgnaaGreat
open Go.RowKit Go.Maps Go.Sort
theorem kept_len (k : Int) (f : Fl) (h : f.safe <= f.bytes.length) : (kept k f).bytes.length = keptN k f := by
 rw [kept_eq]; simp only [List.length_take]; unfold keptN; omega
theorem nms_len {α : Type} (l : List (Nm × α)) : (nmsOf l).length = l.length := by simp [nmsOf]
theorem nms_at {α : Type} (l : List (Nm × α)) (i : Nat) (h : i < l.length) : (nmsOf l)[i]'(by rw [nms_len]; exact h) = l[i].1 := by simp [nmsOf]
theorem nms_fs (ps : PL) : nmsOf (fsOf ps) = nmsOf ps := by simp [nmsOf, fsOf]
theorem crashK_names (ks : List Int) (fs : List (Nm × Fl)) (j : Nat) : nmsOf (crashK ks fs j) = nmsOf fs := by
 apply List.ext_getElem
 . rw [nms_len, nms_len, crashK_len]
 . intro i h1 h2
   rw [nms_len] at h2
   rw [nms_at _ _ (by rw [crashK_len]; exact h2), nms_at _ _ h2]
   have hl : ((crashL ks fs).take j).length = min j fs.length := by simp [crashL_len]
   simp only [crashK]
   by_cases h : i < j
   . rw [List.getElem_append_left (by omega), List.getElem_take, crashL_at ks fs i h2]
   . rw [List.getElem_append_right (by omega)]
     simp only [hl, List.getElem_drop]
     congr 2
     omega
theorem rising_names {α β : Type} {l : List (Nm × α)} {m : List (Nm × β)} (h : nmsOf l = nmsOf m) (hr : rising m) : rising l := by
 unfold rising at *
 have h1 : (nmsOf m).Pairwise (fun x y => bytesBefore x y = true) := by unfold nmsOf; rw [List.pairwise_map]; exact hr
 rw [<- h] at h1
 unfold nmsOf at h1
 rwa [List.pairwise_map] at h1
theorem used_crashK (ks : List Int) (fs : List (Nm × Fl)) (j : Nat) (h : j < fs.length) (hs : fs[j].2.safe <= fs[j].2.bytes.length) : used (crashK ks fs (j + 1)) + fs[j].2.bytes.length = used (crashK ks fs j) + keptN (ks.getD j 0) fs[j].2 := by
 rw [crashK_succ ks fs j h]
 have := used_set (crashK ks fs j) j (by rw [crashK_len]; exact h) (fs[j].1, kept (ks.getD j 0) fs[j].2)
 rw [crashK_here ks fs j h] at this
 simp only [kept_len _ _ hs] at this
 exact this
theorem used_crashK_le (ks : List Int) (fs : List (Nm × Fl)) (hs : ∀ x ∈ fs, x.2.safe <= x.2.bytes.length) : ∀ j, j <= fs.length -> used (crashK ks fs j) <= used fs
 | 0, _ => by simp [crashK]
 | j + 1, h => by
   have h1 := used_crashK ks fs j (by omega) (hs _ (List.getElem_mem _))
   have h2 := used_crashK_le ks fs hs j (by omega)
   have h3 : keptN (ks.getD j 0) (fs[j]'(by omega)).2 <= (fs[j]'(by omega)).2.bytes.length := by have := hs _ (List.getElem_mem (l := fs) (n := j) (by omega)); unfold keptN; omega
   omega
theorem dCrash_any (b : Nat) (d : Dk) (q : Option Addr) (qc : Nat) (ks : List Int) (S : Nat -> Prop) (w : World) (hP : ProgAt w S b d) (hok : d.Ok) (hl : d.files.length <= 4194303) (hkl : ks.length <= 4611686018427387904) (hi : Intp w q ks) (hq : ∀ a, q = some a -> 0 < ks.length -> ¬ S a.block) :
   Calls Tryz.prog 37 #[.pointer (some ⟨b, 0, none⟩), .slice q ks.length qc] w fun e w' => e = .returned (.tuple #[]) /\ ProgAt w' (Nw S w) b (d.crash ks) /\ Kp S w w' := by
 obtain ⟨bm, ps, hst0, hfs⟩ := id hP
 have hst : PrSt w (fun k => S k /\ k < w.heap.size) b bm ps ((d.quota : Int) - used d.files) d.left d.dead d.turn := hst0.mono (fun k hk s => ⟨s, hk⟩)
 have hri : rising ps := rising_ps (by rw [hfs]; exact hok.rise)
 have hpl : ps.length <= 4194303 := by rw [<- fs_len, hfs]; exact hl
 have hord := order_any hst hri (by omega)
 have hN : nmsOf ps = nmsOf d.files := by rw [<- hfs, nms_fs]
 rw [hN] at hord
 have hsb := hst0.sb
 have hst0' : Hid (PrSt w S b bm ps ((d.quota : Int) - used d.files) d.left d.dead d.turn) := hst0
 obtain ⟨quota, fs, left, dead, turn⟩ := d
 simp only at *
 have hnl : (nmsOf fs).length = fs.length := nms_len fs
 obtain ⟨c0, c1, c2, c3, c8, f0, f1, f2, f3, f9⟩ := cells5 hst.blk
 clear hst0 hP
 go_enter Tryz.func37, Tryz.ntmps37
 go_wp2_with (go_at_call 72; refine hord.mono ?_; rintro e wB ⟨vo, rfl, hblB, hoB⟩; clear hord; obtain ⟨ao, co, rfl, hoc⟩ := ownS_shape hoB)
 have hlo : ∀ g, (Value.slice ao fs.length co).ownBlock = some g -> w.heap.size <= g /\ g < wB.heap.size := fun g hg => World.ownsRow.lt hoB g (by rw [hnl]; exact hg)
 have hoB' : OwnS wB 0 (.slice ao fs.length co) (nmsOf fs) := by rw [hnl] at hoB; exact ownsRow_base hoB (Nat.zero_le _)
 have hszB := hblB.size
 have hiB : Intp wB q ks := hi.kept (S := fun _ => False) (Kp.of_below hblB) (fun _ _ _ f => f)
 have hqT : ∀ i (h : i < ks.length) a, q = some a -> ¬ Nw (fun k => S k /\ k < w.heap.size) wB a.block := fun i h a ha => by
   obtain ⟨g, off, e, hc⟩ := hi i h
   rw [ha] at e
   obtain rfl := Option.some.inj e
   have := World.block_lt_of_cell? w ⟨g, off + i, none⟩ hc
   rintro (s | s)
   . exact hq _ ha (by omega) s.1
   . simp only at s this; omega
 have hstB := (hst.below hblB).mono (T := Nw (fun k => S k /\ k < w.heap.size) wB) (fun _ _ s => .inl s)
 have hsafe : ∀ x ∈ fs, x.2.safe <= x.2.bytes.length := hok.safe
 have hby : ∀ i (h : i < fs.length), fs[i].2.bytes.length <= 1048576 := fun i h => Nat.le_trans (used_ge fs i h) (Nat.le_trans hok.used hok.quota)
 have hu1 := hok.used
 have hu2 := hok.quota
 have hrise := hok.rise
 have hname := hok.name
 simp only at hu1 hu2 hrise hname
 have HOK : Hid True := trivial
 clear hok hst hoc hoB hN c0 c1 c2 c3 f0 f1 f2 f3 hnl
 go_loopw [12] (fun i wr => ∃ (j : Nat) (ps' : PL), j <= fs.length /\ i = .int .i64 j /\ Kp (Nw (fun k => S k /\ k < w.heap.size) wB) wB wr /\ PrSt wr (Nw (fun k => S k /\ k < w.heap.size) wB) b bm ps' ((quota : Int) - used (crashK ks fs j)) left dead turn /\ fsOf ps' = crashK ks fs j) (fun i _ => fs.length - (intOf i).toNat)
 case atStart => exact ⟨0, ps, Nat.zero_le _, rfl, Kp.refl _ _, by simpa [crashK] using hstB, by simpa [crashK] using hfs⟩
 case round =>
   obtain ⟨j, ps', hj, rfl, kp, hsr, hfr⟩ := hrel
   have hoR : OwnS wr 0 (.slice ao fs.length co) (nmsOf fs) := kp.row hoB' (fun g hg => by
     have := hlo g hg
     rintro (s | s)
     . have := s.2; omega
     . omega)
   by_cases hlt : j < fs.length
   . obtain ⟨a2, c2, e2, hoc2⟩ := ownS_shape hoR
     obtain ⟨g, rfl, _, hcell⟩ := hoc2 j (by rw [nms_len]; exact hlt)
     rw [nms_at fs j hlt] at hcell
     obtain ⟨rfl, -, rfl⟩ : ao = some ⟨g, 0, none⟩ /\ fs.length = (nmsOf fs).length /\ co = c2 := by simpa using e2
     unfold encS at hcell
     have hjp : j < ps'.length := by rw [<- fs_len, hfr, crashK_len]; exact hlt
     have hpj : (fsOf ps')[j]'(by rw [fs_len]; exact hjp) = fs[j] := by
       have : (fsOf ps')[j]? = (crashK ks fs j)[j]? := by rw [hfr]
       rw [List.getElem?_eq_getElem (by rw [fs_len]; exact hjp), List.getElem?_eq_getElem (by rw [crashK_len]; exact hlt), crashK_here ks fs j hlt] at this
       exact Option.some.inj this
     have hpj' : ps'[j].1 = fs[j].1 /\ ps'[j].2.fl = fs[j].2 := by
       have h3 : (ps'[j].1, ps'[j].2.fl) = fs[j] := by rw [<- hpj]; simp [fsOf]
       rw [<- h3]; exact ⟨rfl, rfl⟩
     have hrp : rising ps' := rising_ps (by rw [hfr]; exact rising_names (crashK_names ks fs j) hrise)
     have hgp : getF fs[j].1 ps' = some ps'[j].2 := getF_at hjp hpj'.1 (fun i hi' e => by
       have := rising_at hrp (i := i) (j := j) (by omega) hjp (e.trans hpj'.1.symm)
       omega)
     have hnj : fs[j].1.length <= 20 := hname _ (List.getElem_mem hlt)
     have hlk := look hsr.map fs[j].1 (by unfold maxLen; omega)
     rw [hgp] at hlk
     simp only [ptrOf] at hlk
     have hup := used_crashK ks fs j hlt (hsafe _ (List.getElem_mem hlt))
     have hul := used_crashK_le ks fs hsafe j (by omega)
     have hbj := hby j hlt
     have hcr := fun keep => dcrash_any (k := j) (n := fs[j].1) (p := ps'[j].2) hsr hjp (by rw [<- hpj'.1]) keep (by rw [hpj'.2]; exact hsafe _ (List.getElem_mem hlt)) (by rw [hpj'.2]; exact hbj) (by omega) (by omega)
     simp only [hpj'.2] at hcr
     have hstep : ∀ (p' : PF) w2, p'.fl = kept (ks.getD j 0) fs[j].2 -> PrSt w2 (Nw (Nw (fun k => S k /\ k < w.heap.size) wB) wr) b bm (ps'.set j (fs[j].1, p')) ((quota : Int) - used (crashK ks fs j) + fs[j].2.bytes.length - keptN (ks.getD j 0) fs[j].2) left dead turn -> Kp (Nw (fun k => S k /\ k < w.heap.size) wB) wr w2 ->
         Kp (Nw (fun k => S k /\ k < w.heap.size) wB) wB w2 /\ PrSt w2 (Nw (fun k => S k /\ k < w.heap.size) wB) b bm (ps'.set j (fs[j].1, p')) ((quota : Int) - used (crashK ks fs (j + 1))) left dead turn /\ fsOf (ps'.set j (fs[j].1, p')) = crashK ks fs (j + 1) := fun p' w2 h1 h2 h3 => by
       refine ⟨kp.trans h3 (fun _ _ s => s), ?_, ?_⟩
       . rw [show (quota : Int) - used (crashK ks fs (j + 1)) = (quota : Int) - used (crashK ks fs j) + fs[j].2.bytes.length - keptN (ks.getD j 0) fs[j].2 by omega]
         exact h2.mono (fun _ _ s => s.elim (fun s => s) (fun h => .inr (Nat.le_trans kp.size h)))
       . rw [fs_set, hfr, crashK_succ ks fs j hlt, h1]
     have HS : Hid (∀ (p' : PF) w2, p'.fl = kept (ks.getD j 0) fs[j].2 -> PrSt w2 (Nw (Nw (fun k => S k /\ k < w.heap.size) wB) wr) b bm (ps'.set j (fs[j].1, p')) ((quota : Int) - used (crashK ks fs j) + fs[j].2.bytes.length - keptN (ks.getD j 0) fs[j].2) left dead turn -> Kp (Nw (fun k => S k /\ k < w.heap.size) wB) wr w2 ->
         Kp (Nw (fun k => S k /\ k < w.heap.size) wB) wB w2 /\ PrSt w2 (Nw (fun k => S k /\ k < w.heap.size) wB) b bm (ps'.set j (fs[j].1, p')) ((quota : Int) - used (crashK ks fs (j + 1))) left dead turn /\ fsOf (ps'.set j (fs[j].1, p')) = crashK ks fs (j + 1)) := hstep
     obtain ⟨r0, r1, r2, r3, r8, r4, r5, r6, r7, r9⟩ := cells5 hsr.blk
     have HIR : Hid (∀ h : j < ks.length, ∃ gk ok, q = some ⟨gk, ok, none⟩ /\ wr.cell? ⟨gk, ok + j, none⟩ = some (.int .i64 ks[j])) := fun h => (hiB.kept kp (fun a ha _ => hqT j h a ha)) j h
     clear hstep hpj hpj' hrp hgp hoc2 e2 hiB hqT hi hq hoB' hlo hoR hup hul hby hsafe hname hrise hstB hst0'
     by_cases hjk : j < ks.length
     . obtain ⟨gk, ok, rfl, hck⟩ := HIR.out hjk
       have hkd : ks.getD j 0 = ks[j] := getD_in hjk
       rw [hkd] at HS
       go_wp2_with (go_at_call 73; refine (hcr ks[j]).mono ?_; rintro e w2 ⟨rfl, ⟨p', hp1, hp2, hp3⟩, kp3⟩)
       have HZ := HS.out p' w2 hp1 hp3 kp3
       have HZ' : Hid (Kp (Nw (fun k => S k /\ k < w.heap.size) wB) wB w2 /\ PrSt w2 (Nw (fun k => S k /\ k < w.heap.size) wB) b bm (ps'.set j (fs[j].1, p')) ((quota : Int) - used (crashK ks fs (j + 1))) left dead turn /\ fsOf (ps'.set j (fs[j].1, p')) = crashK ks fs (j + 1)) := HZ
       clear HZ hp1 hp2 hp3 kp3 hcr
       go_roundw
       case rel => exact ⟨j + 1, _, by omega, by go_num, HZ'.out⟩
       case measure => simp [intOf]; omega
     . have hkd : ks.getD j 0 = 0 := getD_out (by omega)
       rw [hkd] at HS
       go_wp2_with (go_at_call 73; refine (hcr 0).mono ?_; rintro e w2 ⟨rfl, ⟨p', hp1, hp2, hp3⟩, kp3⟩)
       have HZ := HS.out p' w2 hp1 hp3 kp3
       have HZ' : Hid (Kp (Nw (fun k => S k /\ k < w.heap.size) wB) wB w2 /\ PrSt w2 (Nw (fun k => S k /\ k < w.heap.size) wB) b bm (ps'.set j (fs[j].1, p')) ((quota : Int) - used (crashK ks fs (j + 1))) left dead turn /\ fsOf (ps'.set j (fs[j].1, p')) = crashK ks fs (j + 1)) := HZ
       clear HZ hp1 hp2 hp3 kp3 hcr
       go_roundw
       case rel => exact ⟨j + 1, _, by omega, by go_num, HZ'.out⟩
       case measure => simp [intOf]; omega
   . have : j = fs.length := by omega
     subst this
     rw [crashK_end] at hsr hfr
     obtain ⟨r0, r1, r2, r3, r8, r4, r5, r6, r7, r9⟩ := cells5 hsr.blk
     clear hiB hqT hi hq hoB' hlo hoR hby hsafe hname hrise hstB
     go_wp2
     go_end0
     have h1 := hsr.fields (Kp.set1 wr b 2 (.int .i64 (-1))) ((block_set hsr.blk _).trans rfl)
     have h2 := h1.fields (Kp.set1 _ b 3 (.bool false)) ((block_set h1.blk _).trans rfl)
     have h3 := h2.fields (Kp.set1 _ b 4 (.int .i64 (Go.RowKit.wrap64 (turn + 1)))) ((block_set h2.blk _).trans rfl)
     refine ⟨rfl, ⟨bm, ps', h3.mono (fun k _ s => ?_), hfr⟩, ?_⟩
     . rcases s with s | s
       . exact .inl s.1
       . exact .inr (Nat.le_trans hszB s)
     . refine kpNw ((((((Kp.of_below (S := Nw S w) hblB).trans kp (fun i hi s => ?_)).put (.inl hsb) _).put (.inl hsb) _).put (.inl hsb) _))
       rcases s with s | s
       . exact .inl s.1
       . omega
def XAt (w : World) (S : Nat -> Prop) (bx : Nat) (d : Dk) : Prop := ∃ bd, w.heap[bx]? = some (.cells #[.pointer (some ⟨bd, 0, none⟩)] 91) /\ S bx /\ ProgAt w (fun k => S k /\ k ≠ bx) bd d
theorem XAt.mono {w : World} {S T : Nat -> Prop} {b : Nat} {d : Dk} (h : XAt w S b d) (hT : ∀ k, k < w.heap.size -> S k -> T k) : XAt w T b d := by
 obtain ⟨bd, h1, h2, h3⟩ := h
 exact ⟨bd, h1, hT _ (lt_of_block h1) h2, h3.mono (fun k hk s => ⟨hT k hk s.1, s.2⟩)⟩
theorem XAt.kept {w w' : World} {S T : Nat -> Prop} {b : Nat} {d : Dk} (h : XAt w S b d) (k : Kp T w w') (hT : ∀ i, S i -> ¬ T i) : XAt w' S b d := by
 obtain ⟨bd, h1, h2, h3⟩ := h
 exact ⟨bd, k.at h1 (hT _ h2), h2, h3.kept k (fun i s => hT i s.1)⟩
theorem x_step {w w' : World} {S : Nat -> Prop} {bx bd : Nat} {d : Dk} (h1 : w.heap[bx]? = some (.cells #[.pointer (some ⟨bd, 0, none⟩)] 91)) (h2 : S bx) (hp : ProgAt w' (Nw (fun k => S k /\ k ≠ bx) w) bd d) (kp : Kp (fun k => S k /\ k ≠ bx) w w') : XAt w' (Nw S w) bx d /\ Kp S w w' := by
 have hlt := lt_of_block h1
 refine ⟨⟨bd, kp.at h1 (fun s => s.2 rfl), .inl h2, hp.mono (fun k _ s => ?_)⟩, kp.mono (fun _ s => s.1)⟩
 rcases s with s | s
 . exact ⟨.inl s.1, s.2⟩
 . exact ⟨.inr s, by omega⟩
theorem cells1 {w : World} {b : Nat} {a0 : Value} {t : TypeId} (hb : w.heap[b]? = some (.cells #[a0] t)) : w.cell? ⟨b, 0, none⟩ = some a0 /\ w.frozen? ⟨b, 0, none⟩ = false := ⟨cell_block hb, frozen_block hb⟩
theorem inner_any {w : World} {bx bd : Nat} (h1 : w.heap[bx]? = some (.cells #[.pointer (some ⟨bd, 0, none⟩)] 91)) :
   Calls Tryz.prog 34 #[.pointer (some ⟨bx, 0, none⟩)] w fun e w' => e = .returned (.pointer (some ⟨bd, 0, none⟩)) /\ w' = w := by
 obtain ⟨c0, z0⟩ := cells1 h1
 clear h1
 go_enter Tryz.func34, Tryz.ntmps34
 go_wp2
 go_ret
 exact ⟨rfl, rfl⟩
theorem xWrite_any (b : Nat) (d : Dk) (n : Nm) (c : List UInt8) (S : Nat -> Prop) (w : World) (hX : XAt w S b d) (hok : d.Ok) (hl : d.files.length <= 4194302) (hn : n.length <= 1099511627776) (hcl : c.length <= 1099511627776) :
   Calls Tryz.prog 45 #[.pointer (some ⟨b, 0, none⟩), .string ⟨n.toArray⟩, .string ⟨c.toArray⟩] w fun e w' => e = .returned (.int .i64 (d.write n c).1) /\ XAt w' (Nw S w) b (d.write n c).2 /\ Kp S w w' := by
 obtain ⟨bd, h1, h2, h3⟩ := id hX
 have hin := inner_any h1
 have hc := dWrite_any bd d n c (fun k => S k /\ k ≠ b) w h3 hok hl hn hcl
 go_enter Tryz.func45, Tryz.ntmps45
 go_wp2_with (first
   | (go_at_call 34; refine hin.mono ?_; rintro e w' ⟨rfl, rfl⟩; clear hin)
   | (go_at_call 80; refine hc.mono ?_; rintro e w1 ⟨rfl, hp, kp⟩; clear hc))
 go_ret
 exact ⟨rfl, x_step h1 h2 hp kp⟩
theorem xSync_any (b : Nat) (d : Dk) (n : Nm) (S : Nat -> Prop) (w : World) (hX : XAt w S b d) (hok : d.Ok) (hn : n.length <= maxLen) :
   Calls Tryz.prog 47 #[.pointer (some ⟨b, 0, none⟩), .string ⟨n.toArray⟩] w fun e w' => e = .returned (.int .i64 (d.sync n).1) /\ XAt w' (Nw S w) b (d.sync n).2 /\ Kp S w w' := by
 obtain ⟨bd, h1, h2, h3⟩ := id hX
 have hin := inner_any h1
 have hc := dSync_any bd d n (fun k => S k /\ k ≠ b) w h3 hok hn
 go_enter Tryz.func47, Tryz.ntmps47
 go_wp2_with (first
   | (go_at_call 34; refine hin.mono ?_; rintro e w' ⟨rfl, rfl⟩; clear hin)
   | (go_at_call 70; refine hc.mono ?_; rintro e w1 ⟨rfl, hp, kp⟩; clear hc))
 go_ret
 exact ⟨rfl, x_step h1 h2 hp kp⟩
theorem xRead_any (b : Nat) (d : Dk) (n : Nm) (S : Nat -> Prop) (w : World) (hX : XAt w S b d) (hn : n.length <= maxLen) :
   Calls Tryz.prog 53 #[.pointer (some ⟨b, 0, none⟩), .string ⟨n.toArray⟩] w fun e w' => e = .returned (.tuple #[.string ⟨(d.read n).1.toArray⟩, .int .i64 (d.read n).2]) /\ w' = w := by
 obtain ⟨bd, h1, h2, h3⟩ := id hX
 have hin := inner_any h1
 have hc := dRead_any bd d n (fun k => S k /\ k ≠ b) w h3 hn
 go_enter Tryz.func53, Tryz.ntmps53
 go_wp2_with (first
   | (go_at_call 34; refine hin.mono ?_; rintro e w' ⟨rfl, rfl⟩; clear hin)
   | (go_at_call 89; refine hc.mono ?_; rintro e w1 ⟨rfl, rfl⟩; clear hc))
 go_ret2
 exact ⟨rfl, rfl⟩
theorem xFuse_any (b : Nat) (d : Dk) (n : Int) (S : Nat -> Prop) (w : World) (hX : XAt w S b d)  :
   Calls Tryz.prog 15 #[.pointer (some ⟨b, 0, none⟩), .int .i64 n] w fun e w' => e = .returned (.tuple #[]) /\ XAt w' (Nw S w) b (d.fuse n) /\ Kp S w w' := by
 obtain ⟨bd, h1, h2, h3⟩ := id hX
 have hin := inner_any h1
 have hc := dFuse_any bd d n (fun k => S k /\ k ≠ b) w h3
 go_enter Tryz.func15, Tryz.ntmps15
 go_wp2_with (first
   | (go_at_call 34; refine hin.mono ?_; rintro e w' ⟨rfl, rfl⟩; clear hin)
   | (go_at_call 35; refine hc.mono ?_; rintro e w1 ⟨rfl, hp, kp⟩; clear hc))
 go_end0
 exact ⟨rfl, x_step h1 h2 hp kp⟩
theorem xCrash_any (b : Nat) (d : Dk) (q : Option Addr) (qc : Nat) (ks : List Int) (S : Nat -> Prop) (w : World) (hX : XAt w S b d) (hok : d.Ok) (hl : d.files.length <= 4194303) (hkl : ks.length <= 4611686018427387904) (hi : Intp w q ks) (hq : ∀ a, q = some a -> 0 < ks.length -> ¬ S a.block) :
   Calls Tryz.prog 17 #[.pointer (some ⟨b, 0, none⟩), .slice q ks.length qc] w fun e w' => e = .returned (.tuple #[]) /\ XAt w' (Nw S w) b (d.crash ks) /\ Kp S w w' := by
 obtain ⟨bd, h1, h2, h3⟩ := id hX
 have hin := inner_any h1
 have hc := dCrash_any bd d q qc ks (fun k => S k /\ k ≠ b) w h3 hok hl hkl hi (fun a ha h0 s => hq a ha h0 s.1)
 go_enter Tryz.func17, Tryz.ntmps17
 go_wp2_with (first
   | (go_at_call 34; refine hin.mono ?_; rintro e w' ⟨rfl, rfl⟩; clear hin)
   | (go_at_call 37; refine hc.mono ?_; rintro e w1 ⟨rfl, hp, kp⟩; clear hc))
 go_end0
 exact ⟨rfl, x_step h1 h2 hp kp⟩
theorem xNames_dead (b : Nat) (d : Dk) (S : Nat -> Prop) (w : World) (hX : XAt w S b d) (hd : d.dead = true) :
   Calls Tryz.prog 57 #[.pointer (some ⟨b, 0, none⟩)] w fun e w' => e = .returned (.tuple #[.slice none 0 0, .int .i64 4]) /\ w' = w := by
 obtain ⟨bd, h1, h2, h3⟩ := id hX
 have hin := inner_any h1
 have hc := dNames_dead bd d _ w h3 hd
 go_enter Tryz.func57, Tryz.ntmps57
 go_wp2_with (first
   | (go_at_call 34; refine hin.mono ?_; rintro e w' ⟨rfl, rfl⟩; clear hin)
   | (go_at_call 91; refine hc.mono ?_; rintro e w1 ⟨rfl, rfl⟩; clear hc))
 go_ret2
 exact ⟨rfl, rfl⟩
theorem xNames_any (b : Nat) (d : Dk) (S : Nat -> Prop) (w : World) (hX : XAt w S b d) (hok : d.Ok) (hl : d.files.length <= 4194303) (hd : d.dead = false) :
   Calls Tryz.prog 57 #[.pointer (some ⟨b, 0, none⟩)] w fun e w' => ∃ v, e = .returned (.tuple #[v, .int .i64 0]) /\ Below w.heap.size w w' /\ OwnS w' w.heap.size v (nmsOf d.files) := by
 obtain ⟨bd, h1, h2, h3⟩ := id hX
 have hin := inner_any h1
 have hc := dNames_any bd d _ w h3 hok hl hd
 go_enter Tryz.func57, Tryz.ntmps57
 go_wp2_with (first
   | (go_at_call 34; refine hin.mono ?_; rintro e w' ⟨rfl, rfl⟩; clear hin)
   | (go_at_call 91; refine hc.mono ?_; rintro e w1 ⟨v, rfl, hbl, hown⟩; clear hc))
 go_ret2
 exact ⟨v, rfl, hbl, hown⟩
theorem dNew_bad (q : Int) (w : World) (hq : quotaOk q = false) : Calls Tryz.prog 66 #[.int .i64 q] w fun e w' => e = .returned (.tuple #[.pointer none, .int .i64 1]) /\ w' = w := by
 rcases (by simp [quotaOk] at hq; omega : q < 0 \/ 1048576 < q) with h | h
 all_goals
   clear hq
   go_enter Tryz.func66, Tryz.ntmps66
   go_wp2
   go_ret2
   exact ⟨rfl, rfl⟩
theorem dNew_ok (q : Int) (w : World) (hq : quotaOk q = true) : Calls Tryz.prog 66 #[.int .i64 q] w fun e w' => ∃ bd, e = .returned (.tuple #[.pointer (some ⟨bd, 0, none⟩), .int .i64 0]) /\ ProgAt w' (fun k => w.heap.size <= k) bd (newDk q) /\ Below w.heap.size w w' := by
 obtain ⟨h0, h1⟩ : 0 <= q /\ q <= 1048576 := by simpa [quotaOk] using hq
 clear hq
 have HQ : Hid (((q.toNat : Nat) : Int) = q) := by simp [Hid]; omega
 have hmk := run_makeMap (P := Tryz.prog) 127 w
 go_enter Tryz.func66, Tryz.ntmps66
 go_wp2
 go_ret2
 have hb2 : ((w.alloc (.map #[] 0)).alloc (.cells #[.map (some w.heap.size), .int .i64 q, .int .i64 (-1), .bool false, .int .i64 0] 129)).heap[w.heap.size + 1]? = some (.cells #[.map (some w.heap.size), .int .i64 q, .int .i64 (-1), .bool false, .int .i64 0] 129) := by
   have := block_new (w.alloc (.map #[] 0)) (.cells #[.map (some w.heap.size), .int .i64 q, .int .i64 (-1), .bool false, .int .i64 0] 129)
   simpa using this
 refine ⟨w.heap.size + 1, rfl, ⟨w.heap.size, [], ⟨?_, ?_, fun x hx => (by cases hx), List.Pairwise.nil, Nat.le_succ _, Nat.le_refl _, fun x hx => (by cases hx)⟩, rfl⟩, ((Below.refl _ _).alloc (Nat.le_refl _) _).alloc (by simp) _⟩
 . rw [hb2]
   simp only [newDk, used, List.map_nil, List.sum_nil]
   have := HQ.out
   simp [this]
 . exact (World.ownsMap_made w Tryz.prog 9 Rf).alloc _
theorem xNew_bad (q : Int) (w : World) (hq : quotaOk q = false) : Calls Tryz.prog 27 #[.int .i64 q] w fun e w' => e = .returned (.tuple #[.pointer none, .int .i64 1]) /\ w' = w := by
 have hc := dNew_bad q w hq
 go_enter Tryz.func27, Tryz.ntmps27
 go_wp2_with (go_at_call 66; refine hc.mono ?_; rintro e w1 ⟨rfl, rfl⟩; clear hc)
 go_ret2
 exact ⟨rfl, rfl⟩
theorem xNew_ok (q : Int) (w : World) (hq : quotaOk q = true) : Calls Tryz.prog 27 #[.int .i64 q] w fun e w' => ∃ bx, e = .returned (.tuple #[.pointer (some ⟨bx, 0, none⟩), .int .i64 0]) /\ XAt w' (fun k => w.heap.size <= k) bx (newDk q) /\ Below w.heap.size w w' := by
 have hc := dNew_ok q w hq
 go_enter Tryz.func27, Tryz.ntmps27
 go_wp2_with (go_at_call 66; refine hc.mono ?_; rintro e w1 ⟨bd, rfl, hp, hbl⟩; clear hc)
 go_ret2
 have hs := hbl.size
 refine ⟨w1.heap.size, rfl, ⟨bd, block_new _ _, hs, ?_⟩, hbl.alloc hs _⟩
 exact (hp.mono (T := fun k => w.heap.size <= k /\ k ≠ w1.heap.size) (fun k hk s => ⟨s, by omega⟩)).kept (T := fun _ => False) ((Kp.refl _ _).alloc _) (fun _ _ f => f)
end Go.Proofs.YtfghgmojnffgnaaGreat
namespace Go.Proofs.YtfghgmojnffgnaaGreat
open Go.RowKit
theorem nms_upd {α : Type} (n : Nm) (f : α -> α) (l : List (Nm × α)) : nmsOf (upd n f l) = nmsOf l := by
 unfold nmsOf upd
 rw [List.map_map]
 apply List.map_congr_left
 intro x _
 simp only [Function.comp_apply]
 split <;> rfl
theorem mem_upd {α : Type} {n : Nm} {f : α -> α} {l : List (Nm × α)} {x : Nm × α} (h : x ∈ upd n f l) : ∃ y ∈ l, x.1 = y.1 /\ (x.2 = f y.2 \/ x.2 = y.2) := by
 unfold upd at h
 obtain ⟨y, hy, rfl⟩ := List.mem_map.1 h
 refine ⟨y, hy, ?_⟩
 split
 . exact ⟨rfl, .inl rfl⟩
 . exact ⟨rfl, .inr rfl⟩
theorem nameOk_le {n : Nm} (h : nameOk n = true) : n.length <= 20 := by
 unfold nameOk at h
 simp only [Bool.and_eq_true, decide_eq_true_eq] at h
 exact h.1.2
theorem Dk.Ok.die {d : Dk} (h : d.Ok) : d.die.Ok := ⟨h.quota, h.used, h.left0, h.left1, h.safe, h.rise, h.name⟩
theorem Dk.Ok.files {d : Dk} (h : d.Ok) {fs : List (Nm × Fl)} (hu : Go.Proofs.YtfghgmojnffgnaaGreat.used fs <= d.quota) (hs : ∀ x ∈ fs, x.2.safe <= x.2.bytes.length) (hr : rising fs) (hn : ∀ x ∈ fs, x.1.length <= 20) : ({ d.burn with files := fs } : Dk).Ok := by
 have h0 := h.left0
 have h1 := h.left1
 exact ⟨h.quota, hu, by show -1 <= max (d.left - 1) (-1); omega, by show max (d.left - 1) (-1) <= _; omega, hs, hr, hn⟩
theorem newDk_ok {q : Int} (h : quotaOk q = true) : (newDk q).Ok := by
 obtain ⟨h0, h1⟩ : 0 <= q /\ q <= 1048576 := by simpa [quotaOk] using h
 exact ⟨by simp only [newDk]; omega, by simp [newDk, used], by simp [newDk], by simp [newDk], by simp [newDk], by simp [newDk, rising], by simp [newDk]⟩
theorem write_ok {d : Dk} (h : d.Ok) (n : Nm) (c : List UInt8) : (d.write n c).2.Ok /\ (d.write n c).2.files.length <= d.files.length + 1 := by
 unfold Dk.write
 split
 . exact ⟨h, Nat.le_succ _⟩
 split
 . exact ⟨h, Nat.le_succ _⟩
 rename_i hk
 split
 . exact ⟨h, Nat.le_succ _⟩
 rename_i hq
 split
 . exact ⟨h.die, Nat.le_succ _⟩
 simp only
 cases hg : getF n d.files with
 | some f =>
   simp only [Option.isSome_some, if_true]
   refine ⟨h.files ?_ (fun x hx => ?_) (rising_names (nms_upd n _ _) h.rise) (fun x hx => ?_), by simp [upd]⟩
   . have := used_upd h.rise hg (addB c)
     simp only [addB, List.length_append] at this
     omega
   . obtain ⟨y, hy, _, e⟩ := mem_upd hx
     have := h.safe y hy
     rcases e with e | e <;> rw [e]
     . simp only [addB, List.length_append]; omega
     . exact this
   . obtain ⟨y, hy, e, _⟩ := mem_upd hx
     rw [e]; exact h.name y hy
 | none =>
   simp only [Option.isSome_none, Bool.false_eq_true, if_false]
   refine ⟨h.files ?_ (fun x hx => ?_) (rising_ins h.rise hg) (fun x hx => ?_), by rw [(ins_perm _ _).length_eq]; simp⟩
   . rw [used_ins]; simp only; omega
   . rcases List.mem_cons.1 ((ins_perm _ _).mem_iff.1 hx) with rfl | hx
     . exact Nat.zero_le _
     . exact h.safe x hx
   . rcases List.mem_cons.1 ((ins_perm _ _).mem_iff.1 hx) with rfl | hx
     . exact nameOk_le (by simpa using hk)
     . exact h.name x hx
theorem sync_ok {d : Dk} (h : d.Ok) (n : Nm) : (d.sync n).2.Ok /\ (d.sync n).2.files.length <= d.files.length := by
 unfold Dk.sync
 split
 . exact ⟨h, Nat.le_refl _⟩
 split
 . exact ⟨h, Nat.le_refl _⟩
 rename_i hn
 split
 . exact ⟨h.die, Nat.le_refl _⟩
 cases hg : getF n d.files with
 | none => rw [hg] at hn; simp at hn
 | some f =>
   refine ⟨h.files ?_ (fun x hx => ?_) (rising_names (nms_upd n _ _) h.rise) (fun x hx => ?_), by simp [upd]⟩
   . have := used_upd h.rise hg allSafe
     have := h.used
     simp only [allSafe] at *
     omega
   . obtain ⟨y, hy, _, e⟩ := mem_upd hx
     have := h.safe y hy
     rcases e with e | e <;> rw [e]
     . exact Nat.le_refl _
     . exact this
   . obtain ⟨y, hy, e, _⟩ := mem_upd hx
     rw [e]; exact h.name y hy
theorem mem_del {α : Type} {n : Nm} {l : List (Nm × α)} {x : Nm × α} (h : x ∈ del n l) : x ∈ l := (List.mem_filter.1 h).1
theorem used_del_le (n : Nm) (fs : List (Nm × Fl)) : used (del n fs) <= used fs := by
 induction fs with
 | nil => exact Nat.le_refl _
 | cons x r ih =>
   simp only [del, List.filter_cons] at ih ⊢
   split
   . simp only [used, List.map_cons, List.sum_cons] at ih ⊢; omega
   . simp only [used, List.map_cons, List.sum_cons] at ih ⊢; omega
theorem remove_ok {d : Dk} (h : d.Ok) (n : Nm) : (d.remove n).2.Ok /\ (d.remove n).2.files.length <= d.files.length := by
 unfold Dk.remove
 split
 . exact ⟨h, Nat.le_refl _⟩
 split
 . exact ⟨h, Nat.le_refl _⟩
 split
 . exact ⟨h.die, Nat.le_refl _⟩
 exact ⟨h.files (Nat.le_trans (used_del_le n _) h.used) (fun x hx => h.safe x (mem_del hx)) (rising_del h.rise) (fun x hx => h.name x (mem_del hx)), List.length_filter_le _ _⟩
theorem rename_ok {d : Dk} (h : d.Ok) (n m : Nm) : (d.rename n m).2.Ok /\ (d.rename n m).2.files.length <= d.files.length + 1 := by
 unfold Dk.rename
 split
 . exact ⟨h, Nat.le_succ _⟩
 split
 . exact ⟨h, Nat.le_succ _⟩
 rename_i hk
 cases hg : getF n d.files with
 | none => exact ⟨h, Nat.le_succ _⟩
 | some f =>
   simp only
   split
   . exact ⟨h.die, Nat.le_succ _⟩
   unfold moved
   split
   . exact ⟨h.files h.used h.safe h.rise h.name, Nat.le_succ _⟩
   refine ⟨h.files ?_ (fun x hx => ?_) (rising_ins (rising_del (rising_del h.rise)) (getF_del m _)) (fun x hx => ?_), ?_⟩
   . have h1 := used_del h.rise hg
     have h2 := used_del_le m (del n d.files)
     have h3 := h.used
     rw [used_ins]; simp only; omega
   . rcases List.mem_cons.1 ((ins_perm _ _).mem_iff.1 hx) with rfl | hx
     . have h9 := h.safe _ (getF_mem hg)
       exact h9
     . exact h.safe x (mem_del (mem_del hx))
   . rcases List.mem_cons.1 ((ins_perm _ _).mem_iff.1 hx) with rfl | hx
     . exact nameOk_le (by simpa using hk)
     . exact h.name x (mem_del (mem_del hx))
   . show (ins (m, f) (del m (del n d.files))).length <= _
     rw [(ins_perm _ _).length_eq, List.length_cons]
     have h1 := List.length_filter_le (fun x : Nm × Fl => !(x.1 == m)) (del n d.files)
     have h2 := List.length_filter_le (fun x : Nm × Fl => !(x.1 == n)) d.files
     simp only [del] at *
     omega
theorem fuse_ok {d : Dk} (h : d.Ok) (n : Int) (hn : n <= 9223372036854775807) : (d.fuse n).Ok /\ (d.fuse n).files.length <= d.files.length := by
 unfold Dk.fuse
 split
 . exact ⟨h, Nat.le_refl _⟩
 . exact ⟨⟨h.quota, h.used, by show -1 <= max n (-1); omega, by show max n (-1) <= _; omega, h.safe, h.rise, h.name⟩, Nat.le_refl _⟩
theorem crash_ok {d : Dk} (h : d.Ok) (ks : List Int) : (d.crash ks).Ok /\ (d.crash ks).files.length <= d.files.length := by
 have hlen := crashL_len ks d.files
 have hat : ∀ x ∈ crashL ks d.files, ∃ k, ∃ y ∈ d.files, x = (y.1, kept k y.2) := fun x hx => by
   obtain ⟨i, hi, rfl⟩ := List.getElem_of_mem hx
   rw [hlen] at hi
   exact ⟨_, _, List.getElem_mem hi, crashL_at ks d.files i hi⟩
 refine ⟨⟨h.quota, ?_, by show (-1 : Int) <= -1; omega, by show (-1 : Int) <= _; omega, fun x hx => ?_, ?_, fun x hx => ?_⟩, by show (crashL ks d.files).length <= _; omega⟩
 . have := used_crashK_le ks d.files h.safe d.files.length (Nat.le_refl _)
   rw [crashK_end] at this
   exact Nat.le_trans this h.used
 . obtain ⟨k, y, hy, rfl⟩ := hat x hx
   have := kept_len k y.2 (h.safe y hy)
   simp only [this]
   exact Nat.le_refl _
 . have := crashK_names ks d.files d.files.length
   rw [crashK_end] at this
   exact rising_names this h.rise
 . obtain ⟨k, y, hy, rfl⟩ := hat x hx
   exact h.name y hy
end Go.Proofs.YtfghgmojnffgnaaGreat
