import Derived.Test.YtfghgmojnffgnaaGreatPkBF
import Derived.Test.YtfghgmojnffgnaaGreatPkAZ
import Derived.Deep.RegionHeld3
import Derived.Deep.DrawnRows
set_option maxHeartbeats 4000000
set_option maxRecDepth 20000
namespace Go.Proofs.YtfghgmojnffgnaaGreat
open Go.RowKit Go.Maps Go.Sort
abbrev flagW (w : World) (b : Nat) (rb : Bool) : World := (((((w.setCell ⟨b, 7, none⟩ (.bool rb)).setCell ⟨b, 8, none⟩ (.bool false)).setCell ⟨b, 9, none⟩ (.bool false)).setCell ⟨b, 10, none⟩ (.bool false)).setCell ⟨b, 11, none⟩ (.bool false)).setCell ⟨b, 12, none⟩ (.bool false)
section
variable {w0 w : World} {C D : Nat -> Prop} {bk bx bd : Nat} {vy : Value} {d : Dk} {zs : List (Nat × St)} {k : Kno}
theorem Dv.roomy (h : Dv w0 C w D bk bx bd vy d zs k) (hb : k.bytes <= 1099511627776) (ho : k.ops <= 1099511627776) :
   Calls Tryz.prog 133 #[.pointer (some ⟨k.kb, 0, none⟩)] w fun e w' => e = .returned (.bool (roomyK k)) /\ ∃ n, w' = w.drewN n := by
 obtain ⟨C3, C4, part, vh, vs, h1, h2, h3, h4, h5, h6, h7⟩ := h.dka.ex
 exact roomy_any h6 hb ho
theorem Dv.flags (h : Dv w0 C w D bk bx bd vy d zs k) (j : Nat) (hj : j < k.ones.length) (rb : Bool) : Dv w0 C (flagW w k.ones[j].b rb) D bk bx bd vy d zs k :=
 (((((h.flag j hj 7 (by omega) (.bool rb)).flag j hj 8 (by omega) (.bool false)).flag j hj 9 (by omega) (.bool false)).flag j hj 10 (by omega) (.bool false)).flag j hj 11 (by omega) (.bool false)).flag j hj 12 (by omega) (.bool false)
theorem Dv.flagMap (h : Dv w0 C w D bk bx bd vy d zs k) (j : Nat) (hj : j < k.ones.length) : ∃ q c, w.cell? ⟨k.ones[j].b, 2, none⟩ = some (.slice q k.ones[j].l.length c) /\ ∀ rb n, Pairp (flagW (w.drewN n) k.ones[j].b rb) q k.ones[j].l := by
 obtain ⟨C3, C4, part, vh, vs, h1, h2, h3, h4, h5, h6, h7⟩ := h.dka.ex
 obtain ⟨vl, a, b, c, d', e, f, hb, hp, -⟩ := (h6.one _ (List.getElem_mem hj)).ex
 obtain ⟨q, cap, rfl, hpp, hq⟩ := OwnP.pairp hp
 obtain ⟨⟨-, -, o2, -⟩, -⟩ := ocells hb
 refine ⟨q, cap, o2, fun rb n => ?_⟩
 have kp : Kp (fun i => i = k.ones[j].b) w (flagW (w.drewN n) k.ones[j].b rb) := (((((((Kp.refl (fun i => i = k.ones[j].b) w).drewN n).put rfl _).put rfl _).put rfl _).put rfl _).put rfl _).put rfl _
 have hp' : OwnP (flagW (w.drewN n) k.ones[j].b rb) 0 (.slice q k.ones[j].l.length cap) k.ones[j].l := kp.row hp (fun g hg e => row_ne hb hp hg (by decide) e)
 obtain ⟨q', cap', e', hpp', -⟩ := OwnP.pairp hp'
 cases e'
 exact hpp'
theorem Dv.moreAt2 {k' : Kno} {l2 : List Ox} (h : Dv w0 C w D bk bx bd vy d zs k') (e1 : k'.kb = k.kb) (e2 : k'.h = k.h) (hg : ∀ b ∈ k.h, batchOk b = true) (hw : wtL k.h.flatten <= 33554432) {v : Value} (hv : v.oneCell' = true) (j : Nat) (hj : j < k'.ones.length) (hO : OwnO w 0 v l2) (hn : ∀ g, v.ownBlock = some g -> ¬ D g /\ w0.heap.size <= g) :
   ∃ vh v5 w5 vals, MoreR w bk k v vh v5 w5 vals /\ ∃ D', Gr D D' w0 /\ Dv w0 C (w5.setCell ⟨k.kb, 1, none⟩ v5) D' bk bx bd vy d zs { k' with h := k.h ++ [l2] } := by
 obtain ⟨kb', quo, h', saf, cra, byt, ops', dea, arm, one'⟩ := k'
 simp only at e1 e2
 subst e1 e2
 obtain ⟨⟨m2, -⟩, -⟩ := h.cells j hj
 obtain ⟨vh, vals, v5, w5, c1, z1, hrow, hrun, hA5, c5, z5⟩ := h.moreRun hg hw v hv
 obtain ⟨a5, p5, e5, -, -, -, -⟩ := row1 hA5.new
 have m5 := bk_keep h hrow hA5
 exact ⟨vh, v5, w5, vals, ⟨m2, c1, z1, hrun, c5, z5, ⟨a5, p5, e5⟩, m5⟩, h.more hO hn c1 hrow hA5⟩
end
theorem ownsRow_take {w : World} {base n cap : Nat} {e : TypeId} {q : Option Addr} {xs : List Value} (h : w.ownsRow base e 1 (.slice q n cap) n xs) {m : Nat} (hm : m <= n) : w.ownsRow base e 1 (.slice q m cap) m (xs.take m) := by
 obtain ⟨h1, h2⟩ := h
 refine ⟨by simp at h1; simp; omega, ?_⟩
 rcases h2 with ⟨hv, hn⟩ | ⟨g, c, cur, hv, hb, hg, a1, a2, a3, a4⟩
 . obtain rfl : m = 0 := by omega
   cases hv
   exact .inl ⟨rfl, rfl⟩
 . cases hv
   refine .inr ⟨g, cap, cur, rfl, hb, hg, by omega, a2, a3, ?_⟩
   rw [<- a4, List.take_take]
   congr 1
   omega
theorem Hpp.take {w : World} {q : Option Addr} {hs : List (List Ox)} (h : Hpp w q hs) (n : Nat) : Hpp w q (hs.take n) := fun i hi => by
 have hi' : i < hs.length := by simp at hi; omega
 obtain ⟨g, off, qi, ci, e, h1, h2⟩ := h i hi'
 rw [List.getElem_take]
 exact ⟨g, off, qi, ci, e, h1, h2⟩
theorem HRow.take {w : World} {C : Nat -> Prop} {q : Option Addr} {n0 cap : Nat} {hs : List (List Ox)} (h : HRow w C (.slice q n0 cap) hs) (hn0 : n0 = hs.length) {n : Nat} (hn : n <= hs.length) : HRow w C (.slice q n cap) (hs.take n) := by
 subst hn0
 obtain ⟨vals, h1, h2⟩ := h.ex
 have hl : (hs.take n).length = n := by simp; omega
 refine ⟨⟨vals.take n, by rw [hl]; exact ownsRow_take h1 hn, fun i hi => ?_⟩, fun g hg => h.cb g (by cases q with | none => cases hg | some a => exact hg)⟩
 rw [hl] at hi
 obtain ⟨v, e, h3, h4⟩ := h2 i (by omega)
 refine ⟨v, ?_, by rw [List.getElem_take]; exact h3, h4⟩
 rw [List.getElem?_take, if_pos hi]; exact e
section
variable {w0 w w' : World} {C D : Nat -> Prop} {bk bx bd : Nat} {vy : Value} {d : Dk} {zs : List (Nat × St)} {k : Kno}
theorem KnAt.cut {vs : Value} {q : Option Addr} {cap : Nat} (h : KnAt w C k (.slice q k.h.length cap) vs) {n : Nat} (hn : n <= k.h.length) : KnAt (w.setCell ⟨k.kb, 1, none⟩ (.slice q n cap)) C { k with h := k.h.take n } (.slice q n cap) vs := by
 refine ⟨by rw [block_set h.blk _]; rfl, h.cb, (h.rowh.take rfl hn).put h.blk (by decide) (by decide) _, ?_, h.cs, ?_, h.nd⟩
 . exact (Kp.set1 w k.kb 1 _).row h.rows (fun g hg e => row_ne h.blk h.rows hg (by decide) e)
 . exact fun o ho => (h.one o ho).put h.blk (by decide) (h.one_ne ho) _
theorem Dv.cut (h : Dv w0 C w D bk bx bd vy d zs k) {q : Option Addr} {cap : Nat} (hc : w.cell? ⟨k.kb, 1, none⟩ = some (.slice q k.h.length cap)) {n : Nat} (hn : n <= k.h.length) : Dv w0 C (w.setCell ⟨k.kb, 1, none⟩ (.slice q n cap)) D bk bx bd vy d zs { k with h := k.h.take n } := by
 have h9 : Dv w0 C (w.setCell ⟨k.kb, 1, none⟩ (.slice q n cap)) (fun i => D i \/ False) bk bx bd vy d zs { k with h := k.h.take n } := by
   refine h.grow (fun _ => False) (fun _ f => f.elim) rfl (fun C3 vh vs _ hK => ?_)
   obtain ⟨⟨-, c1, -⟩, -⟩ := kcells hK.blk
   rw [hc] at c1
   cases c1
   exact ⟨_, vs, (hK.cut hn).mono (fun i _ s => .inl s), (Kp.set1 _ _ _ _).mono (fun i e => by rw [e]; exact .inl hK.cb)⟩
 exact h9.same (fun i => by simp)
theorem Dv.hcells (h : Dv w0 C w D bk bx bd vy d zs k) : ∃ q cap, w.cell? ⟨k.kb, 1, none⟩ = some (.slice q k.h.length cap) /\ Hpp w q k.h /\ k.h.length <= cap /\ cap <= maxLen /\ w.cell? ⟨k.kb, 2, none⟩ = some (.int .i64 k.safe) /\ (∀ c, w.frozen? ⟨k.kb, c, none⟩ = false) /\ w.cell? ⟨k.kb, 3, none⟩ = some (.bool k.crashed) /\ D k.kb /\ w.cell? ⟨bk, 2, none⟩ = some (.pointer (some ⟨k.kb, 0, none⟩)) := by
 obtain ⟨C3, C4, part, vh, vs, h1, h2, h3, h4, h5, h6, h7⟩ := h.dka.ex
 obtain ⟨⟨c0, c1, c2, c3, -⟩, kz⟩ := kcells h6.blk
 obtain ⟨q, cap, rfl, hpp, hle⟩ := h6.rowh.hpp
 obtain ⟨vals, hv, -⟩ := h6.rowh.ex
 obtain ⟨a, cap', e, -, -, hcm, -⟩ := row1 hv
 cases e
 obtain ⟨-, -, m2, -⟩ := cells3 h4
 exact ⟨q, cap, c1, hpp, hle, hcm, c2, kz, c3, h1 _ h6.cb, m2⟩
theorem flat_take_len (hs : List (List Ox)) (n : Nat) : (hs.take n).flatten.length <= hs.flatten.length := by
 conv => rhs; rw [<- List.take_append_drop n hs]
 rw [List.flatten_append, List.length_append]; omega
theorem resolved_any (h : Dv w0 C w D bk bx bd vy d zs k) (hg : ∀ b ∈ k.h, batchOk b = true) (hw : wtL k.h.flatten <= 33520000) (l : Mp) (q : Option Addr) (qc : Nat) (hp : Pairp w q l) (hll : l.length <= 4194304) (n0 : Nat) (hs0 : k.safe <= n0) (hn0 : n0 <= k.h.length) (hm : l = doAll [] (k.h.take n0).flatten) :
   Calls Tryz.prog 100 #[.pointer (some ⟨k.kb, 0, none⟩), .slice q l.length qc] w fun e w' => e = .returned (.bool true) /\ ∃ n, k.safe <= n /\ n <= k.h.length /\ l = doAll [] (k.h.take n).flatten /\ DvJ w0 C w D bk bx bd vy d zs { k with h := k.h.take n } w' := by
 have h8 := wtL_len k.h.flatten
 have h9 := hs_len hg
 obtain ⟨qh, caph, c1, hpp, hle, hcm, c2, kz, -, hDk, -⟩ := h.hcells
 have hbl := World.block_lt_of_cell? w ⟨k.kb, 1, none⟩ c1
 simp only at hbl
 have HH : Hid (Dv w0 C w D bk bx bd vy d zs k) := h
 have hh0 : ∀ b ∈ k.h, 0 < b.length := fun b hb => by have := (batchOk_iff.1 (hg b hb)).1.1; omega
 have HM : Hid (l = doAll [] (k.h.take n0).flatten) := hm
 unfold maxLen at hcm
 clear h hm
 go_enter Tryz.func100, Tryz.ntmps100
 go_wp2
 go_loopw [5] (fun i wr => ∃ n : Nat, n0 <= n /\ n <= k.h.length /\ i = .int .i64 n /\ Below w.heap.size w wr) (fun i _ => (intOf i).toNat)
 case atStart => exact ⟨k.h.length, hn0, Nat.le_refl _, rfl, Below.refl _ _⟩
 case round =>
   obtain ⟨w3, rfl⟩ : ∃ w3, w3 = wr := ⟨_, rfl⟩
   obtain ⟨n, h1, h2, rfl, hb3⟩ := hrel
   have hs3 := hb3.size
   have d1 := (hb3.cell (p := ⟨k.kb, 1, none⟩) hbl).trans c1
   have d2 := (hb3.cell (p := ⟨k.kb, 2, none⟩) hbl).trans c2
   have hl : (k.h.take n).length = n := by simp; omega
   have hf := flat_take_len k.h n
   have hA := yAll_any qh caph (k.h.take n) w3 ((hpp.below hb3).take n) (fun b hb => hh0 b (List.mem_of_mem_take hb)) (by omega) (by omega)
   rw [hl] at hA
   have hml : (doAll [] (k.h.take n).flatten).length <= 4194304 := by
     have h5 := wtM_doAll (k.h.take n).flatten []
     have h6 := wtM_len (doAll [] (k.h.take n).flatten)
     have h7 : wtM ([] : Mp) = 0 := rfl
     have h4 : wtL (k.h.take n).flatten <= wtL k.h.flatten := by
       conv => rhs; rw [<- List.take_append_drop n k.h]
       rw [List.flatten_append, wtL_append]; omega
     omega
   have HP : Hid (Pairp w q l) := hp
   clear c1 c2 hpp hp
   generalize hM : doAll [] (k.h.take n).flatten = M at *
   have HMM : Hid (doAll [] (k.h.take n).flatten = M) := hM
   clear hM
   by_cases heq : l = M
   . have HEQ : Hid (l = M) := heq
     clear heq
     go_wp2_with (first
       | (go_at_call 99; refine hA.mono ?_; rintro e w4 ⟨v4, rfl, hb4, ho4⟩; clear hA d2; have hB4 : Below w.heap.size w w4 := hb3.trans (hb4.mono hs3); obtain ⟨q4, cp4, rfl, hp4, -⟩ := OwnP.pairp ho4; have hS := samePairs_any q q4 qc cp4 l M w4 (HP.out.below hB4) hp4 hll hml; rw [decide_eq_true HEQ.out] at hS; replace d1 := (hb4.cell (p := ⟨k.kb, 1, none⟩) (by show k.kb < _; omega)).trans d1)
       | (go_at_call 135; refine hS.mono ?_; rintro e w5 ⟨rfl, nd, rfl⟩; clear hS; have d1' : (w4.drewN nd).cell? ⟨k.kb, 1, none⟩ = some (.slice qh k.h.length caph) := d1; have hB5 : Below w.heap.size w (w4.drewN nd) := hB4.trans (Sm.drewN _ _).belowB; have hz1 : (w4.drewN nd).frozen? ⟨k.kb, 1, none⟩ = false := (by obtain ⟨-, -, -, -, -, -, -, kz', -⟩ := (HH.out.below hB5).hcells; exact kz' 1); clear d1))
     have hcut : Dv w0 C ((w4.drewN nd).setCell ⟨k.kb, 1, none⟩ (.slice qh n caph)) D bk bx bd vy d zs { k with h := k.h.take n } := (HH.out.below hB5).cut d1' h2
     have hkp : Kp D w ((w4.drewN nd).setCell ⟨k.kb, 1, none⟩ (.slice qh n caph)) := (Kp.of_below hB5).put hDk _
     generalize (w4.drewN nd).setCell ⟨k.kb, 1, none⟩ (.slice qh n caph) = w6 at hcut hkp ⊢
     go_ret
     exact ⟨rfl, n, by omega, h2, HEQ.out.trans HMM.out.symm, D, fun i s => .inl s, hcut, hkp⟩
   . have hne : n ≠ n0 := fun e => heq (by rw [HM.out, <- HMM.out, e])
     have HEQ : Hid (¬ l = M) := heq
     clear heq
     go_wp2_with (first
       | (go_at_call 99; refine hA.mono ?_; rintro e w4 ⟨v4, rfl, hb4, ho4⟩; clear hA d2; have hB4 : Below w.heap.size w w4 := hb3.trans (hb4.mono hs3); obtain ⟨q4, cp4, rfl, hp4, -⟩ := OwnP.pairp ho4; have hS := samePairs_any q q4 qc cp4 l M w4 (HP.out.below hB4) hp4 hll hml; rw [decide_eq_false HEQ.out] at hS)
       | (go_at_call 135; refine hS.mono ?_; rintro e w5 ⟨rfl, nd, rfl⟩; clear hS; have hB5 : Below w.heap.size w (w4.drewN nd) := hB4.trans (Sm.drewN _ _).belowB))
     go_roundw
     case rel => exact ⟨n - 1, by omega, by omega, by go_num, hB5⟩
     case measure => simp [intOf]; omega
theorem Dv.store {w5 : World} (h : Dv w0 C w D bk bx bd vy d zs k) (o : One) {a b c0 d' e f : Value} (ho : w.heap[o.b]? = some (oneObj o (.slice none 0 0) a b c0 d' e f)) (hl : o.l = []) (hnb : ¬ D o.b /\ w0.heap.size <= o.b) {vs vs' : Value}
   (c1 : w.cell? ⟨k.kb, 8, none⟩ = some vs) (hA : AppR w w5 150 1 vs k.ones.length (k.ones.map fun o => ptrB o.b) vs' (k.ones.length + 1) ((k.ones.map fun o => ptrB o.b) ++ [ptrB o.b])) :
   Dv w0 C (w5.setCell ⟨k.kb, 8, none⟩ vs') (fun i => D i \/ (i = o.b \/ (vs'.ownBlock = some i /\ w.heap.size <= i))) bk bx bd vy d zs { k with ones := k.ones ++ [o] } := by
 have hkp : Kp (fun i => vs.ownBlock = some i) w w5 := by
   rcases hA.how with ⟨_, k2⟩ | ⟨b2, _⟩
   . exact k2
   . exact Kp.of_below b2
 have hsz := hkp.size
 have hw0 := h.kp.size
 have hnew : ∀ g, vs'.ownBlock = some g -> vs.ownBlock = some g \/ w.heap.size <= g := fun g hg => by
   rcases hA.how with ⟨e, _⟩ | ⟨_, b2⟩
   . exact .inl (e ▸ hg)
   . exact .inr (b2 g hg)
 refine h.grow (fun i => i = o.b \/ (vs'.ownBlock = some i /\ w.heap.size <= i)) ?_ rfl ?_
 . rintro i (s | s)
   . subst s
     have := lt_of_block ho
     exact ⟨hnb.1, hnb.2, by simp [World.setCell]; omega⟩
   . have h1 := (hA.new.lt i s.1).2
     exact ⟨fun e => by have := h.lt i e; omega, by omega, by simpa [World.setCell] using h1⟩
 . intro C3 vh vsK hC hK
   obtain rfl : vsK = vs := by
     have := (cell_block (j := 8) hK.blk).symm.trans c1
     simpa using this
   have hkn : ¬ vsK.ownBlock = some k.kb := fun e => row_ne hK.blk hK.rows e (by decide) rfl
   have hb5 := hkp.at hK.blk hkn
   have kset := Kp.set1 w5 k.kb 8 vs'
   have kall : Kp (fun i => vsK.ownBlock = some i \/ i = k.kb) w (w5.setCell ⟨k.kb, 8, none⟩ vs') := (hkp.mono (fun _ e => .inl e)).trans kset (fun i _ e => .inr e)
   obtain ⟨vals, e1, e2⟩ := hK.rowh.ex
   refine ⟨vh, vs', ⟨(block_set hb5 vs').trans rfl, .inl hK.cb, ⟨⟨vals, ?_, fun i hi => ?_⟩, fun g hg => .inl (hK.rowh.cb g hg)⟩, ?_, fun g hg => ?_, fun o' ho' => ?_, ?_⟩, ?_⟩
   . exact kall.row e1 (fun g hg e => by
       rcases e with e | e
       . exact rows_ne e1 hK.rows hg e (by decide)
       . exact row_ne hK.blk e1 hg (by decide) e)
   . obtain ⟨v, f1, f2, f3⟩ := e2 i hi
     exact ⟨v, f1, kall.row f2 (fun g hg e => by
       rcases e with e | e
       . exact rows_ne f2 hK.rows hg e (by decide)
       . exact row_ne hK.blk f2 hg (by decide) e), fun g hg => .inl (f3 g hg)⟩
   . have := kset.row hA.new (fun g hg e => row_ne hb5 hA.new hg (by decide) e)
     simpa using this
   . rcases hnew g hg with e | e
     . exact .inl (hK.cs g e)
     . exact .inr (.inr ⟨hg, e⟩)
   . rcases List.mem_append.1 ho' with ho' | ho'
     . obtain ⟨vl, a, b, c, d', e, f, g1, g2, g3⟩ := (hK.one o' ho').ex
       refine ⟨⟨vl, a, b, c, d', e, f, kall.at g1 (fun e => ?_), kall.row g2 (fun g hg e => ?_), fun g hg => .inl (g3 g hg)⟩, .inl (hK.one o' ho').cb⟩
       . rcases e with e | e
         . exact row_ne g1 hK.rows e (by decide) rfl
         . exact hK.one_ne ho' e.symm
       . rcases e with e | e
         . exact rows_ne g2 hK.rows hg e (by decide)
         . exact row_ne hK.blk g2 hg (by decide) e
     . obtain rfl := List.mem_singleton.1 ho'
       refine ⟨⟨.slice none 0 0, a, b, c0, d', e, f, kall.at ho (fun e => ?_), ?_, fun g hg => (by cases hg)⟩, .inr (.inl rfl)⟩
       . rcases e with e | e
         . exact row_ne ho hK.rows e (by decide) rfl
         . exact cells_ne ho hK.blk (by decide) e
       . rw [hl]; exact World.ownsRow_nil _ _ _ _
   . show ((k.ones ++ [o]).map (·.b)).Nodup
     rw [List.map_append, List.nodup_append]
     refine ⟨hK.nd, by simp, fun x hx y hy => ?_⟩
     obtain ⟨o', ho', rfl⟩ := List.mem_map.1 hx
     simp only [List.map_cons, List.map_nil, List.mem_singleton] at hy
     subst hy
     intro e
     exact hnb.1 (e ▸ hC _ (hK.one o' ho').cb)
   . refine kall.mono (fun i e => ?_)
     rcases e with e | e
     . exact .inl (hK.cs i e)
     . rw [e]; exact .inl hK.cb
end
end Go.Proofs.YtfghgmojnffgnaaGreat
namespace Go.Proofs.YtfghgmojnffgnaaGreat
open Go.RowKit Go.Maps Go.Sort
attribute [local go_sem ↓] Go.wp_at_zero Go.wp_at_succ
section
variable {w0 w : World} {C D : Nat -> Prop} {bk bx bd : Nat} {vy : Value} {d : Dk} {zs : List (Nat × St)} {k : Kno}
theorem liv_syncX {d : Dk} (h : d.Ok) (st : St) : Liv d (syncX d st).2.1 := by
 unfold syncX
 split
 . exact Liv.refl d
 split
 . exact Liv.refl d
 split
 . exact liv_sync h _
 . exact liv_sync h _
theorem liv_secure {d : Dk} (h : d.Ok) (st : St) (n : Nat) : Liv d (secureX d st n).2.1 := by
 unfold secureX
 split
 . exact Liv.refl d
 . exact liv_syncX h _
theorem liv_load {d : Dk} (h : d.Ok) : Liv d (loadX d).2.1 := by
 unfold loadX
 split
 . exact Liv.refl d
 split
 . exact Liv.refl d
 split
 . exact Liv.refl d
 split
 . exact Liv.refl d
 split
 . exact (liv_rewrite h _).1
 . exact liv_secure h _ _
theorem openX_turn (h : d.Ok) : (openX d).2.1.turn = d.turn + 1 := (liv_load (turned_ok h)).turn
theorem Dv.dcells (h : Dv w0 C w D bk bx bd vy d zs k) : w.cell? ⟨bk, 0, none⟩ = some (.pointer (some ⟨bx, 0, none⟩)) /\ w.cell? ⟨bk, 1, none⟩ = some vy /\ w.cell? ⟨bk, 2, none⟩ = some (.pointer (some ⟨k.kb, 0, none⟩)) /\ D bk /\ ∀ c, w.frozen? ⟨bk, c, none⟩ = false := by
 obtain ⟨C3, C4, part, vh, vs, h1, h2, h3, h4, h5, h6, h7⟩ := h.dka.ex
 obtain ⟨m0, m1, m2, -⟩ := cells3 h4
 exact ⟨m0, m1, m2, h5.1, fun c => frozen_block h4⟩
theorem Dv.open (h : Dv w0 C w D bk bx bd vy d zs k) (p : Int) (hok : d.Ok) (hfl : d.files.length <= 3000000) (ht0 : 0 <= d.turn) (ht1 : d.turn <= 4611686018427387904) (hp0 : 0 <= p) (hp2 : p <= 2) :
   Calls Tryz.prog 21 #[.pointer (some ⟨bx, 0, none⟩), .int .i64 p] w fun e w' =>
     ((openX d).1 = 0 -> ∃ bz, e = .returned (.tuple #[.pointer (some ⟨bz, 0, none⟩), .int .i64 0]) /\ DvJ w0 C w D bk bx bd vy (openX d).2.1 (zs ++ [(bz, ⟨d.turn + 1, (openX d).2.2, false, false⟩)]) k w') /\
     ((openX d).1 ≠ 0 -> e = .returned (.tuple #[.pointer none, .int .i64 (openX d).1]) /\ DvJ w0 C w D bk bx bd vy (openX d).2.1 zs k w') := by
 refine (h.prog (P := fun e d' zs' => d' = (openX d).2.1 /\ (((openX d).1 = 0 /\ ∃ bz, e = .returned (.tuple #[.pointer (some ⟨bz, 0, none⟩), .int .i64 0]) /\ zs' = zs ++ [(bz, ⟨d.turn + 1, (openX d).2.2, false, false⟩)]) \/ ((openX d).1 ≠ 0 /\ e = .returned (.tuple #[.pointer none, .int .i64 (openX d).1]) /\ zs' = zs))) (fun C4 part h2 hR => (hR.open p hok hfl ht0 ht1 hp0 hp2).mono ?_)).mono ?_
 . rintro e w' ⟨kp, (⟨h0, bz, st2, part', rfl, hR', rfl⟩ | ⟨h0, rfl, part', hR'⟩)⟩
   . exact ⟨_, _, ⟨rfl, .inl ⟨h0, bz, rfl, rfl⟩⟩, ⟨part', hR'⟩, kp⟩
   . exact ⟨_, _, ⟨rfl, .inr ⟨h0, rfl, rfl⟩⟩, ⟨part', hR'⟩, kp⟩
 . rintro e w' ⟨d', zs', ⟨rfl, (⟨h0, bz, rfl, rfl⟩ | ⟨h0, rfl, rfl⟩)⟩, hJ⟩
   . exact ⟨fun _ => ⟨bz, rfl, hJ⟩, fun h => absurd h0 h⟩
   . exact ⟨fun h => absurd h h0, fun _ => ⟨rfl, hJ⟩⟩
theorem Dv.openArg (h : Dv w0 C w D bk bx bd vy d zs k) (p : Int) (hp : p < 0 \/ 2 < p) :
   Calls Tryz.prog 21 #[.pointer (some ⟨bx, 0, none⟩), .int .i64 p] w fun e w' => e = .returned (.tuple #[.pointer none, .int .i64 1]) /\ w = w' := by
 obtain ⟨C3, C4, part, vh, vs, h1, h2, h3, h4, h5, h6, h7⟩ := h.dka.ex
 exact h7.openArg p hp
theorem open_argK (h : Dka w C bk bx bd vy d zs k) (Dd Bv S T ops L old : Value) (A : Int) (hA : A < 0 \/ 2 < A) :
   Calls Tryz.prog 63 #[.pointer (some ⟨bk, 0, none⟩), .agg #[.int .i64 11, Dd, .int .i64 A, Bv, S, T, ops, L, old]] w fun e w' => e = .returned (.bool true) /\ Below w.heap.size w w' := by
 obtain ⟨D0, hv0, hD0⟩ := Dv.start h
 obtain ⟨w1, hw1⟩ : ∃ w1, w1 = w.alloc (.cells #[.int .i64 11, Dd, .int .i64 A, Bv, S, T, ops, L, old] 67) := ⟨_, rfl⟩
 have hB : Below w.heap.size w w1 := by rw [hw1]; exact (Below.refl _ w).alloc (Nat.le_refl _) _
 have hv1 := hv0.below hB
 have hO : ∀ w', Sm w1 w' -> _ := fun w' e => (hv1.below e.belowB).openArg A hA
 obtain ⟨m0, m1, m2, -, -⟩ := hv1.dcells
 have o2 : w1.cell? ⟨w.heap.size, 2, none⟩ = some (.int .i64 A) := by rw [hw1]; exact cell_block (block_new w _)
 have HB : Hid (Below w.heap.size w w1) := hB
 have HW : Hid (w1 = w.alloc (.cells #[.int .i64 11, Dd, .int .i64 A, Bv, S, T, ops, L, old] 67)) := hw1
 have HM2 : Hid (w1.cell? ⟨bk, 2, none⟩ = some (.pointer (some ⟨k.kb, 0, none⟩))) := m2
 rw [hw1] at m2
 clear h hv0 hv1 hB hw1
 go_enter Tryz.func63, Tryz.ntmps63
 go_wp2
 rw [HW.out.symm]
 clear m2
 have m2 := HM2.out
 go_region_held3 (fun w' => w'.cell? ⟨bk, 0, none⟩ = some (.pointer (some ⟨bx, 0, none⟩)) /\ w'.cell? ⟨w.heap.size, 2, none⟩ = some (.int .i64 A) /\ Sm w1 w') (go_keep)
   (first | (go_at_call 21; refine (hO _ ?_).mono ?_; (simp [*]); rintro e w' ⟨rfl, rfl⟩))
 by_cases h0 : A < 0
 . go_wp2
   go_ret
   exact ⟨by first | rfl | simp, HB.out.trans (Below.refl _ _).drew⟩
 . have h2 : 2 < A := hA.resolve_left h0
   go_wp2
   go_ret
   exact ⟨by first | rfl | simp, HB.out.trans (Below.refl _ _).drew⟩
end
end Go.Proofs.YtfghgmojnffgnaaGreat
