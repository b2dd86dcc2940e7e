import Derived.Test.YtfghgmojnffgnaaGreatPkBD
import Derived.Test.YtfghgmojnffgnaaGreatPkAZ
set_option maxHeartbeats 4000000
set_option maxRecDepth 20000
namespace Go.Proofs.YtfghgmojnffgnaaGreat
open Go.RowKit Go.Maps Go.Sort
def overO (l : List Ox) (j : Nat) : List Ox := List.replicate j markO ++ l.drop j
theorem overO_len (l : List Ox) (j : Nat) (h : j <= l.length) : (overO l j).length = l.length := by simp [overO]; omega
theorem flatO_set (A B : List Ox) (x y : Ox) : (((flatO (A ++ x :: B)).set (A.length * 3) (str y.key)).set (A.length * 3 + 1) (str y.val)).set (A.length * 3 + 2) (.bool y.gone) = flatO (A ++ y :: B) := by
 have hA := flatO_len A
 have e : ∀ z : Ox, flatO (A ++ z :: B) = flatO A ++ (str z.key :: str z.val :: .bool z.gone :: flatO B) := fun z => by rw [flatO_append]; rfl
 rw [e, e, List.set_append_right _ _ (by omega), List.set_append_right _ _ (by omega), List.set_append_right _ _ (by omega), hA, Nat.sub_self, show A.length * 3 + 1 - A.length * 3 = 1 by omega, show A.length * 3 + 2 - A.length * 3 = 2 by omega]
 rfl
theorem overO_parts (l : List Ox) (j : Nat) (h : j < l.length) : overO l j = List.replicate j markO ++ l[j] :: l.drop (j + 1) /\ overO l (j + 1) = List.replicate j markO ++ markO :: l.drop (j + 1) := by
 constructor
 . unfold overO; rw [List.drop_eq_getElem_cons h]
 . unfold overO; rw [List.replicate_succ', List.append_assoc]; rfl
theorem marksO_at (i : Nat) (h : i < marksO.length) : marksO[i] = ⟨spareN, roomN, true⟩ := by
 match i, h with
 | 0, _ => rfl
 | 1, _ => rfl
 | 2, _ => rfl
theorem still_any (g cap : Nat) (q : Option Addr) (qc : Nat) (l : List Ox) (w : World) (hl : l.length <= 4194304) (hp : Opp w q l) (hq : ∀ a, q = some a -> 0 < l.length -> a.block ≠ g)
   (hown : OwnO w 0 (.slice (some ⟨g, 0, none⟩) (l.length + 3) cap) (l ++ marksO)) :
   Calls Tryz.prog 139 #[.slice (some ⟨g, 0, none⟩) l.length cap, .slice q l.length qc] w fun e w' => e = .returned (.bool true) /\ Kp (fun i => i = g) w w' := by
 have hll : (l ++ marksO).length = l.length + 3 := by simp [marksO]
 unfold OwnO at hown
 rw [hll] at hown
 obtain ⟨g', cap', e', _, hc1, hc2⟩ := row_pos hown (by omega)
 obtain ⟨rfl, rfl⟩ : g = g' /\ cap = cap' := by simpa using e'
 unfold maxLen at hc2
 have hglt := (World.ownsRow.lt hown g rfl).2
 have hma := marked_any w
 clear e'
 go_enter Tryz.func139, Tryz.ntmps139
 go_wp2_with (go_at_call 173; refine hma.mono ?_; rintro e w1 ⟨rfl, hb1⟩; clear hma; have hs1 := hb1.size; unfold aggOp markO)
 have HB1 : Hid (Below w.heap.size w w1) := hb1
 have HO : Hid (w.ownsRow 0 121 3 (.slice (some ⟨g, 0, none⟩) (l.length + 3) cap) (l.length + 3) (flatO (l ++ marksO))) := hown
 clear hown hb1
 go_loopw [7, 8] (fun i _ wr => ∃ j : Nat, j <= l.length + 3 /\ i = .int .i64 j /\ Kp (fun i => i = g) w wr /\ w1.heap.size + 1 <= wr.heap.size /\ wr.heap[w1.heap.size]? = some (.cells #[str spareN, str roomN, .bool true] 121) /\ wr.ownsRow 0 121 3 (.slice (some ⟨g, 0, none⟩) (l.length + 3) cap) (l.length + 3) (flatO (overO (l ++ marksO) j))) (fun i _ _ => l.length + 3 - (intOf i).toNat)
 case atStart =>
   refine ⟨0, Nat.zero_le _, rfl, (Kp.of_below HB1.out).alloc _, by simp, block_new _ _, ?_⟩
   have := World.ownsRow.alloc ((Kp.of_below (S := fun _ => False) HB1.out).row HO.out (fun _ _ f => f)) (.cells #[str spareN, str roomN, .bool true] 121)
   simpa [overO] using this
 case round =>
   obtain ⟨j, hj, rfl, kp, hsz, hbm, hor⟩ := hrel
   have hgw : g < wr.heap.size := by omega
   by_cases hlt : j < l.length + 3
   . have hlt' : j < (l ++ marksO).length := by omega
     obtain ⟨p1, p2⟩ := overO_parts (l ++ marksO) j hlt'
     have hat := flatO_at (overO (l ++ marksO) j) j (by rw [overO_len _ _ (by omega)]; exact hlt')
     have hxj : (overO (l ++ marksO) j)[j]'(by rw [overO_len _ _ (by omega)]; exact hlt') = (l ++ marksO)[j] := by
       simp only [overO]
       rw [List.getElem_append_right (by simp)]
       simp
     rw [hxj] at hat
     have hc0 := (hor.cellAt (j * 3) (by omega)).trans hat.1
     have hc1' := (hor.cellAt (j * 3 + 1) (by omega)).trans hat.2.1
     have hc2' := (hor.cellAt (j * 3 + 2) (by omega)).trans hat.2.2
     have hz0 := hor.frozenAt (j * 3)
     have hz1 := hor.frozenAt (j * 3 + 1)
     have hz2 := hor.frozenAt (j * 3 + 2)
     obtain ⟨m0, m1, m2, -⟩ := cells3 hbm
     have hst : ∀ W : World, W.ownsRow 0 121 3 (.slice (some ⟨g, 0, none⟩) (l.length + 3) cap) (l.length + 3) (flatO (overO (l ++ marksO) j)) -> (((W.setCell ⟨g, j * 3, none⟩ (str spareN)).setCell ⟨g, j * 3 + 1, none⟩ (str roomN)).setCell ⟨g, j * 3 + 2, none⟩ (.bool true)).ownsRow 0 121 3 (.slice (some ⟨g, 0, none⟩) (l.length + 3) cap) (l.length + 3) (flatO (overO (l ++ marksO) (j + 1))) := fun W hW => by
       have h1 := (hW.stored (j * 3) (str spareN)).1
       have h2 := (h1.stored (j * 3 + 1) (str roomN)).1
       have h3 := (h2.stored (j * 3 + 2) (.bool true)).1
       have e := flatO_set (List.replicate j markO) ((l ++ marksO).drop (j + 1)) (l ++ marksO)[j] markO
       rw [List.length_replicate, <- p1, <- p2] at e
       rw [<- e]
       exact h3
     have HST : Hid (∀ W : World, Kp (fun i => i = g) wr W -> W.ownsRow 0 121 3 (.slice (some ⟨g, 0, none⟩) (l.length + 3) cap) (l.length + 3) (flatO (overO (l ++ marksO) j)) -> Kp (fun i => i = g) w (((W.setCell ⟨g, j * 3, none⟩ (str spareN)).setCell ⟨g, j * 3 + 1, none⟩ (str roomN)).setCell ⟨g, j * 3 + 2, none⟩ (.bool true)) /\ w1.heap.size + 1 <= (((W.setCell ⟨g, j * 3, none⟩ (str spareN)).setCell ⟨g, j * 3 + 1, none⟩ (str roomN)).setCell ⟨g, j * 3 + 2, none⟩ (.bool true)).heap.size /\ (((W.setCell ⟨g, j * 3, none⟩ (str spareN)).setCell ⟨g, j * 3 + 1, none⟩ (str roomN)).setCell ⟨g, j * 3 + 2, none⟩ (.bool true)).heap[w1.heap.size]? = some (.cells #[str spareN, str roomN, .bool true] 121) /\ (((W.setCell ⟨g, j * 3, none⟩ (str spareN)).setCell ⟨g, j * 3 + 1, none⟩ (str roomN)).setCell ⟨g, j * 3 + 2, none⟩ (.bool true)).ownsRow 0 121 3 (.slice (some ⟨g, 0, none⟩) (l.length + 3) cap) (l.length + 3) (flatO (overO (l ++ marksO) (j + 1)))) := fun W kW hW => by
       have k3 : Kp (fun i => i = g) wr (((W.setCell ⟨g, j * 3, none⟩ (str spareN)).setCell ⟨g, j * 3 + 1, none⟩ (str roomN)).setCell ⟨g, j * 3 + 2, none⟩ (.bool true)) := ((kW.put (g := g) rfl _).put (g := g) rfl _).put (g := g) rfl _
       exact ⟨kp.trans k3 (fun _ _ e => e), Nat.le_trans hsz k3.size, k3.at hbm (fun e => by omega), hst W hW⟩
     have HR : Hid (wr.ownsRow 0 121 3 (.slice (some ⟨g, 0, none⟩) (l.length + 3) cap) (l.length + 3) (flatO (overO (l ++ marksO) j))) := hor
     have HK : Hid (Kp (fun i => i = g) w wr) := kp
     have HM : Hid (wr.heap[w1.heap.size]? = some (.cells #[str spareN, str roomN, .bool true] 121)) := hbm
     have hgne : ¬ g = w1.heap.size := by omega
     have hmlt : w1.heap.size < wr.heap.size := by omega
     have hmne : ¬ w1.heap.size = wr.heap.size := by omega
     clear hst hor hat hxj p1 p2 hbm
     by_cases hjl : j < l.length
     . have hopp : Opp wr q l := fun i hi => by
         obtain ⟨gq, off, rfl, d0, d1, d2⟩ := hp i hi
         have hne := hq _ rfl (by omega)
         have hgl := World.block_lt_of_cell? w ⟨gq, off + i * 3, none⟩ d0
         have hbk := kp.block gq hgl hne
         exact ⟨gq, off, rfl, by simp only [World.cell?, hbk] at d0 ⊢; exact d0, by simp only [World.cell?, hbk] at d1 ⊢; exact d1, by simp only [World.cell?, hbk] at d2 ⊢; exact d2⟩
       obtain ⟨gq, off, rfl, d0, d1, d2⟩ := hopp j hjl
       have hv : (l ++ marksO)[j] = l[j] := List.getElem_append_left hjl
       have hgq := World.block_lt_of_cell? wr ⟨gq, off + j * 3, none⟩ d0
       have hgq2 : ¬ gq = wr.heap.size := by simp only at hgq; omega
       have hg2 : ¬ g = wr.heap.size := by omega
       rw [hv] at hc0 hc1' hc2'
       clear hopp hv kp
       go_wp2
       go_quiet (fail)
       go_wp2
       go_roundw
       case rel => exact ⟨j + 1, by omega, by go_num, HST.out _ (((Kp.refl _ wr).alloc _).drewN _) (ownsRow_of_block (World.ownsRow.alloc HR.out _) (fun _ _ => rfl))⟩
       case measure => simp [intOf]; omega
     . have hv : (l ++ marksO)[j] = ⟨spareN, roomN, true⟩ := by
         rw [List.getElem_append_right (by omega)]
         exact marksO_at _ _
       have hg2 : ¬ g = wr.heap.size := by omega
       rw [hv] at hc0 hc1' hc2'
       clear hv kp hp
       go_wp2
       go_quiet (fail)
       go_wp2
       go_roundw
       case rel => exact ⟨j + 1, by omega, by go_num, HST.out _ (((Kp.refl _ wr).alloc _).drewN _) (ownsRow_of_block (World.ownsRow.alloc HR.out _) (fun _ _ => rfl))⟩
       case measure => simp [intOf]; omega
   . clear hp HO
     go_wp2
     go_ret
     exact ⟨rfl, kp⟩
section
variable {w0 w w' : World} {C D : Nat -> Prop} {bk bx bd : Nat} {vy : Value} {d : Dk} {zs : List (Nat × St)} {k k' : Kno}
theorem Dv.grow (h : Dv w0 C w D bk bx bd vy d zs k) (F : Nat -> Prop) (hF : ∀ i, F i -> ¬ D i /\ w0.heap.size <= i /\ i < w'.heap.size) (hkb : k'.kb = k.kb)
   (H : ∀ C3 vh vs, (∀ i, C3 i -> D i) -> KnAt w C3 k vh vs -> ∃ vh' vs', KnAt w' (fun i => C3 i \/ F i) k' vh' vs' /\ Kp (fun i => C3 i \/ F i) w w') : Dv w0 C w' (fun i => D i \/ F i) bk bx bd vy d zs k' := by
 obtain ⟨C3, C4, part, vh, vs, h1, h2, h3, h4, h5, h6, h7⟩ := h.dka.ex
 obtain ⟨vh', vs', hK, kp⟩ := H C3 vh vs h1 h6
 have hs := kp.size
 have hlb := lt_of_block h4
 refine ⟨h.kp.trans kp (fun i hi s => ?_), ⟨fun i => C3 i \/ F i, C4, part, vh', vs', ?_, fun i s => .inl (h2 i s), ?_, ?_, ?_, hK, ?_⟩, fun i s => ?_, fun i s => ?_⟩
 . rcases s with s | s
   . rcases h.sub i (h1 i s) with s | s
     . exact s
     . omega
   . have := hF i s; omega
 . rintro i (s | s)
   . exact .inl (h1 i s)
   . exact .inr s
 . rintro i (s | s) t
   . exact h3 i s t
   . exact (hF i s).1 (h2 i t)
 . rw [hkb]
   exact kp.at h4 (by
     rintro (s | s)
     . exact h5.2.1 s
     . exact (hF _ s).1 h5.1)
 . refine ⟨.inl h5.1, ?_, h5.2.2⟩
   rintro (s | s)
   . exact h5.2.1 s
   . exact (hF _ s).1 h5.1
 . exact h7.kept kp (by
     rintro i t (s | s)
     . exact h3 i s t
     . exact (hF i s).1 (h2 i t))
 . rcases s with s | s
   . exact h.sub i s
   . exact .inr (hF i s).2.1
 . rcases s with s | s
   . exact Nat.lt_of_lt_of_le (h.lt i s) hs
   . exact (hF i s).2.2
theorem Dv.same (h : Dv w0 C w D bk bx bd vy d zs k) {D' : Nat -> Prop} (hD : ∀ i, D i ↔ D' i) : Dv w0 C w D' bk bx bd vy d zs k := by
 have : D = D' := funext (fun i => propext (hD i))
 rw [<- this]; exact h
theorem Dv.cell (h : Dv w0 C w D bk bx bd vy d zs k) (hkb : k'.kb = k.kb)
   (H : ∀ C3 vh vs, KnAt w C3 k vh vs -> ∃ b, C3 b /\ Kp (fun i => i = b) w w' /\ KnAt w' C3 k' vh vs) : Dv w0 C w' D bk bx bd vy d zs k' := by
 refine (h.grow (fun _ => False) (fun _ f => f.elim) hkb (fun C3 vh vs _ hK => ?_)).same (fun i => by simp)
 obtain ⟨b, hb, kp, hK'⟩ := H C3 vh vs hK
 exact ⟨vh, vs, hK'.mono (fun i _ s => .inl s), kp.mono (fun i e => by rw [e]; exact .inl hb)⟩
theorem Dv.flag (h : Dv w0 C w D bk bx bd vy d zs k) (j : Nat) (hj : j < k.ones.length) (c : Nat) (hc : c = 7 \/ c = 8 \/ c = 9 \/ c = 10 \/ c = 11 \/ c = 12) (u : Value) : Dv w0 C (w.setCell ⟨k.ones[j].b, c, none⟩ u) D bk bx bd vy d zs k := by
 refine h.cell rfl (fun C3 vh vs hK => ⟨k.ones[j].b, (hK.one _ (List.getElem_mem hj)).cb, Kp.set1 _ _ _ _, ?_⟩)
 have := hK.putO j hj c u k.ones[j] rfl rfl (fun vl a b c0 d e f => by
   rcases hc with rfl | rfl | rfl | rfl | rfl | rfl
   . exact ⟨u, b, c0, d, e, f, rfl⟩
   . exact ⟨a, u, c0, d, e, f, rfl⟩
   . exact ⟨a, b, u, d, e, f, rfl⟩
   . exact ⟨a, b, c0, u, e, f, rfl⟩
   . exact ⟨a, b, c0, d, u, f, rfl⟩
   . exact ⟨a, b, c0, d, e, u, rfl⟩)
 rw [List.set_getElem_self] at this
 exact this
theorem Dv.stuckAt (h : Dv w0 C w D bk bx bd vy d zs k) (j : Nat) (hj : j < k.ones.length) : Dv w0 C (w.setCell ⟨k.ones[j].b, 6, none⟩ (.bool true)) D bk bx bd vy d zs { k with ones := k.ones.set j { k.ones[j] with stuck := true } } := by
 refine h.cell rfl (fun C3 vh vs hK => ⟨k.ones[j].b, (hK.one _ (List.getElem_mem hj)).cb, Kp.set1 _ _ _ _, ?_⟩)
 exact hK.putO j hj 6 (.bool true) { k.ones[j] with stuck := true } rfl rfl (fun vl a b c0 d e f => ⟨a, b, c0, d, e, f, rfl⟩)
theorem Dv.safeAt (h : Dv w0 C w D bk bx bd vy d zs k) (n : Nat) : Dv w0 C (w.setCell ⟨k.kb, 2, none⟩ (.int .i64 n)) D bk bx bd vy d zs { k with safe := n } :=
 h.cell rfl (fun _ _ _ hK => ⟨k.kb, hK.cb, Kp.set1 _ _ _ _, hK.putK (k' := { k with safe := n }) 2 (.int .i64 n) rfl rfl rfl rfl⟩)
theorem Dv.crashedAt (h : Dv w0 C w D bk bx bd vy d zs k) (b : Bool) : Dv w0 C (w.setCell ⟨k.kb, 3, none⟩ (.bool b)) D bk bx bd vy d zs { k with crashed := b } :=
 h.cell rfl (fun _ _ _ hK => ⟨k.kb, hK.cb, Kp.set1 _ _ _ _, hK.putK (k' := { k with crashed := b }) 3 (.bool b) rfl rfl rfl rfl⟩)
theorem Dv.armedAt (h : Dv w0 C w D bk bx bd vy d zs k) (b : Bool) : Dv w0 C (w.setCell ⟨k.kb, 7, none⟩ (.bool b)) D bk bx bd vy d zs { k with armed := b } :=
 h.cell rfl (fun _ _ _ hK => ⟨k.kb, hK.cb, Kp.set1 _ _ _ _, hK.putK (k' := { k with armed := b }) 7 (.bool b) rfl rfl rfl rfl⟩)
theorem Dv.mapAt (h : Dv w0 C w D bk bx bd vy d zs k) (j : Nat) (hj : j < k.ones.length) {v : Value} {m : Mp} (hv : OwnP w 0 v m) (hn : ∀ g, v.ownBlock = some g -> ¬ D g /\ w0.heap.size <= g) :
   Dv w0 C (w.setCell ⟨k.ones[j].b, 2, none⟩ v) (fun i => D i \/ v.ownBlock = some i) bk bx bd vy d zs { k with ones := k.ones.set j { k.ones[j] with l := m } } := by
 have hlt : ∀ g, v.ownBlock = some g -> g < w.heap.size := fun g hg => (World.ownsRow.lt hv g hg).2
 refine h.grow (fun i => v.ownBlock = some i) (fun i hi => ⟨(hn i hi).1, (hn i hi).2, by have := hlt i hi; simpa [World.setCell] using this⟩) rfl (fun C3 vh vs hC hK => ?_)
 have ho := hK.one _ (List.getElem_mem hj)
 obtain ⟨vl, a, b, c0, d', e, f, h1, h2, h3⟩ := ho.ex
 refine ⟨vh, vs, ?_, (Kp.set1 w _ 2 v).mono (fun i e => by rw [e]; exact .inl ho.cb)⟩
 have em : (k.ones.set j { k.ones[j] with l := m }).map (·.b) = k.ones.map (·.b) := by
   rw [List.map_set]
   apply List.ext_getElem (by simp)
   intro i x1 x2
   rw [List.getElem_set]
   split
   . rename_i e; subst e; simp
   . rfl
 have em2 : (k.ones.set j { k.ones[j] with l := m }).map (fun o => ptrB o.b) = k.ones.map (fun o => ptrB o.b) := by
   have h9 := congrArg (List.map ptrB) em
   rw [List.map_map, List.map_map] at h9
   exact h9
 refine ⟨block_set_ne hK.blk (hK.one_ne (List.getElem_mem hj)) v, .inl hK.cb, (hK.rowh.put h1 (by decide) (by decide) v).mono (fun i _ s => .inl s), ?_, fun g hg => .inl (hK.cs g hg), fun o hm => ?_, by show ((k.ones.set j _).map (·.b)).Nodup; rw [em]; exact hK.nd⟩
 . show World.ownsRow _ _ _ _ _ (k.ones.set j _).length _
   rw [List.length_set, em2]
   exact (Kp.set1 w _ 2 v).row hK.rows (fun g hg e => row_ne h1 hK.rows hg (by decide) e)
 . obtain ⟨i, hi, rfl⟩ := List.getElem_of_mem hm
   have hi' : i < k.ones.length := by simpa using hi
   show OneAt _ _ (k.ones.set j _)[i]
   by_cases e' : j = i
   . subst e'
     rw [List.getElem_set_self]
     refine ⟨⟨v, a, b, c0, d', e, f, (block_set h1 v).trans rfl, ?_, fun g hg => .inr hg⟩, .inl ho.cb⟩
     exact (Kp.set1 w _ 2 v).row hv (fun g hg e => row_ne h1 hv hg (by decide) e)
   . rw [List.getElem_set_ne e']
     refine ((hK.one _ (List.getElem_mem hi')).put h1 (by decide) (fun e9 => ?_) v).mono (fun i _ s => .inl s)
     have hp := List.pairwise_iff_getElem.1 hK.nd
     rcases Nat.lt_or_gt_of_ne e' with hl | hl
     . exact hp j i (by simpa using hj) (by simpa using hi') hl (by simpa using e9)
     . exact hp i j (by simpa using hi') (by simpa using hj) hl (by simpa using e9.symm)
theorem row_uniq {w : World} {base size n : Nat} {e : TypeId} {v : Value} {xs ys : List Value} (h : w.ownsRow base e size v n xs) (h' : w.ownsRow base e size v n ys) : xs = ys := by
 rcases h.2 with ⟨hv, hn⟩ | ⟨g, cap, cur, hv, _, hg, _, _, _, ht⟩
 . have e1 := h.1
   have e2 := h'.1
   rw [hn, Nat.zero_mul] at e1 e2
   rw [List.length_eq_zero_iff.1 e1, List.length_eq_zero_iff.1 e2]
 . rcases h'.2 with ⟨hv', _⟩ | ⟨g', cap', cur', hv', _, hg', _, _, _, ht'⟩
   . rw [hv] at hv'; cases hv'
   . rw [hv] at hv'
     cases hv'
     rw [hg] at hg'
     cases hg'
     rw [<- ht, <- ht']
theorem Dv.more {w5 : World} (h : Dv w0 C w D bk bx bd vy d zs k) {v : Value} {l : List Ox} (hv : OwnO w 0 v l) (hn : ∀ g, v.ownBlock = some g -> ¬ D g /\ w0.heap.size <= g) {vh vh' : Value} {vals : List Value} (c1 : w.cell? ⟨k.kb, 1, none⟩ = some vh)
   (hvals : w.ownsRow 0 65 1 vh k.h.length vals) (hA : AppR (w.drew.alloc (.cells #[v] 65)) w5 65 1 vh k.h.length vals vh' (k.h.length + 1) (vals ++ [v])) :
   ∃ D', Gr D D' w0 /\ Dv w0 C (w5.setCell ⟨k.kb, 1, none⟩ vh') D' bk bx bd vy d zs { k with h := k.h ++ [l] } := by
 have hkp : Kp (fun i => vh.ownBlock = some i) w w5 := by
   have k1 : Kp (fun i => vh.ownBlock = some i) w (w.drew.alloc (.cells #[v] 65)) := ((Kp.refl _ w).drew).alloc _
   rcases hA.how with ⟨_, k2⟩ | ⟨b2, _⟩
   . exact k1.trans k2 (fun _ _ e => e)
   . exact k1.trans (T := fun _ => False) (Kp.of_below b2) (fun _ _ f => f.elim)
 have hsz := hkp.size
 have hw0 := h.kp.size
 have hnew : ∀ g, vh'.ownBlock = some g -> vh.ownBlock = some g \/ w.heap.size <= g := fun g hg => by
   rcases hA.how with ⟨e, _⟩ | ⟨_, b2⟩
   . exact .inl (e ▸ hg)
   . have := b2 g hg; simp at this; exact .inr (by omega)
 refine ⟨_, ?_, h.grow (fun i => v.ownBlock = some i \/ (vh'.ownBlock = some i /\ w.heap.size <= i)) ?_ rfl ?_⟩
 . rintro i (s | s | s)
   . exact .inl s
   . exact .inr (hn i s).2
   . exact .inr (by omega)
 . rintro i (s | s)
   . have h1 := (World.ownsRow.lt hv i s).2
     exact ⟨(hn i s).1, (hn i s).2, by simp [World.setCell]; omega⟩
   . have h1 := (hA.new.lt i s.1).2
     exact ⟨fun e => by have := h.lt i e; omega, by omega, by simpa [World.setCell] using h1⟩
 . intro C3 vhK vs hC hK
   obtain rfl : vhK = vh := by
     have := (cell_block (j := 1) hK.blk).symm.trans c1
     simpa using this
   obtain ⟨vals', e1, e2⟩ := hK.rowh.ex
   obtain rfl := row_uniq hvals e1
   have hkn : ¬ vhK.ownBlock = some k.kb := fun e => row_ne hK.blk e1 e (by decide) rfl
   have hb5 := hkp.at hK.blk hkn
   have kset := Kp.set1 w5 k.kb 1 vh'
   have kall : Kp (fun i => vhK.ownBlock = some i \/ i = k.kb) w (w5.setCell ⟨k.kb, 1, none⟩ vh') := (hkp.mono (fun _ e => .inl e)).trans kset (fun i _ e => .inr e)
   refine ⟨vh', vs, ⟨(block_set hb5 vh').trans rfl, .inl hK.cb, ⟨⟨vals ++ [v], ?_, fun i hi => ?_⟩, fun g hg => ?_⟩, ?_, fun g hg => .inl (hK.cs g hg), fun o ho => ?_, hK.nd⟩, ?_⟩
   . have := kset.row hA.new (fun g hg e => row_ne hb5 hA.new hg (by decide) e)
     simpa using this
   . have hrow : ∀ u m, OwnO w 0 u m -> OwnO (w5.setCell ⟨k.kb, 1, none⟩ vh') 0 u m := fun u m hu => kall.row hu (fun g hg e => by
       rcases e with e | e
       . exact rows_ne hu e1 hg e (by decide)
       . exact row_ne hK.blk hu hg (by decide) e)
     have hvl : vals.length = k.h.length := by simpa using e1.1
     by_cases hlt : i < k.h.length
     . obtain ⟨u, f1, f2, f3⟩ := e2 i hlt
       refine ⟨u, by rw [List.getElem?_append_left (by omega)]; exact f1, ?_, fun g hg => .inl (f3 g hg)⟩
       have := hrow u _ f2
       simpa [List.getElem_append_left hlt] using this
     . have hie : i = k.h.length := by simp at hi; omega
       subst hie
       refine ⟨v, by rw [List.getElem?_append_right (by omega), hvl]; simp, ?_, fun g hg => .inr (.inl hg)⟩
       have := hrow v _ hv
       simpa using this
   . rcases hnew g hg with e | e
     . exact .inl (hK.rowh.cb g e)
     . exact .inr (.inr ⟨hg, e⟩)
   . exact kall.row hK.rows (fun g hg e => by
       rcases e with e | e
       . exact rows_ne hK.rows e1 hg e (by decide)
       . exact row_ne hK.blk hK.rows hg (by decide) e)
   . obtain ⟨vl, a, b, c, d', e, f, g1, g2, g3⟩ := (hK.one o ho).ex
     refine ⟨⟨vl, a, b, c, d', e, f, kall.at g1 (fun e => ?_), kall.row g2 (fun g hg e => ?_), fun g hg => .inl (g3 g hg)⟩, .inl (hK.one o ho).cb⟩
     . rcases e with e | e
       . exact row_ne g1 e1 e (by decide) rfl
       . exact hK.one_ne ho e.symm
     . rcases e with e | e
       . exact rows_ne g2 e1 hg e (by decide)
       . exact row_ne hK.blk g2 hg (by decide) e
   . refine kall.mono (fun i e => ?_)
     rcases e with e | e
     . exact .inl (hK.rowh.cb i e)
     . rw [e]; exact .inl hK.cb
end
theorem append_none {P : Program} (w : World) (t ty e : TypeId) (i : TypeInfo) (ht : P.underlying t = some (.slice e)) (hi : P.info? e = some i) :
   (Builtin.append_ #[t, t] ty #[.slice none 0 0, .slice none 0 0]).run P w = .ok (.slice none 0 0) w := by
 simp [Builtin.append_, run_underlying ht, go_sem, run_sizeOf w hi]
theorem wpList_bi_run {P : Program} {w w' : World} {v' : Value} {ops : Array Oper} {rest : List Oper} {o : Oper} {ac : Act} {Q : Exit -> Act -> World -> Prop} (hgd : o.guard = none) (s x : Operand) (t : TypeId)
   (ho : o.op = .call { callee := .builtin .append, args := #[s, x], argTypes := #[t, t] }) (hr : (Builtin.append_ #[t, t] o.type #[ac.eval s, ac.eval x]).run P w = .ok v' w')
   (h : wpList P ops Q rest (ac.put o.dst v') w') : wpList P ops Q (o :: rest) ac w := by
 refine wpList_plain hgd fun K hK => ?_
 unfold Oper.wp execOp
 simp only [ho, resolve, invoke, builtin, Sem.run_bind, Sem.run_pure, Result.andThen_ok, List.map_toArray, List.map_cons, List.map_nil, hr]
 exact hK _ _ h
theorem app_new (w : World) (ty : TypeId) (q : Option Addr) (qc : Nat) (l : List Ox) (hl : l.length <= 4194304) (hp : Opp w q l) (hq0 : q = none -> l = [] /\ qc = 0) :
   ∃ v w', (Builtin.append_ #[65, 65] ty #[.slice none 0 0, .slice q l.length qc]).run Tryz.prog w = .ok v w' /\ Below w.heap.size w w' /\ OwnO w' w.heap.size v l := by
 obtain ⟨i0, hi0, hz0, hz1, hz2⟩ := info_parts Tryz.info121
 cases q with
 | none =>
   obtain ⟨rfl, rfl⟩ := hq0 rfl
   exact ⟨_, _, append_none w _ ty _ i0 Tryz.underlying65 hi0, Below.refl _ _, World.ownsRow_nil _ _ _ _⟩
 | some a =>
   obtain ⟨v, w', hr, ho, hg, _⟩ := run_append_own (P := Tryz.prog) w w.heap.size 65 ty 121 i0 _ 3 40 Tryz.underlying65 hi0 hz0 hz1 hz2 rfl (by decide) (.slice none 0 0) 0 [] (World.ownsRow_nil _ _ _ _) a l.length qc (flatO l) (flatO_len l) hp.at (flatO_one l) (by unfold maxLen; omega) (by omega) (Nat.le_refl _)
   refine ⟨v, w', hr, (Below.refl _ _).grown hg (Nat.le_refl _) (fun k hk => by cases hk), ?_⟩
   simpa [OwnO] using ho
section
variable {w0 w : World} {C D : Nat -> Prop} {bk bx bd : Nat} {vy : Value} {d : Dk} {zs : List (Nat × St)} {k : Kno}
theorem Dv.cells (h : Dv w0 C w D bk bx bd vy d zs k) (j : Nat) (hj : j < k.ones.length) :
   (w.cell? ⟨bk, 2, none⟩ = some (.pointer (some ⟨k.kb, 0, none⟩)) /\ w.cell? ⟨k.ones[j].b, 0, none⟩ = some (.pointer (some ⟨k.ones[j].z, 0, none⟩)) /\ w.cell? ⟨k.ones[j].b, 6, none⟩ = some (.bool k.ones[j].stuck) /\ ∀ c, w.frozen? ⟨k.ones[j].b, c, none⟩ = false) /\
   (∃ vh vals, w.cell? ⟨k.kb, 1, none⟩ = some vh /\ w.frozen? ⟨k.kb, 1, none⟩ = false /\ w.ownsRow 0 65 1 vh k.h.length vals) /\ (∃ q c, w.cell? ⟨k.ones[j].b, 2, none⟩ = some (.slice q k.ones[j].l.length c) /\ Pairp w q k.ones[j].l) /\
   (∀ c, 7 <= c -> c <= 12 -> ∃ u, w.cell? ⟨k.ones[j].b, c, none⟩ = some u) /\ D bk /\ D k.ones[j].b /\ D k.kb := by
 obtain ⟨C3, C4, part, vh, vs, h1, h2, h3, h4, h5, h6, h7⟩ := h.dka.ex
 obtain ⟨m0, m1, m2, -⟩ := cells3 h4
 obtain ⟨⟨c0, c1, -⟩, kz⟩ := kcells h6.blk
 have ho := h6.one _ (List.getElem_mem hj)
 obtain ⟨vl, a, b, c, d', e, f, hb, hp, -⟩ := ho.ex
 obtain ⟨⟨o0, o1, o2, o5, o6⟩, oz⟩ := ocells hb
 obtain ⟨vals, hv, -⟩ := h6.rowh.ex
 obtain ⟨q, cap, rfl, hpp, -⟩ := OwnP.pairp hp
 refine ⟨⟨m2, o0, o6, oz⟩, ⟨vh, vals, c1, kz 1, hv⟩, ⟨q, cap, o2, hpp⟩, fun c h7 h12 => ?_, h5.1, h1 _ ho.cb, h1 _ h6.cb⟩
 rcases (by omega : c = 7 \/ c = 8 \/ c = 9 \/ c = 10 \/ c = 11 \/ c = 12) with rfl | rfl | rfl | rfl | rfl | rfl
 all_goals exact ⟨_, cell_block hb⟩
theorem Dv.sizes (h : Dv w0 C w D bk bx bd vy d zs k) (q : Option Addr) (qc : Nat) (l : List Ox) (hl : l.length <= 4194304) (hp : Opp w q l) (hq : ∀ a, q = some a -> 0 < l.length -> ¬ D a.block) (hb : k.bytes + lens l <= 1099511627776) (ho : k.ops + l.length <= 1099511627776) :
   Calls Tryz.prog 136 #[.pointer (some ⟨k.kb, 0, none⟩), .slice q l.length qc] w fun e w' => e = .returned (.tuple #[]) /\ DvJ w0 C w D bk bx bd vy d zs (sizesK k l) w' :=
 (h.know (P := fun e k' => e = .returned (.tuple #[]) /\ k' = sizesK k l) (fun C3 vh vs hC hK => (sizes_any hK q qc l hl hp (fun a ha h0 s => hq a ha h0 (hC _ s)) hb ho).mono (by
   rintro e w' ⟨rfl, h1, h2⟩
   exact ⟨_, vh, vs, ⟨rfl, rfl⟩, rfl, h1.mono (fun i _ s => .inl s), h2.mono (fun i e => by rw [e]; exact hK.cb)⟩))).mono (by
   rintro e w' ⟨k', ⟨rfl, rfl⟩, _, hJ⟩
   exact ⟨rfl, hJ⟩)
end
abbrev opC (K : Int) (D A B : Value) (S T : Nm) (q : Option Addr) (n qc : Nat) (L old : Value) : Array Value := #[.int .i64 K, D, A, B, str S, str T, .slice q n qc, L, old]
def Out (w : World) (C : Nat -> Prop) (bk bx bd : Nat) (vy : Value) (d : Dk) (k : Kno) (dy db : Nat) (e : Ending) (w' : World) : Prop :=
 e = .returned (.bool true) /\ ∃ D' d' zs' k', Dv w C w' D' bk bx bd vy d' zs' k' /\ KInv k' d' zs' /\ d'.turn <= d.turn + 1 /\ k'.bytes <= k.bytes + db /\ k'.ops <= k.ops + dy /\ k'.ones.length <= k.ones.length + 1
section
variable {w : World} {C : Nat -> Prop} {bk bx bd : Nat} {vy : Value} {d : Dk} {zs : List (Nat × St)} {k : Kno}
theorem batchX_shut {d : Dk} {st : St} {l : List Ox} {R : Int} (h : ready d.turn d.dead st = R) (hR : R ≠ 0) : batchX d st l = (R, d, st) := by
 have : writable d.turn d.dead st = R := by simp [writable, h, hR]
 simp [batchX, this, hR]
theorem KInv.shutR (h : KInv k d zs) (j : Nat) (hj : j < k.ones.length) (hz : j < zs.length) {R : Int} (hs : shutX k k.ones[j] = (R, true)) : ready d.turn d.dead zs[j].2 = R /\ R ≠ 0 := by
 unfold shutX at hs
 split at hs
 . rename_i ho
   have := h.shut j hj hz ho
   cases hs
   exact ⟨by unfold ready; rw [if_pos (by omega)], by decide⟩
 . rename_i ho
   split at hs
   . rename_i hd
     cases hs
     have ho' : k.ones[j].op = true := by simpa using ho
     have := (h.open' j hj hz ho').2.1
     rw [h.dead] at hd
     exact ⟨by unfold ready; rw [if_neg (by simp [this]), if_pos hd], by decide⟩
   . cases hs
theorem put_shut (h : Dka w C bk bx bd vy d zs k) (hC : ∀ i, C i -> i < w.heap.size) (hI : KInv k d zs) (j : Nat) (hj : j < k.ones.length) (hz : j < zs.length) (Dd A B L old : Value) (S T : Nm) (q : Option Addr) (qc : Nat) (l0 : List Ox)
   (hl0 : l0.length <= 4194304) (hp : Opp w q l0) (hq0 : q = none -> l0 = [] /\ qc = 0) (hS : S.length <= 1048576) (hT : T.length <= 1048576) (hb : k.bytes <= 4194304) (ho : k.ops <= 2097152) (R : Int) (hsh : shutX k k.ones[j] = (R, true)) :
   Calls Tryz.prog 102 #[.pointer (some ⟨bk, 0, none⟩), .pointer (some ⟨k.ones[j].b, 0, none⟩), .agg (opC 12 Dd A B S T q l0.length qc L old)] w (Out w C bk bx bd vy d k 1 (S.length + T.length)) := by
 obtain ⟨hr, hR0⟩ := hI.shutR j hj hz hsh
 have hXs := batchX_shut (l := [⟨S, T, false⟩]) hr hR0
 have hzat := hI.zat j hj hz
 obtain ⟨D0, hv0, hD0⟩ := Dv.start h
 have hA : Below w.heap.size w (w.alloc (.cells (opC 12 Dd A B S T q l0.length qc L old) 67)) := (Below.refl _ w).alloc (Nat.le_refl _) _
 have hv1 := hv0.below hA
 have hp1 := hp.below hA
 have hbo := block_new w (.cells (opC 12 Dd A B S T q l0.length qc L old) 67)
 obtain ⟨v8, w8, hr8, hb8, ho8⟩ := app_new _ 65 q qc l0 hl0 hp1 hq0
 have hok := hI.ok
 have hml := (hI.mok zs[j] (List.getElem_mem hz)).2
 have hwl := wtM_len zs[j].2.m
 have hs1 := hA.size
 have hs8 := hb8.size
 have hbo8 := block_at2 hbo hb8
 have hv8 := hv1.below hb8
 have hlt1 := lt_of_block hbo
 have hDC : ∀ i, D0 i -> i < w.heap.size := fun i s => hC i (hD0 i s)
 have hbA := block_new w8 (.cells #[str S, str T, .bool false] 121)
 have hAA : Below w8.heap.size w8 (w8.alloc (.cells #[str S, str T, .bool false] 121)) := (Below.refl _ w8).alloc (Nat.le_refl _) _
 have hvA := hv8.below hAA
 have hSz := hvA.sizes (some ⟨w8.heap.size, 0, none⟩) 1 [⟨S, T, false⟩] (by simp) (op_row w8 S T false) (fun a ha _ s => by cases ha; have := hDC _ s; simp only at this; omega) (by simp [lens]; omega) (by simp; omega)
 obtain ⟨⟨m2, -⟩, -⟩ := hvA.cells j hj
 have hboA := block_at2 hbo8 hAA
 have HVA : Hid (Dv w C (w8.alloc (.cells #[str S, str T, .bool false] 121)) D0 bk bx bd vy d zs k) := hvA
 have c0' : w8.cell? ⟨w.heap.size, 0, none⟩ = some (.int .i64 12) := cell_block hbo8
 have c4' : w8.cell? ⟨w.heap.size, 4, none⟩ = some (str S) := cell_block hbo8
 have c5' : w8.cell? ⟨w.heap.size, 5, none⟩ = some (str T) := cell_block hbo8
 have HBA : Hid ((w8.alloc (.cells #[str S, str T, .bool false] 121)).heap[w.heap.size]? = some (.cells (opC 12 Dd A B S T q l0.length qc L old) 67)) := hboA
 have HI : Hid (KInv k d zs) := hI
 have HX : Hid (batchX d zs[j].2 [⟨S, T, false⟩] = (R, d, zs[j].2)) := hXs
 clear h hp hp1 hv0 hv1 hv8 hvA hbo hbo8 hbA hboA ho8 hXs hI hA hAA hr
 unfold opC at *
 clear hb8 hlt1
 go_enter Tryz.func102, Tryz.ntmps102
 go_wp2_with (first
   | (at_builtin; refine wpList_bi_run rfl _ _ _ rfl hr8 ?_; clear hr8)
   | (go_at_call 136; refine hSz.mono ?_; rintro e w9 ⟨rfl, D9, hg9, hv9, kp9⟩; clear hSz m2))
 have hns : ¬ D0 w.heap.size := fun s => by have := hDC _ s; omega
 have hbo9 := kp9.at HBA.out hns
 have hzs : zs.set j (zs[j].1, zs[j].2) = zs := List.set_getElem_self ..
 have hsz9 := kp9.size
 simp only [World.size_alloc] at hsz9
 have hn9 : ¬ D9 w.heap.size := fun s => by
   rcases hg9 _ s with s | s
   . exact hns s
   . simp at s; omega
 obtain ⟨-, o0, -⟩ := (hv9.cells j hj).1
 replace o0 : w9.cell? ⟨k.ones[j].b, 0, none⟩ = some (.pointer (some ⟨k.ones[j].z, 0, none⟩)) := o0
 have hPut := hv9.drew.put j hz S T hok.1 (by omega) (by unfold cost at hml; omega) (by omega) (by omega)
 rw [HX.out, hzs, hzat] at hPut
 have b4 : w9.cell? ⟨w.heap.size, 4, none⟩ = some (str S) := cell_block hbo9
 have b5 : w9.cell? ⟨w.heap.size, 5, none⟩ = some (str T) := cell_block hbo9
 clear hv9 kp9 hbo9
 go_still_tail 8, mixedT
 go_wp2_with (go_at_call 28; refine hPut.mono ?_)
 rintro e w10 rfl ⟨D10, hg10, hv10, kp10⟩
 clear hPut o0 b4 b5
 have hSh : Calls Tryz.prog 103 #[.pointer (some ⟨bk, 0, none⟩), .pointer (some ⟨k.ones[j].b, 0, none⟩)] w10 fun e w' => e = .returned (.tuple #[.int .i64 R, .bool true]) /\ w10 = w' := by
   have h9 := shut_any hv10 j hj
   have HS : shutX (sizesK k [⟨S, T, false⟩]) (sizesK k [⟨S, T, false⟩]).ones[j] = (R, true) := hsh
   rw [HS] at h9
   exact h9
 go_wp2_with (go_at_call 103; refine hSh.mono ?_; rintro e w11 ⟨rfl, rfl⟩; clear hSh)
 go_ret
 refine ⟨by simp, D10, d, zs, sizesK k [⟨S, T, false⟩], hv10, HI.out.sizes _, by omega, ?_, ?_, Nat.le_succ _⟩
 . simp [sizesK, lens] <;> omega
 . simp [sizesK]
end
end Go.Proofs.YtfghgmojnffgnaaGreat
