import Derived.Test.YtfghgmojnffgnaaGreatPkAT
import Derived.Test.YtfghgmojnffgnaaGreatPkAQ
set_option maxHeartbeats 4000000
set_option maxRecDepth 20000
namespace Go.Proofs.YtfghgmojnffgnaaGreat
open Go.RowKit Go.Maps Go.Sort
theorem Tryz.info3 : (Tryz.prog.info? 3).map (fun i => (i.zero, i.size, i.bytes)) = some (some (.int .i64 0), 1, 8) := by kernel_rfl
def encI (n : Int) : Value := .int .i64 n
def marks3 : List Int := [-77, -77, -77]
theorem marks_at (i : Nat) (h : i < marks3.length) : marks3[i] = -77 := by
 match i, h with
 | 0, _ => rfl
 | 1, _ => rfl
 | 2, _ => rfl
 | n + 3, h => exact absurd h (by simp [marks3])
theorem three_at (w : World) (x y z : Value) (t : TypeId) : ∀ i u, [x, y, z][i]? = some u -> (w.alloc (.cells #[x, y, z] t)).cell? ((⟨w.heap.size, 0, none⟩ : Addr).add i) = some u := by
 intro i u hu
 match i, hu with
 | 0, hu => simp at hu; subst hu; simp [Addr.add]
 | 1, hu => simp at hu; subst hu; simp [Addr.add]
 | 2, hu => simp at hu; subst hu; simp [Addr.add]
theorem encI_one (l : List Int) : ∀ u ∈ l.map encI, u.oneCell' = true := by
 intro u hu
 obtain ⟨c, _, rfl⟩ := List.mem_map.1 hu
 rfl
theorem intp_at {w : World} {a : Addr} {ks : List Int} (h : Intp w (some a) ks) : ∀ j u, (ks.map encI)[j]? = some u -> w.cell? (a.add j) = some u := by
 intro j u hu
 have hj : j < ks.length := by have := (List.getElem?_eq_some_iff.1 hu).1; simpa using this
 obtain ⟨g', off', e, hc⟩ := h j hj
 obtain rfl := Option.some.inj e
 rw [Addr.add_lit, hc]
 rw [List.getElem?_eq_getElem (by simpa using hj)] at hu
 simpa [encI] using hu
theorem row_pos {w : World} {base size n : Nat} {e : TypeId} {v : Value} {xs : List Value} (h : w.ownsRow base e size v n xs) (hn : 0 < n) : ∃ g cap, v = .slice (some ⟨g, 0, none⟩) n cap /\ base <= g /\ n <= cap /\ cap <= maxLen := by
 rcases h.2 with ⟨_, h0⟩ | ⟨g, cap, cur, rfl, hb, _, h1, h2, _⟩
 . omega
 . exact ⟨g, cap, rfl, hb, h1, h2⟩
theorem givenInts_any (q : Option Addr) (qc : Nat) (ks : List Int) (w : World) (hl : ks.length <= 4194304) (hi : Intp w q ks) (hq0 : q = none -> ks = [] /\ qc = 0) :
   Calls Tryz.prog 93 #[.slice q ks.length qc] w fun e w' => ∃ g cap, e = .returned (.slice (some ⟨g, 0, none⟩) ks.length cap) /\ Below w.heap.size w w' /\ w.heap.size <= g /\ w'.ownsRow 0 3 1 (.slice (some ⟨g, 0, none⟩) (ks.length + 3) cap) (ks.length + 3) ((ks ++ marks3).map encI) := by
 obtain ⟨i0, hi0, hz0, hz1, hz2⟩ := info_parts Tryz.info3
 cases q with
 | none =>
   obtain ⟨rfl, rfl⟩ := hq0 rfl
   clear hi hq0
   go_enter Tryz.func93, Tryz.ntmps93
   go_wp2_with (first
     | (at_builtin; refine wpList_append_own _ rfl (.tmp 7) (.tmp 8) 27 rfl w.heap.size 3 i0 _ 1 8 Tryz.underlying27 hi0 hz0 hz1 hz2 rfl (by decide) _ _ _ rfl (World.ownsRow_nil _ _ _ _) ⟨w.heap.size, 0, none⟩ 3 3 [.int .i64 (-77), .int .i64 (-77), .int .i64 (-77)] rfl rfl (three_at _ _ _ _ _) (by intro u hu; simp at hu; subst hu; rfl) (by unfold maxLen; omega) (by omega) (by simp; try omega) ?_; intro v1 w1 hown1 hgrow1 _; obtain ⟨g1, cap1, rfl, hg1, hc1, hc2⟩ := row_pos hown1 (by omega); unfold maxLen at hc2)
     | go_in)
   go_ret
   refine ⟨g1, cap1, rfl, ((Below.refl _ _).alloc (Nat.le_refl _) _).grown hgrow1 (by simp) (fun k hk => by cases hk), hg1, ?_⟩
   exact ownsRow_base hown1 (Nat.zero_le _)
 | some a =>
   clear hq0
   have hks : (ks.map encI).length = ks.length * 1 := by simp
   go_enter Tryz.func93, Tryz.ntmps93
   go_wp2_with (first
     | (at_builtin; refine wpList_append_own _ rfl (.tmp 4) (.tmp 5) 27 rfl w.heap.size 3 i0 _ 1 8 Tryz.underlying27 hi0 hz0 hz1 hz2 rfl (by decide) _ _ _ rfl (World.ownsRow_nil _ _ _ _) a ks.length qc (ks.map encI) rfl hks (intp_at hi) (encI_one ks) (by unfold maxLen; omega) (by omega) (Nat.le_refl _) ?_; intro v0 w0 hown0 hgrow0 _; simp only [Nat.zero_add, List.nil_append] at hown0; have hbl0 : Below w.heap.size w w0 := (Below.refl _ _).grown hgrow0 (Nat.le_refl _) (fun k hk => by cases hk); have hs0 := hbl0.size)
     | (at_builtin; refine wpList_append_own _ rfl (.tmp 7) (.tmp 8) 27 rfl w.heap.size 3 i0 _ 1 8 Tryz.underlying27 hi0 hz0 hz1 hz2 rfl (by decide) _ _ _ rfl (hown0.alloc _) ⟨w0.heap.size, 0, none⟩ 3 3 [.int .i64 (-77), .int .i64 (-77), .int .i64 (-77)] rfl rfl (three_at _ _ _ _ _) (by intro u hu; simp at hu; subst hu; rfl) (by unfold maxLen; omega) (by omega) (by simp; try omega) ?_; intro v1 w1 hown1 hgrow1 _; obtain ⟨g1, cap1, rfl, hg1, hc1, hc2⟩ := row_pos hown1 (by omega); unfold maxLen at hc2)
     | go_in)
   go_ret
   refine ⟨g1, cap1, rfl, (hbl0.alloc hs0 _).grown hgrow1 (by simp; omega) (fun k hk => (hown0.lt k hk).1), hg1, ?_⟩
   rw [List.map_append]
   exact ownsRow_base hown1 (Nat.zero_le _)
def overK (l : List Int) (j : Nat) : List Int := List.replicate j (-77) ++ l.drop j
theorem overK_len (l : List Int) (j : Nat) (h : j <= l.length) : (overK l j).length = l.length := by simp [overK]; omega
theorem overK_at (l : List Int) (j : Nat) (h : j < l.length) : (overK l j)[j]'(by rw [overK_len l j (by omega)]; exact h) = l[j] := by
 unfold overK
 rw [List.getElem_append_right (by simp)]
 simp
theorem overK_succ (l : List Int) (j : Nat) (h : j < l.length) : (overK l j).set j (-77) = overK l (j + 1) := by
 unfold overK
 rw [List.set_append_right _ _ (by simp), List.length_replicate, Nat.sub_self, List.drop_eq_getElem_cons h, List.set_cons_zero, List.replicate_succ', List.append_assoc]
 rfl
theorem stillInts_any (g cap : Nat) (q : Option Addr) (qc : Nat) (ks : List Int) (w : World) (hl : ks.length <= 4194304) (hi : Intp w q ks) (hq : ∀ a, q = some a -> 0 < ks.length -> a.block ≠ g)
   (hown : w.ownsRow 0 3 1 (.slice (some ⟨g, 0, none⟩) (ks.length + 3) cap) (ks.length + 3) ((ks ++ marks3).map encI)) :
   Calls Tryz.prog 94 #[.slice (some ⟨g, 0, none⟩) ks.length cap, .slice q ks.length qc] w fun e w' => e = .returned (.bool true) /\ Kp (fun i => i = g) w w' := by
 obtain ⟨g', cap', e', _, hc1, hc2⟩ := row_pos hown (by omega)
 obtain ⟨rfl, rfl⟩ : g = g' /\ cap = cap' := by simpa using e'
 unfold maxLen at hc2
 have hll : (ks ++ marks3).length = ks.length + 3 := by simp [marks3]
 go_enter Tryz.func94, Tryz.ntmps94
 go_wp2
 go_loopw [6] (fun i wr => ∃ j : Nat, j <= ks.length + 3 /\ i = .int .i64 j /\ Kp (fun i => i = g) w wr /\ wr.ownsRow 0 3 1 (.slice (some ⟨g, 0, none⟩) (ks.length + 3) cap) (ks.length + 3) ((overK (ks ++ marks3) j).map encI)) (fun i _ => ks.length + 3 - (intOf i).toNat)
 case atStart => exact ⟨0, Nat.zero_le _, rfl, Kp.refl _ _, by simpa [overK] using hown⟩
 case round =>
   obtain ⟨j, hj, rfl, kp, hor⟩ := hrel
   by_cases hlt : j < ks.length + 3
   . have hlt' : j < (ks ++ marks3).length := by omega
     have hc := hor.cellAt j (by omega)
     rw [List.getElem?_map, List.getElem?_eq_getElem (by rw [overK_len _ _ (by omega)]; exact hlt'), overK_at _ j hlt'] at hc
     simp only [Option.map_some, encI] at hc
     have hz := hor.frozenAt j
     have hst := (hor.stored j (.int .i64 (-77))).1
     rw [show (Value.int .i64 (-77)) = encI (-77) from rfl, <- List.map_set, overK_succ _ j hlt'] at hst
     have HST : Hid ((wr.setCell ⟨g, j, none⟩ (encI (-77))).ownsRow 0 3 1 (.slice (some ⟨g, 0, none⟩) (ks.length + 3) cap) (ks.length + 3) ((overK (ks ++ marks3) (j + 1)).map encI)) := hst
     have hir := hi.kept kp hq
     clear hst hown hor
     by_cases hjk : j < ks.length
     . obtain ⟨gk, ok, rfl, hck⟩ := hir j hjk
       have hv : (ks ++ marks3)[j] = ks[j] := List.getElem_append_left hjk
       rw [hv] at hc
       clear hir hi hv
       go_wp2
       all_goals go_roundw
       case rel => exact ⟨j + 1, by omega, by go_num, kp.put rfl _, HST.out⟩
       case measure => simp [intOf]; omega
     . have hv : (ks ++ marks3)[j] = -77 := by
         rw [List.getElem_append_right (by omega)]
         exact marks_at _ _
       rw [hv] at hc
       clear hir hi hv
       go_wp2
       all_goals go_roundw
       case rel => exact ⟨j + 1, by omega, by go_num, kp.put rfl _, HST.out⟩
       case measure => simp [intOf]; omega
   . clear hi hown hor
     go_wp2
     go_ret
     exact ⟨rfl, kp⟩
structure TX where
 v : Value
 m : Nat
def TextAt (w : World) (C : Nat -> Prop) (t : TX) : Prop := ∃ a n cap, t.v = .slice a n cap /\ n <= 4194400 /\ ∀ i, i < n -> ∃ g, a = some ⟨g, 0, none⟩ /\ C g /\ w.cell? ⟨g, i, none⟩ = some (encS (textOf t.m))
def ptrB (b : Nat) : Value := .pointer (some ⟨b, 0, none⟩)
def recolor (own : Nat -> Nat) (w : World) (c : Nat) (k : Nat) : Nat := if k < w.heap.size then own k else c
theorem recolor_old {own : Nat -> Nat} {w : World} {c k : Nat} (h : k < w.heap.size) : recolor own w c k = own k := if_pos h
theorem recolor_new {own : Nat -> Nat} {w : World} {c k : Nat} (h : w.heap.size <= k) : recolor own w c k = c := if_neg (by omega)
theorem XAt.recolor {w w' : World} {own : Nat -> Nat} {c c' b : Nat} {d : Dk} (h : XAt w (fun k => own k = c) b d) (kp : Kp (fun k => own k = c') w w') (hne : c ≠ c') : XAt w' (fun k => recolor own w c' k = c) b d :=
 ((h.mono (T := fun k => own k = c /\ k < w.heap.size) (fun _ hk s => ⟨s, hk⟩)).kept kp (fun _ s e => hne (s.1.symm.trans e))).mono (fun _ _ s => (recolor_old s.2).trans s.1)
theorem RefAt.recolor {w w' : World} {own : Nat -> Nat} {c c' b : Nat} {d : Dk} (h : RefAt w (fun k => own k = c) b d) (kp : Kp (fun k => own k = c') w w') (hne : c ≠ c') : RefAt w' (fun k => recolor own w c' k = c) b d :=
 ((h.mono (T := fun k => own k = c /\ k < w.heap.size) (fun _ hk s => ⟨s, hk⟩)).kept kp (fun _ s e => hne (s.1.symm.trans e))).mono (fun _ _ s => (recolor_old s.2).trans s.1)
structure One where
 b : Nat
 z : Nat
 pol : Int
 l : Mp
 op : Bool
 stuck : Bool
structure Kno where
 kb : Nat
 quota : Nat
 h : List (List Ox)
 safe : Nat
 crashed : Bool
 bytes : Nat
 ops : Nat
 dead : Bool
 armed : Bool
 ones : List One
abbrev oneObj (o : One) (vl a b c d e f : Value) : Obj := .cells #[ptrB o.z, .int .i64 o.pol, vl, .slice none 0 0, .slice none 0 0, .bool o.op, .bool o.stuck, a, b, c, d, e, f, .slice none 0 0, .slice none 0 0] 153
structure OneAt (w : World) (C : Nat -> Prop) (o : One) : Prop where
 ex : ∃ vl a b c d e f, w.heap[o.b]? = some (oneObj o vl a b c d e f) /\ OwnP w 0 vl o.l /\ ∀ g, vl.ownBlock = some g -> C g
 cb : C o.b
abbrev knObj (k : Kno) (vh vs : Value) : Obj := .cells #[.int .i64 k.quota, vh, .int .i64 k.safe, .bool k.crashed, .int .i64 k.bytes, .int .i64 k.ops, .bool k.dead, .bool k.armed, vs] 113
structure HRow (w : World) (C : Nat -> Prop) (vh : Value) (h : List (List Ox)) : Prop where
 ex : ∃ vals, w.ownsRow 0 65 1 vh h.length vals /\ ∀ i (hi : i < h.length), ∃ v, vals[i]? = some v /\ OwnO w 0 v h[i] /\ ∀ g, v.ownBlock = some g -> C g
 cb : ∀ g, vh.ownBlock = some g -> C g
structure KnAt (w : World) (C : Nat -> Prop) (k : Kno) (vh vs : Value) : Prop where
 blk : w.heap[k.kb]? = some (knObj k vh vs)
 cb : C k.kb
 rowh : HRow w C vh k.h
 rows : w.ownsRow 0 150 1 vs k.ones.length (k.ones.map fun o => ptrB o.b)
 cs : ∀ g, vs.ownBlock = some g -> C g
 one : ∀ o ∈ k.ones, OneAt w C o
 nd : (k.ones.map (·.b)).Nodup
theorem OneAt.kept {w w' : World} {C V : Nat -> Prop} {o : One} (h : OneAt w C o) (k : Kp V w w') (hV : ∀ i, C i -> ¬ V i) : OneAt w' C o := by
 obtain ⟨vl, a, b, c, d, e, f, h1, h2, h3⟩ := h.ex
 exact ⟨⟨vl, a, b, c, d, e, f, k.at h1 (hV _ h.cb), k.row h2 (fun g hg => hV g (h3 g hg)), h3⟩, h.cb⟩
theorem OneAt.mono {w : World} {C C' : Nat -> Prop} {o : One} (h : OneAt w C o) (hC : ∀ i, i < w.heap.size -> C i -> C' i) : OneAt w C' o := by
 obtain ⟨vl, a, b, c, d, e, f, h1, h2, h3⟩ := h.ex
 exact ⟨⟨vl, a, b, c, d, e, f, h1, h2, fun g hg => hC g (World.ownsRow.lt h2 g hg).2 (h3 g hg)⟩, hC _ (lt_of_block h1) h.cb⟩
theorem HRow.kept {w w' : World} {C V : Nat -> Prop} {vh : Value} {hs : List (List Ox)} (h : HRow w C vh hs) (k : Kp V w w') (hV : ∀ i, C i -> ¬ V i) : HRow w' C vh hs := by
 obtain ⟨vals, h1, h2⟩ := h.ex
 refine ⟨⟨vals, k.row h1 (fun g hg => hV g (h.cb g hg)), fun i hi => ?_⟩, h.cb⟩
 obtain ⟨v, e, h3, h4⟩ := h2 i hi
 exact ⟨v, e, k.row h3 (fun g hg => hV g (h4 g hg)), h4⟩
theorem HRow.mono {w : World} {C C' : Nat -> Prop} {vh : Value} {hs : List (List Ox)} (h : HRow w C vh hs) (hC : ∀ i, i < w.heap.size -> C i -> C' i) : HRow w C' vh hs := by
 obtain ⟨vals, h1, h2⟩ := h.ex
 refine ⟨⟨vals, h1, fun i hi => ?_⟩, fun g hg => hC g (World.ownsRow.lt h1 g hg).2 (h.cb g hg)⟩
 obtain ⟨v, e, h3, h4⟩ := h2 i hi
 exact ⟨v, e, h3, fun g hg => hC g (World.ownsRow.lt h3 g hg).2 (h4 g hg)⟩
theorem KnAt.kept {w w' : World} {C V : Nat -> Prop} {k : Kno} {vh vs : Value} (h : KnAt w C k vh vs) (kp : Kp V w w') (hV : ∀ i, C i -> ¬ V i) : KnAt w' C k vh vs :=
 ⟨kp.at h.blk (hV _ h.cb), h.cb, h.rowh.kept kp hV, kp.row h.rows (fun g hg => hV g (h.cs g hg)), h.cs, fun o ho => (h.one o ho).kept kp hV, h.nd⟩
theorem KnAt.mono {w : World} {C C' : Nat -> Prop} {k : Kno} {vh vs : Value} (h : KnAt w C k vh vs) (hC : ∀ i, i < w.heap.size -> C i -> C' i) : KnAt w C' k vh vs :=
 ⟨h.blk, hC _ (lt_of_block h.blk) h.cb, h.rowh.mono hC, h.rows, fun g hg => hC g (h.rows.lt g hg).2 (h.cs g hg), fun o ho => (h.one o ho).mono hC, h.nd⟩
theorem HRow.put {w : World} {C : Nat -> Prop} {vh : Value} {hs : List (List Ox)} (h : HRow w C vh hs) {b c : Nat} {cs : Array Value} {t : TypeId} {z : Nat × Nat} (hb : w.heap[b]? = some (.cells cs t z)) (h1 : t ≠ 65) (h2 : t ≠ 121) (u : Value) : HRow (w.setCell ⟨b, c, none⟩ u) C vh hs := by
 obtain ⟨vals, e1, e2⟩ := h.ex
 have kp := Kp.set1 w b c u
 refine ⟨⟨vals, kp.row e1 (fun g hg e => row_ne hb e1 hg h1 e), fun i hi => ?_⟩, h.cb⟩
 obtain ⟨v, e, h3, h4⟩ := e2 i hi
 exact ⟨v, e, kp.row h3 (fun g hg e => row_ne hb h3 hg h2 e), h4⟩
theorem OneAt.put {w : World} {C : Nat -> Prop} {o : One} (h : OneAt w C o) {b c : Nat} {cs : Array Value} {t : TypeId} {z : Nat × Nat} (hb : w.heap[b]? = some (.cells cs t z)) (h1 : t ≠ 87) (h2 : b ≠ o.b) (u : Value) : OneAt (w.setCell ⟨b, c, none⟩ u) C o := by
 obtain ⟨vl, a, b', c', d, e, f, e1, e2, e3⟩ := h.ex
 exact ⟨⟨vl, a, b', c', d, e, f, block_set_ne e1 (fun e => h2 e.symm) u, (Kp.set1 w b c u).row e2 (fun g hg e => row_ne hb e2 hg h1 e), e3⟩, h.cb⟩
theorem KnAt.one_ne {w : World} {C : Nat -> Prop} {k : Kno} {vh vs : Value} (h : KnAt w C k vh vs) {o : One} (ho : o ∈ k.ones) : k.kb ≠ o.b := by
 obtain ⟨vl, a, b, c, d, e, f, h1, _⟩ := (h.one o ho).ex
 have h2 := h.blk
 intro e'
 rw [e', h1] at h2
 simp at h2
theorem KnAt.putK {w : World} {C : Nat -> Prop} {k k' : Kno} {vh vs : Value} (h : KnAt w C k vh vs) (c : Nat) (u : Value) (e1 : k'.kb = k.kb) (e2 : k'.h = k.h) (e3 : k'.ones = k.ones)
   (hc : #[.int .i64 k.quota, vh, .int .i64 k.safe, .bool k.crashed, .int .i64 k.bytes, .int .i64 k.ops, .bool k.dead, .bool k.armed, vs].setIfInBounds c u = #[.int .i64 k'.quota, vh, .int .i64 k'.safe, .bool k'.crashed, .int .i64 k'.bytes, .int .i64 k'.ops, .bool k'.dead, .bool k'.armed, vs]) :
   KnAt (w.setCell ⟨k.kb, c, none⟩ u) C k' vh vs := by
 refine ⟨?_, e1 ▸ h.cb, e2 ▸ h.rowh.put h.blk (by decide) (by decide) u, ?_, h.cs, ?_, e3 ▸ h.nd⟩
 . rw [e1, block_set h.blk u, hc]
 . rw [e3]; exact (Kp.set1 w k.kb c u).row h.rows (fun g hg e => row_ne h.blk h.rows hg (by decide) e)
 . rw [e3]; exact fun o ho => (h.one o ho).put h.blk (by decide) (h.one_ne ho) u
theorem KnAt.putO {w : World} {C : Nat -> Prop} {k : Kno} {vh vs : Value} (h : KnAt w C k vh vs) (j : Nat) (hj : j < k.ones.length) (c : Nat) (u : Value) (o' : One) (eb : o'.b = k.ones[j].b) (el : o'.l = k.ones[j].l)
   (hc : ∀ vl a b c0 d e f, ∃ a' b' c' d' e' f', #[ptrB k.ones[j].z, .int .i64 k.ones[j].pol, vl, .slice none 0 0, .slice none 0 0, .bool k.ones[j].op, .bool k.ones[j].stuck, a, b, c0, d, e, f, .slice none 0 0, .slice none 0 0].setIfInBounds c u = #[ptrB o'.z, .int .i64 o'.pol, vl, .slice none 0 0, .slice none 0 0, .bool o'.op, .bool o'.stuck, a', b', c', d', e', f', .slice none 0 0, .slice none 0 0]) :
   KnAt (w.setCell ⟨k.ones[j].b, c, none⟩ u) C { k with ones := k.ones.set j o' } vh vs := by
 have ho := h.one _ (List.getElem_mem hj)
 obtain ⟨vl, a, b, c0, d, e, f, h1, h2, h3⟩ := ho.ex
 have em : (k.ones.set j o').map (·.b) = k.ones.map (·.b) := by
   rw [List.map_set, eb]
   apply List.ext_getElem (by simp)
   intro i x1 x2
   rw [List.getElem_set]
   split
   . rename_i e; subst e; simp
   . rfl
 have em2 : (k.ones.set j o').map (fun o => ptrB o.b) = k.ones.map (fun o => ptrB o.b) := by
   have h9 := congrArg (List.map ptrB) em
   rw [List.map_map, List.map_map] at h9
   exact h9
 refine ⟨block_set_ne h.blk (h.one_ne (List.getElem_mem hj)) u, h.cb, h.rowh.put h1 (by decide) (by decide) u, ?_, h.cs, fun o hm => ?_, by show ((k.ones.set j o').map (·.b)).Nodup; rw [em]; exact h.nd⟩
 . show World.ownsRow _ _ _ _ _ (k.ones.set j o').length _
   rw [List.length_set, em2]
   exact (Kp.set1 w _ c u).row h.rows (fun g hg e => row_ne h1 h.rows hg (by decide) e)
 . obtain ⟨i, hi, rfl⟩ := List.getElem_of_mem hm
   have hi' : i < k.ones.length := by simpa using hi
   show OneAt _ _ (k.ones.set j o')[i]
   by_cases e' : j = i
   . subst e'
     rw [List.getElem_set_self]
     obtain ⟨a', b', c', d', e2, f', hq⟩ := hc vl a b c0 d e f
     refine ⟨⟨vl, a', b', c', d', e2, f', ?_, ?_, h3⟩, eb ▸ ho.cb⟩
     . rw [eb, block_set h1 u, hq]
     . rw [el]; exact (Kp.set1 w _ c u).row h2 (fun g hg e => row_ne h1 h2 hg (by decide) e)
   . rw [List.getElem_set_ne e']
     refine (h.one _ (List.getElem_mem hi')).put h1 (by decide) (fun e9 => ?_) u
     have hp := List.pairwise_iff_getElem.1 h.nd
     rcases Nat.lt_or_gt_of_ne e' with hl | hl
     . exact hp j i (by simpa using hj) (by simpa using hi') hl (by simpa using e9)
     . exact hp i j (by simpa using hi') (by simpa using hj) hl (by simpa using e9.symm)
structure Dka (w : World) (C : Nat -> Prop) (bk bx bd : Nat) (vy : Value) (d : Dk) (zs : List (Nat × St)) (k : Kno) : Prop where
 ex : ∃ (C3 C4 : Nat -> Prop) (part : Nat -> Nat) (vh vs : Value), (∀ i, C3 i -> C i) /\ (∀ i, C4 i -> C i) /\ (∀ i, C3 i -> ¬ C4 i) /\ w.heap[bk]? = some (.cells #[ptrB bx, vy, ptrB k.kb] 100) /\ (C bk /\ ¬ C3 bk /\ ¬ C4 bk) /\ KnAt w C3 k vh vs /\ Room w C4 bx bd part d zs
section
variable {w0 w w' : World} {C : Nat -> Prop} {bk bx bd : Nat} {vy : Value} {d d' : Dk} {zs zs' : List (Nat × St)} {k k' : Kno}
theorem Dka.kept (h : Dka w C bk bx bd vy d zs k) {V : Nat -> Prop} (kp : Kp V w w') (hV : ∀ i, C i -> ¬ V i) : Dka w' C bk bx bd vy d zs k := by
 obtain ⟨C3, C4, part, vh, vs, h1, h2, h3, h4, h5, h6, h7⟩ := h.ex
 exact ⟨C3, C4, part, vh, vs, h1, h2, h3, kp.at h4 (hV _ h5.1), h5, h6.kept kp (fun i s => hV i (h1 i s)), h7.kept kp (fun i s => hV i (h2 i s))⟩
theorem Dka.below (h : Dka w C bk bx bd vy d zs k) (hb : Below w.heap.size w w') : Dka w' C bk bx bd vy d zs k := h.kept (V := fun _ => False) (Kp.of_below hb) (fun _ _ f => f)
theorem Dka.mono (h : Dka w C bk bx bd vy d zs k) {C' : Nat -> Prop} (hC : ∀ i, i < w.heap.size -> C i -> C' i) : Dka w C' bk bx bd vy d zs k := by
 obtain ⟨C3, C4, part, vh, vs, h1, h2, h3, h4, h5, h6, h7⟩ := h.ex
 exact ⟨fun i => C3 i /\ i < w.heap.size, fun i => C4 i /\ i < w.heap.size, part, vh, vs, fun i s => hC i s.2 (h1 i s.1), fun i s => hC i s.2 (h2 i s.1), fun i s t => h3 i s.1 t.1, h4, ⟨hC _ (lt_of_block h4) h5.1, fun s => h5.2.1 s.1, fun s => h5.2.2 s.1⟩, h6.mono (fun i hi s => ⟨s, hi⟩), h7.mono (fun i hi s => ⟨s, hi⟩)⟩
def Gr (D D' : Nat -> Prop) (w : World) : Prop := ∀ i, D' i -> D i \/ w.heap.size <= i
structure Dv (w0 : World) (C : Nat -> Prop) (w : World) (D : Nat -> Prop) (bk bx bd : Nat) (vy : Value) (d : Dk) (zs : List (Nat × St)) (k : Kno) : Prop where
 kp : Kp C w0 w
 dka : Dka w D bk bx bd vy d zs k
 sub : ∀ i, D i -> Nw C w0 i
 lt : ∀ i, D i -> i < w.heap.size
theorem Dv.start (h : Dka w C bk bx bd vy d zs k) : ∃ D, Dv w C w D bk bx bd vy d zs k /\ ∀ i, D i -> C i :=
 ⟨fun i => C i /\ i < w.heap.size, ⟨Kp.refl _ _, h.mono (fun _ hi s => ⟨s, hi⟩), fun _ s => .inl s.1, fun _ s => s.2⟩, fun _ s => s.1⟩
theorem Dv.next {D : Nat -> Prop} (h : Dv w0 C w D bk bx bd vy d zs k) (kp : Kp D w w') (h' : Dka w' (Nw D w) bk bx bd vy d' zs' k') : ∃ D', Gr D D' w /\ Dv w0 C w' D' bk bx bd vy d' zs' k' /\ Kp D w w' := by
 have hs := h.kp.size
 refine ⟨fun i => Nw D w i /\ i < w'.heap.size, fun i s => s.1, ⟨h.kp.trans kp (fun i hi s => ?_), h'.mono (fun i hi s => ⟨s, hi⟩), fun i s => ?_, fun i s => s.2⟩, kp⟩
 . rcases h.sub i s with s | s
   . exact s
   . omega
 . rcases s.1 with s | s
   . exact h.sub i s
   . exact .inr (by omega)
theorem Dv.below {D : Nat -> Prop} (h : Dv w0 C w D bk bx bd vy d zs k) (hb : Below w.heap.size w w') : Dv w0 C w' D bk bx bd vy d zs k :=
 ⟨kp_below h.kp hb, h.dka.below hb, h.sub, fun i s => Nat.lt_of_lt_of_le (h.lt i s) hb.size⟩
theorem Dv.drew {D : Nat -> Prop} (h : Dv w0 C w D bk bx bd vy d zs k) : Dv w0 C w.drew D bk bx bd vy d zs k := h.below ⟨rfl, rfl, rfl, Nat.le_refl _, fun _ _ => rfl⟩
theorem Dv.kept {D V : Nat -> Prop} (h : Dv w0 C w D bk bx bd vy d zs k) (kp : Kp V w w') (hV : ∀ i, D i -> ¬ V i) (hn : ∀ i, V i -> w0.heap.size <= i) : Dv w0 C w' D bk bx bd vy d zs k :=
 ⟨h.kp.trans kp (fun i hi s => by have := hn i s; omega), h.dka.kept kp hV, h.sub, fun i s => Nat.lt_of_lt_of_le (h.lt i s) kp.size⟩
theorem Dka.prog {C3 C4 : Nat -> Prop} {part' : Nat -> Nat} {vh vs : Value} (h1 : ∀ i, C3 i -> C i) (h2 : ∀ i, C4 i -> C i) (h3 : ∀ i, C3 i -> ¬ C4 i) (h4 : w.heap[bk]? = some (.cells #[ptrB bx, vy, ptrB k.kb] 100)) (h5 : C bk /\ ¬ C3 bk /\ ¬ C4 bk) (h6 : KnAt w C3 k vh vs) (hR : Room w' (Nw C4 w) bx bd part' d' zs') (kp : Kp C4 w w') :
   Dka w' (Nw C w) bk bx bd vy d' zs' k /\ Kp C w w' := by
 refine ⟨⟨fun i => C3 i /\ i < w.heap.size, Nw C4 w, part', vh, vs, fun i s => .inl (h1 i s.1), fun i s => s.imp (h2 i) id, fun i s t => ?_, kp.at h4 h5.2.2, ⟨.inl h5.1, fun s => h5.2.1 s.1, fun s => s.elim h5.2.2 (fun h => by have := lt_of_block h4; omega)⟩, (h6.mono (fun i hi s => ⟨s, hi⟩)).kept kp (fun i s => h3 i s.1), hR⟩, kp.mono h2⟩
 rcases t with t | t
 . exact h3 i s.1 t
 . have := s.2; omega
theorem Dka.know {C3 C4 : Nat -> Prop} {part : Nat -> Nat} {vh vs : Value} (h1 : ∀ i, C3 i -> C i) (h2 : ∀ i, C4 i -> C i) (h3 : ∀ i, C3 i -> ¬ C4 i) (h4 : w.heap[bk]? = some (.cells #[ptrB bx, vy, ptrB k'.kb] 100)) (h5 : C bk /\ ¬ C3 bk /\ ¬ C4 bk) (h6 : KnAt w' (Nw C3 w) k' vh vs) (hR : Room w C4 bx bd part d zs) (kp : Kp C3 w w') :
   Dka w' (Nw C w) bk bx bd vy d zs k' /\ Kp C w w' := by
 refine ⟨⟨Nw C3 w, fun i => C4 i /\ i < w.heap.size, part, vh, vs, fun i s => s.imp (h1 i) id, fun i s => .inl (h2 i s.1), fun i s t => ?_, kp.at h4 h5.2.1, ⟨.inl h5.1, fun s => s.elim h5.2.1 (fun h => by have := lt_of_block h4; omega), fun s => h5.2.2 s.1⟩, h6, (hR.mono (fun i hi s => ⟨s, hi⟩)).kept kp (fun i s t => h3 i t s.1)⟩, kp.mono h1⟩
 rcases s with s | s
 . exact h3 i s t.1
 . have := t.2; omega
def DvJ (w0 : World) (C : Nat -> Prop) (w : World) (D : Nat -> Prop) (bk bx bd : Nat) (vy : Value) (d' : Dk) (zs' : List (Nat × St)) (k : Kno) (w' : World) : Prop := ∃ D', Gr D D' w /\ Dv w0 C w' D' bk bx bd vy d' zs' k /\ Kp D w w'
variable {D : Nat -> Prop}
theorem Dv.prog (h : Dv w0 C w D bk bx bd vy d zs k) {f : Nat} {args : Array Value} {P : Ending -> Dk -> List (Nat × St) -> Prop}
   (H : ∀ C4 part, (∀ i, C4 i -> D i) -> Room w C4 bx bd part d zs -> Calls Tryz.prog f args w fun e w' => ∃ d' zs', P e d' zs' /\ (∃ part', Room w' (Nw C4 w) bx bd part' d' zs') /\ Kp C4 w w') :
   Calls Tryz.prog f args w fun e w' => ∃ d' zs', P e d' zs' /\ DvJ w0 C w D bk bx bd vy d' zs' k w' := by
 obtain ⟨C3, C4, part, vh, vs, h1, h2, h3, h4, h5, h6, h7⟩ := h.dka.ex
 refine (H C4 part h2 h7).mono ?_
 rintro e w' ⟨d', zs', hP, ⟨part', hR⟩, kp⟩
 obtain ⟨a, b⟩ := Dka.prog h1 h2 h3 h4 h5 h6 hR kp
 exact ⟨d', zs', hP, h.next b a⟩
theorem Dv.batch (h : Dv w0 C w D bk bx bd vy d zs k) (j : Nat) (hj : j < zs.length) (q : Option Addr) (qc : Nat) (l : List Ox) (hok : d.Ok) (hfl : d.files.length <= 4194302) (hml : zs[j].2.m.length <= 4194300) (hl : l.length <= 1099511627776) (hk : OxLen l) (hp : Opp w q l) (hq : ∀ a, q = some a -> 0 < l.length -> ¬ D a.block) :
   Calls Tryz.prog 30 #[.pointer (some ⟨zs[j].1, 0, none⟩), .slice q l.length qc] w fun e w' => e = .returned (.int .i64 (batchX d zs[j].2 l).1) /\ DvJ w0 C w D bk bx bd vy (batchX d zs[j].2 l).2.1 (zs.set j (zs[j].1, (batchX d zs[j].2 l).2.2)) k w' :=
 (h.prog (P := fun e d' zs' => e = .returned (.int .i64 (batchX d zs[j].2 l).1) /\ d' = (batchX d zs[j].2 l).2.1 /\ zs' = zs.set j (zs[j].1, (batchX d zs[j].2 l).2.2)) (fun C4 part h2 hR => (hR.batch j hj q qc l hok hfl hml hl hk hp (fun a ha h0 s => hq a ha h0 (h2 _ s))).mono (fun e w' hJ => ⟨_, _, ⟨hJ.1, rfl, rfl⟩, hJ.2⟩))).mono
   (by rintro e w' ⟨d', zs', ⟨h1, rfl, rfl⟩, h2⟩; exact ⟨h1, h2⟩)
theorem Dv.put (h : Dv w0 C w D bk bx bd vy d zs k) (j : Nat) (hj : j < zs.length) (n v : Nm) (hok : d.Ok) (hfl : d.files.length <= 4194302) (hml : zs[j].2.m.length <= 4194300) (hk : n.length <= 1099511627776) (hv : v.length <= 1099511627776) :
   Calls Tryz.prog 28 #[.pointer (some ⟨zs[j].1, 0, none⟩), str n, str v] w fun e w' => e = .returned (.int .i64 (batchX d zs[j].2 [⟨n, v, false⟩]).1) /\ DvJ w0 C w D bk bx bd vy (batchX d zs[j].2 [⟨n, v, false⟩]).2.1 (zs.set j (zs[j].1, (batchX d zs[j].2 [⟨n, v, false⟩]).2.2)) k w' :=
 (h.prog (P := fun e d' zs' => e = .returned (.int .i64 (batchX d zs[j].2 [⟨n, v, false⟩]).1) /\ d' = (batchX d zs[j].2 [⟨n, v, false⟩]).2.1 /\ zs' = zs.set j (zs[j].1, (batchX d zs[j].2 [⟨n, v, false⟩]).2.2)) (fun C4 part h2 hR => (hR.put j hj n v (fun i s => h.lt i (h2 i s)) hok hfl hml hk hv).mono (fun e w' hJ => ⟨_, _, ⟨hJ.1, rfl, rfl⟩, hJ.2⟩))).mono
   (by rintro e w' ⟨d', zs', ⟨h1, rfl, rfl⟩, h2⟩; exact ⟨h1, h2⟩)
theorem Dv.delete (h : Dv w0 C w D bk bx bd vy d zs k) (j : Nat) (hj : j < zs.length) (n : Nm) (hok : d.Ok) (hfl : d.files.length <= 4194302) (hml : zs[j].2.m.length <= 4194300) (hk : n.length <= 1099511627776) :
   Calls Tryz.prog 137 #[.pointer (some ⟨zs[j].1, 0, none⟩), str n] w fun e w' => e = .returned (.int .i64 (batchX d zs[j].2 [⟨n, [], true⟩]).1) /\ DvJ w0 C w D bk bx bd vy (batchX d zs[j].2 [⟨n, [], true⟩]).2.1 (zs.set j (zs[j].1, (batchX d zs[j].2 [⟨n, [], true⟩]).2.2)) k w' :=
 (h.prog (P := fun e d' zs' => e = .returned (.int .i64 (batchX d zs[j].2 [⟨n, [], true⟩]).1) /\ d' = (batchX d zs[j].2 [⟨n, [], true⟩]).2.1 /\ zs' = zs.set j (zs[j].1, (batchX d zs[j].2 [⟨n, [], true⟩]).2.2)) (fun C4 part h2 hR => (hR.delete j hj n (fun i s => h.lt i (h2 i s)) hok hfl hml hk).mono (fun e w' hJ => ⟨_, _, ⟨hJ.1, rfl, rfl⟩, hJ.2⟩))).mono
   (by rintro e w' ⟨d', zs', ⟨h1, rfl, rfl⟩, h2⟩; exact ⟨h1, h2⟩)
theorem Dv.sync (h : Dv w0 C w D bk bx bd vy d zs k) (j : Nat) (hj : j < zs.length) (hok : d.Ok) :
   Calls Tryz.prog 14 #[.pointer (some ⟨zs[j].1, 0, none⟩)] w fun e w' => e = .returned (.int .i64 (syncX d zs[j].2).1) /\ DvJ w0 C w D bk bx bd vy (syncX d zs[j].2).2.1 (zs.set j (zs[j].1, (syncX d zs[j].2).2.2)) k w' :=
 (h.prog (P := fun e d' zs' => e = .returned (.int .i64 (syncX d zs[j].2).1) /\ d' = (syncX d zs[j].2).2.1 /\ zs' = zs.set j (zs[j].1, (syncX d zs[j].2).2.2)) (fun C4 part h2 hR => (hR.sync j hj hok).mono (fun e w' hJ => ⟨_, _, ⟨hJ.1, rfl, rfl⟩, hJ.2⟩))).mono
   (by rintro e w' ⟨d', zs', ⟨h1, rfl, rfl⟩, h2⟩; exact ⟨h1, h2⟩)
theorem Dv.fuse (h : Dv w0 C w D bk bx bd vy d zs k) (n : Int) :
   Calls Tryz.prog 15 #[.pointer (some ⟨bx, 0, none⟩), .int .i64 n] w fun e w' => e = .returned (.tuple #[]) /\ DvJ w0 C w D bk bx bd vy (d.fuse n) zs k w' :=
 (h.prog (P := fun e d' zs' => e = .returned (.tuple #[]) /\ d' = d.fuse n /\ zs' = zs) (fun C4 part h2 hR => (hR.fuse n).mono (fun e w' hJ => ⟨_, _, ⟨hJ.1, rfl, rfl⟩, hJ.2⟩))).mono
   (by rintro e w' ⟨d', zs', ⟨h1, rfl, rfl⟩, h2⟩; exact ⟨h1, h2⟩)
theorem Dv.crash (h : Dv w0 C w D bk bx bd vy d zs k) (q : Option Addr) (qc : Nat) (ks : List Int) (hok : d.Ok) (hl : d.files.length <= 4194303) (hkl : ks.length <= 4611686018427387904) (hi : Intp w q ks) (hq : ∀ a, q = some a -> 0 < ks.length -> ¬ D a.block) :
   Calls Tryz.prog 17 #[.pointer (some ⟨bx, 0, none⟩), .slice q ks.length qc] w fun e w' => e = .returned (.tuple #[]) /\ DvJ w0 C w D bk bx bd vy (d.crash ks) zs k w' :=
 (h.prog (P := fun e d' zs' => e = .returned (.tuple #[]) /\ d' = d.crash ks /\ zs' = zs) (fun C4 part h2 hR => (hR.crash q qc ks hok hl hkl hi (fun a ha h0 s => hq a ha h0 (h2 _ s))).mono (fun e w' hJ => ⟨_, _, ⟨hJ.1, rfl, rfl⟩, hJ.2⟩))).mono
   (by rintro e w' ⟨d', zs', ⟨h1, rfl, rfl⟩, h2⟩; exact ⟨h1, h2⟩)
theorem Dv.know (h : Dv w0 C w D bk bx bd vy d zs k) {f : Nat} {args : Array Value} {P : Ending -> Kno -> Prop}
   (H : ∀ C3 vh vs, (∀ i, C3 i -> D i) -> KnAt w C3 k vh vs -> Calls Tryz.prog f args w fun e w' => ∃ k' vh' vs', P e k' /\ k'.kb = k.kb /\ KnAt w' (Nw C3 w) k' vh' vs' /\ Kp C3 w w') :
   Calls Tryz.prog f args w fun e w' => ∃ k', P e k' /\ k'.kb = k.kb /\ DvJ w0 C w D bk bx bd vy d zs k' w' := by
 obtain ⟨C3, C4, part, vh, vs, h1, h2, h3, h4, h5, h6, h7⟩ := h.dka.ex
 refine (H C3 vh vs h1 h6).mono ?_
 rintro e w' ⟨k', vh', vs', hP, hkb, hK, kp⟩
 obtain ⟨a, b⟩ := Dka.know (k' := k') h1 h2 h3 (by rw [hkb]; exact h4) h5 hK h7 kp
 exact ⟨k', hP, hkb, h.next b a⟩
theorem Dv.get (h : Dv w0 C w D bk bx bd vy d zs k) (j : Nat) (hj : j < zs.length) (n : Nm) (hk : n.length <= 1099511627776) (hm : MOk zs[j].2.m) :
   Calls Tryz.prog 18 #[.pointer (some ⟨zs[j].1, 0, none⟩), str n] w fun e w' => e = .returned (.tuple #[str (getX d zs[j].2 n).1, .bool (getX d zs[j].2 n).2.1, .int .i64 (getX d zs[j].2 n).2.2]) /\ Below w.heap.size w w' := by
 obtain ⟨C3, C4, part, vh, vs, h1, h2, h3, h4, h5, h6, h7⟩ := h.dka.ex
 exact h7.get j hj n hk hm
theorem Dv.scan (h : Dv w0 C w D bk bx bd vy d zs k) (j : Nat) (hj : j < zs.length) (lo hi : Nm) (lim : Int) (hm : MOk zs[j].2.m) (hl : zs[j].2.m.length <= 4194304) (hr : ready d.turn d.dead zs[j].2 = 0) (hl0 : 0 <= lim) (hl1 : lim <= 9223372036854775807) :
   Calls Tryz.prog 40 #[.pointer (some ⟨zs[j].1, 0, none⟩), str lo, str hi, .int .i64 lim] w fun e w' => ∃ v, e = .returned (.tuple #[v, .int .i64 0]) /\ Below w.heap.size w w' /\ OwnP w' w.heap.size v ((rangeM lo hi zs[j].2.m).take lim.toNat) := by
 obtain ⟨C3, C4, part, vh, vs, h1, h2, h3, h4, h5, h6, h7⟩ := h.dka.ex
 exact h7.scan j hj lo hi lim hm hl hr hl0 hl1
theorem Dv.scanNo (h : Dv w0 C w D bk bx bd vy d zs k) (j : Nat) (hj : j < zs.length) (lo hi : Nm) (lim : Int) (R : Int) (hR : R ≠ 0) (h0 : ready d.turn d.dead zs[j].2 = R \/ (ready d.turn d.dead zs[j].2 = 0 /\ lim < 0 /\ R = 1)) :
   Calls Tryz.prog 40 #[.pointer (some ⟨zs[j].1, 0, none⟩), str lo, str hi, .int .i64 lim] w fun e w' => e = .returned (.tuple #[.slice none 0 0, .int .i64 R]) /\ Below w.heap.size w w' := by
 obtain ⟨C3, C4, part, vh, vs, h1, h2, h3, h4, h5, h6, h7⟩ := h.dka.ex
 exact h7.scanNo j hj lo hi lim R hR h0
end
end Go.Proofs.YtfghgmojnffgnaaGreat
