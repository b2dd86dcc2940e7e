import Derived.Test.YtfghgmojnffgnaaGreatPkAP
import Derived.Test.YtfghgmojnffgnaaGreatPkAF
set_option maxHeartbeats 4000000
set_option maxRecDepth 20000
namespace Go.Proofs.YtfghgmojnffgnaaGreat
open Go.RowKit Go.Maps Go.Sort
structure Room (w : World) (C : Nat -> Prop) (bx bd : Nat) (part : Nat -> Nat) (d : Dk) (zs : List (Nat × St)) : Prop where
 blk : w.heap[bx]? = some (.cells #[.pointer (some ⟨bd, 0, none⟩)] 91)
 cb : C bx /\ part bx = 0
 disk : ProgAt w (fun k => C k /\ part k = 0 /\ k ≠ bx) bd d
 store : ∀ j (h : j < zs.length), ∃ bs bm, w.heap[zs[j].1]? = some (.cells #[.pointer (some ⟨bs, 0, none⟩)] 93) /\ (C zs[j].1 /\ part zs[j].1 = j + 1) /\ StAt w (fun k => C k /\ part k = j + 1 /\ k ≠ zs[j].1) bs bd bm zs[j].2
section
variable {w w' : World} {C : Nat -> Prop} {bx bd : Nat} {part : Nat -> Nat} {d : Dk} {zs : List (Nat × St)}
theorem Room.x (h : Room w C bx bd part d zs) : XAt w C bx d := ⟨bd, h.blk, h.cb.1, h.disk.mono (fun _ _ s => ⟨s.1, s.2.2⟩)⟩
theorem Room.kept (h : Room w C bx bd part d zs) {V : Nat -> Prop} (k : Kp V w w') (hV : ∀ i, C i -> ¬ V i) : Room w' C bx bd part d zs :=
 ⟨k.at h.blk (hV _ h.cb.1), h.cb, h.disk.kept k (fun i s => hV i s.1), fun j hj => by
   obtain ⟨bs, bm, h1, h2, h3⟩ := h.store j hj
   exact ⟨bs, bm, k.at h1 (hV _ h2.1), h2, h3.kept k (fun i s => hV i s.1)⟩⟩
theorem Room.mono (h : Room w C bx bd part d zs) {C' : Nat -> Prop} (hC : ∀ k, k < w.heap.size -> C k -> C' k) : Room w C' bx bd part d zs :=
 ⟨h.blk, ⟨hC _ (lt_of_block h.blk) h.cb.1, h.cb.2⟩, h.disk.mono (fun k hk s => ⟨hC k hk s.1, s.2⟩), fun j hj => by
   obtain ⟨bs, bm, h1, h2, h3⟩ := h.store j hj
   exact ⟨bs, bm, h1, ⟨hC _ (lt_of_block h1) h2.1, h2.2⟩, h3.mono (fun k hk s => ⟨hC k hk s.1, s.2⟩)⟩⟩
theorem Room.turn (h : Room w C bx bd part d zs) {d' : Dk} (hP : ProgAt w' (Nw (fun k => C k /\ part k = 0 /\ k ≠ bx) w) bd d') (k : Kp (fun k => C k /\ part k = 0 /\ k ≠ bx) w w') :
   (∃ part', Room w' (Nw C w) bx bd part' d' zs) /\ Kp C w w' := by
 have hlx := lt_of_block h.blk
 refine ⟨⟨fun i => if i < w.heap.size then part i else 0, k.at h.blk (fun s => s.2.2 rfl), ⟨.inl h.cb.1, by simp only [if_pos hlx]; exact h.cb.2⟩, hP.mono (fun i hi s => ?_), fun j hj => ?_⟩, k.mono (fun _ s => s.1)⟩
 . rcases s with s | s
   . refine ⟨.inl s.1, ?_, s.2.2⟩
     show (if i < w.heap.size then part i else 0) = 0
     split
     . exact s.2.1
     . rfl
   . exact ⟨.inr s, by show (if i < w.heap.size then part i else 0) = 0; rw [if_neg (by omega)], by omega⟩
 . obtain ⟨bs, bm, h1, h2, h3⟩ := h.store j hj
   have hl1 := lt_of_block h1
   refine ⟨bs, bm, k.at h1 (fun s => by have := s.2.1; have := h2.2; omega), ⟨.inl h2.1, by show (if _ then _ else _) = _; rw [if_pos hl1]; exact h2.2⟩, ?_⟩
   have h4 := h3.mono (S := fun i => (C i /\ part i = j + 1 /\ i ≠ zs[j].1) /\ i < w.heap.size) (fun i hi s => ⟨s, hi⟩)
   refine (h4.kept k (fun i s t => by have := t.2.1; have := s.1.2.1; omega)).mono (fun i _ s => ?_)
   exact ⟨.inl s.1.1, by show (if _ then _ else _) = _; rw [if_pos s.2]; exact s.1.2.1, s.1.2.2⟩
def ofJ (C : Nat -> Prop) (part : Nat -> Nat) (bx bz j : Nat) (k : Nat) : Prop := C k /\ (part k = 0 \/ part k = j + 1) /\ k ≠ bx /\ k ≠ bz
theorem Room.sys (h : Room w C bx bd part d zs) (j : Nat) (hj : j < zs.length) : ∃ bs, w.heap[zs[j].1]? = some (.cells #[.pointer (some ⟨bs, 0, none⟩)] 93) /\ Sys w (ofJ C part bx zs[j].1 j) bd bs d zs[j].2 := by
 obtain ⟨bs, bm, h1, h2, h3⟩ := h.store j hj
 have hbx := h.cb.2
 refine ⟨bs, h1, Sys.of (S := fun k => C k /\ part k = 0 /\ k ≠ bx) (T := fun k => C k /\ part k = j + 1 /\ k ≠ zs[j].1) (fun k s => ⟨s.1, .inl s.2.1, s.2.2, fun e => ?_⟩) (fun k s => ⟨s.1, .inr s.2.1, fun e => ?_, s.2.2⟩) (fun k s t => by have := s.2.1; have := t.2.1; omega) h.disk h3⟩
 . have := s.2.1; have := h2.2; rw [e] at *; omega
 . have := s.2.1; rw [e] at *; omega
theorem Room.step (h : Room w C bx bd part d zs) (j : Nat) (hj : j < zs.length) {bs : Nat} (hb : w.heap[zs[j].1]? = some (.cells #[.pointer (some ⟨bs, 0, none⟩)] 93)) {d' : Dk} {st' : St} (hS : Sys w' (Nw (ofJ C part bx zs[j].1 j) w) bd bs d' st') (k : Kp (ofJ C part bx zs[j].1 j) w w') :
   (∃ part', Room w' (Nw C w) bx bd part' d' (zs.set j (zs[j].1, st'))) /\ Kp C w w' := by
 classical
 obtain ⟨_, _, _, h2, _⟩ := h.store j hj
 obtain ⟨S, T, bm, u1, u2, u3, hP, hT⟩ := hS.ex
 have hlx := lt_of_block h.blk
 have hlz := lt_of_block hb
 have hN : ∀ i, Nw (ofJ C part bx zs[j].1 j) w i -> Nw C w i /\ i ≠ bx /\ i ≠ zs[j].1 := fun i s => by
   rcases s with s | s
   . exact ⟨.inl s.1, s.2.2⟩
   . exact ⟨.inr s, by omega, by omega⟩
 have hout : ∀ i, ¬ Nw (ofJ C part bx zs[j].1 j) w i -> (if T i then j + 1 else if S i then 0 else part i) = part i := fun i hn => by
   rw [if_neg (fun t => hn (u2 i t)), if_neg (fun s => hn (u1 i s))]
 have hxo : ¬ Nw (ofJ C part bx zs[j].1 j) w bx := fun s => (hN bx s).2.1 rfl
 have hzo : ¬ Nw (ofJ C part bx zs[j].1 j) w zs[j].1 := fun s => (hN _ s).2.2 rfl
 refine ⟨⟨fun i => if T i then j + 1 else if S i then 0 else part i, k.at h.blk (fun s => s.2.2.1 rfl), ⟨.inl h.cb.1, (hout bx hxo).trans h.cb.2⟩, hP.mono (fun i _ s => ?_), fun l hl => ?_⟩, k.mono (fun _ s => s.1)⟩
 . refine ⟨(hN i (u1 i s)).1, ?_, (hN i (u1 i s)).2.1⟩
   show (if T i then j + 1 else if S i then 0 else part i) = 0
   rw [if_neg (u3 i s), if_pos s]
 . rw [List.length_set] at hl
   by_cases e : j = l
   . subst e
     rw [List.getElem_set_self]
     refine ⟨bs, bm, k.at hb (fun s => s.2.2.2 rfl), ⟨.inl h2.1, (hout _ hzo).trans h2.2⟩, hT.mono (fun i _ t => ⟨(hN i (u2 i t)).1, ?_, (hN i (u2 i t)).2.2⟩)⟩
     show (if T i then j + 1 else if S i then 0 else part i) = j + 1
     rw [if_pos t]
   . rw [List.getElem_set_ne e]
     obtain ⟨bs', bm', g1, g2, g3⟩ := h.store l hl
     have hl1 := lt_of_block g1
     have hno : ∀ i, i < w.heap.size -> part i = l + 1 -> ¬ Nw (ofJ C part bx zs[j].1 j) w i := fun i hi hp s => by
       rcases s with s | s
       . rcases s.2.1 with s | s <;> omega
       . omega
     refine ⟨bs', bm', k.at g1 (fun s => hno _ hl1 g2.2 (.inl s)), ⟨.inl g2.1, (hout _ (hno _ hl1 g2.2)).trans g2.2⟩, ?_⟩
     have g4 := g3.mono (S := fun i => (C i /\ part i = l + 1 /\ i ≠ zs[l].1) /\ i < w.heap.size) (fun i hi s => ⟨s, hi⟩)
     refine (g4.kept k (fun i s t => hno i s.2 s.1.2.1 (.inl t))).mono (fun i _ s => ⟨.inl s.1.1, (hout i (hno i s.2 s.1.2.1)).trans s.1.2.1, s.1.2.2⟩)
theorem Room.add (h : Room w C bx bd part d zs) {bs : Nat} {d' : Dk} {st' : St} (hS : Sys w' (Nw (fun k => C k /\ part k = 0 /\ k ≠ bx) w) bd bs d' st') (k : Kp (fun k => C k /\ part k = 0 /\ k ≠ bx) w w') :
   (∃ part', Room (w'.alloc (.cells #[.pointer (some ⟨bs, 0, none⟩)] 93)) (Nw C w) bx bd part' d' (zs ++ [(w'.heap.size, st')])) /\ Kp C w (w'.alloc (.cells #[.pointer (some ⟨bs, 0, none⟩)] 93)) := by
 classical
 obtain ⟨S, T, bm, u1, u2, u3, hP, hT⟩ := hS.ex
 have hlx := lt_of_block h.blk
 have hsz := k.size
 have hb : Below w'.heap.size w' (w'.alloc (.cells #[.pointer (some ⟨bs, 0, none⟩)] 93)) := (Below.refl _ _).alloc (Nat.le_refl _) _
 have hN : ∀ i, Nw (fun k => C k /\ part k = 0 /\ k ≠ bx) w i -> Nw C w i /\ i ≠ bx := fun i s => by
   rcases s with s | s
   . exact ⟨.inl s.1, s.2.2⟩
   . exact ⟨.inr s, by omega⟩
 have hout : ∀ i, ¬ Nw (fun k => C k /\ part k = 0 /\ k ≠ bx) w i -> (if T i \/ i = w'.heap.size then zs.length + 1 else if S i then 0 else part i) = part i := fun i hn => by
   rw [if_neg, if_neg (fun s => hn (u1 i s))]
   rintro (t | e)
   . exact hn (u2 i t)
   . exact hn (.inr (by omega))
 have hxo : ¬ Nw (fun k => C k /\ part k = 0 /\ k ≠ bx) w bx := fun s => (hN bx s).2 rfl
 have hP' := (hP.mono (T := fun i => S i /\ i < w'.heap.size) (fun i hi s => ⟨s, hi⟩)).below hb
 have hT' := (hT.mono (S := fun i => T i /\ i < w'.heap.size) (fun i hi s => ⟨s, hi⟩)).below hb
 refine ⟨⟨fun i => if T i \/ i = w'.heap.size then zs.length + 1 else if S i then 0 else part i, block_alloc (k.at h.blk (fun s => s.2.2 rfl)), ⟨.inl h.cb.1, (hout bx hxo).trans h.cb.2⟩, hP'.mono (fun i _ s => ?_), fun l hl => ?_⟩, (k.mono (fun _ s => s.1)).alloc _⟩
 . refine ⟨(hN i (u1 i s.1)).1, ?_, (hN i (u1 i s.1)).2⟩
   show (if T i \/ i = w'.heap.size then zs.length + 1 else if S i then 0 else part i) = 0
   rw [if_neg, if_pos s.1]
   rintro (t | e)
   . exact u3 i s.1 t
   . have := s.2; omega
 . by_cases e : l < zs.length
   . rw [List.getElem_append_left e]
     obtain ⟨bs', bm', g1, g2, g3⟩ := h.store l e
     have hl1 := lt_of_block g1
     have hno : ∀ i, i < w.heap.size -> part i = l + 1 -> ¬ Nw (fun k => C k /\ part k = 0 /\ k ≠ bx) w i := fun i hi hp s => by
       rcases s with s | s
       . omega
       . omega
     refine ⟨bs', bm', block_alloc (k.at g1 (fun s => hno _ hl1 g2.2 (.inl s))), ⟨.inl g2.1, (hout _ (hno _ hl1 g2.2)).trans g2.2⟩, ?_⟩
     have g4 := g3.mono (S := fun i => (C i /\ part i = l + 1 /\ i ≠ zs[l].1) /\ i < w.heap.size) (fun i hi s => ⟨s, hi⟩)
     refine ((g4.kept k (fun i s t => hno i s.2 s.1.2.1 (.inl t))).below hb).mono (fun i _ s => ⟨.inl s.1.1, (hout i (hno i s.2 s.1.2.1)).trans s.1.2.1, s.1.2.2⟩)
   . have hl' : l = zs.length := by simp at hl; omega
     subst hl'
     rw [List.getElem_append_right (Nat.le_refl _)]
     simp only [Nat.sub_self, List.getElem_cons_zero]
     refine ⟨bs, bm, block_new _ _, ⟨.inr hsz, by simp⟩, hT'.mono (fun i _ t => ⟨(hN i (u2 i t.1)).1, if_pos (.inl t.1), ?_⟩)⟩
     have := t.2
     omega
end
def getX (d : Dk) (st : St) (k : Nm) : Nm × Bool × Int :=
 if ready d.turn d.dead st ≠ 0 then ([], false, ready d.turn d.dead st) else if keyOk k = false then ([], false, 1) else ((getF k st.m).getD [], (getF k st.m).isSome, 0)
theorem has_datM (n : Nm) : ∀ m : Mp, Maps.has (datM m) (.string n) = (getF n m).isSome
 | [] => rfl
 | x :: r => by
   have ih := has_datM n r
   unfold datM at ih ⊢
   simp only [List.map_cons, Maps.has, List.any_cons, getF] at ih ⊢
   have hk : (entM x).1.sameKey (.string n) = decide (x.1 = n) := by
     simp only [entM, Lit.sameKey]
     rw [Bool.eq_iff_iff]; simp
   rw [hk, ih]
   by_cases e : x.1 = n
   . simp [e]
   . simp [e]
theorem MAt.lookOk {w : World} {bm : Nat} {m : Mp} (h : MAt w bm m) (n : Nm) (hn : n.length <= maxLen) :
   (Instr.lookup 124 (.map (some bm)) (str n) true).run Tryz.prog w = .ok (.tuple #[ver ((getF n m).getD []), .bool (getF n m).isSome]) w := by
 obtain ⟨v, z, hrun, hv⟩ := World.ownsMap.look_ok h keyedS Tryz.underlying124 (Tryz.zeroValue135 w) (zd := .lit (.string [])) (zp := []) rfl (keyS hn)
 rw [hrun, has_datM]
 rw [at_datM] at hv
 cases hg : getF n m with
 | none => rw [hg] at hv; rw [Rv_inv hv]; rfl
 | some p => rw [hg] at hv; rw [Rv_inv hv]; rfl
theorem sGet_any {w : World} {T : Nat -> Prop} {bs bd bm : Nat} {d : Dk} {st : St} (h : StAt w T bs bd bm st) {m r f : Value} (hd : w.heap[bd]? = some (.cells #[m, r, f, .bool d.dead, .int .i64 d.turn] 129)) (k : Nm) (hk : k.length <= 1099511627776) (hv : ∀ x ∈ st.m, x.2.length <= 1099511627776) :
   Calls Tryz.prog 38 #[.pointer (some ⟨bs, 0, none⟩), str k] w fun e w' => e = .returned (.tuple #[str (getX d st k).1, .bool (getX d st k).2.1, .int .i64 (getX d st k).2.2]) /\ Below w.heap.size w w' := by
 have hr := Ready_any h hd
 have hik := isKey_any k
 by_cases e1 : ready d.turn d.dead st = 0
 . rw [e1] at hr
   cases e2 : keyOk k
   . have HX : Hid (getX d st k = ([], false, 1)) := by simp [Hid, getX, e1, e2]
     rw [HX.out]
     go_enter Tryz.func38, Tryz.ntmps38
     go_wp2_with (first
       | (go_at_call 74; refine hr.mono ?_; rintro e w1 ⟨rfl, hb⟩; clear hr)
       | (go_at_call 75; refine (hik w1 hk).mono ?_; rintro e w2 ⟨he, rfl⟩; rw [e2] at he; subst he))
     go_ret3
     exact ⟨rfl, hb⟩
   . have HX : Hid (getX d st k = ((getF k st.m).getD [], (getF k st.m).isSome, 0)) := by simp [Hid, getX, e1, e2]
     rw [HX.out]
     have hvl : ((getF k st.m).getD []).length <= 281474976710656 := by
       cases hg : getF k st.m with
       | none => simp
       | some v => have := hv _ (getF_mem hg); simp only [Option.getD_some] at this ⊢; omega
     have hT0 : ∀ w1, Below w.heap.size w w1 -> (Instr.lookup 124 (.map (some bm)) (str k) true).run Tryz.prog w1 = .ok (.tuple #[.agg #[str ((getF k st.m).getD [])], .bool (getF k st.m).isSome]) w1 /\ w1.cell? ⟨bs, 2, none⟩ = some (.map (some bm)) := fun w1 hb =>
       ⟨(h.map.below hb).lookOk k (by unfold maxLen; omega), (cells5 (h.below hb).raw).2.2.1⟩
     have HF : Hid (∀ s w, (Instr.field 135 (.agg #[.string s]) 0).run Tryz.prog w = .ok (.string s) w) := field_ver
     generalize (getF k st.m).getD [] = V at *
     generalize (getF k st.m).isSome = B at *
     clear HX
     go_enter Tryz.func38, Tryz.ntmps38
     go_wp2_with (first
       | (go_at_call 74; refine hr.mono ?_; rintro e w1 ⟨rfl, hb⟩; clear hr; obtain ⟨hlk, c2⟩ := hT0 w1 hb)
       | (go_at_call 75; refine (hik w1 hk).mono ?_; rintro e w2 ⟨he, rfl⟩; rw [e2] at he; subst he)
       | (go_at_call 76; refine (sCl hvl _).mono ?_; rintro e w3 ⟨rfl, hb3⟩))
     go_ret3
     exact ⟨rfl, (hb.alloc hb.size _).trans (hb3.mono (by simp; have := hb.size; omega))⟩
 . have HX : Hid (getX d st k = ([], false, ready d.turn d.dead st)) := by simp [Hid, getX, e1]
   rw [HX.out]
   clear HX
   generalize ready d.turn d.dead st = R at *
   go_enter Tryz.func38, Tryz.ntmps38
   go_wp2_with (go_at_call 74; refine hr.mono ?_; rintro e w1 ⟨rfl, hb⟩; clear hr)
   go_ret3
   exact ⟨rfl, hb⟩
end Go.Proofs.YtfghgmojnffgnaaGreat
namespace Go.Proofs.YtfghgmojnffgnaaGreat
open Go.RowKit Go.Maps Go.Sort
def Fit2 (t : Int) (m : Mp) (e : Int) (st : St) : Prop := st.turn = t /\ st.stuck = false /\ (e = 0 -> st.m = m /\ st.loose = false)
theorem secureX_loose (d : Dk) (st : St) (n : Nat) (h : (secureX d st n).1 = 0) (hw : d.dead = false) (ht : st.turn = d.turn) (hs : st.stuck = false) : (secureX d st n).2.2.loose = false := by
 unfold secureX at h ⊢
 split
 . rename_i h1; rw [if_pos h1] at h; exact absurd h h1
 . rename_i h1
   rw [if_neg h1] at h
   unfold syncX at h ⊢
   have e : writable d.turn d.dead { st with loose := decide ((d.safe logN).1 < n) } = 0 := writable_open hw ht hs
   rw [if_neg (by rw [e]; simp)] at h ⊢
   split
   . rename_i h2; simpa using h2
   . rename_i h2
     rw [if_neg h2] at h
     split
     . rename_i h3; rw [if_pos h3] at h; exact absurd h h3
     . rfl
theorem load_any2 (bd bs : Nat) (d : Dk) (U : Nat -> Prop) (w : World) (hS : Sys w U bd bs d (newSt d.turn)) (hok : d.Ok) (hfl : d.files.length <= 3000000) :
   Calls Tryz.prog 79 #[.pointer (some ⟨bs, 0, none⟩)] w fun e w' => e = .returned (.int .i64 (loadX d).1) /\ (∃ st2, Fit2 d.turn (loadX d).2.2 (loadX d).1 st2 /\ Sys w' (Nw U w) bd bs (loadX d).2.1 st2) /\ Kp U w w' := by
 cases hd : d.dead
 . cases ho : (nmsOf d.files).all oursB
   . have e : loadX d = (5, d, []) := by simp [loadX, hd, ho]
     rw [e]
     refine (load_bad bd bs d _ U w hS hok (by omega) hd ho).mono ?_
     rintro e w' ⟨rfl, hb⟩
     exact ⟨rfl, ⟨_, ⟨rfl, rfl, fun h => by cases h⟩, (hS.below hb).mono (fun _ _ s => .inl s)⟩, Kp.of_below hb⟩
   . cases hf : getF logN d.files with
     | none =>
       have e : loadX d = (0, d, []) := by simp [loadX, hd, ho, hf]
       have hno : logN ∉ nmsOf d.files := fun h => by
         obtain ⟨x, hx, e⟩ := List.mem_map.1 h
         have := getF_none_not hf x hx
         exact this e
       rw [e]
       refine (load_none bd bs d _ U w hS hok (by omega) hd ho hno).mono ?_
       rintro e w' ⟨rfl, hb⟩
       exact ⟨rfl, ⟨_, ⟨rfl, rfl, fun _ => ⟨rfl, rfl⟩⟩, (hS.below hb).mono (fun _ _ s => .inl s)⟩, Kp.of_below hb⟩
     | some f =>
       cases hr : rep f.bytes [] with
       | none =>
         have e : loadX d = (5, d, []) := by simp [loadX, hd, ho, hf, hr]
         rw [e]
         refine (load_broken bd bs d _ U w hS hok (by omega) hd ho f hf rfl hr).mono ?_
         rintro e w' ⟨rfl, ⟨m5, h5⟩, k⟩
         exact ⟨rfl, ⟨_, ⟨rfl, rfl, fun h => by cases h⟩, h5⟩, k⟩
       | some x =>
         obtain ⟨m, n⟩ := x
         by_cases hlt : n < f.bytes.length
         . have e : loadX d = ((rewriteX d m).1, (rewriteX d m).2, m) := by simp [loadX, hd, ho, hf, hr, hlt]
           rw [e]
           refine (load_cut bd bs d _ U w hS hok hfl hd ho f hf rfl m n hr hlt).mono ?_
           rintro e w' ⟨rfl, h5, k⟩
           exact ⟨rfl, ⟨_, ⟨rfl, rfl, fun _ => ⟨rfl, rfl⟩⟩, h5⟩, k⟩
         . have e : loadX d = ((secureX d ⟨d.turn, m, false, false⟩ f.bytes.length).1, (secureX d ⟨d.turn, m, false, false⟩ f.bytes.length).2.1, m) := by simp [loadX, hd, ho, hf, hr, hlt]
           have hn : n = f.bytes.length := by have := (rep_len hr).2.1; omega
           rw [e]
           refine (load_log bd bs d _ U w hS hok (by omega) hd ho f hf rfl m (by rw [hr, hn])).mono ?_
           rintro e w' ⟨rfl, h5, k⟩
           obtain ⟨s1, s2, s3⟩ := secureX_st d { newSt d.turn with m := m } f.bytes.length
           exact ⟨rfl, ⟨_, ⟨s2, s3, fun h0 => ⟨s1, secureX_loose d { newSt d.turn with m := m } f.bytes.length h0 hd rfl rfl⟩⟩, h5⟩, k⟩
 . have e : loadX d = (4, d, []) := by simp [loadX, hd]
   rw [e]
   refine (load_dead bd bs d _ U w hS hd).mono ?_
   rintro e w' ⟨rfl, hb⟩
   exact ⟨rfl, ⟨_, ⟨rfl, rfl, fun h => by cases h⟩, (hS.below hb).mono (fun _ _ s => .inl s)⟩, Kp.of_below hb⟩
theorem sOpen_any2 (bd : Nat) (d : Dk) (p : Int) (S : Nat -> Prop) (w : World) (hP : ProgAt w S bd d) (hok : d.Ok) (hfl : d.files.length <= 3000000) (ht0 : 0 <= d.turn) (ht1 : d.turn <= 4611686018427387904) (hp0 : 0 <= p) (hp2 : p <= 2) :
   Calls Tryz.prog 42 #[.pointer (some ⟨bd, 0, none⟩), .int .i64 p] w (OpenP bd S w (loadX (turned d)).2.1 (loadX (turned d)).1 (Fit2 (d.turn + 1) (loadX (turned d)).2.2 (loadX (turned d)).1)) :=
 sOpen_gen bd d p S w hP ht0 ht1 hp0 hp2 _ _ _ (fun _ hP1 => load_any2 bd _ (turned d) _ _ (sys_new hP1) (turned_ok hok) hfl)
def RoomO (C : Nat -> Prop) (bx bd : Nat) (zs : List (Nat × St)) (w : World) (d : Dk) (e : Ending) (w' : World) : Prop :=
 Kp C w w' /\ (((openX d).1 = 0 /\ ∃ bz st2 part', e = .returned (.tuple #[.pointer (some ⟨bz, 0, none⟩), .int .i64 0]) /\ Room w' (Nw C w) bx bd part' (openX d).2.1 (zs ++ [(bz, st2)]) /\ st2 = ⟨d.turn + 1, (openX d).2.2, false, false⟩) \/
   ((openX d).1 ≠ 0 /\ e = .returned (.tuple #[.pointer none, .int .i64 (openX d).1]) /\ ∃ part', Room w' (Nw C w) bx bd part' (openX d).2.1 zs))
section
variable {w : World} {C : Nat -> Prop} {bx bd : Nat} {part : Nat -> Nat} {d : Dk} {zs : List (Nat × St)}
theorem Room.open (h : Room w C bx bd part d zs) (p : Int) (hok : d.Ok) (hfl : d.files.length <= 3000000) (ht0 : 0 <= d.turn) (ht1 : d.turn <= 4611686018427387904) (hp0 : 0 <= p) (hp2 : p <= 2) :
   Calls Tryz.prog 21 #[.pointer (some ⟨bx, 0, none⟩), .int .i64 p] w (RoomO C bx bd zs w d) := by
 have hO := sOpen_any2 bd d p _ w h.disk hok hfl ht0 ht1 hp0 hp2
 obtain ⟨c0, z0⟩ := cells1 h.blk
 have HR : Hid (Room w C bx bd part d zs) := h
 clear h
 go_enter Tryz.func21, Tryz.ntmps21
 go_wp2_with (go_at_call 42; refine hO.mono ?_)
 rintro e w1 ⟨k, (⟨ha, hz, bs, st2, rfl, ⟨g1, g2, g3⟩, hS⟩ | ⟨hne, rfl, hP'⟩)⟩
 . go_wp2
   go_ret2
   obtain ⟨⟨part', a⟩, b⟩ := HR.out.add hS k
   refine ⟨b, .inl ⟨by simp [openX, ha, hz], _, st2, part', rfl, a, ?_⟩⟩
   obtain ⟨t, m, l, s⟩ := st2
   obtain ⟨g4, g5⟩ := g3 hz
   simp only at g1 g2 g4 g5
   subst g1 g2 g4 g5
   simp [openX]
 . have hne' : Hid ((openX d).1 ≠ 0) := hne
   have HE : Hid ((if (loadX (turned d)).2.1.dead then 4 else (loadX (turned d)).1) = (openX d).1) := rfl
   rw [HE.out] at hne ⊢
   generalize hR : (openX d).1 = R at *
   go_wp2
   go_ret2
   obtain ⟨⟨part', a⟩, b⟩ := HR.out.turn hP' k
   exact ⟨b, .inr ⟨by rw [hR]; exact hne'.out, by rw [hR]; rfl, part', a⟩⟩
theorem sOpen_arg (bd : Nat) (p : Int) (w : World) (hp : p < 0 \/ 2 < p) :
   Calls Tryz.prog 42 #[.pointer (some ⟨bd, 0, none⟩), .int .i64 p] w fun e w' => e = .returned (.tuple #[.pointer none, .int .i64 1]) /\ w = w' := by
 by_cases h0 : p < 0
 . go_enter Tryz.func42, Tryz.ntmps42
   go_wp2
   go_ret2
   exact ⟨rfl, rfl⟩
 . have h2 : 2 < p := hp.resolve_left h0
   go_enter Tryz.func42, Tryz.ntmps42
   go_wp2
   go_ret2
   exact ⟨rfl, rfl⟩
theorem Room.openArg (h : Room w C bx bd part d zs) (p : Int) (hp : p < 0 \/ 2 < p) :
   Calls Tryz.prog 21 #[.pointer (some ⟨bx, 0, none⟩), .int .i64 p] w fun e w' => e = .returned (.tuple #[.pointer none, .int .i64 1]) /\ w = w' := by
 have hO := sOpen_arg bd p w hp
 obtain ⟨c0, z0⟩ := cells1 h.blk
 clear h
 go_enter Tryz.func21, Tryz.ntmps21
 go_wp2_with (go_at_call 42; refine hO.mono ?_; rintro e w1 ⟨rfl, rfl⟩; clear hO)
 go_ret2
 exact ⟨rfl, rfl⟩
theorem Room.fuse (h : Room w C bx bd part d zs) (n : Int) :
   Calls Tryz.prog 15 #[.pointer (some ⟨bx, 0, none⟩), .int .i64 n] w fun e w' => e = .returned (.tuple #[]) /\ (∃ part', Room w' (Nw C w) bx bd part' (d.fuse n) zs) /\ Kp C w w' := by
 have hin := inner_any h.blk
 have hc := dFuse_any bd d n _ w h.disk
 go_enter Tryz.func15, Tryz.ntmps15
 go_wp2_with (first
   | (go_at_call 34; refine hin.mono ?_; rintro e w' ⟨rfl, rfl⟩; clear hin)
   | (go_at_call 35; refine hc.mono ?_; rintro e w1 ⟨rfl, hp, kp⟩; clear hc))
 go_end0
 exact ⟨rfl, h.turn hp kp⟩
theorem Room.crash (h : Room w C bx bd part d zs) (q : Option Addr) (qc : Nat) (ks : List Int) (hok : d.Ok) (hl : d.files.length <= 4194303) (hkl : ks.length <= 4611686018427387904) (hi : Intp w q ks) (hq : ∀ a, q = some a -> 0 < ks.length -> ¬ C a.block) :
   Calls Tryz.prog 17 #[.pointer (some ⟨bx, 0, none⟩), .slice q ks.length qc] w fun e w' => e = .returned (.tuple #[]) /\ (∃ part', Room w' (Nw C w) bx bd part' (d.crash ks) zs) /\ Kp C w w' := by
 have hin := inner_any h.blk
 have hc := dCrash_any bd d q qc ks _ w h.disk hok hl hkl hi (fun a ha h0 s => hq a ha h0 s.1)
 go_enter Tryz.func17, Tryz.ntmps17
 go_wp2_with (first
   | (go_at_call 34; refine hin.mono ?_; rintro e w' ⟨rfl, rfl⟩; clear hin)
   | (go_at_call 37; refine hc.mono ?_; rintro e w1 ⟨rfl, hp, kp⟩; clear hc))
 go_end0
 exact ⟨rfl, h.turn hp kp⟩
def RoomJ (C : Nat -> Prop) (bx bd : Nat) (zs : List (Nat × St)) (j bz : Nat) (w : World) (X : Int × Dk × St) (e : Ending) (w' : World) : Prop :=
 e = .returned (.int .i64 X.1) /\ (∃ part', Room w' (Nw C w) bx bd part' X.2.1 (zs.set j (bz, X.2.2))) /\ Kp C w w'
theorem Room.batch (h : Room w C bx bd part d zs) (j : Nat) (hj : j < zs.length) (q : Option Addr) (qc : Nat) (l : List Ox) (hok : d.Ok) (hfl : d.files.length <= 4194302) (hml : zs[j].2.m.length <= 4194300) (hl : l.length <= 1099511627776) (hk : OxLen l) (hp : Opp w q l) (hq : ∀ a, q = some a -> 0 < l.length -> ¬ C a.block) :
   Calls Tryz.prog 30 #[.pointer (some ⟨zs[j].1, 0, none⟩), .slice q l.length qc] w (RoomJ C bx bd zs j zs[j].1 w (batchX d zs[j].2 l)) := by
 obtain ⟨bs, h2, h5⟩ := h.sys j hj
 have hin := sinner_any h2
 have hB := sBatch_any bd bs d zs[j].2 _ q qc l w h5 hok hfl hml hl hk hp (fun a ha h0 s => hq a ha h0 s.1)
 generalize batchX d zs[j].2 l = X at *
 go_enter Tryz.func30, Tryz.ntmps30
 go_wp2_with (first
   | (go_at_call 32; refine hin.mono ?_; rintro e w' ⟨rfl, rfl⟩; clear hin)
   | (go_at_call 67; refine hB.mono ?_; rintro e w1 ⟨rfl, hS1, k1⟩; clear hB))
 go_ret
 exact ⟨rfl, h.step j hj h2 hS1 k1⟩
theorem Room.sync (h : Room w C bx bd part d zs) (j : Nat) (hj : j < zs.length) (hok : d.Ok) :
   Calls Tryz.prog 14 #[.pointer (some ⟨zs[j].1, 0, none⟩)] w (RoomJ C bx bd zs j zs[j].1 w (syncX d zs[j].2)) := by
 obtain ⟨bs, h2, h5⟩ := h.sys j hj
 have hin := sinner_any h2
 have hB := sSync_any bd bs d zs[j].2 _ w h5 hok
 generalize syncX d zs[j].2 = X at *
 go_enter Tryz.func14, Tryz.ntmps14
 go_wp2_with (first
   | (go_at_call 32; refine hin.mono ?_; rintro e w' ⟨rfl, rfl⟩; clear hin)
   | (go_at_call 33; refine hB.mono ?_; rintro e w1 ⟨rfl, hS1, k1⟩; clear hB))
 go_ret
 exact ⟨rfl, h.step j hj h2 hS1 k1⟩
theorem op_row (w : World) (k v : Nm) (b : Bool) : Opp (w.alloc (.cells #[str k, str v, .bool b] 121)) (some ⟨w.heap.size, 0, none⟩) [⟨k, v, b⟩] := fun i hi => by
 obtain rfl : i = 0 := by simpa using hi
 have hb := block_new w (.cells #[str k, str v, .bool b] 121)
 exact ⟨w.heap.size, 0, rfl, cell_block hb, cell_block hb, cell_block hb⟩
theorem RoomJ.behind {w0 : World} {zs : List (Nat × St)} {j bz : Nat} {X : Int × Dk × St} {e : Ending} {w' : World} (hb : Below w.heap.size w w0) (h : RoomJ C bx bd zs j bz w0 X e w') : RoomJ C bx bd zs j bz w X e w' := by
 obtain ⟨h1, ⟨part', h2⟩, h3⟩ := h
 have hs := hb.size
 exact ⟨h1, ⟨part', h2.mono (fun k _ s => s.imp id (fun h => Nat.le_trans hs h))⟩, (Kp.of_below hb).trans h3 (fun _ _ s => s)⟩
theorem Room.put (h : Room w C bx bd part d zs) (j : Nat) (hj : j < zs.length) (k v : Nm) (hC : ∀ k, C k -> k < w.heap.size) (hok : d.Ok) (hfl : d.files.length <= 4194302) (hml : zs[j].2.m.length <= 4194300) (hk : k.length <= 1099511627776) (hv : v.length <= 1099511627776) :
   Calls Tryz.prog 28 #[.pointer (some ⟨zs[j].1, 0, none⟩), str k, str v] w (RoomJ C bx bd zs j zs[j].1 w (batchX d zs[j].2 [⟨k, v, false⟩])) := by
 have hA : Below w.heap.size w (w.alloc (.cells #[str k, str v, .bool false] 121)) := (Below.refl _ w).alloc (Nat.le_refl _) _
 have h' : Room (w.alloc (.cells #[str k, str v, .bool false] 121)) C bx bd part d zs := h.kept (V := fun _ => False) (Kp.of_below hA) (fun _ _ f => f)
 have hB := h'.batch j hj (some ⟨w.heap.size, 0, none⟩) 1 [⟨k, v, false⟩] hok hfl hml (by simp) (fun o ho => by obtain rfl := List.mem_singleton.1 ho; exact ⟨hk, hv⟩) (op_row w k v false) (fun a ha _ s => by cases ha; have := hC _ s; simp only at this; omega)
 have HB : Hid (Below w.heap.size w (w.alloc (.cells #[str k, str v, .bool false] 121))) := hA
 clear h h' hA
 go_enter Tryz.func28, Tryz.ntmps28
 go_wp2_with (go_at_call 30; refine hB.mono ?_; intro e w1 hJ; obtain ⟨rfl, hJ2⟩ := hJ; clear hB)
 go_ret
 exact RoomJ.behind HB.out ⟨rfl, hJ2⟩
theorem Room.delete (h : Room w C bx bd part d zs) (j : Nat) (hj : j < zs.length) (k : Nm) (hC : ∀ k, C k -> k < w.heap.size) (hok : d.Ok) (hfl : d.files.length <= 4194302) (hml : zs[j].2.m.length <= 4194300) (hk : k.length <= 1099511627776) :
   Calls Tryz.prog 137 #[.pointer (some ⟨zs[j].1, 0, none⟩), str k] w (RoomJ C bx bd zs j zs[j].1 w (batchX d zs[j].2 [⟨k, [], true⟩])) := by
 have hA : Below w.heap.size w (w.alloc (.cells #[str k, str [], .bool true] 121)) := (Below.refl _ w).alloc (Nat.le_refl _) _
 have h' : Room (w.alloc (.cells #[str k, str [], .bool true] 121)) C bx bd part d zs := h.kept (V := fun _ => False) (Kp.of_below hA) (fun _ _ f => f)
 have hB := h'.batch j hj (some ⟨w.heap.size, 0, none⟩) 1 [⟨k, [], true⟩] hok hfl hml (by simp) (fun o ho => by obtain rfl := List.mem_singleton.1 ho; exact ⟨hk, by simp⟩) (op_row w k [] true) (fun a ha _ s => by cases ha; have := hC _ s; simp only at this; omega)
 have HB : Hid (Below w.heap.size w (w.alloc (.cells #[str k, str [], .bool true] 121))) := hA
 clear h h' hA
 go_enter Tryz.func137, Tryz.ntmps137
 go_wp2_with (go_at_call 30; refine hB.mono ?_; intro e w1 hJ; obtain ⟨rfl, hJ2⟩ := hJ; clear hB)
 go_ret
 exact RoomJ.behind HB.out ⟨rfl, hJ2⟩
theorem Room.get (h : Room w C bx bd part d zs) (j : Nat) (hj : j < zs.length) (k : Nm) (hk : k.length <= 1099511627776) (hm : MOk zs[j].2.m) :
   Calls Tryz.prog 18 #[.pointer (some ⟨zs[j].1, 0, none⟩), str k] w fun e w' => e = .returned (.tuple #[str (getX d zs[j].2 k).1, .bool (getX d zs[j].2 k).2.1, .int .i64 (getX d zs[j].2 k).2.2]) /\ Below w.heap.size w w' := by
 obtain ⟨bs, bm, h1, h2, h3⟩ := h.store j hj
 obtain ⟨dm, dr, df, hd, _⟩ := h.disk.raw
 have hin := sinner_any h1
 have hG := sGet_any h3 hd k hk (fun x hx => by have := hm.val x hx; omega)
 generalize getX d zs[j].2 k = X at *
 go_enter Tryz.func18, Tryz.ntmps18
 go_wp2_with (first
   | (go_at_call 32; refine hin.mono ?_; rintro e w' ⟨rfl, rfl⟩; clear hin)
   | (go_at_call 38; refine hG.mono ?_; rintro e w1 ⟨rfl, hb⟩; clear hG))
 go_ret3
 exact ⟨rfl, hb⟩
theorem sScan_no {T : Nat -> Prop} {bs bm : Nat} {st : St} (h : StAt w T bs bd bm st) {m r f : Value} (hd : w.heap[bd]? = some (.cells #[m, r, f, .bool d.dead, .int .i64 d.turn] 129)) (lo hi : Nm) (lim : Int) (R : Int) (hR : R ≠ 0) (h0 : ready d.turn d.dead st = R \/ (ready d.turn d.dead st = 0 /\ lim < 0 /\ R = 1)) :
   Calls Tryz.prog 77 #[.pointer (some ⟨bs, 0, none⟩), str lo, str hi, .int .i64 lim] w fun e w' => e = .returned (.tuple #[.slice none 0 0, .int .i64 R]) /\ Below w.heap.size w w' := by
 have hA : Below w.heap.size w (w.alloc (.cells #[.int .i64 lim] 3)) := (Below.refl _ w).alloc (Nat.le_refl _) _
 have hr := Ready_any (h.below hA) (block_alloc (p := .cells #[.int .i64 lim] 3) hd)
 have HB : Hid (Below w.heap.size w (w.alloc (.cells #[.int .i64 lim] 3))) := hA
 have HN : Hid (∀ w1, Below (w.alloc (.cells #[.int .i64 lim] 3)).heap.size (w.alloc (.cells #[.int .i64 lim] 3)) w1 -> w1.cell? ⟨w.heap.size, 0, none⟩ = some (.int .i64 lim)) := fun w1 hb => cell_block (block_at2 (block_new w _) hb)
 clear h hd hA
 rcases h0 with h0 | ⟨h0, hl, rfl⟩
 . rw [h0] at hr
   go_enter Tryz.func77, Tryz.ntmps77
   go_wp2_with (go_at_call 74; refine hr.mono ?_; rintro e w1 ⟨rfl, hb⟩; clear hr)
   go_ret2
   exact ⟨rfl, HB.out.trans (hb.mono (by simp))⟩
 . rw [h0] at hr
   go_enter Tryz.func77, Tryz.ntmps77
   go_wp2_with (go_at_call 74; refine hr.mono ?_; rintro e w1 ⟨rfl, hb⟩; clear hr; have cL := HN.out w1 hb)
   go_ret2
   exact ⟨rfl, HB.out.trans (hb.mono (by simp))⟩
end
end Go.Proofs.YtfghgmojnffgnaaGreat
namespace Go.Proofs.YtfghgmojnffgnaaGreat
open Go.RowKit Go.Maps Go.Sort
section
variable {w : World} {C : Nat -> Prop} {bx bd : Nat} {part : Nat -> Nat} {d : Dk} {zs : List (Nat × St)}
theorem Room.scan (h : Room w C bx bd part d zs) (j : Nat) (hj : j < zs.length) (lo hi : Nm) (lim : Int) (hm : MOk zs[j].2.m) (hl : zs[j].2.m.length <= 4194304) (hr : ready d.turn d.dead zs[j].2 = 0) (hl0 : 0 <= lim) (hl1 : lim <= 9223372036854775807) :
   Calls Tryz.prog 40 #[.pointer (some ⟨zs[j].1, 0, none⟩), str lo, str hi, .int .i64 lim] w fun e w' => ∃ v, e = .returned (.tuple #[v, .int .i64 0]) /\ Below w.heap.size w w' /\ OwnP w' w.heap.size v ((rangeM lo hi zs[j].2.m).take lim.toNat) := by
 obtain ⟨bs, bm, h1, h2, h3⟩ := h.store j hj
 obtain ⟨dm, dr, df, hd, _⟩ := h.disk.raw
 exact xScan_ok h1 h3 hd hr lo hi lim hl0 hl1 hm.rise (fun x hx => by
   have a := hm.key x hx
   have b := hm.val x hx
   simp only [keyOk, Bool.and_eq_true, decide_eq_true_eq] at a
   omega) hl
theorem Room.scanNo (h : Room w C bx bd part d zs) (j : Nat) (hj : j < zs.length) (lo hi : Nm) (lim : Int) (R : Int) (hR : R ≠ 0) (h0 : ready d.turn d.dead zs[j].2 = R \/ (ready d.turn d.dead zs[j].2 = 0 /\ lim < 0 /\ R = 1)) :
   Calls Tryz.prog 40 #[.pointer (some ⟨zs[j].1, 0, none⟩), str lo, str hi, .int .i64 lim] w fun e w' => e = .returned (.tuple #[.slice none 0 0, .int .i64 R]) /\ Below w.heap.size w w' := by
 obtain ⟨bs, bm, h1, h2, h3⟩ := h.store j hj
 obtain ⟨dm, dr, df, hd, _⟩ := h.disk.raw
 have hin := sinner_any h1
 have hc := sScan_no (d := d) h3 hd lo hi lim R hR h0
 clear h0
 go_enter Tryz.func40, Tryz.ntmps40
 go_wp2_with (first
   | (go_at_call 32; refine hin.mono ?_; rintro e w' ⟨rfl, rfl⟩; clear hin)
   | (go_at_call 77; refine hc.mono ?_; rintro e w1 ⟨rfl, hb⟩; clear hc))
 go_ret2
 exact ⟨rfl, hb⟩
end
end Go.Proofs.YtfghgmojnffgnaaGreat
namespace Go.Proofs.YtfghgmojnffgnaaGreat
open Go.RowKit Go.Maps Go.Sort
theorem xRename_any (b : Nat) (d : Dk) (n m : Nm) (S : Nat -> Prop) (w : World) (hX : XAt w S b d) (hok : d.Ok) (hl : d.files.length <= 4194302) (hn : n.length <= 1099511627776) (hm : m.length <= 1099511627776) :
   Calls Tryz.prog 49 #[.pointer (some ⟨b, 0, none⟩), .string ⟨n.toArray⟩, .string ⟨m.toArray⟩] w fun e w' => e = .returned (.int .i64 (d.rename n m).1) /\ XAt w' (Nw S w) b (d.rename n m).2 /\ Kp S w w' := by
 obtain ⟨bd, h1, h2, h3⟩ := id hX
 have hin := inner_any h1
 have hc := dRename_any bd d n m (fun k => S k /\ k ≠ b) w h3 hok hl hn hm
 go_enter Tryz.func49, Tryz.ntmps49
 go_wp2_with (first
   | (go_at_call 34; refine hin.mono ?_; rintro e w' ⟨rfl, rfl⟩; clear hin)
   | (go_at_call 86; refine hc.mono ?_; rintro e w1 ⟨rfl, hp, kp⟩; clear hc))
 go_ret
 exact ⟨rfl, x_step h1 h2 hp kp⟩
theorem xRemove_any (b : Nat) (d : Dk) (n : Nm) (S : Nat -> Prop) (w : World) (hX : XAt w S b d) (hok : d.Ok) (hn : n.length <= maxLen) :
   Calls Tryz.prog 51 #[.pointer (some ⟨b, 0, none⟩), .string ⟨n.toArray⟩] w fun e w' => e = .returned (.int .i64 (d.remove n).1) /\ XAt w' (Nw S w) b (d.remove n).2 /\ Kp S w w' := by
 obtain ⟨bd, h1, h2, h3⟩ := id hX
 have hin := inner_any h1
 have hc := dRemove_any bd d n (fun k => S k /\ k ≠ b) w h3 hok hn
 go_enter Tryz.func51, Tryz.ntmps51
 go_wp2_with (first
   | (go_at_call 34; refine hin.mono ?_; rintro e w' ⟨rfl, rfl⟩; clear hin)
   | (go_at_call 88; refine hc.mono ?_; rintro e w1 ⟨rfl, hp, kp⟩; clear hc))
 go_ret
 exact ⟨rfl, x_step h1 h2 hp kp⟩
theorem xSafe_any (b : Nat) (d : Dk) (n : Nm) (S : Nat -> Prop) (w : World) (hX : XAt w S b d) (hn : n.length <= maxLen) :
   Calls Tryz.prog 55 #[.pointer (some ⟨b, 0, none⟩), .string ⟨n.toArray⟩] w fun e w' => e = .returned (.tuple #[.int .i64 (d.safe n).1, .int .i64 (d.safe n).2]) /\ w' = w := by
 obtain ⟨bd, h1, h2, h3⟩ := id hX
 have hin := inner_any h1
 have hc := dSafe_any bd d n (fun k => S k /\ k ≠ b) w h3 hn
 go_enter Tryz.func55, Tryz.ntmps55
 go_wp2_with (first
   | (go_at_call 34; refine hin.mono ?_; rintro e w' ⟨rfl, rfl⟩; clear hin)
   | (go_at_call 90; refine hc.mono ?_; rintro e w1 ⟨rfl, rfl⟩; clear hc))
 go_ret2
 exact ⟨rfl, rfl⟩
end Go.Proofs.YtfghgmojnffgnaaGreat
