import Derived.Test.YtfghgmojnffgnaaGreatPkAX
set_option maxHeartbeats 4000000
set_option maxRecDepth 20000
namespace Go.Proofs.YtfghgmojnffgnaaGreat
open Go.RowKit Go.Maps Go.Sort
def cost (k : Kno) : Nat := k.bytes + 8 * k.ops
def Phase (k : Kno) (d : Dk) (zs : List (Nat × St)) : Prop :=
 (k.crashed = false /\ ∃ h0 bs tl xs, k.h = h0 ++ bs ++ tl /\ (d.dead = false -> tl = []) /\ doAll [] xs.flatten = doAll [] h0.flatten /\ LA d (cost k) xs bs /\ k.safe <= h0.length /\ ∀ j (h : j < k.ones.length) (h' : j < zs.length), k.ones[j].op = true -> (zs[j].2.loose = false -> bs = []) /\ (zs[j].2.loose = true -> (getF logN d.files).isSome = true)) \/
 (k.crashed = true /\ ∃ n cs p, k.safe <= n /\ n <= k.h.length /\ doAll [] cs.flatten = doAll [] (k.h.take n).flatten /\ LB d (cost k) cs p)
structure KInv (k : Kno) (d : Dk) (zs : List (Nat × St)) : Prop where
 quota : k.quota = d.quota
 turn0 : 0 <= d.turn
 dead : k.dead = d.dead
 armed : d.dead = false -> (k.armed = true ↔ 0 <= d.left)
 zlen : zs.length = k.ones.length
 zat : ∀ j (h : j < k.ones.length) (h' : j < zs.length), zs[j].1 = k.ones[j].z
 last : ∀ j (h : j < k.ones.length), k.ones[j].op = true -> j + 1 = k.ones.length
 good : ∀ b ∈ k.h, batchOk b = true
 wt : wtL k.h.flatten <= cost k
 mok : ∀ z ∈ zs, MOk z.2.m /\ wtM z.2.m <= cost k
 shut : ∀ j (h : j < k.ones.length) (h' : j < zs.length), k.ones[j].op = false -> zs[j].2.turn < d.turn
 open' : ∀ j (h : j < k.ones.length) (h' : j < zs.length), k.ones[j].op = true -> k.crashed = false /\ zs[j].2.turn = d.turn /\ zs[j].2.m = k.ones[j].l /\ zs[j].2.stuck = k.ones[j].stuck /\ (d.dead = false -> k.ones[j].l = doAll [] k.h.flatten)
 phase : Phase k d zs
theorem ours_len {fs : List (Nm × Fl)} (h : ∀ x ∈ fs, oursB x.1 = true) (hr : rising fs) : fs.length <= 2 := by
 match fs, h, hr with
 | [], _, _ => simp
 | [_], _, _ => simp
 | [_, _], _, _ => simp
 | x :: y :: z :: r, h, hr =>
   exfalso
   have hx := h x (by simp)
   have hy := h y (by simp)
   have hz := h z (by simp)
   obtain ⟨h1, h2⟩ := List.pairwise_cons.1 hr
   obtain ⟨h3, _⟩ := List.pairwise_cons.1 h2
   have a := h1 y (by simp)
   have b := h1 z (by simp)
   have c := h3 z (by simp)
   simp only [oursB, Bool.or_eq_true, beq_iff_eq] at hx hy hz
   rcases hx with hx | hx <;> rcases hy with hy | hy <;> rcases hz with hz | hz <;> rw [hx, hy] at a <;> rw [hx, hz] at b <;> rw [hy, hz] at c <;>
     first
       | (rw [WideAt.bytes_irrefl] at a; exact Bool.noConfusion a)
       | (rw [WideAt.bytes_irrefl] at b; exact Bool.noConfusion b)
       | (rw [WideAt.bytes_irrefl] at c; exact Bool.noConfusion c)
theorem KInv.ok {k : Kno} {d : Dk} {zs : List (Nat × St)} (h : KInv k d zs) : d.Ok /\ d.files.length <= 2 := by
 rcases h.phase with ⟨_, h0, bs, tl, xs, _, _, _, hl, _⟩ | ⟨_, n, cs, p, _, _, _, hl⟩
 . exact ⟨hl.ok, ours_len hl.ours hl.ok.rise⟩
 . exact ⟨hl.ok, ours_len hl.ours hl.ok.rise⟩
theorem wtM_len : ∀ m : Mp, 8 * m.length <= wtM m
 | [] => by simp [wtM]
 | x :: r => by
   have := wtM_len r
   simp only [wtM, List.map_cons, List.sum_cons, List.length_cons] at this ⊢
   omega
theorem wtL_len : ∀ l : List Ox, 8 * l.length <= wtL l
 | [] => by simp [wtL]
 | x :: r => by
   have := wtL_len r
   rw [wtL_cons, List.length_cons]
   unfold wt
   omega
theorem wtL_lens (l : List Ox) : wtL l = lens l + 8 * l.length := by
 induction l with
 | nil => rfl
 | cons o r ih =>
   rw [wtL_cons, ih]
   simp only [lens, wt, List.map_cons, List.sum_cons, List.length_cons]
   omega
theorem cost_sizes (k : Kno) (l : List Ox) : cost (sizesK k l) = cost k + wtL l := by
 rw [wtL_lens]
 simp only [cost, sizesK]
 omega
theorem KInv.sizes {k : Kno} {d : Dk} {zs : List (Nat × St)} (h : KInv k d zs) (l : List Ox) : KInv (sizesK k l) d zs := by
 have hc : cost k <= cost (sizesK k l) := by rw [cost_sizes]; omega
 refine ⟨h.quota, h.turn0, h.dead, h.armed, h.zlen, h.zat, h.last, h.good, Nat.le_trans h.wt hc, fun z hz => ⟨(h.mok z hz).1, Nat.le_trans (h.mok z hz).2 hc⟩, h.shut, h.open', ?_⟩
 rcases h.phase with ⟨h1, h0, bs, tl, xs, a1, a2, a3, a4, a5, a6⟩ | ⟨h1, n, cs, p, a1, a2, a3, a4⟩
 . exact .inl ⟨h1, h0, bs, tl, xs, a1, a2, a3, a4.more hc, a5, a6⟩
 . exact .inr ⟨h1, n, cs, p, a1, a2, a3, a4.more hc⟩
theorem died_is {k : Kno} {d d' : Dk} (h1 : k.dead = d.dead) (h2 : d.dead = false -> (k.armed = true ↔ 0 <= d.left)) (hL : Liv d d') :
   diedB k d' = d'.dead /\ (diedK k d').dead = d'.dead /\ (d'.dead = false -> ((diedK k d').armed = true ↔ 0 <= d'.left)) := by
 cases hd : d.dead
 . rw [hd] at h1
   have h3 := h2 hd
   cases ha : k.armed
   . have hl : ¬ 0 <= d.left := fun h => by rw [h3.2 h] at ha; cases ha
     have hd' : d'.dead = false := by
       cases e : d'.dead
       . rfl
       . rcases hL.die e with e | e
         . exact absurd e hl
         . rw [hd] at e; cases e
     refine ⟨by simp [diedB, ha, h1, hd'], by simp [diedK, ha, h1, hd'], fun _ => ?_⟩
     rw [hL.fuse hd']
     simp [diedK, ha, hl]
   . have hl : 0 <= d.left := h3.1 ha
     cases hd' : d'.dead
     . refine ⟨by simp [diedB, ha, h1, hd'], by simp [diedK, ha, h1, hd'], fun _ => ?_⟩
       rw [hL.fuse hd']
       simp [diedK, ha, h1, hd', hl]
     . exact ⟨by simp [diedB, ha, h1, hd'], by simp [diedK, ha, h1, hd'], fun e => by cases e⟩
 . rw [hd] at h1
   have hd' := hL.dead hd
   exact ⟨by simp [diedB, h1, hd'], by simp [diedK, h1, hd'], fun e => by rw [hd'] at e; cases e⟩
theorem diedK_eq (k : Kno) (d : Dk) : diedK k d = { k with dead := (diedK k d).dead, armed := (diedK k d).armed } := by
 unfold diedK
 split
 . rfl
 . split <;> rfl
def batchK (k : Kno) (j : Nat) (o : One) (l : List Ox) (e : Int) : Kno :=
 if e = 0 then { k with h := k.h ++ [l], ones := k.ones.set j { o with l := doAll o.l l } }
 else if e = 3 then { k with ones := k.ones.set j { o with stuck := true } }
 else if e = 4 then { k with h := k.h ++ [l] } else k
section
variable {k : Kno} {d : Dk} {zs : List (Nat × St)}
theorem ones_op {os : List One} {j i : Nat} (hj : j < os.length) {o' : One} (ho : o'.op = os[j].op) (hi : i < (os.set j o').length) : (os.set j o')[i].op = (os[i]'(by simpa using hi)).op := by
 rw [List.getElem_set]
 split
 . rename_i e; subst e; exact ho
 . rfl
theorem ones_z {os : List One} {j i : Nat} (hj : j < os.length) {o' : One} (ho : o'.z = os[j].z) (hi : i < (os.set j o').length) : (os.set j o')[i].z = (os[i]'(by simpa using hi)).z := by
 rw [List.getElem_set]
 split
 . rename_i e; subst e; exact ho
 . rfl
theorem zs_fst {j i : Nat} (hj : j < zs.length) {st : St} (hi : i < (zs.set j (zs[j].1, st)).length) : (zs.set j (zs[j].1, st))[i].1 = (zs[i]'(by simpa using hi)).1 := by
 rw [List.getElem_set]
 split
 . rename_i e; subst e; rfl
 . rfl
theorem KInv.next (h : KInv k d zs) (j : Nat) (hj : j < k.ones.length) (hz : j < zs.length) (hop : k.ones[j].op = true) {d' : Dk} (hL : Liv d d') {k' : Kno} (hq : k'.quota = k.quota) (hd : k'.dead = d'.dead) (ha : d'.dead = false -> (k'.armed = true ↔ 0 <= d'.left)) (hc : k'.crashed = k.crashed)
   {o' : One} (ho : k'.ones = k.ones.set j o') (o1 : o'.op = k.ones[j].op) (o2 : o'.z = k.ones[j].z) {st' : St} (s1 : st'.turn = zs[j].2.turn) (s2 : st'.m = o'.l) (s3 : st'.stuck = o'.stuck) (s4 : d'.dead = false -> o'.l = doAll [] k'.h.flatten) (hm : MOk st'.m) (hw : wtM st'.m <= cost k')
   (hg : ∀ b ∈ k'.h, batchOk b = true) (hwt : wtL k'.h.flatten <= cost k') (hco : cost k <= cost k') (hp : Phase k' d' (zs.set j (zs[j].1, st'))) : KInv k' d' (zs.set j (zs[j].1, st')) := by
 have hl := h.last j hj hop
 refine ⟨by rw [hq, hL.quota]; exact h.quota, by rw [hL.turn]; exact h.turn0, hd, ha, by rw [ho, List.length_set, List.length_set]; exact h.zlen, ?_, ?_, hg, hwt, ?_, ?_, ?_, hp⟩
 . intro i hi hi'
   simp only [ho] at hi ⊢
   rw [zs_fst hz, ones_z hj o2]
   exact h.zat i (by simpa using hi) (by simpa using hi')
 . intro i hi
   simp only [ho] at hi ⊢
   rw [ones_op hj o1]
   intro e
   have := h.last i (by simpa using hi) e
   simpa using this
 . intro z hzm
   rcases List.mem_or_eq_of_mem_set hzm with hzm | rfl
   . exact ⟨(h.mok z hzm).1, Nat.le_trans (h.mok z hzm).2 hco⟩
   . exact ⟨hm, hw⟩
 . intro i hi hi'
   simp only [ho] at hi ⊢
   rw [ones_op hj o1, List.getElem_set, hL.turn]
   intro e
   split
   . rename_i e'; subst e'; rw [hop] at e; cases e
   . exact h.shut i (by simpa using hi) (by simpa using hi') e
 . intro i hi hi'
   simp only [ho] at hi ⊢
   rw [ones_op hj o1]
   intro e
   have hi2 : i < k.ones.length := by simpa using hi
   have := h.last i hi2 e
   obtain rfl : i = j := by omega
   obtain ⟨q1, q2, _⟩ := h.open' i hj hz hop
   rw [List.getElem_set_self, List.getElem_set_self]
   exact ⟨by rw [hc]; exact q1, by rw [hL.turn]; exact s1.trans q2, s2, s3, s4⟩
theorem KInv.batch (h : KInv k d zs) (j : Nat) (hj : j < k.ones.length) (hz : j < zs.length) (hop : k.ones[j].op = true) (hal : d.dead = false) (hst : k.ones[j].stuck = false) {l : List Ox} (hl : batchOk l = true) :
   endsB (sizesK k l) (batchX d zs[j].2 l).2.1 (batchX d zs[j].2 l).1 0 true = true /\ ((batchX d zs[j].2 l).1 = 0 \/ (batchX d zs[j].2 l).1 = 3 \/ (batchX d zs[j].2 l).1 = 4) /\
     KInv (batchK (diedK (sizesK k l) (batchX d zs[j].2 l).2.1) j k.ones[j] l (batchX d zs[j].2 l).1) (batchX d zs[j].2 l).2.1 (zs.set j (zs[j].1, (batchX d zs[j].2 l).2.2)) := by
 obtain ⟨q1, q2, q3, q4, q5⟩ := h.open' j hj hz hop
 have q5 := q5 hal
 have hwr : writable d.turn d.dead zs[j].2 = 0 := writable_open hal q2 (by rw [q4]; exact hst)
 rcases h.phase with ⟨_, h0, bs, tl, xs, a1, a2, a3, a4, a5, a6⟩ | ⟨e, _⟩
 rotate_left
 . rw [q1] at e; cases e
 have a2 := a2 hal
 subst a2
 rw [List.append_nil] at a1
 have hcs := cost_sizes k l
 have hmm := (h.mok zs[j] (List.getElem_mem hz))
 have hLiv := liv_write a4.ok logN (encode l)
 have hbx : batchX d zs[j].2 l = if (d.write logN (encode l)).1 ≠ 0 then ((d.write logN (encode l)).1, (d.write logN (encode l)).2, { zs[j].2 with stuck := (d.write logN (encode l)).1 == 3 }) else (0, (d.write logN (encode l)).2, { zs[j].2 with loose := true, m := doAll zs[j].2.m l }) := by
   unfold batchX
   rw [if_neg (by rw [hwr]; simp), if_neg (by rw [hl]; simp)]
 have hdi : ∀ d', Liv d d' -> _ := fun d' => died_is (k := sizesK k l) (d := d) (d' := d') h.dead h.armed
 rcases a4.write hal hl with ⟨e1, e2, e3, e4⟩ | ⟨e1, e2⟩ | ⟨e1, e2⟩
 . rw [if_neg (by rw [e1]; simp)] at hbx
   rw [hbx]
   generalize (d.write logN (encode l)).2 = d' at *
   obtain ⟨c1, c2, c3⟩ := hdi _ hLiv
   simp only
   have hk := diedK_eq (sizesK k l) d'
   generalize (diedK (sizesK k l) d').dead = D1 at *
   generalize (diedK (sizesK k l) d').armed = D2 at *
   rw [hk]
   refine ⟨by simp [endsB, c1, e2], by simp, ?_⟩
   have hck : cost { sizesK k l with dead := D1, armed := D2 } = cost k + wtL l := hcs
   refine h.next j hj hz hop hLiv (k' := batchK { sizesK k l with dead := D1, armed := D2 } j k.ones[j] l 0) (by simp [batchK, sizesK]) (by simpa [batchK] using c2) (by simpa [batchK] using c3) (by simp [batchK, sizesK]) (o' := { k.ones[j] with l := doAll k.ones[j].l l }) (by simp [batchK, sizesK]) rfl rfl rfl (by simp [q3]) q4 (fun _ => ?_) ?_ ?_ ?_ ?_ ?_ ?_
   . simp only [batchK, sizesK, if_true, List.flatten_append, List.flatten_cons, List.flatten_nil, List.append_nil, doAll_append]
     rw [q5]
   . exact hmm.1.doAll (batchOk_iff.1 hl).2
   . have h1 := wtM_doAll l zs[j].2.m
     have h2 := hmm.2
     show wtM (doAll zs[j].2.m l) <= cost (batchK _ j k.ones[j] l 0)
     have h3 : cost (batchK { sizesK k l with dead := D1, armed := D2 } j k.ones[j] l 0) = cost k + wtL l := by simpa [batchK, cost] using hck
     omega
   . intro b hb
     simp only [batchK, sizesK, if_true] at hb
     rcases List.mem_append.1 hb with hb | hb
     . exact h.good b hb
     . obtain rfl := List.mem_singleton.1 hb; exact hl
   . have h3 : cost (batchK { sizesK k l with dead := D1, armed := D2 } j k.ones[j] l 0) = cost k + wtL l := by simpa [batchK, cost] using hck
     rw [h3]
     simp only [batchK, sizesK, if_true, List.flatten_append, List.flatten_cons, List.flatten_nil, List.append_nil, wtL_append]
     have := h.wt
     omega
   . have h3 : cost (batchK { sizesK k l with dead := D1, armed := D2 } j k.ones[j] l 0) = cost k + wtL l := by simpa [batchK, cost] using hck
     omega
   . have h3 : cost (batchK { sizesK k l with dead := D1, armed := D2 } j k.ones[j] l 0) = cost k + wtL l := by simpa [batchK, cost] using hck
     refine .inl ⟨by simpa [batchK, sizesK] using q1, h0, bs ++ [l], [], xs, by simp [batchK, sizesK, a1], fun _ => rfl, a3, by rw [h3]; exact e3, by simpa [batchK, sizesK] using a5, ?_⟩
     intro i hi hi' ei
     have hi2 : i < k.ones.length := by simpa [batchK, sizesK] using hi
     have ei2 : k.ones[i].op = true := (ones_op (o' := { k.ones[j] with l := doAll k.ones[j].l l }) hj rfl (by simpa using hi2)).symm.trans ei
     have := h.last i hi2 ei2
     have := h.last j hj hop
     obtain rfl : i = j := by omega
     rw [List.getElem_set_self]
     exact ⟨fun e => (by cases e), fun _ => e4⟩
 . rw [e1] at hbx
   rw [if_pos (by simp)] at hbx
   rw [hbx]
   obtain ⟨c1, c2, c3⟩ := hdi _ (Liv.refl d)
   simp only
   have hk := diedK_eq (sizesK k l) d
   generalize (diedK (sizesK k l) d).dead = D1 at *
   generalize (diedK (sizesK k l) d).armed = D2 at *
   rw [hk]
   have hnr : roomyK (sizesK k l) = false := by
     unfold roomyK
     rw [decide_eq_false]
     have hqq : (sizesK k l).quota = k.quota := rfl
     have := h.quota
     have h9 : cost (sizesK k l) = (sizesK k l).bytes + 8 * (sizesK k l).ops := rfl
     omega
   refine ⟨by simp [endsB, c1, hal, hnr], by simp, ?_⟩
   have h3 : cost (batchK { sizesK k l with dead := D1, armed := D2 } j k.ones[j] l 3) = cost k + wtL l := by simpa [batchK, cost] using hcs
   refine h.next j hj hz hop (Liv.refl d) (k' := batchK { sizesK k l with dead := D1, armed := D2 } j k.ones[j] l 3) (by simp [batchK, sizesK]) (by simpa [batchK] using c2) (by simpa [batchK] using c3) (by simp [batchK, sizesK]) (o' := { k.ones[j] with stuck := true }) (by simp [batchK, sizesK]) rfl rfl rfl q3 rfl (fun _ => by simpa [batchK, sizesK] using q5) hmm.1 (by rw [h3]; have := hmm.2; show wtM zs[j].2.m <= _; omega) (by simpa [batchK, sizesK] using h.good) (by rw [h3]; simp only [batchK, sizesK]; have := h.wt; simp; omega) (by omega) ?_
   refine .inl ⟨by simpa [batchK, sizesK] using q1, h0, bs, [], xs, by simp [batchK, sizesK, a1], fun _ => rfl, a3, by rw [h3]; exact a4.more (by omega), by simpa [batchK, sizesK] using a5, ?_⟩
   intro i hi hi' ei
   have hi2 : i < k.ones.length := by simpa [batchK, sizesK] using hi
   have ei2 : k.ones[i].op = true := (ones_op (o' := { k.ones[j] with stuck := true }) hj rfl (by simpa using hi2)).symm.trans ei
   have := h.last i hi2 ei2
   have := h.last j hj hop
   obtain rfl : i = j := by omega
   rw [List.getElem_set_self]
   exact a6 i hj hz hop
 . rw [e1] at hbx
   rw [if_pos (by simp)] at hbx
   rw [hbx]
   rw [e1] at hLiv
   simp only at hLiv
   obtain ⟨c1, c2, c3⟩ := hdi _ hLiv
   simp only
   have hk := diedK_eq (sizesK k l) d.die
   generalize (diedK (sizesK k l) d.die).dead = D1 at *
   generalize (diedK (sizesK k l) d.die).armed = D2 at *
   rw [hk]
   refine ⟨by unfold endsB; rw [c1]; rfl, by simp, ?_⟩
   have h3 : cost (batchK { sizesK k l with dead := D1, armed := D2 } j k.ones[j] l 4) = cost k + wtL l := by simpa [batchK, cost] using hcs
   refine h.next j hj hz hop hLiv (k' := batchK { sizesK k l with dead := D1, armed := D2 } j k.ones[j] l 4) (by simp [batchK, sizesK]) (by simpa [batchK] using c2) (by simpa [batchK] using c3) (by simp [batchK, sizesK]) (o' := k.ones[j]) (by simp [batchK, sizesK]) rfl rfl rfl q3 (by simp [hst]) (fun e => by simp [Dk.die] at e) hmm.1 (by rw [h3]; have := hmm.2; show wtM zs[j].2.m <= _; omega) ?_ ?_ (by omega) ?_
   . intro b hb
     simp only [batchK, sizesK] at hb
     simp only [show ¬ (4 : Int) = 0 by decide, show ¬ (4 : Int) = 3 by decide, if_false, if_true] at hb
     rcases List.mem_append.1 hb with hb | hb
     . exact h.good b hb
     . obtain rfl := List.mem_singleton.1 hb; exact hl
   . rw [h3]
     simp only [batchK, sizesK]
     simp only [show ¬ (4 : Int) = 0 by decide, show ¬ (4 : Int) = 3 by decide, if_false, if_true, List.flatten_append, List.flatten_cons, List.flatten_nil, List.append_nil, wtL_append]
     have := h.wt
     omega
   . refine .inl ⟨by simpa [batchK, sizesK] using q1, h0, bs, [l], xs, by simp [batchK, sizesK, a1], fun e => by simp [Dk.die] at e, a3, by rw [h3]; exact e2.more (by omega), by simpa [batchK, sizesK] using a5, ?_⟩
     intro i hi hi' ei
     have hi2 : i < k.ones.length := by simpa [batchK, sizesK] using hi
     have ei2 : k.ones[i].op = true := by simpa [batchK, sizesK] using ei
     have := h.last i hi2 ei2
     have := h.last j hj hop
     obtain rfl : i = j := by omega
     rw [List.getElem_set_self]
     exact a6 i hj hz hop
end
section
variable {k : Kno} {d : Dk} {zs : List (Nat × St)}
def syncK (k : Kno) (e : Int) : Kno := if e = 0 then { k with safe := k.h.length } else k
theorem KInv.sync (h : KInv k d zs) (j : Nat) (hj : j < k.ones.length) (hz : j < zs.length) (hop : k.ones[j].op = true) (hal : d.dead = false) (hst : k.ones[j].stuck = false) :
   endsB k (syncX d zs[j].2).2.1 (syncX d zs[j].2).1 0 true = true /\ KInv (syncK (diedK k (syncX d zs[j].2).2.1) (syncX d zs[j].2).1) (syncX d zs[j].2).2.1 (zs.set j (zs[j].1, (syncX d zs[j].2).2.2)) := by
 obtain ⟨q1, q2, q3, q4, q5⟩ := h.open' j hj hz hop
 have q5 := q5 hal
 rcases h.phase with ⟨_, h0, bs, tl, xs, a1, a2, a3, a4, a5, a6⟩ | ⟨e, _⟩
 rotate_left
 . rw [q1] at e; cases e
 have a2 := a2 hal
 subst a2
 rw [List.append_nil] at a1
 obtain ⟨b1, b2⟩ := a6 j hj hz hop
 have hmm := (h.mok zs[j] (List.getElem_mem hz))
 have hdi : ∀ d', Liv d d' -> _ := fun d' => died_is (k := k) (d := d) (d' := d') h.dead h.armed
 have hself : ∀ (o : One), o = k.ones[j] -> k.ones = k.ones.set j o := fun o e => by rw [e]; simp
 cases hlo : zs[j].2.loose
 . have hbs := b1 hlo
   subst hbs
   rw [List.append_nil] at a1
   rw [syncX_tight hal q2 (by rw [q4]; exact hst) hlo]
   obtain ⟨c1, c2, c3⟩ := hdi _ (Liv.refl d)
   simp only
   have hk := diedK_eq k d
   generalize (diedK k d).dead = D1 at *
   generalize (diedK k d).armed = D2 at *
   rw [hk]
   refine ⟨by simp [endsB, c1, hal], ?_⟩
   refine h.next j hj hz hop (Liv.refl d) (k' := syncK { k with dead := D1, armed := D2 } 0) rfl c2 c3 rfl (o' := k.ones[j]) (hself _ rfl) rfl rfl rfl q3 q4 (fun _ => q5) hmm.1 hmm.2 h.good h.wt (Nat.le_refl _) ?_
   refine .inl ⟨q1, h0, [], [], xs, by simp [syncK, a1], fun _ => rfl, a3, a4, by simp [syncK, a1], ?_⟩
   intro i hi hi' ei
   have := h.last i hi ei
   have := h.last j hj hop
   obtain rfl : i = j := by omega
   rw [List.getElem_set_self]
   exact ⟨fun _ => rfl, b2⟩
 . have hLiv := liv_sync a4.ok logN
   rcases a4.sync hal (b2 hlo) with ⟨e1, e2, e3, e4⟩ | ⟨e1, e2⟩
   . rw [syncX_loose hal q2 (by rw [q4]; exact hst) hlo (d2 := (d.sync logN).2) (by rw [<- e1])]
     generalize (d.sync logN).2 = d' at *
     obtain ⟨c1, c2, c3⟩ := hdi _ hLiv
     simp only
     have hk := diedK_eq k d'
     generalize (diedK k d').dead = D1 at *
     generalize (diedK k d').armed = D2 at *
     rw [hk]
     refine ⟨by simp [endsB, c1, e2], ?_⟩
     refine h.next j hj hz hop hLiv (k' := syncK { k with dead := D1, armed := D2 } 0) rfl c2 c3 rfl (o' := k.ones[j]) (hself _ rfl) rfl rfl rfl q3 q4 (fun _ => q5) hmm.1 hmm.2 h.good h.wt (Nat.le_refl _) ?_
     refine .inl ⟨q1, h0 ++ bs, [], [], xs ++ bs, by simp [syncK, a1], fun _ => rfl, ?_, e3, by simp [syncK, a1], ?_⟩
     . rw [List.flatten_append, List.flatten_append, doAll_append, doAll_append, a3]
     . intro i hi hi' ei
       have := h.last i hi ei
       have := h.last j hj hop
       obtain rfl : i = j := by omega
       rw [List.getElem_set_self]
       exact ⟨fun _ => rfl, fun _ => e4⟩
   . have hx : syncX d zs[j].2 = (4, d.die, zs[j].2) := by
       unfold syncX
       rw [writable_open hal q2 (by rw [q4]; exact hst), e1]
       simp [hlo]
     rw [hx]
     rw [e1] at hLiv
     simp only at hLiv
     obtain ⟨c1, c2, c3⟩ := hdi _ hLiv
     simp only
     have hk := diedK_eq k d.die
     generalize (diedK k d.die).dead = D1 at *
     generalize (diedK k d.die).armed = D2 at *
     rw [hk]
     refine ⟨by unfold endsB; rw [c1]; rfl, ?_⟩
     refine h.next j hj hz hop hLiv (k' := syncK { k with dead := D1, armed := D2 } 4) rfl c2 c3 rfl (o' := k.ones[j]) (hself _ rfl) rfl rfl rfl q3 q4 (fun e => by cases e) hmm.1 hmm.2 h.good h.wt (Nat.le_refl _) ?_
     refine .inl ⟨q1, h0, bs, [], xs, by simp [syncK, a1], fun _ => rfl, a3, e2, a5, ?_⟩
     intro i hi hi' ei
     have := h.last i hi ei
     have := h.last j hj hop
     obtain rfl : i = j := by omega
     rw [List.getElem_set_self]
     exact a6 i hj hz hop
def fuseK (k : Kno) (n : Int) : Kno := if k.dead then k else { k with armed := decide (0 <= n) }
theorem KInv.fuse (h : KInv k d zs) (n : Int) (hn : n <= 9223372036854775807) : KInv (fuseK k n) (d.fuse n) zs := by
 have hok := (fuse_ok h.ok.1 n hn).1
 cases hd : d.dead
 . have hk : k.dead = false := by rw [h.dead]; exact hd
   have e1 : fuseK k n = { k with armed := decide (0 <= n) } := by simp [fuseK, hk]
   have e2 : d.fuse n = { d with left := max n (-1) } := by simp [Dk.fuse, hd]
   rw [e2] at hok
   rw [e1, e2]
   refine ⟨h.quota, h.turn0, by simp [hk, hd], fun _ => ?_, h.zlen, h.zat, h.last, h.good, h.wt, h.mok, h.shut, h.open', ?_⟩
   . simp only [decide_eq_true_eq]; omega
   . rcases h.phase with ⟨h1, h0, bs, tl, xs, a1, a2, a3, a4, a5, a6⟩ | ⟨h1, n', cs, p, a1, a2, a3, a4⟩
     . exact .inl ⟨h1, h0, bs, tl, xs, a1, a2, a3, a4.same hok rfl, a5, a6⟩
     . exact .inr ⟨h1, n', cs, p, a1, a2, a3, a4.same hok rfl⟩
 . have hk : k.dead = true := by rw [h.dead]; exact hd
   have e1 : fuseK k n = k := by simp [fuseK, hk]
   have e2 : d.fuse n = d := by simp [Dk.fuse, hd]
   rw [e1, e2]
   exact h
theorem closeK_op {i : Nat} (hi : i < (closeK k).ones.length) : (closeK k).ones[i].op = false := by simp [closeK, shutO]
theorem closeK_len : (closeK k).ones.length = k.ones.length := by simp [closeK]
theorem closeK_z {i : Nat} (hi : i < (closeK k).ones.length) : (closeK k).ones[i].z = (k.ones[i]'(by rw [<- closeK_len]; exact hi)).z := by simp [closeK, shutO]
theorem turn_le (h : KInv k d zs) (j : Nat) (hj : j < k.ones.length) (hz : j < zs.length) : zs[j].2.turn <= d.turn := by
 cases ho : k.ones[j].op
 . have := h.shut j hj hz ho; omega
 . have := (h.open' j hj hz ho).2.1; omega
theorem KInv.closed (h : KInv k d zs) {k' : Kno} {d' : Dk} (ht : d'.turn = d.turn + 1) (hq : k'.quota = d'.quota) (hd : k'.dead = d'.dead) (ha : d'.dead = false -> (k'.armed = true ↔ 0 <= d'.left)) (ho : k'.ones = (closeK k).ones) (hg : ∀ b ∈ k'.h, batchOk b = true) (hw : wtL k'.h.flatten <= cost k') (hc : cost k <= cost k') (hp : Phase k' d' zs) : KInv k' d' zs := by
 have hop : ∀ i (hi : i < k'.ones.length), k'.ones[i].op = false := fun i hi => by
   simp only [ho] at hi ⊢
   exact closeK_op hi
 have ht0 := h.turn0
 refine ⟨hq, by omega, hd, ha, by rw [ho, closeK_len]; exact h.zlen, ?_, fun i hi e => (by rw [hop i hi] at e; cases e), hg, hw, fun z hz => ⟨(h.mok z hz).1, Nat.le_trans (h.mok z hz).2 hc⟩, ?_, fun i hi _ e => (by rw [hop i hi] at e; cases e), hp⟩
 . intro i hi hi'
   simp only [ho] at hi ⊢
   rw [closeK_z hi]
   exact h.zat i (by rw [<- closeK_len]; exact hi) hi'
 . intro i hi hi' _
   have hi2 : i < k.ones.length := by rw [ho, closeK_len] at hi; exact hi
   have := turn_le h i hi2 hi'
   omega
theorem KInv.crash (h : KInv k d zs) (ks : List Int) (ht : d.turn <= 4611686018427387904) : KInv (crashK' k) (d.crash ks) zs := by
 have ht1 : (d.crash ks).turn = d.turn + 1 := by
   show Go.RowKit.wrap64 (d.turn + 1) = d.turn + 1
   have := h.turn0
   unfold wrap64; omega
 refine h.closed ht1 h.quota rfl (fun _ => ?_) rfl h.good h.wt (Nat.le_refl _) ?_
 . show (false = true) ↔ (0 : Int) <= -1
   simp
 . rcases h.phase with ⟨h1, h0, bs, tl, xs, a1, a2, a3, a4, a5, a6⟩ | ⟨h1, n', cs, p, a1, a2, a3, a4⟩
   . obtain ⟨n, p, hn, hB⟩ := a4.crash ks
     refine .inr ⟨rfl, h0.length + n, xs ++ bs.take n, p, Nat.le_trans a5 (Nat.le_add_right _ _), ?_, ?_, hB⟩
     . show _ <= k.h.length
       rw [a1]; simp; omega
     . show _ = doAll [] (k.h.take (h0.length + n)).flatten
       have e : (h0 ++ (bs ++ tl)).take (h0.length + n) = h0 ++ bs.take n := by rw [List.take_append, List.take_of_length_le (l := h0) (by omega), Nat.add_sub_cancel_left, List.take_append_of_le_length hn]
       rw [a1, List.append_assoc, e, List.flatten_append, List.flatten_append, doAll_append, doAll_append, a3]
   . exact .inr ⟨rfl, n', cs, p, a1, a2, a3, a4.crash ks⟩
theorem KInv.openNo (h : KInv k d zs) (hne : (openX d).1 ≠ 0) : endsB (closeK k) (openX d).2.1 (openX d).1 0 true = true /\ KInv (diedK (closeK k) (openX d).2.1) (openX d).2.1 zs := by
 have hck : cost (closeK k) = cost k := rfl
 cases hal : d.dead
 . have hdi : ∀ d', Liv (turned d) d' -> _ := fun d' => died_is (k := closeK k) (d := turned d) (d' := d') h.dead h.armed
   have hro : d.quota < 2 * cost k -> roomyK (closeK k) = false := fun hq => by
     unfold roomyK
     rw [decide_eq_false]
     have h1 : (closeK k).quota = k.quota := rfl
     have h2 : (closeK k).bytes = k.bytes := rfl
     have h3 : (closeK k).ops = k.ops := rfl
     have h4 := h.quota
     unfold cost at hq
     omega
   rcases h.phase with ⟨h1, h0, bs, tl, xs, a1, a2, a3, a4, a5, a6⟩ | ⟨h1, n', cs, p, a1, a2, a3, a4⟩
   . obtain ⟨hL, hor⟩ := a4.open hal
     rcases hor with ⟨e, _⟩ | ⟨e1, e2, e3⟩
     . exact absurd e hne
     . rw [e1]
       obtain ⟨c1, c2, c3⟩ := hdi _ hL
       have hk := diedK_eq (closeK k) (openX d).2.1
       generalize (openX d).2.1 = d' at *
       generalize (diedK (closeK k) d').dead = D1 at *
       generalize (diedK (closeK k) d').armed = D2 at *
       rw [hk]
       refine ⟨by simp [endsB, c1, e2], h.closed hL.turn (by rw [hL.quota]; exact h.quota) c2 c3 rfl h.good h.wt (Nat.le_refl _) (.inl ⟨h1, h0, bs, tl, xs, a1, fun e => (by rw [e2] at e; cases e), a3, e3, a5, fun i hi _ ei => ?_⟩)⟩
       rw [closeK_op hi] at ei; cases ei
   . have hC : wtM (doAll [] cs.flatten) <= cost k := by
       rw [a3]
       have h5 := wtM_doAll (k.h.take n').flatten []
       have h6 : wtL (k.h.take n').flatten <= wtL k.h.flatten := by
         conv => rhs; rw [<- List.take_append_drop n' k.h]
         rw [List.flatten_append, wtL_append]; omega
       have h7 := h.wt
       have h8 : wtM ([] : Mp) = 0 := rfl
       omega
     obtain ⟨hL, hor⟩ := a4.open hal hC
     rcases hor with ⟨e, _⟩ | ⟨e1, e2, e3, e4⟩ | ⟨e1, e2, e3⟩
     . exact absurd e hne
     . rw [e1]
       obtain ⟨c1, c2, c3⟩ := hdi _ hL
       have hk := diedK_eq (closeK k) (openX d).2.1
       generalize (openX d).2.1 = d' at *
       generalize (diedK (closeK k) d').dead = D1 at *
       generalize (diedK (closeK k) d').armed = D2 at *
       rw [hk]
       exact ⟨by simp [endsB, c1, e2, hro e4], h.closed hL.turn (by rw [hL.quota]; exact h.quota) c2 c3 rfl h.good h.wt (Nat.le_refl _) (.inr ⟨h1, n', cs, p, a1, a2, a3, e3⟩)⟩
     . rw [e1]
       obtain ⟨c1, c2, c3⟩ := hdi _ hL
       have hk := diedK_eq (closeK k) (openX d).2.1
       generalize (openX d).2.1 = d' at *
       generalize (diedK (closeK k) d').dead = D1 at *
       generalize (diedK (closeK k) d').armed = D2 at *
       rw [hk]
       exact ⟨by simp [endsB, c1, e2], h.closed hL.turn (by rw [hL.quota]; exact h.quota) c2 c3 rfl h.good h.wt (Nat.le_refl _) (.inr ⟨h1, n', cs, p, a1, a2, a3, e3⟩)⟩
 . rw [openX_dead hal]
   simp only
   have hdk : (closeK k).dead = true := by show k.dead = true; rw [h.dead]; exact hal
   have e1 : diedK (closeK k) (turned d) = closeK k := by simp [diedK, hdk]
   have e2 : diedB (closeK k) (turned d) = true := by simp [diedB, hdk]
   rw [e1]
   refine ⟨by simp [endsB, e2], h.closed rfl h.quota h.dead h.armed rfl h.good h.wt (Nat.le_refl _) ?_⟩
   rcases h.phase with ⟨h1, h0, bs, tl, xs, a1, a2, a3, a4, a5, a6⟩ | ⟨h1, n', cs, p, a1, a2, a3, a4⟩
   . refine .inl ⟨h1, h0, bs, tl, xs, a1, a2, a3, a4.same (turned_ok a4.ok) rfl, a5, fun i hi _ ei => ?_⟩
     rw [closeK_op hi] at ei; cases ei
   . exact .inr ⟨h1, n', cs, p, a1, a2, a3, a4.same (turned_ok a4.ok) rfl⟩
def openK (k : Kno) (o : One) (n : Nat) : Kno := { k with h := k.h.take n, safe := n, crashed := false, ones := k.ones ++ [o] }
theorem KInv.openOk (h : KInv k d zs) (h0 : (openX d).1 = 0) : endsB (closeK k) (openX d).2.1 0 0 true = true /\ (openX d).2.1.dead = false /\
   (∃ n, k.safe <= n /\ n <= k.h.length /\ (openX d).2.2 = doAll [] (k.h.take n).flatten /\ (k.crashed = false -> n = k.h.length)) /\ MOk (openX d).2.2 /\ wtM (openX d).2.2 <= cost k /\
   ∀ n, k.safe <= n -> n <= k.h.length -> (openX d).2.2 = doAll [] (k.h.take n).flatten -> ∀ o : One, o.op = true -> o.stuck = false -> o.l = (openX d).2.2 ->
     KInv (openK (diedK (closeK k) (openX d).2.1) o n) (openX d).2.1 (zs ++ [(o.z, ⟨d.turn + 1, (openX d).2.2, false, false⟩)]) := by
 have hal : d.dead = false := by
   cases e : d.dead
   . rfl
   . rw [openX_dead e] at h0; cases h0
 have hdi : ∀ d', Liv (turned d) d' -> _ := fun d' => died_is (k := closeK k) (d := turned d) (d' := d') h.dead h.armed
 have hwn : ∀ n, wtL (k.h.take n).flatten <= cost k := fun n => by
   have h6 : wtL (k.h.take n).flatten <= wtL k.h.flatten := by
     conv => rhs; rw [<- List.take_append_drop n k.h]
     rw [List.flatten_append, wtL_append]; omega
   have h7 := h.wt
   omega
 have hmn : ∀ n, MOk (doAll [] (k.h.take n).flatten) /\ wtM (doAll [] (k.h.take n).flatten) <= cost k := fun n => by
   refine ⟨MOk.nil.doAll (flatten_ok (fun b hb => h.good b (List.mem_of_mem_take hb))), ?_⟩
   have h5 := wtM_doAll (k.h.take n).flatten []
   have h6 := hwn n
   have h8 : wtM ([] : Mp) = 0 := rfl
   omega
 have key : Liv (turned d) (openX d).2.1 /\ (openX d).2.1.dead = false /\ (∃ n, k.safe <= n /\ n <= k.h.length /\ (openX d).2.2 = doAll [] (k.h.take n).flatten /\ (k.crashed = false -> n = k.h.length)) /\ ∃ xs, doAll [] xs.flatten = (openX d).2.2 /\ LA (openX d).2.1 (cost k) xs [] := by
   rcases h.phase with ⟨h1, hh, bs, tl, xs, a1, a2, a3, a4, a5, a6⟩ | ⟨h1, n', cs, p, a1, a2, a3, a4⟩
   . have a2 := a2 hal
     subst a2
     rw [List.append_nil] at a1
     obtain ⟨hL, hor⟩ := a4.open hal
     rcases hor with ⟨_, e2, e3, e4⟩ | ⟨e, _⟩
     . have hE : (openX d).2.2 = doAll [] k.h.flatten := by rw [e3, a1, List.flatten_append, List.flatten_append, doAll_append, doAll_append, a3]
       refine ⟨hL, e2, ⟨k.h.length, ?_, Nat.le_refl _, ?_, fun _ => rfl⟩, xs ++ bs, e3.symm, e4⟩
       . rw [a1, List.length_append]; omega
       . rw [hE, List.take_length]
     . rw [h0] at e; cases e
   . obtain ⟨hL, hor⟩ := a4.open hal (by rw [a3]; exact (hmn n').2)
     rcases hor with ⟨_, e2, e3, xs, e4, e5⟩ | ⟨e, _⟩ | ⟨e, _⟩
     . exact ⟨hL, e2, ⟨n', a1, a2, by rw [e3, a3], fun e => by rw [h1] at e; cases e⟩, xs, by rw [e4, e3], e5⟩
     . rw [h0] at e; cases e
     . rw [h0] at e; cases e
 obtain ⟨hL, hd', ⟨n0, m1, m2, m3, m4⟩, xs, x1, x2⟩ := key
 obtain ⟨c1, c2, c3⟩ := hdi _ hL
 have hk := diedK_eq (closeK k) (openX d).2.1
 generalize (openX d).2.1 = d' at *
 generalize (openX d).2.2 = M at *
 generalize (diedK (closeK k) d').dead = D1 at *
 generalize (diedK (closeK k) d').armed = D2 at *
 rw [hk]
 have hMm := hmn n0
 rw [<- m3] at hMm
 refine ⟨by simp [endsB, c1, hd'], hd', ⟨n0, m1, m2, m3, m4⟩, hMm.1, hMm.2, ?_⟩
 intro n n1 n2 n3 o o1 o2 o3
 have hlen : (closeK k).ones.length = k.ones.length := closeK_len
 have hzl := h.zlen
 have ht0 := h.turn0
 have htd : d'.turn = d.turn + 1 := hL.turn
 have hat : ∀ i (hi : i < ((closeK k).ones ++ [o]).length), (i < k.ones.length /\ ((closeK k).ones ++ [o])[i].op = false) \/ (i = k.ones.length /\ ((closeK k).ones ++ [o])[i] = o) := fun i hi => by
   by_cases hlt : i < k.ones.length
   . exact .inl ⟨hlt, by rw [List.getElem_append_left (by rw [hlen]; exact hlt)]; exact closeK_op _⟩
   . have hi2 : i = k.ones.length := by simp [hlen] at hi; omega
     subst hi2
     exact .inr ⟨rfl, by rw [List.getElem_append_right (by rw [hlen]; exact Nat.le_refl _)]; simp [hlen]⟩
 have hwt : wtL ((k.h.take n).flatten) <= cost k := hwn n
 refine ⟨by show k.quota = d'.quota; rw [hL.quota]; exact h.quota, by omega, c2, c3, ?_, ?_, ?_, ?_, hwt, ?_, ?_, ?_, ?_⟩
 . show (zs ++ [_]).length = ((closeK k).ones ++ [o]).length
   simp [hlen, hzl]
 . intro i hi hi'
   rcases hat i hi with ⟨hlt, _⟩ | ⟨rfl, e⟩
   . have hi9 : i < ((closeK k).ones ++ [o]).length := hi
     have e1 : (((closeK k).ones ++ [o])[i]'hi9).z = k.ones[i].z := by rw [List.getElem_append_left (by rw [hlen]; exact hlt), closeK_z]
     refine Eq.trans ?_ e1.symm
     rw [List.getElem_append_left (by omega)]
     exact h.zat i hlt (by omega)
   . refine Eq.trans ?_ (congrArg One.z e).symm
     rw [List.getElem_append_right (by omega)]
     simp [hzl]
 . intro i hi ei
   show i + 1 = ((closeK k).ones ++ [o]).length
   rcases hat i hi with ⟨_, e⟩ | ⟨rfl, _⟩
   . have := e.symm.trans ei; cases this
   . simp [hlen]
 . intro b hb
   exact h.good b (List.mem_of_mem_take hb)
 . intro z hz
   rcases List.mem_append.1 hz with hz | hz
   . exact h.mok z hz
   . obtain rfl := List.mem_singleton.1 hz
     exact ⟨hMm.1, hMm.2⟩
 . intro i hi hi' ei
   rcases hat i hi with ⟨hlt, _⟩ | ⟨rfl, e⟩
   . rw [List.getElem_append_left (by omega)]
     have := turn_le h i hlt (by omega)
     omega
   . have e9 : o.op = false := by rw [<- e]; exact ei
     rw [o1] at e9; cases e9
 . intro i hi hi' ei
   rcases hat i hi with ⟨_, e⟩ | ⟨rfl, e⟩
   . have := e.symm.trans ei; cases this
   . have e9 : (openK { closeK k with dead := D1, armed := D2 } o n).ones[k.ones.length] = o := e
     rw [e9, List.getElem_append_right (by omega)]
     simp only [hzl, Nat.sub_self, List.getElem_cons_zero]
     exact ⟨rfl, htd.symm, o3.symm, o2.symm, fun _ => o3.trans n3⟩
 . refine .inl ⟨rfl, k.h.take n, [], [], xs, by simp [openK, closeK], fun _ => rfl, x1.trans n3, x2, by simp only [openK, List.length_take]; omega, ?_⟩
   intro i hi hi' ei
   rcases hat i hi with ⟨_, e⟩ | ⟨rfl, e⟩
   . have := e.symm.trans ei; cases this
   . rw [List.getElem_append_right (by omega)]
     simp [hzl]
end
end Go.Proofs.YtfghgmojnffgnaaGreat
