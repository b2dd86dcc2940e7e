import Derived.Test.YtfghgmojnffgnaaGreatPkAO
set_option maxHeartbeats 4000000
set_option maxRecDepth 20000
namespace Go.Proofs.YtfghgmojnffgnaaGreat
open Go.RowKit Go.Maps Go.Sort
def wt (o : Ox) : Nat := 8 + o.key.length + o.val.length
def wtL (l : List Ox) : Nat := (l.map wt).sum
def wtM (m : Mp) : Nat := (m.map fun x => 8 + x.1.length + x.2.length).sum
theorem wtL_cons (o : Ox) (l : List Ox) : wtL (o :: l) = wt o + wtL l := by simp [wtL]
theorem wtL_append (a b : List Ox) : wtL (a ++ b) = wtL a + wtL b := by simp [wtL]
theorem encOp_wt (o : Ox) : (encOp o).length + 6 <= wt o := by
 unfold encOp wt
 split
 . simp only [List.length_cons]; omega
 . simp only [List.length_cons, List.length_append]; omega
theorem encBody_wt : ∀ l : List Ox, (encBody l).length + 6 * l.length <= wtL l
 | [] => by simp [encBody, wtL]
 | o :: r => by
   have h1 := encBody_wt r
   have h2 := encOp_wt o
   have e : encBody (o :: r) = encOp o ++ encBody r := by simp [encBody]
   rw [e, wtL_cons, List.length_append, List.length_cons]
   omega
theorem enc_wt {l : List Ox} (h : batchOk l = true) : (encode l).length <= wtL l := by
 have h1 := (batchOk_iff.1 h).1
 have h2 := encBody_wt l
 rw [encode_len]
 omega
theorem log_wt : ∀ {cs : List (List Ox)}, (∀ b ∈ cs, batchOk b = true) -> (logOf cs).length <= wtL cs.flatten
 | [], _ => by simp [logOf]
 | b :: cs, h => by
   have h1 := log_wt (cs := cs) (fun x hx => h x (List.mem_cons_of_mem _ hx))
   have h2 := enc_wt (h b (by simp))
   rw [logOf_cons, List.flatten_cons, List.length_append, wtL_append]
   omega
theorem wtM_del (n : Nm) : ∀ m : Mp, wtM (del n m) <= wtM m
 | [] => by simp [del, wtM]
 | x :: r => by
   have h := wtM_del n r
   unfold del wtM at h ⊢
   rw [List.filter_cons]
   split
   . simp only [List.map_cons, List.sum_cons]; omega
   . simp only [List.map_cons, List.sum_cons]; omega
theorem wtM_ins (x : Nm × Nm) (m : Mp) : wtM (ins x m) = 8 + x.1.length + x.2.length + wtM m := by
 unfold wtM
 rw [((ins_perm x m).map _).sum_nat]
 simp
theorem wtM_doOp (m : Mp) (o : Ox) : wtM (doOp m o) <= wtM m + wt o := by
 have h := wtM_del o.key m
 unfold doOp
 split
 . omega
 . rw [wtM_ins]; unfold wt; simp only; omega
theorem wtM_doAll : ∀ (l : List Ox) (m : Mp), wtM (doAll m l) <= wtM m + wtL l
 | [], m => by simp [doAll]
 | o :: r, m => by
   have h1 := wtM_doAll r (doOp m o)
   have h2 := wtM_doOp m o
   show wtM (doAll (doOp m o) r) <= _
   rw [wtL_cons]
   omega
theorem wtL_opsOf (m : Mp) : wtL (opsOf m) = wtM m := by
 unfold wtL wtM opsOf
 rw [List.map_map]
 rfl
structure Liv (d d' : Dk) : Prop where
 turn : d'.turn = d.turn
 quota : d'.quota = d.quota
 fuse : d'.dead = false -> (0 <= d'.left ↔ 0 <= d.left)
 die : d'.dead = true -> 0 <= d.left \/ d.dead = true
 dead : d.dead = true -> d'.dead = true
theorem Liv.refl (d : Dk) : Liv d d := ⟨rfl, rfl, fun _ => Iff.rfl, fun h => .inr h, id⟩
theorem Liv.trans {a b c : Dk} (h : Liv a b) (k : Liv b c) : Liv a c := by
 refine ⟨k.turn.trans h.turn, k.quota.trans h.quota, fun hc => ?_, fun hc => ?_, fun ha => k.dead (h.dead ha)⟩
 . have hb : b.dead = false := by
     cases hb : b.dead
     . rfl
     . rw [k.dead hb] at hc; cases hc
   exact (k.fuse hc).trans (h.fuse hb)
 . rcases k.die hc with e | e
   . cases hb : b.dead
     . exact .inl ((h.fuse hb).1 e)
     . exact h.die hb
   . exact h.die e
theorem liv_die {d : Dk} (h : d.left = 0) : Liv d d.die := ⟨rfl, rfl, fun h => (by cases h), fun _ => .inl (by omega), fun _ => rfl⟩
theorem liv_burn {d : Dk} (h0 : -1 <= d.left) (h : d.left ≠ 0) (fs : List (Nm × Fl)) : Liv d { d.burn with files := fs } :=
 ⟨rfl, rfl, fun _ => by show 0 <= max (d.left - 1) (-1) ↔ _; omega, fun h => .inr h, id⟩
theorem liv_write {d : Dk} (h : d.Ok) (n : Nm) (c : List UInt8) : Liv d (d.write n c).2 := by
 unfold Dk.write
 split
 . exact Liv.refl d
 split
 . exact Liv.refl d
 split
 . exact Liv.refl d
 split
 . rename_i h1; exact liv_die h1
 . rename_i h1; exact liv_burn h.left0 h1 _
theorem liv_sync {d : Dk} (h : d.Ok) (n : Nm) : Liv d (d.sync n).2 := by
 unfold Dk.sync
 split
 . exact Liv.refl d
 split
 . exact Liv.refl d
 split
 . rename_i h1; exact liv_die h1
 . rename_i h1; exact liv_burn h.left0 h1 _
theorem liv_remove {d : Dk} (h : d.Ok) (n : Nm) : Liv d (d.remove n).2 := by
 unfold Dk.remove
 split
 . exact Liv.refl d
 split
 . exact Liv.refl d
 split
 . rename_i h1; exact liv_die h1
 . rename_i h1; exact liv_burn h.left0 h1 _
theorem liv_rename {d : Dk} (h : d.Ok) (n m : Nm) : Liv d (d.rename n m).2 := by
 unfold Dk.rename
 split
 . exact Liv.refl d
 split
 . exact Liv.refl d
 split
 . exact Liv.refl d
 split
 . rename_i h1; exact liv_die h1
 . rename_i h1; exact liv_burn h.left0 h1 _
theorem liv_put : ∀ (bs : List (List Ox)) {d : Dk}, d.Ok -> Liv d (putAll d bs).2 /\ (putAll d bs).2.Ok
 | [], d, h => ⟨Liv.refl d, h⟩
 | b :: r, d, h => by
   have h1 := liv_write h newN (encode b)
   have o1 := (write_ok h newN (encode b)).1
   simp only [putAll]
   split
   . obtain ⟨h2, o2⟩ := liv_put r o1
     exact ⟨h1.trans h2, o2⟩
   . exact ⟨h1, o1⟩
theorem liv_beg {d : Dk} (h : d.Ok) (bs : List (List Ox)) : Liv d (begW d bs).2 /\ (begW d bs).2.Ok := by
 have h1 := liv_write h newN []
 have o1 := (write_ok h newN []).1
 unfold begW
 split
 . obtain ⟨h2, o2⟩ := liv_put bs o1
   unfold midW
   split
   . have h3 := liv_sync o2 newN
     have o3 := (sync_ok o2 newN).1
     unfold finW
     split
     . exact ⟨h1.trans (h2.trans (h3.trans (liv_rename o3 newN logN))), (rename_ok o3 newN logN).1⟩
     . exact ⟨h1.trans (h2.trans h3), o3⟩
   . exact ⟨h1.trans h2, o2⟩
 . exact ⟨h1, o1⟩
theorem liv_rewrite {d : Dk} (h : d.Ok) (m : Mp) : Liv d (rewriteX d m).2 /\ (rewriteX d m).2.Ok := by
 have h1 := liv_remove h newN
 have o1 := (remove_ok h newN).1
 obtain ⟨h2, o2⟩ := liv_beg o1 (chunksOf (opsOf m))
 exact ⟨h1.trans (h2.trans (liv_remove o2 newN)), (remove_ok o2 newN).1⟩
structure Pg (g : Option Fl) (d : Dk) : Prop where
 ok : d.Ok
 ours : ∀ x ∈ d.files, oursB x.1 = true
 log : getF logN d.files = g
theorem Pg.same {g : Option Fl} {d d' : Dk} (h : Pg g d) (hok : d'.Ok) (hf : d'.files = d.files) : Pg g d' := ⟨hok, by rw [hf]; exact h.ours, by rw [hf]; exact h.log⟩
theorem no_files {fs : List (Nm × Fl)} (h : ∀ x ∈ fs, oursB x.1 = true) (h1 : getF logN fs = none) (h2 : getF newN fs = none) : fs = [] := by
 cases fs with
 | nil => rfl
 | cons x r =>
   have := h x (by simp)
   simp only [oursB, Bool.or_eq_true, beq_iff_eq] at this
   rcases this with e | e
   . simp [getF, e] at h1
   . simp [getF, e] at h2
def lenF (g : Option Fl) : Nat := (g.map (·.bytes.length)).getD 0
theorem Pg.only {g : Option Fl} {d : Dk} (h : Pg g d) (hn : getF newN d.files = none) : used d.files = lenF g := by
 cases hg : g with
 | none =>
   have hl := h.log
   rw [hg] at hl
   rw [no_files h.ours hl hn]; rfl
 | some f =>
   have hl := h.log
   rw [hg] at hl
   have h1 := used_del h.ok.rise hl
   have h2 : del logN d.files = [] := no_files (fun x hx => h.ours x (mem_del hx)) (getF_del _ _) (by rw [getF_del_ne log_new]; exact hn)
   rw [h2] at h1
   simp only [lenF, Option.map_some, Option.getD_some]
   rw [<- h1]; simp [used]
theorem Pg.write {g : Option Fl} {d : Dk} (h : Pg g d) (ha : d.dead = false) (c : List UInt8) :
   Pg g (d.write newN c).2 /\ used (d.write newN c).2.files <= used d.files + c.length /\
   (((d.write newN c).1 = 0 /\ (d.write newN c).2.dead = false /\ ∃ f, getF newN (d.write newN c).2.files = some f /\ f.bytes = ((getF newN d.files).map (·.bytes)).getD [] ++ c) \/ ((d.write newN c).1 = 3 /\ (d.write newN c).2.dead = false /\ d.quota < used d.files + c.length) \/ ((d.write newN c).1 = 4 /\ (d.write newN c).2.dead = true)) := by
 by_cases hr : d.quota < used d.files + c.length
 . have e : d.write newN c = (3, d) := by
     unfold Dk.write
     rw [if_neg (by simp [ha]), if_neg (by simp [newName]), if_pos hr]
   rw [e]
   exact ⟨h, Nat.le_add_right _ _, .inr (.inl ⟨rfl, ha, hr⟩)⟩
 have hk := (write_ok h.ok newN c).1
 unfold Dk.write at hk ⊢
 rw [if_neg (by simp [ha]), if_neg (by simp [newName]), if_neg hr] at hk ⊢
 by_cases hl : d.left = 0
 . rw [if_pos hl] at hk ⊢
   exact ⟨h.same h.ok.die rfl, Nat.le_add_right _ _, .inr (.inr ⟨rfl, rfl⟩)⟩
 rw [if_neg hl] at hk ⊢
 cases hg : getF newN d.files with
 | none =>
   rw [hg] at hk
   simp only [Option.isSome_none, Bool.false_eq_true, if_false] at hk ⊢
   refine ⟨⟨hk, fun x hx => ?_, ?_⟩, ?_, .inl ⟨(by trivial), ha, ⟨c, 0⟩, getF_ins h.ok.rise hg, by simp⟩⟩
   . rcases mem_ins.1 hx with rfl | hx
     . show oursB newN = true; decide
     . exact h.ours x hx
   . show getF logN (ins (newN, _) d.files) = g
     rw [getF_ins_ne new_log]; exact h.log
   . show used (ins (newN, _) d.files) <= _
     rw [used_ins]; exact Nat.le_refl _
 | some f =>
   rw [hg] at hk
   simp only [Option.isSome_some, if_true] at hk ⊢
   refine ⟨⟨hk, fun x hx => ?_, ?_⟩, ?_, .inl ⟨(by trivial), ha, addB c f, ?_, by simp [addB]⟩⟩
   . obtain ⟨y, hy, e, _⟩ := mem_upd hx
     rw [e]; exact h.ours y hy
   . show getF logN (upd newN _ d.files) = g
     rw [getF_upd_ne new_log]; exact h.log
   . show used (upd newN (addB c) d.files) <= _
     have := used_upd h.ok.rise hg (addB c)
     simp only [addB, List.length_append] at this ⊢
     omega
   . show getF newN (upd newN (addB c) d.files) = _
     rw [getF_upd, hg]; rfl
theorem Pg.remove {g : Option Fl} {d : Dk} (h : Pg g d) (ha : d.dead = false) :
   Pg g (d.remove newN).2 /\ used (d.remove newN).2.files <= used d.files /\ (((d.remove newN).2.dead = false /\ getF newN (d.remove newN).2.files = none) \/ (d.remove newN).2.dead = true) := by
 have hk := (remove_ok h.ok newN).1
 unfold Dk.remove at hk ⊢
 rw [if_neg (by simp [ha])] at hk ⊢
 cases hg : getF newN d.files with
 | none =>
   rw [hg, Option.isNone_none, if_pos rfl] at hk
   rw [Option.isNone_none, if_pos rfl]
   exact ⟨h, Nat.le_refl _, .inl ⟨ha, hg⟩⟩
 | some f =>
   rw [hg, Option.isNone_some, if_neg (by simp)] at hk
   rw [Option.isNone_some, if_neg (by simp)]
   by_cases hl : d.left = 0
   . rw [if_pos hl]; exact ⟨h.same h.ok.die rfl, Nat.le_refl _, .inr rfl⟩
   rw [if_neg hl] at hk ⊢
   refine ⟨⟨hk, fun x hx => h.ours x (mem_del hx), ?_⟩, ?_, .inl ⟨ha, getF_del _ _⟩⟩
   . show getF logN (del newN d.files) = g
     rw [getF_del_ne new_log]; exact h.log
   . show used (del newN d.files) <= _
     have := used_del h.ok.rise hg
     omega
theorem Pg.sync {g : Option Fl} {d : Dk} (h : Pg g d) (ha : d.dead = false) {f : Fl} (hf : getF newN d.files = some f) :
   Pg g (d.sync newN).2 /\ used (d.sync newN).2.files = used d.files /\ (((d.sync newN).1 = 0 /\ (d.sync newN).2.dead = false /\ getF newN (d.sync newN).2.files = some (allSafe f)) \/ ((d.sync newN).1 = 4 /\ (d.sync newN).2.dead = true)) := by
 have hk := (sync_ok h.ok newN).1
 unfold Dk.sync at hk ⊢
 rw [if_neg (by simp [ha]), hf, Option.isNone_some, if_neg (by simp)] at hk ⊢
 by_cases hl : d.left = 0
 . rw [if_pos hl]; exact ⟨h.same h.ok.die rfl, rfl, .inr ⟨rfl, rfl⟩⟩
 rw [if_neg hl] at hk ⊢
 refine ⟨⟨hk, fun x hx => ?_, ?_⟩, ?_, .inl ⟨rfl, ha, ?_⟩⟩
 . obtain ⟨y, hy, e, _⟩ := mem_upd hx
   rw [e]; exact h.ours y hy
 . show getF logN (upd newN _ d.files) = g
   rw [getF_upd_ne new_log]; exact h.log
 . show used (upd newN allSafe d.files) = _
   have := used_upd h.ok.rise hf allSafe
   simp only [allSafe] at this ⊢
   omega
 . show getF newN (upd newN allSafe d.files) = _
   rw [getF_upd, hf]; rfl
theorem Pg.rename {g : Option Fl} {d : Dk} (h : Pg g d) (ha : d.dead = false) {f : Fl} (hf : getF newN d.files = some f) :
   (((d.rename newN logN).1 = 0 /\ (d.rename newN logN).2.dead = false /\ Pg (some f) (d.rename newN logN).2 /\ getF newN (d.rename newN logN).2.files = none) \/ ((d.rename newN logN).1 = 4 /\ (d.rename newN logN).2.dead = true /\ Pg g (d.rename newN logN).2)) := by
 have hk := (rename_ok h.ok newN logN).1
 unfold Dk.rename at hk ⊢
 rw [if_neg (by simp [ha]), if_neg (by simp [logName]), hf] at hk ⊢
 simp only at hk ⊢
 by_cases hl : d.left = 0
 . rw [if_pos hl]; exact .inr ⟨rfl, rfl, h.same h.ok.die rfl⟩
 rw [if_neg hl] at hk ⊢
 have hmv : moved newN logN f d.files = ins (logN, f) (del logN (del newN d.files)) := by unfold moved; rw [if_neg log_new]
 rw [hmv] at hk ⊢
 have hr : rising (del logN (del newN d.files)) := rising_del (rising_del h.ok.rise)
 refine .inl ⟨rfl, ha, ⟨hk, fun x hx => ?_, ?_⟩, ?_⟩
 . rcases mem_ins.1 hx with rfl | hx
   . show oursB logN = true; decide
   . exact h.ours x (mem_del (mem_del hx))
 . exact getF_ins hr (getF_del _ _)
 . show getF newN (ins (logN, f) (del logN (del newN d.files))) = none
   rw [getF_ins_ne log_new, getF_del_ne log_new, getF_del]
theorem Pg.put {g : Option Fl} : ∀ (bs : List (List Ox)) {d : Dk} {f : Fl}, Pg g d -> d.dead = false -> getF newN d.files = some f ->
   Pg g (putAll d bs).2 /\ used (putAll d bs).2.files <= used d.files + (logOf bs).length /\
   (((putAll d bs).1 = 0 /\ (putAll d bs).2.dead = false /\ ∃ f', getF newN (putAll d bs).2.files = some f' /\ f'.bytes = f.bytes ++ logOf bs) \/ ((putAll d bs).1 = 3 /\ (putAll d bs).2.dead = false /\ d.quota < used d.files + (logOf bs).length) \/ ((putAll d bs).1 = 4 /\ (putAll d bs).2.dead = true))
 | [], d, f, h, ha, hf => ⟨h, Nat.le_add_right _ _, .inl ⟨rfl, ha, f, hf, by simp [logOf]⟩⟩
 | b :: r, d, f, h, ha, hf => by
   obtain ⟨h1, u1, k1⟩ := h.write ha (encode b)
   have q1 := (liv_write h.ok newN (encode b)).quota
   rw [logOf_cons, List.length_append]
   simp only [putAll]
   rcases k1 with ⟨e1, a1, f1, g1, b1⟩ | ⟨e1, a1, l1⟩ | ⟨e1, a1⟩
   . rw [if_pos e1]
     rw [hf] at b1
     simp only [Option.map_some, Option.getD_some] at b1
     obtain ⟨h2, u2, k2⟩ := Pg.put r h1 a1 g1
     refine ⟨h2, by omega, ?_⟩
     rcases k2 with ⟨e2, a2, f2, g2, b2⟩ | ⟨e2, a2, l2⟩ | k2
     . exact .inl ⟨e2, a2, f2, g2, by rw [b2, b1, List.append_assoc]⟩
     . exact .inr (.inl ⟨e2, a2, by rw [q1] at l2; omega⟩)
     . exact .inr (.inr k2)
   . rw [if_neg (by rw [e1]; decide)]
     exact ⟨h1, by omega, .inr (.inl ⟨e1, a1, by omega⟩)⟩
   . rw [if_neg (by rw [e1]; decide)]
     exact ⟨h1, by omega, .inr (.inr ⟨e1, a1⟩)⟩
theorem Pg.beg {g : Option Fl} {d : Dk} (h : Pg g d) (ha : d.dead = false) (hn : getF newN d.files = none) (bs : List (List Ox)) :
   used (begW d bs).2.files <= used d.files + (logOf bs).length /\
   (((begW d bs).1 = 0 /\ (begW d bs).2.dead = false /\ getF newN (begW d bs).2.files = none /\ ∃ f, Pg (some f) (begW d bs).2 /\ f.bytes = logOf bs /\ f.safe = f.bytes.length) \/ ((begW d bs).1 = 3 /\ (begW d bs).2.dead = false /\ Pg g (begW d bs).2 /\ d.quota < used d.files + (logOf bs).length) \/ ((begW d bs).2.dead = true /\ Pg g (begW d bs).2)) := by
 obtain ⟨h1, u1, k1⟩ := h.write ha []
 have q1 := (liv_write h.ok newN []).quota
 simp only [List.length_nil, Nat.add_zero] at u1 k1
 unfold begW
 rcases k1 with ⟨e1, a1, f1, g1, b1⟩ | ⟨e1, a1, l1⟩ | ⟨e1, a1⟩
 . rw [if_pos e1]
   rw [hn] at b1
   simp only [Option.map_none, Option.getD_none, List.append_nil] at b1
   obtain ⟨h2, u2, k2⟩ := Pg.put bs h1 a1 g1
   unfold midW
   rcases k2 with ⟨e2, a2, f2, g2, b2⟩ | ⟨e2, a2, l2⟩ | ⟨e2, a2⟩
   . rw [if_pos e2]
     obtain ⟨h3, u3, k3⟩ := h2.sync a2 g2
     unfold finW
     rcases k3 with ⟨e3, a3, g3⟩ | ⟨e3, a3⟩
     . rw [if_pos e3]
       have k4 := h3.rename a3 g3
       have u4 := rename_used h3.ok a3 g3
       refine ⟨by omega, ?_⟩
       rcases k4 with ⟨e4, a4, p4, n4⟩ | ⟨_, a4, p4⟩
       . refine .inl ⟨e4, a4, n4, _, p4, ?_, rfl⟩
         show f2.bytes = _
         rw [b2, b1]; rfl
       . exact .inr (.inr ⟨a4, p4⟩)
     . rw [if_neg (by rw [e3]; decide)]
       exact ⟨by omega, .inr (.inr ⟨a3, h3⟩)⟩
   . rw [if_neg (by rw [e2]; decide)]
     exact ⟨by omega, .inr (.inl ⟨e2, a2, h2, by rw [q1] at l2; omega⟩)⟩
   . rw [if_neg (by rw [e2]; decide)]
     exact ⟨by omega, .inr (.inr ⟨a2, h2⟩)⟩
 . rw [if_neg (by rw [e1]; decide)]
   exact ⟨by omega, .inr (.inl ⟨e1, a1, h1, by omega⟩)⟩
 . rw [if_neg (by rw [e1]; decide)]
   exact ⟨by omega, .inr (.inr ⟨a1, h1⟩)⟩
theorem Pg.rewrite {g : Option Fl} {d : Dk} (h : Pg g d) (ha : d.dead = false) (m : Mp) :
   used (rewriteX d m).2.files <= max (used d.files) (lenF g + (logOf (chunksOf (opsOf m))).length) /\
   (((rewriteX d m).1 = 0 /\ (rewriteX d m).2.dead = false /\ ∃ f, Pg (some f) (rewriteX d m).2 /\ f.bytes = logOf (chunksOf (opsOf m)) /\ f.safe = f.bytes.length) \/ ((rewriteX d m).1 = 3 /\ (rewriteX d m).2.dead = false /\ Pg g (rewriteX d m).2 /\ d.quota < lenF g + (logOf (chunksOf (opsOf m))).length) \/ ((rewriteX d m).2.dead = true /\ Pg g (rewriteX d m).2)) := by
 have hq := (liv_remove h.ok newN).quota
 unfold rewriteX
 simp only
 obtain ⟨h1, u1, k1⟩ := h.remove ha
 rcases k1 with ⟨a1, n1⟩ | a1
 . have ho := h1.only n1
   obtain ⟨u2, k2⟩ := h1.beg a1 n1 (chunksOf (opsOf m))
   rw [ho] at u2 k2
   rw [hq] at k2
   have hmx : ∀ a : Nat, a <= lenF g + (logOf (chunksOf (opsOf m))).length -> a <= max (used d.files) (lenF g + (logOf (chunksOf (opsOf m))).length) := fun a ha => by omega
   rcases k2 with ⟨e2, a2, n2, f, p2, b2, s2⟩ | ⟨e2, a2, p2, l2⟩ | ⟨a2, p2⟩
   . have hrm : (begW (d.remove newN).2 (chunksOf (opsOf m))).2.remove newN = (2, (begW (d.remove newN).2 (chunksOf (opsOf m))).2) := gone_remove a2 n2
     rw [hrm]
     exact ⟨hmx _ u2, .inl ⟨e2, a2, f, p2, b2, s2⟩⟩
   . obtain ⟨p3, u3, k3⟩ := p2.remove a2
     refine ⟨hmx _ (by omega), ?_⟩
     rcases k3 with ⟨a3, _⟩ | a3
     . exact .inr (.inl ⟨e2, a3, p3, l2⟩)
     . exact .inr (.inr ⟨a3, p3⟩)
   . rw [dead_remove a2]
     exact ⟨hmx _ u2, .inr (.inr ⟨a2, p2⟩)⟩
 . have hb : begW (d.remove newN).2 (chunksOf (opsOf m)) = (4, (d.remove newN).2) := by unfold begW; rw [dead_write a1, if_neg (show ¬ ((4 : Int) = 0) by decide)]
   rw [hb, dead_remove a1]
   exact ⟨by simp only; omega, .inr (.inr ⟨a1, h1⟩)⟩
structure LA (d : Dk) (C : Nat) (xs bs : List (List Ox)) : Prop where
 ok : d.Ok
 ours : ∀ x ∈ d.files, oursB x.1 = true
 good : ∀ b ∈ xs ++ bs, batchOk b = true
 len : (logOf (xs ++ bs)).length <= C
 use : used d.files <= 2 * C
 log : (getF logN d.files = none /\ xs = [] /\ bs = []) \/ ∃ f, getF logN d.files = some f /\ f.bytes = logOf (xs ++ bs) /\ (logOf xs).length <= f.safe
structure LB (d : Dk) (C : Nat) (cs : List (List Ox)) (p : List UInt8) : Prop where
 ok : d.Ok
 ours : ∀ x ∈ d.files, oursB x.1 = true
 good : ∀ b ∈ cs, batchOk b = true
 cut : isCut p
 len : (logOf cs ++ p).length <= C
 use : used d.files <= 2 * C
 log : (getF logN d.files = none /\ cs = [] /\ p = []) \/ ∃ f, getF logN d.files = some f /\ f.bytes = logOf cs ++ p /\ f.safe = f.bytes.length
theorem LA.same {d d' : Dk} {C : Nat} {xs bs : List (List Ox)} (h : LA d C xs bs) (hok : d'.Ok) (hf : d'.files = d.files) : LA d' C xs bs := ⟨hok, by rw [hf]; exact h.ours, h.good, h.len, by rw [hf]; exact h.use, by rw [hf]; exact h.log⟩
theorem LB.same {d d' : Dk} {C : Nat} {cs : List (List Ox)} {p : List UInt8} (h : LB d C cs p) (hok : d'.Ok) (hf : d'.files = d.files) : LB d' C cs p := ⟨hok, by rw [hf]; exact h.ours, h.good, h.cut, h.len, by rw [hf]; exact h.use, by rw [hf]; exact h.log⟩
theorem LA.more {d : Dk} {C C' : Nat} {xs bs : List (List Ox)} (h : LA d C xs bs) (hC : C <= C') : LA d C' xs bs := ⟨h.ok, h.ours, h.good, Nat.le_trans h.len hC, Nat.le_trans h.use (by omega), h.log⟩
theorem LB.more {d : Dk} {C C' : Nat} {cs : List (List Ox)} {p : List UInt8} (h : LB d C cs p) (hC : C <= C') : LB d C' cs p := ⟨h.ok, h.ours, h.good, h.cut, Nat.le_trans h.len hC, Nat.le_trans h.use (by omega), h.log⟩
theorem LA.new {d : Dk} (hok : d.Ok) (hf : d.files = []) (C : Nat) : LA d C [] [] := ⟨hok, (by rw [hf]; intro x hx; cases hx), (by simp), (by simp [logOf]), (by rw [hf]; simp [used]), .inl ⟨by rw [hf]; rfl, rfl, rfl⟩⟩
theorem LA.write {d : Dk} {C : Nat} {xs bs : List (List Ox)} (h : LA d C xs bs) (ha : d.dead = false) {l : List Ox} (hl : batchOk l = true) :
   ((d.write logN (encode l)).1 = 0 /\ (d.write logN (encode l)).2.dead = false /\ LA (d.write logN (encode l)).2 (C + wtL l) xs (bs ++ [l]) /\ (getF logN (d.write logN (encode l)).2.files).isSome = true) \/
   (d.write logN (encode l) = (3, d) /\ d.quota < 2 * C + wtL l) \/ (d.write logN (encode l) = (4, d.die) /\ LA d.die C xs bs) := by
 have hw := enc_wt hl
 have huse := h.use
 by_cases hr : d.quota < used d.files + (encode l).length
 . refine .inr (.inl ⟨?_, by omega⟩)
   unfold Dk.write
   rw [if_neg (by simp [ha]), if_neg (by simp [logName]), if_pos hr]
 by_cases hz : d.left = 0
 . refine .inr (.inr ⟨?_, h.same h.ok.die rfl⟩)
   unfold Dk.write
   rw [if_neg (by simp [ha]), if_neg (by simp [logName]), if_neg hr, if_pos hz]
 refine .inl ?_
 have hgood : ∀ b ∈ xs ++ (bs ++ [l]), batchOk b = true := fun b hb => by
   rw [<- List.append_assoc] at hb
   rcases List.mem_append.1 hb with hb | hb
   . exact h.good b hb
   . obtain rfl := List.mem_singleton.1 hb; exact hl
 have hlen : (logOf (xs ++ (bs ++ [l]))).length <= C + wtL l := by
   rw [<- List.append_assoc, logOf_append, logOf_one, List.length_append]
   have := h.len
   omega
 have hk := (write_ok h.ok logN (encode l)).1
 unfold Dk.write at hk ⊢
 rw [if_neg (by simp [ha]), if_neg (by simp [logName]), if_neg hr, if_neg hz] at hk ⊢
 rcases h.log with ⟨hn, rfl, rfl⟩ | ⟨f, hf, hb, hs⟩
 . rw [hn] at hk ⊢
   simp only [Option.isSome_none, Bool.false_eq_true, if_false] at hk ⊢
   refine ⟨trivial, ha, ⟨hk, fun x hx => ?_, hgood, hlen, ?_, .inr ⟨⟨encode l, 0⟩, getF_ins h.ok.rise hn, ?_, ?_⟩⟩, ?_⟩
   . rcases mem_ins.1 hx with rfl | hx
     . show oursB logN = true; decide
     . exact h.ours x hx
   . show used (ins (logN, _) d.files) <= _
     rw [used_ins]; simp only; omega
   . simp [logOf]
   . simp [logOf]
   . show (getF logN (ins (logN, _) d.files)).isSome = true
     rw [getF_ins h.ok.rise hn]; rfl
 . rw [hf] at hk ⊢
   simp only [Option.isSome_some, if_true] at hk ⊢
   refine ⟨trivial, ha, ⟨hk, fun x hx => ?_, hgood, hlen, ?_, .inr ⟨addB (encode l) f, ?_, ?_, hs⟩⟩, ?_⟩
   . obtain ⟨y, hy, e, _⟩ := mem_upd hx
     rw [e]; exact h.ours y hy
   . show used (upd logN (addB (encode l)) d.files) <= _
     have := used_upd h.ok.rise hf (addB (encode l))
     simp only [addB, List.length_append] at this ⊢
     omega
   . show getF logN (upd logN (addB (encode l)) d.files) = _
     rw [getF_upd, hf]; rfl
   . simp only [addB]; rw [hb, <- List.append_assoc, logOf_append (xs ++ bs) [l], logOf_one]
   . show (getF logN (upd logN (addB (encode l)) d.files)).isSome = true
     rw [getF_upd, hf]; rfl
theorem LA.sync {d : Dk} {C : Nat} {xs bs : List (List Ox)} (h : LA d C xs bs) (ha : d.dead = false) (hf : (getF logN d.files).isSome = true) :
   ((d.sync logN).1 = 0 /\ (d.sync logN).2.dead = false /\ LA (d.sync logN).2 C (xs ++ bs) [] /\ (getF logN (d.sync logN).2.files).isSome = true) \/ (d.sync logN = (4, d.die) /\ LA d.die C xs bs) := by
 obtain ⟨f, hf⟩ := Option.isSome_iff_exists.1 hf
 have hk := (sync_ok h.ok logN).1
 unfold Dk.sync at hk ⊢
 rw [if_neg (by simp [ha]), hf, Option.isNone_some, if_neg (by simp)] at hk ⊢
 by_cases hl : d.left = 0
 . rw [if_pos hl]; exact .inr ⟨rfl, h.same h.ok.die rfl⟩
 rw [if_neg hl] at hk ⊢
 have hg : getF logN (upd logN allSafe d.files) = some (allSafe f) := by rw [getF_upd, hf]; rfl
 rcases h.log with ⟨hn, _⟩ | ⟨f', hf', hb, hs⟩
 . rw [hf] at hn; cases hn
 obtain rfl : f = f' := by rw [hf] at hf'; simpa using hf'
 refine .inl ⟨rfl, ha, ⟨hk, fun x hx => ?_, by rw [List.append_nil]; exact h.good, by rw [List.append_nil]; exact h.len, ?_, .inr ⟨allSafe f, hg, by rw [List.append_nil]; exact hb, ?_⟩⟩, ?_⟩
 . obtain ⟨y, hy, e, _⟩ := mem_upd hx
   rw [e]; exact h.ours y hy
 . show used (upd logN allSafe d.files) <= _
   have := used_upd h.ok.rise hf allSafe
   have := h.use
   simp only [allSafe] at *
   omega
 . simp only [allSafe]; rw [hb]; exact Nat.le_refl _
 . show (getF logN (upd logN allSafe d.files)).isSome = true
   rw [hg]; rfl
theorem LA.crash {d : Dk} {C : Nat} {xs bs : List (List Ox)} (h : LA d C xs bs) (ks : List Int) : ∃ n p, n <= bs.length /\ LB (d.crash ks) C (xs ++ bs.take n) p := by
 have hok := (crash_ok h.ok ks).1
 have hu := crash_used h.ok ks
 have huse := h.use
 obtain ⟨k, hk⟩ := getF_crash logN ks d.files
 rcases h.log with ⟨hf, rfl, rfl⟩ | ⟨f, hf, hb, hs⟩
 . refine ⟨0, [], Nat.le_refl _, hok, crash_ours h.ours ks, by simp, .inl rfl, by simp [logOf], by omega, .inl ⟨?_, rfl, rfl⟩⟩
   show getF logN (crashL ks d.files) = none
   rw [hk, hf]; rfl
 . rw [hf, Option.map_some] at hk
   have hsf := h.ok.safe (logN, f) (getF_mem hf)
   simp only at hsf
   obtain ⟨n, p, hn, hp, ht, hl, hnext⟩ := log_cut (xs ++ bs) (keptN k f) h.good
   have hkb : (kept k f).bytes = f.bytes.take (keptN k f) := rfl
   have hle : f.safe <= keptN k f := by unfold keptN; omega
   have hna : xs.length <= n := by
     by_cases hlt : n < xs.length
     . have h1 := hnext (by rw [List.length_append]; omega)
       have h2 : (xs ++ bs).take (n + 1) = xs.take (n + 1) := List.take_append_of_le_length (by omega)
       rw [h2] at h1
       have h3 : (logOf (xs.take (n + 1))).length <= (logOf xs).length := by
         conv => rhs; rw [<- List.take_append_drop (n + 1) xs]
         rw [logOf_append, List.length_append]; omega
       omega
     . omega
   rw [List.length_append] at hn
   have htk : xs ++ bs.take (n - xs.length) = (xs ++ bs).take n := by rw [List.take_append, List.take_of_length_le hna]
   refine ⟨n - xs.length, p, by omega, hok, crash_ours h.ours ks, ?_, hp, ?_, by omega, .inr ⟨kept k f, by show getF logN (crashL ks d.files) = _; exact hk, ?_, ?_⟩⟩
   . rw [htk]; exact fun b hb => h.good b (List.mem_of_mem_take hb)
   . rw [htk, <- ht, List.length_take]
     have := h.len
     omega
   . rw [htk, hkb, hb]; exact ht
   . rw [kept_len k f hsf]; rfl
theorem LB.crash {d : Dk} {C : Nat} {cs : List (List Ox)} {p : List UInt8} (h : LB d C cs p) (ks : List Int) : LB (d.crash ks) C cs p := by
 have hu := crash_used h.ok ks
 have huse := h.use
 obtain ⟨k, hk⟩ := getF_crash logN ks d.files
 refine ⟨(crash_ok h.ok ks).1, crash_ours h.ours ks, h.good, h.cut, h.len, by omega, ?_⟩
 rcases h.log with ⟨hf, hc, hp⟩ | ⟨f, hf, hb, hs⟩
 . refine .inl ⟨?_, hc, hp⟩
   show getF logN (crashL ks d.files) = none
   rw [hk, hf]; rfl
 . refine .inr ⟨f, ?_, hb, hs⟩
   show getF logN (crashL ks d.files) = some f
   rw [hk, hf, Option.map_some, kept_all hs]
theorem openX_dead {d : Dk} (h : d.dead = true) : openX d = (4, turned d, []) := by
 have e : loadX (turned d) = (4, turned d, []) := by unfold loadX; rw [if_pos (show (turned d).dead = true from h)]
 unfold openX
 rw [e]
 simp [show (turned d).dead = true from h]
theorem LA.open {d : Dk} {C : Nat} {xs bs : List (List Ox)} (h : LA d C xs bs) (ha : d.dead = false) :
   Liv (turned d) (openX d).2.1 /\ (((openX d).1 = 0 /\ (openX d).2.1.dead = false /\ (openX d).2.2 = doAll [] (xs ++ bs).flatten /\ LA (openX d).2.1 C (xs ++ bs) []) \/ ((openX d).1 = 4 /\ (openX d).2.1.dead = true /\ LA (openX d).2.1 C xs bs)) := by
 have h1 : LA (turned d) C xs bs := h.same (turned_ok h.ok) rfl
 have ha1 : (turned d).dead = false := ha
 have ho := ours_all h1.ours
 unfold openX
 simp only
 generalize turned d = e at *
 rcases h1.log with ⟨hn, rfl, rfl⟩ | ⟨f, hf, hb, hs⟩
 . have hl : loadX e = (0, e, []) := by simp [loadX, ha1, ho, hn]
   rw [hl]
   simp only [ha1, Bool.false_eq_true, if_false]
   exact ⟨Liv.refl e, .inl ⟨trivial, trivial, by simp [doAll], h1⟩⟩
 . have hrep : rep f.bytes [] = some (doAll [] (xs ++ bs).flatten, f.bytes.length) := by rw [hb]; exact rep_log h1.good
   generalize doAll [] (xs ++ bs).flatten = M at *
   have hsf : e.safe logN = (f.safe, 0) := by simp [Dk.safe, ha1, hf]
   by_cases hlt : f.safe < f.bytes.length
   . have hl : loadX e = ((syncX e ⟨e.turn, M, true, false⟩).1, (syncX e ⟨e.turn, M, true, false⟩).2.1, M) := by
       simp [loadX, ha1, ho, hf, hrep, secureX_ok hsf, hlt]
     have hsy := liv_sync h1.ok logN
     rcases h1.sync ha1 (by rw [hf]; rfl) with ⟨e2, a2, p2, _⟩ | ⟨e2, p2⟩
     . have hx : syncX e ⟨e.turn, M, true, false⟩ = (0, (e.sync logN).2, ⟨e.turn, M, false, false⟩) := syncX_loose (d := e) (st := ⟨e.turn, M, true, false⟩) ha1 rfl rfl rfl (by rw [<- e2])
       rw [hl, hx]
       simp only [a2, Bool.false_eq_true, if_false]
       exact ⟨hsy, .inl ⟨trivial, trivial, trivial, p2⟩⟩
     . have hx : (syncX e ⟨e.turn, M, true, false⟩).2.1 = e.die := by
         unfold syncX
         rw [writable_open ha1 rfl rfl, e2]
         simp
       rw [hl]
       simp only [hx]
       rw [e2] at hsy
       exact ⟨hsy, .inr ⟨by simp [Dk.die], rfl, p2⟩⟩
   . have hl : loadX e = (0, e, M) := by
       have hsec : secureX e ⟨e.turn, M, false, false⟩ f.bytes.length = (0, e, ⟨e.turn, M, decide (f.safe < f.bytes.length), false⟩) := by
         rw [secureX_ok hsf]
         exact syncX_tight (d := e) (st := { turn := e.turn, m := M, loose := decide (f.safe < f.bytes.length), stuck := false }) ha1 rfl rfl (by simpa using hlt)
       simp [loadX, ha1, ho, hf, hrep, hsec]
     rw [hl]
     simp only [ha1, Bool.false_eq_true, if_false]
     refine ⟨Liv.refl e, .inl ⟨trivial, trivial, trivial, ⟨h1.ok, h1.ours, by rw [List.append_nil]; exact h1.good, by rw [List.append_nil]; exact h1.len, h1.use, .inr ⟨f, hf, by rw [List.append_nil]; exact hb, ?_⟩⟩⟩⟩
     rw [<- hb]; omega
theorem LB.open {d : Dk} {C : Nat} {cs : List (List Ox)} {p : List UInt8} (h : LB d C cs p) (ha : d.dead = false) (hC : wtM (doAll [] cs.flatten) <= C) :
   Liv (turned d) (openX d).2.1 /\ (((openX d).1 = 0 /\ (openX d).2.1.dead = false /\ (openX d).2.2 = doAll [] cs.flatten /\ ∃ xs, doAll [] xs.flatten = doAll [] cs.flatten /\ LA (openX d).2.1 C xs []) \/
     ((openX d).1 = 3 /\ (openX d).2.1.dead = false /\ LB (openX d).2.1 C cs p /\ d.quota < 2 * C) \/ ((openX d).1 = 4 /\ (openX d).2.1.dead = true /\ LB (openX d).2.1 C cs p)) := by
 have h1 : LB (turned d) C cs p := h.same (turned_ok h.ok) rfl
 have ha1 : (turned d).dead = false := ha
 have hq1 : (turned d).quota = d.quota := rfl
 have ho := ours_all h1.ours
 have hmo : MOk (doAll [] cs.flatten) := MOk.nil.doAll (flatten_ok h.good)
 have huse := h1.use
 unfold openX
 simp only
 rw [<- hq1]
 generalize turned d = e at *
 rcases h1.log with ⟨hn, rfl, rfl⟩ | ⟨f, hf, hb, hs⟩
 . have hl : loadX e = (0, e, []) := by simp [loadX, ha1, ho, hn]
   rw [hl]
   simp only [ha1, Bool.false_eq_true, if_false]
   exact ⟨Liv.refl e, .inl ⟨trivial, trivial, by simp [doAll], [], rfl, ⟨h1.ok, h1.ours, by simp, by simp [logOf], h1.use, .inl ⟨hn, rfl, rfl⟩⟩⟩⟩
 . have hrep : rep f.bytes [] = some (doAll [] cs.flatten, (logOf cs).length) := by
     rw [hb]
     exact replay_log cs p [] _ h1.good h1.cut (Nat.le_refl _)
   have hlen := h1.len
   by_cases hlt : (logOf cs).length < f.bytes.length
   . have hl : loadX e = ((rewriteX e (doAll [] cs.flatten)).1, (rewriteX e (doAll [] cs.flatten)).2, doAll [] cs.flatten) := by simp [loadX, ha1, ho, hf, hrep, hlt]
     rw [hl]
     simp only
     have hp : Pg (some f) e := ⟨h1.ok, h1.ours, hf⟩
     have hlF : lenF (some f) <= C := by simp only [lenF, Option.map_some, Option.getD_some]; rw [hb]; exact hlen
     have hch : (logOf (chunksOf (opsOf (doAll [] cs.flatten)))).length <= C := by
       have := log_wt (chunks_ok hmo)
       rw [chunks_flat, wtL_opsOf] at this
       omega
     obtain ⟨u2, k2⟩ := hp.rewrite ha1 (doAll [] cs.flatten)
     have hu2 : used (rewriteX e (doAll [] cs.flatten)).2.files <= 2 * C := by omega
     refine ⟨(liv_rewrite h1.ok _).1, ?_⟩
     rcases k2 with ⟨e2, a2, f2, p2, b2, s2⟩ | ⟨e2, a2, p2, l2⟩ | ⟨a2, p2⟩
     . rw [a2, e2]
       simp only [Bool.false_eq_true, if_false]
       refine .inl ⟨trivial, trivial, trivial, chunksOf (opsOf (doAll [] cs.flatten)), ?_, p2.ok, p2.ours, by rw [List.append_nil]; exact chunks_ok hmo, by rw [List.append_nil]; exact hch, hu2, .inr ⟨f2, p2.log, by rw [List.append_nil]; exact b2, by rw [s2, b2]; exact Nat.le_refl _⟩⟩
       rw [chunks_flat, doAll_opsOf (doAll [] cs.flatten) [] (by simpa using hmo.rise)]
       rfl
     . rw [a2, e2]
       simp only [Bool.false_eq_true, if_false]
       exact .inr (.inl ⟨trivial, trivial, ⟨p2.ok, p2.ours, h1.good, h1.cut, h1.len, hu2, .inr ⟨f, p2.log, hb, hs⟩⟩, by omega⟩)
     . rw [a2]
       simp only [if_true]
       exact .inr (.inr ⟨trivial, trivial, ⟨p2.ok, p2.ours, h1.good, h1.cut, h1.len, hu2, .inr ⟨f, p2.log, hb, hs⟩⟩⟩)
   . have hpl : p.length = 0 := by
       have := congrArg List.length hb
       rw [List.length_append] at this
       omega
     obtain rfl : p = [] := List.length_eq_zero_iff.1 hpl
     rw [List.append_nil] at hb
     have hl : loadX e = (0, e, doAll [] cs.flatten) := by
       have hsf : e.safe logN = (f.safe, 0) := by simp [Dk.safe, ha1, hf]
       have hsec : secureX e ⟨e.turn, doAll [] cs.flatten, false, false⟩ f.bytes.length = (0, e, ⟨e.turn, doAll [] cs.flatten, decide (f.safe < f.bytes.length), false⟩) := by
         rw [secureX_ok hsf]
         exact syncX_tight (d := e) (st := { turn := e.turn, m := doAll [] cs.flatten, loose := decide (f.safe < f.bytes.length), stuck := false }) ha1 rfl rfl (by simp [hs])
       simp [loadX, ha1, ho, hf, hrep, hlt, hsec]
     rw [hl]
     simp only [ha1, Bool.false_eq_true, if_false]
     refine ⟨Liv.refl e, .inl ⟨trivial, trivial, trivial, cs, rfl, ⟨h1.ok, h1.ours, by rw [List.append_nil]; exact h1.good, by rw [List.append_nil]; simpa using hlen, h1.use, .inr ⟨f, hf, by rw [List.append_nil]; exact hb, ?_⟩⟩⟩⟩
     rw [hs, hb]; exact Nat.le_refl _
end Go.Proofs.YtfghgmojnffgnaaGreat
