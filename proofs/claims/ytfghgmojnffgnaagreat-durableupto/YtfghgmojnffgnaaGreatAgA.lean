/- A log that is written anew while a fuse burns: plain mathematics. -/
import Derived.Test.YtfghgmojnffgnaaGreatOpenB
namespace Go.Proofs.YtfghgmojnffgnaaGreat
open Go.RowKit Go.Maps Go.Sort

theorem getF_upd_ne {α : Type} {n m : Nm} (h : m ≠ n) (f : α → α) : ∀ fs : List (Nm × α), getF m (upd n f fs) = getF m fs
  | [] => rfl
  | x :: r => by
    have ih := getF_upd_ne h f r
    unfold upd at ih ⊢
    simp only [List.map_cons, getF]
    by_cases e : x.1 = n
    · rw [if_pos e]
      have : ¬ x.1 = m := fun e2 => h (e2.symm.trans e)
      simp only [if_neg this]
      exact ih
    · rw [if_neg e, ih]
theorem getF_ins_ne {α : Type} {n m : Nm} (h : m ≠ n) (x : α) : ∀ fs : List (Nm × α), getF m (ins (n, x) fs) = getF m fs
  | [] => by
    have : ¬ n = m := fun e => h e.symm
    simp [ins, getF, this]
  | y :: r => by
    have hn : ¬ n = m := fun e => h e.symm
    simp only [ins]
    split
    · simp [getF, hn]
    · simp only [getF]; rw [getF_ins_ne h x r]
theorem new_log : logN ≠ newN := by decide
theorem log_new : newN ≠ logN := by decide

/-- What stays so while log.new is written: the log is as it was. -/
structure Pn (g : Option Fl) (d : Dk) : Prop where
  ok : d.Ok
  quota : d.quota = 1048576
  ours : ∀ x ∈ d.files, oursB x.1 = true
  log : getF logN d.files = g
theorem Pn.die {g : Option Fl} {d : Dk} (h : Pn g d) : Pn g d.die := ⟨h.ok.die, h.quota, h.ours, h.log⟩

theorem Pn.write {g : Option Fl} {d : Dk} (h : Pn g d) (ha : d.dead = false) (c : List UInt8) (hr : used d.files + c.length ≤ 1048576) :
    (d.write newN c).2.turn = d.turn ∧ Pn g (d.write newN c).2 ∧ used (d.write newN c).2.files ≤ used d.files + c.length ∧
    (((d.write newN c).1 = 0 ∧ (d.write newN c).2.dead = false ∧ ∃ f, getF newN (d.write newN c).2.files = some f ∧ f.bytes = ((getF newN d.files).map (·.bytes)).getD [] ++ c) ∨ ((d.write newN c).1 = 4 ∧ (d.write newN c).2.dead = true ∧ (d.write newN c).2.files = d.files)) := by
  have hk := (write_ok h.ok newN c).1
  unfold Dk.write at hk ⊢
  rw [if_neg (by simp [ha]), if_neg (by simp [newName]), if_neg (by rw [h.quota]; omega)] at hk ⊢
  by_cases hl : d.left = 0
  · rw [if_pos hl] at hk ⊢
    exact ⟨rfl, h.die, Nat.le_add_right _ _, .inr ⟨rfl, rfl, rfl⟩⟩
  rw [if_neg hl] at hk ⊢
  cases hg : getF newN d.files with
  | none =>
    rw [hg] at hk
    simp only [Option.isSome_none, Bool.false_eq_true, if_false] at hk ⊢
    refine ⟨rfl, ⟨hk, h.quota, fun x hx => ?_, ?_⟩, ?_, .inl ⟨(by trivial), ha, ⟨c, 0⟩, getF_ins h.ok.rise hg, by simp⟩⟩
    · rcases mem_ins.1 hx with rfl | hx
      · show oursB newN = true; decide
      · exact h.ours x hx
    · show getF logN (ins (newN, _) d.files) = g
      rw [getF_ins_ne new_log]; exact h.log
    · show used (ins (newN, _) d.files) ≤ _
      rw [used_ins]; exact Nat.le_refl _
  | some f =>
    rw [hg] at hk
    simp only [Option.isSome_some, if_true] at hk ⊢
    refine ⟨rfl, ⟨hk, h.quota, fun x hx => ?_, ?_⟩, ?_, .inl ⟨(by trivial), ha, addB c f, ?_, by simp [addB]⟩⟩
    · obtain ⟨y, hy, e, _⟩ := mem_upd hx
      rw [e]; exact h.ours y hy
    · show getF logN (upd newN _ d.files) = g
      rw [getF_upd_ne new_log]; exact h.log
    · show used (upd newN (addB c) d.files) ≤ _
      have := used_upd h.ok.rise hg (addB c)
      simp only [addB, List.length_append] at this ⊢
      omega
    · show getF newN (upd newN (addB c) d.files) = _
      rw [getF_upd, hg]; rfl
theorem Pn.remove {g : Option Fl} {d : Dk} (h : Pn g d) (ha : d.dead = false) :
    (d.remove newN).2.turn = d.turn ∧ Pn g (d.remove newN).2 ∧ used (d.remove newN).2.files ≤ used d.files ∧ (((d.remove newN).2.dead = false ∧ getF newN (d.remove newN).2.files = none) ∨ ((d.remove newN).2.dead = true ∧ (d.remove newN).2.files = d.files)) := by
  have hk := (remove_ok h.ok newN).1
  unfold Dk.remove at hk ⊢
  rw [if_neg (by simp [ha])] at hk ⊢
  cases hg : getF newN d.files with
  | none =>
    rw [hg, Option.isNone_none, if_pos rfl] at hk
    rw [Option.isNone_none, if_pos rfl]
    exact ⟨rfl, h, Nat.le_refl _, .inl ⟨ha, hg⟩⟩
  | some f =>
    rw [hg, Option.isNone_some, if_neg (by simp)] at hk
    rw [Option.isNone_some, if_neg (by simp)]
    by_cases hl : d.left = 0
    · rw [if_pos hl]; exact ⟨rfl, h.die, Nat.le_refl _, .inr ⟨rfl, rfl⟩⟩
    rw [if_neg hl] at hk ⊢
    refine ⟨rfl, ⟨hk, h.quota, fun x hx => h.ours x (mem_del hx), ?_⟩, ?_, .inl ⟨ha, getF_del _ _⟩⟩
    · show getF logN (del newN d.files) = g
      rw [getF_del_ne new_log]; exact h.log
    · show used (del newN d.files) ≤ _
      have := used_del h.ok.rise hg
      omega
theorem Pn.sync {g : Option Fl} {d : Dk} (h : Pn g d) (ha : d.dead = false) {f : Fl} (hf : getF newN d.files = some f) :
    (d.sync newN).2.turn = d.turn ∧ Pn g (d.sync newN).2 ∧ used (d.sync newN).2.files = used d.files ∧ (((d.sync newN).1 = 0 ∧ (d.sync newN).2.dead = false ∧ getF newN (d.sync newN).2.files = some (allSafe f)) ∨ ((d.sync newN).1 = 4 ∧ (d.sync newN).2.dead = true ∧ (d.sync newN).2.files = d.files)) := by
  have hk := (sync_ok h.ok newN).1
  unfold Dk.sync at hk ⊢
  rw [if_neg (by simp [ha]), hf, Option.isNone_some, if_neg (by simp)] at hk ⊢
  by_cases hl : d.left = 0
  · rw [if_pos hl]; exact ⟨rfl, h.die, rfl, .inr ⟨rfl, rfl, rfl⟩⟩
  rw [if_neg hl] at hk ⊢
  refine ⟨rfl, ⟨hk, h.quota, fun x hx => ?_, ?_⟩, ?_, .inl ⟨rfl, ha, ?_⟩⟩
  · obtain ⟨y, hy, e, _⟩ := mem_upd hx
    rw [e]; exact h.ours y hy
  · show getF logN (upd newN _ d.files) = g
    rw [getF_upd_ne new_log]; exact h.log
  · show used (upd newN allSafe d.files) = _
    have := used_upd h.ok.rise hf allSafe
    simp only [allSafe] at this ⊢
    omega
  · show getF newN (upd newN allSafe d.files) = _
    rw [getF_upd, hf]; rfl
theorem Pn.rename {g : Option Fl} {d : Dk} (h : Pn g d) (ha : d.dead = false) {f : Fl} (hf : getF newN d.files = some f) :
    (d.rename newN logN).2.turn = d.turn ∧ (((d.rename newN logN).1 = 0 ∧ (d.rename newN logN).2.dead = false ∧ Pn (some f) (d.rename newN logN).2 ∧ getF newN (d.rename newN logN).2.files = none) ∨ ((d.rename newN logN).1 = 4 ∧ (d.rename newN logN).2.dead = true ∧ Pn g (d.rename newN logN).2 ∧ (d.rename newN logN).2.files = d.files)) := by
  have hk := (rename_ok h.ok newN logN).1
  unfold Dk.rename at hk ⊢
  rw [if_neg (by simp [ha]), if_neg (by simp [logName]), hf] at hk ⊢
  simp only at hk ⊢
  by_cases hl : d.left = 0
  · rw [if_pos hl]; exact ⟨rfl, .inr ⟨rfl, rfl, h.die, rfl⟩⟩
  rw [if_neg hl] at hk ⊢
  have hmv : moved newN logN f d.files = ins (logN, f) (del logN (del newN d.files)) := by unfold moved; rw [if_neg log_new]
  rw [hmv] at hk ⊢
  have hr : rising (del logN (del newN d.files)) := rising_del (rising_del h.ok.rise)
  refine ⟨rfl, .inl ⟨rfl, ha, ⟨hk, h.quota, fun x hx => ?_, ?_⟩, ?_⟩⟩
  · rcases mem_ins.1 hx with rfl | hx
    · show oursB logN = true; decide
    · exact h.ours x (mem_del (mem_del hx))
  · exact getF_ins hr (getF_del _ _)
  · show getF newN (ins (logN, f) (del logN (del newN d.files))) = none
    rw [getF_ins_ne log_new, getF_del_ne log_new, getF_del]

end Go.Proofs.YtfghgmojnffgnaaGreat

/- Opening, while a fuse burns, and crashing: plain mathematics. -/
namespace Go.Proofs.YtfghgmojnffgnaaGreat
open Go.RowKit Go.Maps Go.Sort

theorem rename_used {d : Dk} (h : d.Ok) (ha : d.dead = false) {f : Fl} (hf : getF newN d.files = some f) : used (d.rename newN logN).2.files ≤ used d.files := by
  unfold Dk.rename
  rw [if_neg (by simp [ha]), if_neg (by simp [logName]), hf]
  simp only
  split
  · exact Nat.le_refl _
  · show used (moved newN logN f d.files) ≤ _
    unfold moved
    rw [if_neg log_new, used_ins]
    have h1 := used_del h.rise hf
    have h2 := used_del_le logN (del newN d.files)
    simp only
    omega

theorem enc88 {l : List Ox} (h : batchOk l = true) : (encode l).length ≤ 88 * l.length := by
  have h1 := (batchOk_iff.1 h).1
  have h2 := (encBody_len l (batchOk_iff.1 h).2).2
  rw [encode_len]
  omega
theorem log88 : ∀ {cs : List (List Ox)}, (∀ b ∈ cs, batchOk b = true) → (logOf cs).length ≤ 88 * cs.flatten.length
  | [], _ => by simp [logOf]
  | b :: cs, h => by
    have h1 := log88 (cs := cs) (fun x hx => h x (List.mem_cons_of_mem _ hx))
    have h2 := enc88 (h b (by simp))
    rw [logOf_cons, List.flatten_cons, List.length_append, List.length_append]
    omega
theorem chunks_range (ops : List Ox) : chunksOf ops = (List.range ((ops.length + 7) / 8)).map fun j => (ops.drop (8 * j)).take 8 := by
  refine List.ext_getElem (by simp [chunksOf, cuts]) (fun i h1 h2 => ?_)
  have hi : i < (cuts ops.length).length := by simpa [chunksOf] using h1
  have e := cuts_at hi
  simp only [chunksOf, List.getElem_map, List.getElem_range, cutOf, e]
  have hl : (ops.drop (8 * i)).length = ops.length - 8 * i := List.length_drop
  by_cases h8 : 8 ≤ ops.length - 8 * i
  · rw [Nat.min_eq_left h8]
  · rw [Nat.min_eq_right (by omega), List.take_of_length_le (by omega), List.take_of_length_le (by omega)]
theorem chunks_take (ops : List Ox) : ∀ k, ((List.range k).map fun j => (ops.drop (8 * j)).take 8).flatten = ops.take (8 * k)
  | 0 => by simp
  | k + 1 => by
    rw [List.range_succ, List.map_append, List.flatten_append, chunks_take ops k, show 8 * (k + 1) = 8 * k + 8 by omega, List.take_add]
    simp
theorem chunks_flat (ops : List Ox) : (chunksOf ops).flatten = ops := by
  rw [chunks_range, chunks_take, List.take_of_length_le (by omega)]
theorem chunks_ok {m : Mp} (h : MOk m) : ∀ b ∈ chunksOf (opsOf m), batchOk b = true := fun b hb => by
  obtain ⟨x, _, rfl⟩ := List.mem_map.1 hb
  exact cutOf_ok rfl (opsOf_ok h) x
theorem chunks_room {m : Mp} (h : MOk m) (hl : m.length ≤ 110) : (logOf (chunksOf (opsOf m))).length ≤ 9680 := by
  have h1 := log88 (chunks_ok h)
  rw [chunks_flat] at h1
  have : (opsOf m).length = m.length := by simp [opsOf]
  omega

theorem Pn.put {g : Option Fl} : ∀ (bs : List (List Ox)) {d : Dk} {f : Fl}, Pn g d → d.dead = false → getF newN d.files = some f → used d.files + (logOf bs).length ≤ 1048576 →
    (putAll d bs).2.turn = d.turn ∧ Pn g (putAll d bs).2 ∧ used (putAll d bs).2.files ≤ used d.files + (logOf bs).length ∧
    (((putAll d bs).1 = 0 ∧ (putAll d bs).2.dead = false ∧ ∃ f', getF newN (putAll d bs).2.files = some f' ∧ f'.bytes = f.bytes ++ logOf bs) ∨ ((putAll d bs).1 = 4 ∧ (putAll d bs).2.dead = true))
  | [], d, f, h, ha, hf, hr => ⟨rfl, h, Nat.le_add_right _ _, .inl ⟨rfl, ha, f, hf, by simp [logOf]⟩⟩
  | b :: r, d, f, h, ha, hf, hr => by
    rw [logOf_cons, List.length_append] at hr
    obtain ⟨t1, h1, u1, k1⟩ := h.write ha (encode b) (by omega)
    simp only [putAll]
    rcases k1 with ⟨e1, a1, f1, g1, b1⟩ | ⟨e1, a1, _⟩
    · rw [if_pos e1]
      rw [hf] at b1
      simp only [Option.map_some, Option.getD_some] at b1
      obtain ⟨t2, h2, u2, k2⟩ := Pn.put r h1 a1 g1 (by omega)
      refine ⟨t2.trans t1, h2, by rw [logOf_cons, List.length_append]; omega, ?_⟩
      rcases k2 with ⟨e2, a2, f2, g2, b2⟩ | k2
      · exact .inl ⟨e2, a2, f2, g2, by rw [b2, b1, logOf_cons, List.append_assoc]⟩
      · exact .inr k2
    · rw [if_neg (by rw [e1]; decide)]
      exact ⟨t1, h1, by rw [logOf_cons, List.length_append]; omega, .inr ⟨e1, a1⟩⟩

theorem dead_write {d : Dk} (h : d.dead = true) (n : Nm) (c : List UInt8) : d.write n c = (4, d) := by simp [Dk.write, h]
theorem gone_remove {d : Dk} (h : d.dead = false) {n : Nm} (hn : getF n d.files = none) : d.remove n = (2, d) := by simp [Dk.remove, h, hn]
theorem dead_remove {d : Dk} (h : d.dead = true) (n : Nm) : d.remove n = (4, d) := by simp [Dk.remove, h]

/-- What begins with an empty log.new. -/
theorem Pn.beg {g : Option Fl} {d : Dk} (h : Pn g d) (ha : d.dead = false) (hn : getF newN d.files = none) (bs : List (List Ox)) (hr : used d.files + (logOf bs).length ≤ 1048576) :
    (begW d bs).2.turn = d.turn ∧ used (begW d bs).2.files ≤ used d.files + (logOf bs).length ∧
    (((begW d bs).1 = 0 ∧ (begW d bs).2.dead = false ∧ getF newN (begW d bs).2.files = none ∧ ∃ f, Pn (some f) (begW d bs).2 ∧ f.bytes = logOf bs ∧ f.safe = f.bytes.length) ∨ ((begW d bs).2.dead = true ∧ Pn g (begW d bs).2)) := by
  obtain ⟨t1, h1, u1, k1⟩ := h.write ha [] (by simp; omega)
  unfold begW
  rcases k1 with ⟨e1, a1, f1, g1, b1⟩ | ⟨e1, a1, _⟩
  · rw [if_pos e1]
    rw [hn] at b1
    simp only [Option.map_none, Option.getD_none, List.append_nil] at b1
    simp only [List.length_nil, Nat.add_zero] at u1
    obtain ⟨t2, h2, u2, k2⟩ := Pn.put bs h1 a1 g1 (by omega)
    unfold midW
    rcases k2 with ⟨e2, a2, f2, g2, b2⟩ | ⟨e2, a2⟩
    · rw [if_pos e2]
      obtain ⟨t3, h3, u3, k3⟩ := h2.sync a2 g2
      unfold finW
      rcases k3 with ⟨e3, a3, g3⟩ | ⟨e3, a3, _⟩
      · rw [if_pos e3]
        obtain ⟨t4, k4⟩ := h3.rename a3 g3
        have u4 := rename_used h3.ok a3 g3
        refine ⟨t4.trans (t3.trans (t2.trans t1)), by omega, ?_⟩
        rcases k4 with ⟨e4, a4, p4, n4⟩ | ⟨_, a4, p4, _⟩
        · refine .inl ⟨e4, a4, n4, _, p4, ?_, rfl⟩
          show f2.bytes = _
          rw [b2, b1]; rfl
        · exact .inr ⟨a4, p4⟩
      · rw [if_neg (by rw [e3]; decide)]
        exact ⟨t3.trans (t2.trans t1), by omega, .inr ⟨a3, h3⟩⟩
    · rw [if_neg (by rw [e2]; decide)]
      exact ⟨t2.trans t1, by omega, .inr ⟨a2, h2⟩⟩
  · rw [if_neg (by rw [e1]; decide)]
    simp only [List.length_nil, Nat.add_zero] at u1
    exact ⟨t1, by omega, .inr ⟨a1, h1⟩⟩
theorem Pn.rewrite {g : Option Fl} {d : Dk} (h : Pn g d) (ha : d.dead = false) (m : Mp) (hr : used d.files + (logOf (chunksOf (opsOf m))).length ≤ 1048576) :
    (rewriteX d m).2.turn = d.turn ∧ used (rewriteX d m).2.files ≤ used d.files + (logOf (chunksOf (opsOf m))).length ∧
    (((rewriteX d m).1 = 0 ∧ (rewriteX d m).2.dead = false ∧ ∃ f, Pn (some f) (rewriteX d m).2 ∧ f.bytes = logOf (chunksOf (opsOf m)) ∧ f.safe = f.bytes.length) ∨ ((rewriteX d m).2.dead = true ∧ Pn g (rewriteX d m).2)) := by
  unfold rewriteX
  simp only
  obtain ⟨t1, h1, u1, k1⟩ := h.remove ha
  rcases k1 with ⟨a1, n1⟩ | ⟨a1, _⟩
  · obtain ⟨t2, u2, k2⟩ := h1.beg a1 n1 (chunksOf (opsOf m)) (by omega)
    rcases k2 with ⟨e2, a2, n2, f, p2, b2, s2⟩ | ⟨a2, p2⟩
    · have hrm : (begW (d.remove newN).2 (chunksOf (opsOf m))).2.remove newN = (2, (begW (d.remove newN).2 (chunksOf (opsOf m))).2) := gone_remove a2 n2
      rw [hrm]
      exact ⟨t2.trans t1, by simp only; omega, .inl ⟨e2, a2, f, p2, b2, s2⟩⟩
    · rw [dead_remove a2]
      exact ⟨t2.trans t1, by simp only; omega, .inr ⟨a2, p2⟩⟩
  · have hb : begW (d.remove newN).2 (chunksOf (opsOf m)) = (4, (d.remove newN).2) := by unfold begW; rw [dead_write a1, if_neg (show ¬ ((4 : Int) = 0) by decide)]
    rw [hb, dead_remove a1]
    exact ⟨t1, by simp only; omega, .inr ⟨a1, h1⟩⟩

/-- All of the log is safe, and it says this map; its end may be cut off. -/
def SLog (d : Dk) (m : Mp) : Prop := ∃ g, Pn g d ∧ ((g = none ∧ m = []) ∨ ∃ cs p f, g = some f ∧ f.bytes = logOf cs ++ p ∧ isCut p ∧ (∀ b ∈ cs, batchOk b = true) ∧ m = doAll [] cs.flatten ∧ f.safe = f.bytes.length)
theorem SLog.mok {d : Dk} {m : Mp} (h : SLog d m) : MOk m := by
  obtain ⟨g, _, (⟨_, rfl⟩ | ⟨cs, p, f, _, _, _, hb, rfl, _⟩)⟩ := h
  · exact MOk.nil
  · exact MOk.nil.doAll (flatten_ok hb)
theorem SLog.ok {d : Dk} {m : Mp} (h : SLog d m) : d.Ok := by
  obtain ⟨g, hp, _⟩ := h; exact hp.ok
theorem ours_all {d : Dk} (h : ∀ x ∈ d.files, oursB x.1 = true) : (nmsOf d.files).all oursB = true := by
  rw [List.all_eq_true]
  intro n hn
  obtain ⟨x, hx, rfl⟩ := List.mem_map.1 hn
  exact h x hx

theorem SLog.open {d : Dk} {m : Mp} (h : SLog d m) (ha : d.dead = false) (hml : m.length ≤ 110) (hu : used d.files + 9680 ≤ 1048576) :
    SLog (openX d).2.1 m ∧ (openX d).2.1.turn = d.turn + 1 ∧ used (openX d).2.1.files ≤ used d.files + 9680 ∧ (((openX d).1 = 0 ∧ (openX d).2.2 = m ∧ (openX d).2.1.dead = false) ∨ ((openX d).1 = 4 ∧ (openX d).2.1.dead = true)) := by
  have hmo := h.mok
  obtain ⟨g, hp, hg⟩ := h
  have hp1 : Pn g (turned d) := ⟨turned_ok hp.ok, hp.quota, hp.ours, hp.log⟩
  have ha1 : (turned d).dead = false := ha
  have hu1 : used (turned d).files = used d.files := rfl
  have ht1 : (turned d).turn = d.turn + 1 := rfl
  have ho := ours_all hp1.ours
  unfold openX
  simp only
  generalize turned d = e at *
  rcases hg with ⟨rfl, rfl⟩ | ⟨cs, p, f, rfl, hb, hc, hcs, hm, hs⟩
  · have hl : loadX e = (0, e, []) := by simp [loadX, ha1, ho, hp1.log]
    rw [hl]
    simp only [ha1, Bool.false_eq_true, if_false]
    exact ⟨⟨none, hp1, .inl ⟨rfl, rfl⟩⟩, ht1, by omega, .inl ⟨trivial, trivial, trivial⟩⟩
  · have hrep : rep f.bytes [] = some (m, (logOf cs).length) := by
      rw [hb, hm]
      exact replay_log cs p [] _ hcs hc (Nat.le_refl _)
    by_cases hlt : (logOf cs).length < f.bytes.length
    · have hl : loadX e = ((rewriteX e m).1, (rewriteX e m).2, m) := by simp [loadX, ha1, ho, hp1.log, hrep, hlt]
      rw [hl]
      simp only
      have hroom := chunks_room hmo hml
      obtain ⟨t2, u2, k2⟩ := hp1.rewrite ha1 m (by omega)
      rcases k2 with ⟨e2, a2, f2, p2, b2, s2⟩ | ⟨a2, p2⟩
      · rw [a2, e2]
        simp only [Bool.false_eq_true, if_false]
        refine ⟨⟨some f2, p2, .inr ⟨chunksOf (opsOf m), [], f2, rfl, by rw [b2, List.append_nil], .inl rfl, chunks_ok hmo, ?_, s2⟩⟩, t2.trans ht1, by omega, .inl ⟨trivial, trivial, trivial⟩⟩
        rw [chunks_flat, doAll_opsOf m [] (by simpa using hmo.rise)]
        rfl
      · rw [a2]
        simp only [if_true]
        exact ⟨⟨some f, p2, .inr ⟨cs, p, f, rfl, hb, hc, hcs, hm, hs⟩⟩, t2.trans ht1, by omega, .inr ⟨trivial, trivial⟩⟩
    · have hl : loadX e = (0, e, m) := by
        have hsf : e.safe logN = (f.safe, 0) := by simp [Dk.safe, ha1, hp1.log]
        have hsec : secureX e ⟨e.turn, m, false, false⟩ f.bytes.length = (0, e, ⟨e.turn, m, decide (f.safe < f.bytes.length), false⟩) := by
          rw [secureX_ok hsf]
          exact syncX_tight (d := e) (st := { turn := e.turn, m := m, loose := decide (f.safe < f.bytes.length), stuck := false }) ha1 rfl rfl (by simp [hs])
        simp [loadX, ha1, ho, hp1.log, hrep, hlt, hsec]
      rw [hl]
      simp only [ha1, Bool.false_eq_true, if_false]
      exact ⟨⟨some f, hp1, .inr ⟨cs, p, f, rfl, hb, hc, hcs, hm, hs⟩⟩, ht1, by omega, .inl ⟨trivial, trivial, trivial⟩⟩

end Go.Proofs.YtfghgmojnffgnaaGreat

/- Crashes: plain mathematics. -/
namespace Go.Proofs.YtfghgmojnffgnaaGreat
open Go.RowKit Go.Maps Go.Sort

theorem getF_crash (n : Nm) : ∀ (ks : List Int) (fs : List (Nm × Fl)), ∃ k, getF n (crashL ks fs) = (getF n fs).map (kept k)
  | _, [] => ⟨0, by simp [crashL, getF]⟩
  | [], x :: r => by
    obtain ⟨k, hk⟩ := getF_crash n [] r
    simp only [crashL, getF]
    by_cases e : x.1 = n
    · exact ⟨0, by rw [if_pos e, if_pos e]; rfl⟩
    · exact ⟨k, by rw [if_neg e, if_neg e]; exact hk⟩
  | k0 :: ks, x :: r => by
    obtain ⟨k, hk⟩ := getF_crash n ks r
    simp only [crashL, getF]
    by_cases e : x.1 = n
    · exact ⟨k0, by rw [if_pos e, if_pos e]; rfl⟩
    · exact ⟨k, by rw [if_neg e, if_neg e]; exact hk⟩
theorem kept_all {k : Int} {f : Fl} (h : f.safe = f.bytes.length) : kept k f = f := by
  obtain ⟨b, s⟩ := f
  simp only at h
  subst h
  simp [kept]
theorem crash_names (ks : List Int) (fs : List (Nm × Fl)) : nmsOf (crashL ks fs) = nmsOf fs := by
  rw [← crashK_end, crashK_names]
theorem crash_used {d : Dk} (h : d.Ok) (ks : List Int) : used (d.crash ks).files ≤ used d.files := by
  show used (crashL ks d.files) ≤ _
  rw [← crashK_end]
  exact used_crashK_le ks d.files h.safe _ (Nat.le_refl _)
theorem crash_ours {d : Dk} (h : ∀ x ∈ d.files, oursB x.1 = true) (ks : List Int) : ∀ x ∈ (d.crash ks).files, oursB x.1 = true := fun x hx => by
  have h1 : x.1 ∈ nmsOf (crashL ks d.files) := List.mem_map.2 ⟨x, hx, rfl⟩
  rw [crash_names] at h1
  obtain ⟨y, hy, e⟩ := List.mem_map.1 h1
  rw [← e]; exact h y hy

theorem SLog.crash {d : Dk} {m : Mp} (h : SLog d m) (ks : List Int) : SLog (d.crash ks) m := by
  obtain ⟨g, hp, hg⟩ := h
  obtain ⟨k, hk⟩ := getF_crash logN ks d.files
  have hl : getF logN (d.crash ks).files = g := by
    show getF logN (crashL ks d.files) = g
    rw [hk, hp.log]
    rcases hg with ⟨rfl, _⟩ | ⟨cs, p, f, rfl, _, _, _, _, hs⟩
    · rfl
    · rw [Option.map_some, kept_all hs]
  exact ⟨g, ⟨(crash_ok hp.ok ks).1, hp.quota, crash_ours hp.ours ks, hl⟩, hg⟩

/-- The log has these batches; those ahead are safe. -/
structure RInv (d : Dk) (xs bs : List (List Ox)) : Prop where
  ok : d.Ok
  quota : d.quota = 1048576
  good : ∀ b ∈ xs ++ bs, batchOk b = true
  log : (d.files = [] ∧ xs = [] ∧ bs = []) ∨ ∃ f, d.files = [(logN, f)] ∧ f.bytes = logOf (xs ++ bs) ∧ (logOf xs).length ≤ f.safe

theorem RInv.crash {d : Dk} {xs bs : List (List Ox)} (h : RInv d xs bs) (ks : List Int) : ∃ n, n ≤ bs.length ∧ SLog (d.crash ks) (doAll [] (xs ++ bs.take n).flatten) := by
  have hok := (crash_ok h.ok ks).1
  rcases h.log with ⟨hf, rfl, rfl⟩ | ⟨f, hf, hb, hs⟩
  · refine ⟨0, Nat.le_refl _, none, ⟨hok, h.quota, crash_ours (by rw [hf]; intro x hx; cases hx) ks, ?_⟩, .inl ⟨rfl, rfl⟩⟩
    show getF logN (crashL ks d.files) = none
    rw [hf]; rfl
  · obtain ⟨k, hk⟩ := getF_crash logN ks d.files
    rw [hf, getF_one, Option.map_some] at hk
    have hsf := h.ok.safe (logN, f) (by rw [hf]; simp)
    simp only at hsf
    obtain ⟨n, p, hn, hp, ht, hl, hnext⟩ := log_cut (xs ++ bs) (keptN k f) h.good
    have hkb : (kept k f).bytes = f.bytes.take (keptN k f) := rfl
    have hle : f.safe ≤ keptN k f := by unfold keptN; omega
    have hna : xs.length ≤ n := by
      by_cases hlt : n < xs.length
      · have h1 := hnext (by rw [List.length_append]; omega)
        have h2 : (xs ++ bs).take (n + 1) = xs.take (n + 1) := List.take_append_of_le_length (by omega)
        rw [h2] at h1
        have h3 : (logOf (xs.take (n + 1))).length ≤ (logOf xs).length := by
          conv => rhs; rw [← List.take_append_drop (n + 1) xs]
          rw [logOf_append, List.length_append]; omega
        omega
      · omega
    rw [List.length_append] at hn
    refine ⟨n - xs.length, by omega, some (kept k f), ⟨hok, h.quota, crash_ours (by rw [hf]; intro x hx; obtain rfl := List.mem_singleton.1 hx; show oursB logN = true; decide) ks, by show getF logN (crashL ks d.files) = _; rw [hf]; exact hk⟩, .inr ⟨(xs ++ bs).take n, p, kept k f, rfl, ?_, hp, fun b hb => h.good b (List.mem_of_mem_take hb), ?_, ?_⟩⟩
    · rw [hkb, hb]; exact ht
    · rw [List.take_append, List.take_of_length_le hna]
    · rw [kept_len k f hsf]; rfl

end Go.Proofs.YtfghgmojnffgnaaGreat
