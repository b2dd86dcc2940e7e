/- What is always so of a disk stays so. -/
import Derived.Test.YtoabedkcieindaaGreatDoorCodeJ
namespace Go.Proofs.YtoabedkcieindaaGreatDoor
open Go.RowKit

theorem nms_upd {α : Type} (n : Nm) (f : α → α) (l : List (Nm × α)) : nmsOf (upd n f l) = nmsOf l := by
  unfold nmsOf upd
  rw [List.map_map]
  apply List.map_congr_left
  intro x _
  simp only [Function.comp_apply]
  split <;> rfl
theorem mem_upd {α : Type} {n : Nm} {f : α → α} {l : List (Nm × α)} {x : Nm × α} (h : x ∈ upd n f l) : ∃ y ∈ l, x.1 = y.1 ∧ (x.2 = f y.2 ∨ x.2 = y.2) := by
  unfold upd at h
  obtain ⟨y, hy, rfl⟩ := List.mem_map.1 h
  refine ⟨y, hy, ?_⟩
  split
  · exact ⟨rfl, .inl rfl⟩
  · exact ⟨rfl, .inr rfl⟩
theorem nameOk_le {n : Nm} (h : nameOk n = true) : n.length ≤ 20 := by
  unfold nameOk at h
  simp only [Bool.and_eq_true, decide_eq_true_eq] at h
  exact h.1.2

theorem Dk.Ok.die {d : Dk} (h : d.Ok) : d.die.Ok := ⟨h.quota, h.used, h.left0, h.left1, h.safe, h.rise, h.name⟩
theorem Dk.Ok.files {d : Dk} (h : d.Ok) {fs : List (Nm × Fl)} (hu : Go.Proofs.YtoabedkcieindaaGreatDoor.used fs ≤ d.quota) (hs : ∀ x ∈ fs, x.2.safe ≤ x.2.bytes.length) (hr : rising fs) (hn : ∀ x ∈ fs, x.1.length ≤ 20) : ({ d.burn with files := fs } : Dk).Ok := by
  have h0 := h.left0
  have h1 := h.left1
  exact ⟨h.quota, hu, by show -1 ≤ max (d.left - 1) (-1); omega, by show max (d.left - 1) (-1) ≤ _; omega, hs, hr, hn⟩

theorem newDk_ok {q : Int} (h : quotaOk q = true) : (newDk q).Ok := by
  obtain ⟨h0, h1⟩ : 0 ≤ q ∧ q ≤ 1048576 := by simpa [quotaOk] using h
  exact ⟨by simp only [newDk]; omega, by simp [newDk, used], by simp [newDk], by simp [newDk], by simp [newDk], by simp [newDk, rising], by simp [newDk]⟩

theorem write_ok {d : Dk} (h : d.Ok) (n : Nm) (c : List UInt8) : (d.write n c).2.Ok ∧ (d.write n c).2.files.length ≤ d.files.length + 1 := by
  unfold Dk.write
  split
  · exact ⟨h, Nat.le_succ _⟩
  split
  · exact ⟨h, Nat.le_succ _⟩
  rename_i hk
  split
  · exact ⟨h, Nat.le_succ _⟩
  rename_i hq
  split
  · exact ⟨h.die, Nat.le_succ _⟩
  simp only
  cases hg : getF n d.files with
  | some f =>
    simp only [Option.isSome_some, if_true]
    refine ⟨h.files ?_ (fun x hx => ?_) (rising_names (nms_upd n _ _) h.rise) (fun x hx => ?_), by simp [upd]⟩
    · have := used_upd h.rise hg (addB c)
      simp only [addB, List.length_append] at this
      omega
    · obtain ⟨y, hy, _, e⟩ := mem_upd hx
      have := h.safe y hy
      rcases e with e | e <;> rw [e]
      · simp only [addB, List.length_append]; omega
      · exact this
    · obtain ⟨y, hy, e, _⟩ := mem_upd hx
      rw [e]; exact h.name y hy
  | none =>
    simp only [Option.isSome_none, Bool.false_eq_true, if_false]
    refine ⟨h.files ?_ (fun x hx => ?_) (rising_ins h.rise hg) (fun x hx => ?_), by rw [(ins_perm _ _).length_eq]; simp⟩
    · rw [used_ins]; simp only; omega
    · rcases List.mem_cons.1 ((ins_perm _ _).mem_iff.1 hx) with rfl | hx
      · exact Nat.zero_le _
      · exact h.safe x hx
    · rcases List.mem_cons.1 ((ins_perm _ _).mem_iff.1 hx) with rfl | hx
      · exact nameOk_le (by simpa using hk)
      · exact h.name x hx

theorem sync_ok {d : Dk} (h : d.Ok) (n : Nm) : (d.sync n).2.Ok ∧ (d.sync n).2.files.length ≤ d.files.length := by
  unfold Dk.sync
  split
  · exact ⟨h, Nat.le_refl _⟩
  split
  · exact ⟨h, Nat.le_refl _⟩
  rename_i hn
  split
  · exact ⟨h.die, Nat.le_refl _⟩
  cases hg : getF n d.files with
  | none => rw [hg] at hn; simp at hn
  | some f =>
    refine ⟨h.files ?_ (fun x hx => ?_) (rising_names (nms_upd n _ _) h.rise) (fun x hx => ?_), by simp [upd]⟩
    · have := used_upd h.rise hg allSafe
      have := h.used
      simp only [allSafe] at *
      omega
    · obtain ⟨y, hy, _, e⟩ := mem_upd hx
      have := h.safe y hy
      rcases e with e | e <;> rw [e]
      · exact Nat.le_refl _
      · exact this
    · obtain ⟨y, hy, e, _⟩ := mem_upd hx
      rw [e]; exact h.name y hy

theorem mem_del {α : Type} {n : Nm} {l : List (Nm × α)} {x : Nm × α} (h : x ∈ del n l) : x ∈ l := (List.mem_filter.1 h).1
theorem used_del_le (n : Nm) (fs : List (Nm × Fl)) : used (del n fs) ≤ used fs := by
  induction fs with
  | nil => exact Nat.le_refl _
  | cons x r ih =>
    simp only [del, List.filter_cons] at ih ⊢
    split
    · simp only [used, List.map_cons, List.sum_cons] at ih ⊢; omega
    · simp only [used, List.map_cons, List.sum_cons] at ih ⊢; omega

theorem remove_ok {d : Dk} (h : d.Ok) (n : Nm) : (d.remove n).2.Ok ∧ (d.remove n).2.files.length ≤ d.files.length := by
  unfold Dk.remove
  split
  · exact ⟨h, Nat.le_refl _⟩
  split
  · exact ⟨h, Nat.le_refl _⟩
  split
  · exact ⟨h.die, Nat.le_refl _⟩
  exact ⟨h.files (Nat.le_trans (used_del_le n _) h.used) (fun x hx => h.safe x (mem_del hx)) (rising_del h.rise) (fun x hx => h.name x (mem_del hx)), List.length_filter_le _ _⟩

theorem rename_ok {d : Dk} (h : d.Ok) (n m : Nm) : (d.rename n m).2.Ok ∧ (d.rename n m).2.files.length ≤ d.files.length + 1 := by
  unfold Dk.rename
  split
  · exact ⟨h, Nat.le_succ _⟩
  split
  · exact ⟨h, Nat.le_succ _⟩
  rename_i hk
  cases hg : getF n d.files with
  | none => exact ⟨h, Nat.le_succ _⟩
  | some f =>
    simp only
    split
    · exact ⟨h.die, Nat.le_succ _⟩
    unfold moved
    split
    · exact ⟨h.files h.used h.safe h.rise h.name, Nat.le_succ _⟩
    refine ⟨h.files ?_ (fun x hx => ?_) (rising_ins (rising_del (rising_del h.rise)) (getF_del m _)) (fun x hx => ?_), ?_⟩
    · have h1 := used_del h.rise hg
      have h2 := used_del_le m (del n d.files)
      have h3 := h.used
      rw [used_ins]; simp only; omega
    · rcases List.mem_cons.1 ((ins_perm _ _).mem_iff.1 hx) with rfl | hx
      · have h9 := h.safe _ (getF_mem hg)
        exact h9
      · exact h.safe x (mem_del (mem_del hx))
    · rcases List.mem_cons.1 ((ins_perm _ _).mem_iff.1 hx) with rfl | hx
      · exact nameOk_le (by simpa using hk)
      · exact h.name x (mem_del (mem_del hx))
    · show (ins (m, f) (del m (del n d.files))).length ≤ _
      rw [(ins_perm _ _).length_eq, List.length_cons]
      have h1 := List.length_filter_le (fun x : Nm × Fl => !(x.1 == m)) (del n d.files)
      have h2 := List.length_filter_le (fun x : Nm × Fl => !(x.1 == n)) d.files
      simp only [del] at *
      omega

theorem fuse_ok {d : Dk} (h : d.Ok) (n : Int) (hn : n ≤ 9223372036854775807) : (d.fuse n).Ok ∧ (d.fuse n).files.length ≤ d.files.length := by
  unfold Dk.fuse
  split
  · exact ⟨h, Nat.le_refl _⟩
  · exact ⟨⟨h.quota, h.used, by show -1 ≤ max n (-1); omega, by show max n (-1) ≤ _; omega, h.safe, h.rise, h.name⟩, Nat.le_refl _⟩

theorem crash_ok {d : Dk} (h : d.Ok) (ks : List Int) : (d.crash ks).Ok ∧ (d.crash ks).files.length ≤ d.files.length := by
  have hlen := crashL_len ks d.files
  have hat : ∀ x ∈ crashL ks d.files, ∃ k, ∃ y ∈ d.files, x = (y.1, kept k y.2) := fun x hx => by
    obtain ⟨i, hi, rfl⟩ := List.getElem_of_mem hx
    rw [hlen] at hi
    exact ⟨_, _, List.getElem_mem hi, crashL_at ks d.files i hi⟩
  refine ⟨⟨h.quota, ?_, by show (-1 : Int) ≤ -1; omega, by show (-1 : Int) ≤ _; omega, fun x hx => ?_, ?_, fun x hx => ?_⟩, by show (crashL ks d.files).length ≤ _; omega⟩
  · have := used_crashK_le ks d.files h.safe d.files.length (Nat.le_refl _)
    rw [crashK_end] at this
    exact Nat.le_trans this h.used
  · obtain ⟨k, y, hy, rfl⟩ := hat x hx
    have := kept_len k y.2 (h.safe y hy)
    simp only [this]
    exact Nat.le_refl _
  · have := crashK_names ks d.files d.files.length
    rw [crashK_end] at this
    exact rising_names this h.rise
  · obtain ⟨k, y, hy, rfl⟩ := hat x hx
    exact h.name y hy

end Go.Proofs.YtoabedkcieindaaGreatDoor
