import Derived.Test.YtfghgmojnffgnaaGreatPkAN
set_option maxHeartbeats 4000000
set_option maxRecDepth 20000
namespace Go.Proofs.YtfghgmojnffgnaaGreat
open Go.RowKit Go.Maps Go.Sort
theorem getF_upd_ne {α : Type} {n m : Nm} (h : m ≠ n) (f : α -> α) : ∀ fs : List (Nm × α), getF m (upd n f fs) = getF m fs
 | [] => rfl
 | x :: r => by
   have ih := getF_upd_ne h f r
   unfold upd at ih ⊢
   simp only [List.map_cons, getF]
   by_cases e : x.1 = n
   . rw [if_pos e]
     have : ¬ x.1 = m := fun e2 => h (e2.symm.trans e)
     simp only [if_neg this]
     exact ih
   . rw [if_neg e, ih]
theorem getF_ins_ne {α : Type} {n m : Nm} (h : m ≠ n) (x : α) : ∀ fs : List (Nm × α), getF m (ins (n, x) fs) = getF m fs
 | [] => by
   have : ¬ n = m := fun e => h e.symm
   simp [ins, getF, this]
 | y :: r => by
   have hn : ¬ n = m := fun e => h e.symm
   simp only [ins]
   split
   . simp [getF, hn]
   . simp only [getF]; rw [getF_ins_ne h x r]
theorem new_log : logN ≠ newN := by decide
theorem log_new : newN ≠ logN := by decide
end Go.Proofs.YtfghgmojnffgnaaGreat
namespace Go.Proofs.YtfghgmojnffgnaaGreat
open Go.RowKit Go.Maps Go.Sort
theorem rename_used {d : Dk} (h : d.Ok) (ha : d.dead = false) {f : Fl} (hf : getF newN d.files = some f) : used (d.rename newN logN).2.files <= used d.files := by
 unfold Dk.rename
 rw [if_neg (by simp [ha]), if_neg (by simp [logName]), hf]
 simp only
 split
 . exact Nat.le_refl _
 . show used (moved newN logN f d.files) <= _
   unfold moved
   rw [if_neg log_new, used_ins]
   have h1 := used_del h.rise hf
   have h2 := used_del_le logN (del newN d.files)
   simp only
   omega
theorem chunks_range (ops : List Ox) : chunksOf ops = (List.range ((ops.length + 7) / 8)).map fun j => (ops.drop (8 * j)).take 8 := by
 refine List.ext_getElem (by simp [chunksOf, cuts]) (fun i h1 h2 => ?_)
 have hi : i < (cuts ops.length).length := by simpa [chunksOf] using h1
 have e := cuts_at hi
 simp only [chunksOf, List.getElem_map, List.getElem_range, cutOf, e]
 have hl : (ops.drop (8 * i)).length = ops.length - 8 * i := List.length_drop
 by_cases h8 : 8 <= ops.length - 8 * i
 . rw [Nat.min_eq_left h8]
 . rw [Nat.min_eq_right (by omega), List.take_of_length_le (by omega), List.take_of_length_le (by omega)]
theorem chunks_take (ops : List Ox) : ∀ k, ((List.range k).map fun j => (ops.drop (8 * j)).take 8).flatten = ops.take (8 * k)
 | 0 => by simp
 | k + 1 => by
   rw [List.range_succ, List.map_append, List.flatten_append, chunks_take ops k, show 8 * (k + 1) = 8 * k + 8 by omega, List.take_add]
   simp
theorem chunks_flat (ops : List Ox) : (chunksOf ops).flatten = ops := by
 rw [chunks_range, chunks_take, List.take_of_length_le (by omega)]
theorem chunks_ok {m : Mp} (h : MOk m) : ∀ b ∈ chunksOf (opsOf m), batchOk b = true := fun b hb => by
 obtain ⟨x, _, rfl⟩ := List.mem_map.1 hb
 exact cutOf_ok rfl (opsOf_ok h) x
theorem dead_write {d : Dk} (h : d.dead = true) (n : Nm) (c : List UInt8) : d.write n c = (4, d) := by simp [Dk.write, h]
theorem gone_remove {d : Dk} (h : d.dead = false) {n : Nm} (hn : getF n d.files = none) : d.remove n = (2, d) := by simp [Dk.remove, h, hn]
theorem dead_remove {d : Dk} (h : d.dead = true) (n : Nm) : d.remove n = (4, d) := by simp [Dk.remove, h]
theorem ours_all {d : Dk} (h : ∀ x ∈ d.files, oursB x.1 = true) : (nmsOf d.files).all oursB = true := by
 rw [List.all_eq_true]
 intro n hn
 obtain ⟨x, hx, rfl⟩ := List.mem_map.1 hn
 exact h x hx
end Go.Proofs.YtfghgmojnffgnaaGreat
namespace Go.Proofs.YtfghgmojnffgnaaGreat
open Go.RowKit Go.Maps Go.Sort
theorem getF_crash (n : Nm) : ∀ (ks : List Int) (fs : List (Nm × Fl)), ∃ k, getF n (crashL ks fs) = (getF n fs).map (kept k)
 | _, [] => ⟨0, by simp [crashL, getF]⟩
 | [], x :: r => by
   obtain ⟨k, hk⟩ := getF_crash n [] r
   simp only [crashL, getF]
   by_cases e : x.1 = n
   . exact ⟨0, by rw [if_pos e, if_pos e]; rfl⟩
   . exact ⟨k, by rw [if_neg e, if_neg e]; exact hk⟩
 | k0 :: ks, x :: r => by
   obtain ⟨k, hk⟩ := getF_crash n ks r
   simp only [crashL, getF]
   by_cases e : x.1 = n
   . exact ⟨k0, by rw [if_pos e, if_pos e]; rfl⟩
   . exact ⟨k, by rw [if_neg e, if_neg e]; exact hk⟩
theorem kept_all {k : Int} {f : Fl} (h : f.safe = f.bytes.length) : kept k f = f := by
 obtain ⟨b, s⟩ := f
 simp only at h
 subst h
 simp [kept]
theorem crash_names (ks : List Int) (fs : List (Nm × Fl)) : nmsOf (crashL ks fs) = nmsOf fs := by
 rw [<- crashK_end, crashK_names]
theorem crash_used {d : Dk} (h : d.Ok) (ks : List Int) : used (d.crash ks).files <= used d.files := by
 show used (crashL ks d.files) <= _
 rw [<- crashK_end]
 exact used_crashK_le ks d.files h.safe _ (Nat.le_refl _)
theorem crash_ours {d : Dk} (h : ∀ x ∈ d.files, oursB x.1 = true) (ks : List Int) : ∀ x ∈ (d.crash ks).files, oursB x.1 = true := fun x hx => by
 have h1 : x.1 ∈ nmsOf (crashL ks d.files) := List.mem_map.2 ⟨x, hx, rfl⟩
 rw [crash_names] at h1
 obtain ⟨y, hy, e⟩ := List.mem_map.1 h1
 rw [<- e]; exact h y hy
end Go.Proofs.YtfghgmojnffgnaaGreat
