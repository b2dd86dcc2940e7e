/- A disk on which no fuse burns: plain mathematics. -/
import Derived.Test.YtfghgmojnffgnaaOpenC
namespace Go.Proofs.Ytfghgmojnffgnaa
open Go.RowKit Go.Maps Go.Sort

structure Calm (d : Dk) : Prop where
  ok : d.Ok
  alive : d.dead = false
  left : d.left = -1
def hasF (n : Nm) (d : Dk) : Prop := (getF n d.files).isSome = true
theorem getF_upd {α : Type} (n : Nm) (f : α → α) : ∀ fs : List (Nm × α), getF n (upd n f fs) = (getF n fs).map f
  | [] => rfl
  | x :: r => by
    have ih := getF_upd n f r
    unfold upd at ih ⊢
    simp only [List.map_cons]
    by_cases h : x.1 = n
    · rw [if_pos h]; simp [getF, h]
    · rw [if_neg h]; simp only [getF]; rw [if_neg h, if_neg h]; exact ih
theorem Calm.burn {d : Dk} (h : Calm d) : d.burn.left = -1 ∧ d.burn.dead = false := by
  constructor
  · show max (d.left - 1) (-1) = -1
    rw [h.left]; rfl
  · exact h.alive
theorem Calm.write {d : Dk} (h : Calm d) (n : Nm) (c : List UInt8) : Calm (d.write n c).2 ∧ (d.write n c).2.turn = d.turn ∧ ((d.write n c).1 = 0 ∧ hasF n (d.write n c).2 ∨ (d.write n c).1 = 1 ∧ nameOk n = false ∨ (d.write n c).1 = 3) ∧ (hasF n d → hasF n (d.write n c).2) := by
  have hk := (write_ok h.ok n c).1
  unfold Dk.write at hk ⊢
  rw [if_neg (by simp [h.alive])] at hk ⊢
  by_cases h1 : nameOk n = false
  · rw [if_pos h1] at hk ⊢; exact ⟨h, rfl, .inr (.inl ⟨rfl, h1⟩), id⟩
  rw [if_neg h1] at hk ⊢
  by_cases h2 : d.quota < used d.files + c.length
  · rw [if_pos h2] at hk ⊢; exact ⟨h, rfl, .inr (.inr rfl), id⟩
  rw [if_neg h2, if_neg (by simp [h.left])] at hk ⊢
  have hh : hasF n { d.burn with files := if (getF n d.files).isSome then upd n (addB c) d.files else ins (n, ⟨c, 0⟩) d.files } := by
    unfold hasF
    simp only
    split
    · rename_i e; rw [getF_upd]; simpa using e
    · rename_i e
      rw [getF_ins h.ok.rise (by simpa using e)]
      rfl
  exact ⟨⟨hk, h.burn.2, h.burn.1⟩, rfl, .inl ⟨rfl, hh⟩, fun _ => hh⟩
theorem Calm.remove {d : Dk} (h : Calm d) (n : Nm) : Calm (d.remove n).2 ∧ (d.remove n).2.turn = d.turn := by
  have hk := (remove_ok h.ok n).1
  unfold Dk.remove at hk ⊢
  rw [if_neg (by simp [h.alive])] at hk ⊢
  by_cases h1 : (getF n d.files).isNone
  · rw [if_pos h1] at hk ⊢; exact ⟨h, rfl⟩
  rw [if_neg h1, if_neg (by simp [h.left])] at hk ⊢
  exact ⟨⟨hk, h.burn.2, h.burn.1⟩, rfl⟩
theorem Calm.sync {d : Dk} (h : Calm d) {n : Nm} (hn : hasF n d) : (d.sync n).1 = 0 ∧ Calm (d.sync n).2 ∧ (d.sync n).2.turn = d.turn ∧ hasF n (d.sync n).2 := by
  have hk := (sync_ok h.ok n).1
  unfold Dk.sync at hk ⊢
  rw [if_neg (by simp [h.alive]), if_neg (by unfold hasF at hn; simpa [Option.isNone_iff_eq_none, Option.isSome_iff_ne_none] using hn), if_neg (by simp [h.left])] at hk ⊢
  refine ⟨rfl, ⟨hk, h.burn.2, h.burn.1⟩, rfl, ?_⟩
  unfold hasF at hn ⊢
  simp only
  rw [getF_upd]
  simpa using hn
theorem Calm.rename {d : Dk} (h : Calm d) {n m : Nm} (hn : hasF n d) (hm : nameOk m = true) : (d.rename n m).1 = 0 ∧ Calm (d.rename n m).2 ∧ (d.rename n m).2.turn = d.turn := by
  have hk := (rename_ok h.ok n m).1
  obtain ⟨f, hf⟩ := Option.isSome_iff_exists.1 hn
  unfold Dk.rename at hk ⊢
  rw [if_neg (by simp [h.alive]), if_neg (by simp [hm]), hf] at hk ⊢
  simp only at hk ⊢
  rw [if_neg (by simp [h.left])] at hk ⊢
  exact ⟨rfl, ⟨hk, h.burn.2, h.burn.1⟩, rfl⟩
theorem newName : nameOk newN = true := by decide
theorem Calm.put : ∀ (bs : List (List Ox)) {d : Dk}, Calm d → hasF newN d → ((putAll d bs).1 = 0 ∨ (putAll d bs).1 = 3) ∧ Calm (putAll d bs).2 ∧ (putAll d bs).2.turn = d.turn ∧ hasF newN (putAll d bs).2
  | [], _, h, hn => ⟨.inl rfl, h, rfl, hn⟩
  | b :: r, d, h, hn => by
    obtain ⟨h1, h2, h3, h4⟩ := h.write newN (encode b)
    simp only [putAll]
    by_cases e : (d.write newN (encode b)).1 = 0
    · rw [if_pos e]
      obtain ⟨k1, k2, k3, k4⟩ := Calm.put r h1 (h4 hn)
      exact ⟨k1, k2, k3.trans h2, k4⟩
    · rw [if_neg e]
      refine ⟨?_, h1, h2, h4 hn⟩
      rcases h3 with ⟨h3, _⟩ | ⟨_, h3⟩ | h3
      · exact .inl h3
      · rw [newName] at h3; cases h3
      · exact .inr h3
theorem Calm.beg {d : Dk} (h : Calm d) (bs : List (List Ox)) : ((begW d bs).1 = 0 ∨ (begW d bs).1 = 3) ∧ Calm (begW d bs).2 ∧ (begW d bs).2.turn = d.turn := by
  obtain ⟨h1, h2, h3, h4⟩ := h.write newN []
  unfold begW
  by_cases e : (d.write newN []).1 = 0
  · rw [if_pos e]
    have hn : hasF newN (d.write newN []).2 := by
      rcases h3 with ⟨_, h3⟩ | ⟨h3, _⟩ | h3
      · exact h3
      · rw [e] at h3; cases h3
      · rw [e] at h3; cases h3
    obtain ⟨k1, k2, k3, k4⟩ := Calm.put bs h1 hn
    unfold midW
    by_cases e2 : (putAll (d.write newN []).2 bs).1 = 0
    · rw [if_pos e2]
      obtain ⟨s1, s2, s3, s4⟩ := k2.sync k4
      unfold finW
      rw [if_pos s1]
      obtain ⟨r1, r2, r3⟩ := s2.rename s4 logName
      exact ⟨.inl r1, r2, r3.trans (s3.trans (k3.trans h2))⟩
    · rw [if_neg e2]; exact ⟨k1, k2, k3.trans h2⟩
  · rw [if_neg e]
    refine ⟨?_, h1, h2⟩
    rcases h3 with ⟨h3, _⟩ | ⟨_, h3⟩ | h3
    · exact .inl h3
    · rw [newName] at h3; cases h3
    · exact .inr h3
theorem Calm.rewrite {d : Dk} (h : Calm d) (m : Mp) : ((rewriteX d m).1 = 0 ∨ (rewriteX d m).1 = 3) ∧ Calm (rewriteX d m).2 ∧ (rewriteX d m).2.turn = d.turn := by
  obtain ⟨h1, h2⟩ := h.remove newN
  obtain ⟨k1, k2, k3⟩ := h1.beg (chunksOf (opsOf m))
  obtain ⟨r1, r2⟩ := k2.remove newN
  exact ⟨k1, r1, r2.trans (k3.trans h2)⟩
theorem Calm.secure {d : Dk} (h : Calm d) (hn : hasF logN d) (m : Mp) (n : Nat) : (secureX d ⟨d.turn, m, false, false⟩ n).1 = 0 ∧ Calm (secureX d ⟨d.turn, m, false, false⟩ n).2.1 ∧ (secureX d ⟨d.turn, m, false, false⟩ n).2.1.turn = d.turn := by
  obtain ⟨f, hf⟩ := Option.isSome_iff_exists.1 hn
  have hs : d.safe logN = (f.safe, 0) := by simp [Dk.safe, h.alive, hf]
  rw [secureX_ok hs]
  obtain ⟨s1, s2, s3, s4⟩ := h.sync hn
  by_cases hlt : f.safe < n
  · rw [syncX_loose (d := d) (st := { turn := d.turn, m := m, loose := decide (f.safe < n), stuck := false }) (d2 := (d.sync logN).2) h.alive rfl rfl (by simpa using hlt) (by rw [← s1])]
    exact ⟨rfl, s2, s3⟩
  · rw [syncX_tight (d := d) (st := { turn := d.turn, m := m, loose := decide (f.safe < n), stuck := false }) h.alive rfl rfl (by simpa using hlt)]
    exact ⟨rfl, h, rfl⟩
theorem Calm.load {d : Dk} (h : Calm d) : ((loadX d).1 = 0 ∨ (loadX d).1 = 3 ∨ (loadX d).1 = 5) ∧ Calm (loadX d).2.1 ∧ (loadX d).2.1.turn = d.turn ∧ MOk (loadX d).2.2 ∧ (loadX d).2.2.length ≤ 524288 := by
  unfold loadX
  rw [if_neg (by simp [h.alive])]
  split
  · exact ⟨.inr (.inr rfl), h, rfl, MOk.nil, by simp⟩
  split
  · exact ⟨.inl rfl, h, rfl, MOk.nil, by simp⟩
  rename_i f hf
  split
  · exact ⟨.inr (.inr rfl), h, rfl, MOk.nil, by simp⟩
  rename_i m n hr
  obtain ⟨r1, r2, r3⟩ := rep_len hr
  have hbl := bytes_le h.ok hf
  split
  · obtain ⟨k1, k2, k3⟩ := h.rewrite m
    exact ⟨k1.imp id .inl, k2, k3, r1, by show m.length ≤ _; omega⟩
  · obtain ⟨k1, k2, k3⟩ := h.secure (by unfold hasF; rw [hf]; rfl) m f.bytes.length
    exact ⟨.inl k1, k2, k3, r1, by show m.length ≤ _; omega⟩
theorem Calm.open {d : Dk} (h : Calm d) : ((openX d).1 = 0 ∨ (openX d).1 = 3 ∨ (openX d).1 = 5) ∧ Calm (openX d).2.1 ∧ (openX d).2.1.turn = d.turn + 1 ∧ MOk (openX d).2.2 ∧ (openX d).2.2.length ≤ 524288 := by
  have ht : Calm (turned d) := ⟨turned_ok h.ok, h.alive, h.left⟩
  obtain ⟨h1, h2, h3, h4, h5⟩ := ht.load
  have e : openX d = ((loadX (turned d)).1, (loadX (turned d)).2.1, (loadX (turned d)).2.2) := by unfold openX; rw [h2.alive]; simp
  rw [e]
  exact ⟨h1, h2, h3, h4, h5⟩

end Go.Proofs.Ytfghgmojnffgnaa
