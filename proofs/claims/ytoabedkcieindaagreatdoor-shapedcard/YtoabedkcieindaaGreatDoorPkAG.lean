import Derived.Test.YtoabedkcieindaaGreatDoorPkAF
import Derived.Test.YtoabedkcieindaaGreatDoorPkAA
import Derived.Laws.BitsLemmas
namespace Go.Proofs.YtoabedkcieindaaGreatDoor
open Go.RowKit Go.Maps Go.Sort

def XAt (w : World) (S : Nat → Prop) (bx : Nat) (d : Dk) : Prop := ∃ bd, w.heap[bx]? = some (.cells #[.pointer (some ⟨bd, 0, none⟩)] 116) ∧ S bx ∧ ProgAt w (fun k => S k ∧ k ≠ bx) bd d

theorem XAt.mono {w : World} {S T : Nat → Prop} {b : Nat} {d : Dk} (h : XAt w S b d) (hT : ∀ k, k < w.heap.size → S k → T k) : XAt w T b d := by
  obtain ⟨bd, h1, h2, h3⟩ := h
  exact ⟨bd, h1, hT _ (lt_of_block h1) h2, h3.mono (fun k hk s => ⟨hT k hk s.1, s.2⟩)⟩
theorem XAt.kept {w w' : World} {S T : Nat → Prop} {b : Nat} {d : Dk} (h : XAt w S b d) (k : Kp T w w') (hT : ∀ i, S i → ¬ T i) : XAt w' S b d := by
  obtain ⟨bd, h1, h2, h3⟩ := h
  exact ⟨bd, k.at h1 (hT _ h2), h2, h3.kept k (fun i s => hT i s.1)⟩
theorem x_step {w w' : World} {S : Nat → Prop} {bx bd : Nat} {d : Dk} (h1 : w.heap[bx]? = some (.cells #[.pointer (some ⟨bd, 0, none⟩)] 116)) (h2 : S bx) (hp : ProgAt w' (Nw (fun k => S k ∧ k ≠ bx) w) bd d) (kp : Kp (fun k => S k ∧ k ≠ bx) w w') : XAt w' (Nw S w) bx d ∧ Kp S w w' := by
  have hlt := lt_of_block h1
  refine ⟨⟨bd, kp.at h1 (fun s => s.2 rfl), .inl h2, hp.mono (fun k _ s => ?_)⟩, kp.mono (fun _ s => s.1)⟩
  rcases s with s | s
  · exact ⟨.inl s.1, s.2⟩
  · exact ⟨.inr s, by omega⟩
theorem cells1 {w : World} {b : Nat} {a0 : Value} {t : TypeId} (hb : w.heap[b]? = some (.cells #[a0] t)) : w.cell? ⟨b, 0, none⟩ = some a0 ∧ w.frozen? ⟨b, 0, none⟩ = false := ⟨cell_block hb, frozen_block hb⟩

set_option maxHeartbeats 400000 in
theorem inner_any {w : World} {bx bd : Nat} (h1 : w.heap[bx]? = some (.cells #[.pointer (some ⟨bd, 0, none⟩)] 116)) :
    Calls Tryz.prog 55 #[.pointer (some ⟨bx, 0, none⟩)] w fun e w' => e = .returned (.pointer (some ⟨bd, 0, none⟩)) ∧ w' = w := by
  obtain ⟨c0, z0⟩ := cells1 h1
  clear h1
  go_enter Tryz.func55, Tryz.ntmps55
  go_wp2
  go_ret
  exact ⟨rfl, rfl⟩

set_option maxHeartbeats 1000000 in
theorem xWrite_any (b : Nat) (d : Dk) (n : Nm) (c : List UInt8) (S : Nat → Prop) (w : World) (hX : XAt w S b d) (hok : d.Ok) (hl : d.files.length ≤ 4194302) (hn : n.length ≤ 1099511627776) (hcl : c.length ≤ 1099511627776) :
    Calls Tryz.prog 36 #[.pointer (some ⟨b, 0, none⟩), .string ⟨n.toArray⟩, .string ⟨c.toArray⟩] w fun e w' => e = .returned (.int .i64 (d.write n c).1) ∧ XAt w' (Nw S w) b (d.write n c).2 ∧ Kp S w w' := by
  obtain ⟨bd, h1, h2, h3⟩ := id hX
  have hin := inner_any h1
  have hc := dWrite_any bd d n c (fun k => S k ∧ k ≠ b) w h3 hok hl hn hcl
  go_enter Tryz.func36, Tryz.ntmps36
  go_wp2_with (first
    | (go_at_call 55; refine hin.mono ?_; rintro e w' ⟨rfl, rfl⟩; clear hin)
    | (go_at_call 65; refine hc.mono ?_; rintro e w1 ⟨rfl, hp, kp⟩; clear hc))
  go_ret
  exact ⟨rfl, x_step h1 h2 hp kp⟩

set_option maxHeartbeats 1000000 in
theorem xSync_any (b : Nat) (d : Dk) (n : Nm) (S : Nat → Prop) (w : World) (hX : XAt w S b d) (hok : d.Ok) (hn : n.length ≤ maxLen) :
    Calls Tryz.prog 61 #[.pointer (some ⟨b, 0, none⟩), .string ⟨n.toArray⟩] w fun e w' => e = .returned (.int .i64 (d.sync n).1) ∧ XAt w' (Nw S w) b (d.sync n).2 ∧ Kp S w w' := by
  obtain ⟨bd, h1, h2, h3⟩ := id hX
  have hin := inner_any h1
  have hc := dSync_any bd d n (fun k => S k ∧ k ≠ b) w h3 hok hn
  go_enter Tryz.func61, Tryz.ntmps61
  go_wp2_with (first
    | (go_at_call 55; refine hin.mono ?_; rintro e w' ⟨rfl, rfl⟩; clear hin)
    | (go_at_call 97; refine hc.mono ?_; rintro e w1 ⟨rfl, hp, kp⟩; clear hc))
  go_ret
  exact ⟨rfl, x_step h1 h2 hp kp⟩

set_option maxHeartbeats 1000000 in
theorem xRead_any (b : Nat) (d : Dk) (n : Nm) (S : Nat → Prop) (w : World) (hX : XAt w S b d) (hn : n.length ≤ maxLen) :
    Calls Tryz.prog 60 #[.pointer (some ⟨b, 0, none⟩), .string ⟨n.toArray⟩] w fun e w' => e = .returned (.tuple #[.string ⟨(d.read n).1.toArray⟩, .int .i64 (d.read n).2]) ∧ w' = w := by
  obtain ⟨bd, h1, h2, h3⟩ := id hX
  have hin := inner_any h1
  have hc := dRead_any bd d n (fun k => S k ∧ k ≠ b) w h3 hn
  go_enter Tryz.func60, Tryz.ntmps60
  go_wp2_with (first
    | (go_at_call 55; refine hin.mono ?_; rintro e w' ⟨rfl, rfl⟩; clear hin)
    | (go_at_call 106; refine hc.mono ?_; rintro e w1 ⟨rfl, rfl⟩; clear hc))
  go_ret2
  exact ⟨rfl, rfl⟩

set_option maxHeartbeats 1000000 in
theorem xFuse_any (b : Nat) (d : Dk) (n : Int) (S : Nat → Prop) (w : World) (hX : XAt w S b d)  :
    Calls Tryz.prog 22 #[.pointer (some ⟨b, 0, none⟩), .int .i64 n] w fun e w' => e = .returned (.tuple #[]) ∧ XAt w' (Nw S w) b (d.fuse n) ∧ Kp S w w' := by
  obtain ⟨bd, h1, h2, h3⟩ := id hX
  have hin := inner_any h1
  have hc := dFuse_any bd d n (fun k => S k ∧ k ≠ b) w h3
  go_enter Tryz.func22, Tryz.ntmps22
  go_wp2_with (first
    | (go_at_call 55; refine hin.mono ?_; rintro e w' ⟨rfl, rfl⟩; clear hin)
    | (go_at_call 56; refine hc.mono ?_; rintro e w1 ⟨rfl, hp, kp⟩; clear hc))
  go_end0
  exact ⟨rfl, x_step h1 h2 hp kp⟩

set_option maxHeartbeats 1000000 in
theorem xCrash_any (b : Nat) (d : Dk) (q : Option Addr) (qc : Nat) (ks : List Int) (S : Nat → Prop) (w : World) (hX : XAt w S b d) (hok : d.Ok) (hl : d.files.length ≤ 4194303) (hkl : ks.length ≤ 4611686018427387904) (hi : Intp w q ks) (hq : ∀ a, q = some a → 0 < ks.length → ¬ S a.block) :
    Calls Tryz.prog 24 #[.pointer (some ⟨b, 0, none⟩), .slice q ks.length qc] w fun e w' => e = .returned (.tuple #[]) ∧ XAt w' (Nw S w) b (d.crash ks) ∧ Kp S w w' := by
  obtain ⟨bd, h1, h2, h3⟩ := id hX
  have hin := inner_any h1
  have hc := dCrash_any bd d q qc ks (fun k => S k ∧ k ≠ b) w h3 hok hl hkl hi (fun a ha h0 s => hq a ha h0 s.1)
  go_enter Tryz.func24, Tryz.ntmps24
  go_wp2_with (first
    | (go_at_call 55; refine hin.mono ?_; rintro e w' ⟨rfl, rfl⟩; clear hin)
    | (go_at_call 57; refine hc.mono ?_; rintro e w1 ⟨rfl, hp, kp⟩; clear hc))
  go_end0
  exact ⟨rfl, x_step h1 h2 hp kp⟩

set_option maxHeartbeats 1000000 in
theorem xNames_dead (b : Nat) (d : Dk) (S : Nat → Prop) (w : World) (hX : XAt w S b d) (hd : d.dead = true) :
    Calls Tryz.prog 45 #[.pointer (some ⟨b, 0, none⟩)] w fun e w' => e = .returned (.tuple #[.slice none 0 0, .int .i64 4]) ∧ w' = w := by
  obtain ⟨bd, h1, h2, h3⟩ := id hX
  have hin := inner_any h1
  have hc := dNames_dead bd d _ w h3 hd
  go_enter Tryz.func45, Tryz.ntmps45
  go_wp2_with (first
    | (go_at_call 55; refine hin.mono ?_; rintro e w' ⟨rfl, rfl⟩; clear hin)
    | (go_at_call 74; refine hc.mono ?_; rintro e w1 ⟨rfl, rfl⟩; clear hc))
  go_ret2
  exact ⟨rfl, rfl⟩

set_option maxHeartbeats 1000000 in
theorem xNames_any (b : Nat) (d : Dk) (S : Nat → Prop) (w : World) (hX : XAt w S b d) (hok : d.Ok) (hl : d.files.length ≤ 4194303) (hd : d.dead = false) :
    Calls Tryz.prog 45 #[.pointer (some ⟨b, 0, none⟩)] w fun e w' => ∃ v, e = .returned (.tuple #[v, .int .i64 0]) ∧ Below w.heap.size w w' ∧ OwnS w' w.heap.size v (nmsOf d.files) := by
  obtain ⟨bd, h1, h2, h3⟩ := id hX
  have hin := inner_any h1
  have hc := dNames_any bd d _ w h3 hok hl hd
  go_enter Tryz.func45, Tryz.ntmps45
  go_wp2_with (first
    | (go_at_call 55; refine hin.mono ?_; rintro e w' ⟨rfl, rfl⟩; clear hin)
    | (go_at_call 74; refine hc.mono ?_; rintro e w1 ⟨v, rfl, hbl, hown⟩; clear hc))
  go_ret2
  exact ⟨v, rfl, hbl, hown⟩

set_option maxHeartbeats 1000000 in
theorem dNew_bad (q : Int) (w : World) (hq : quotaOk q = false) : Calls Tryz.prog 62 #[.int .i64 q] w fun e w' => e = .returned (.tuple #[.pointer none, .int .i64 1]) ∧ w' = w := by
  rcases (by simp [quotaOk] at hq; omega : q < 0 ∨ 1048576 < q) with h | h
  all_goals
    clear hq
    go_enter Tryz.func62, Tryz.ntmps62
    go_wp2
    go_ret2
    exact ⟨rfl, rfl⟩

set_option maxHeartbeats 1000000 in
theorem dNew_ok (q : Int) (w : World) (hq : quotaOk q = true) : Calls Tryz.prog 62 #[.int .i64 q] w fun e w' => ∃ bd, e = .returned (.tuple #[.pointer (some ⟨bd, 0, none⟩), .int .i64 0]) ∧ ProgAt w' (fun k => w.heap.size ≤ k) bd (newDk q) ∧ Below w.heap.size w w' := by
  obtain ⟨h0, h1⟩ : 0 ≤ q ∧ q ≤ 1048576 := by simpa [quotaOk] using hq
  clear hq
  have HQ : Hid (((q.toNat : Nat) : Int) = q) := by simp [Hid]; omega
  have hmk := run_makeMap (P := Tryz.prog) 146 w
  go_enter Tryz.func62, Tryz.ntmps62
  go_wp2
  go_ret2
  have hb2 : ((w.alloc (.map #[] 0)).alloc (.cells #[.map (some w.heap.size), .int .i64 q, .int .i64 (-1), .bool false, .int .i64 0] 148)).heap[w.heap.size + 1]? = some (.cells #[.map (some w.heap.size), .int .i64 q, .int .i64 (-1), .bool false, .int .i64 0] 148) := by
    have := block_new (w.alloc (.map #[] 0)) (.cells #[.map (some w.heap.size), .int .i64 q, .int .i64 (-1), .bool false, .int .i64 0] 148)
    simpa using this
  refine ⟨w.heap.size + 1, rfl, ⟨w.heap.size, [], ⟨?_, ?_, fun x hx => (by cases hx), List.Pairwise.nil, Nat.le_succ _, Nat.le_refl _, fun x hx => (by cases hx)⟩, rfl⟩, ((Below.refl _ _).alloc (Nat.le_refl _) _).alloc (by simp) _⟩
  · rw [hb2]
    simp only [newDk, used, List.map_nil, List.sum_nil]
    have := HQ.out
    simp [this]
  · exact (World.ownsMap_made w Tryz.prog 9 Rf).alloc _

set_option maxHeartbeats 1000000 in
theorem xNew_bad (q : Int) (w : World) (hq : quotaOk q = false) : Calls Tryz.prog 32 #[.int .i64 q] w fun e w' => e = .returned (.tuple #[.pointer none, .int .i64 1]) ∧ w' = w := by
  have hc := dNew_bad q w hq
  go_enter Tryz.func32, Tryz.ntmps32
  go_wp2_with (go_at_call 62; refine hc.mono ?_; rintro e w1 ⟨rfl, rfl⟩; clear hc)
  go_ret2
  exact ⟨rfl, rfl⟩

set_option maxHeartbeats 1000000 in
theorem xNew_ok (q : Int) (w : World) (hq : quotaOk q = true) : Calls Tryz.prog 32 #[.int .i64 q] w fun e w' => ∃ bx, e = .returned (.tuple #[.pointer (some ⟨bx, 0, none⟩), .int .i64 0]) ∧ XAt w' (fun k => w.heap.size ≤ k) bx (newDk q) ∧ Below w.heap.size w w' := by
  have hc := dNew_ok q w hq
  go_enter Tryz.func32, Tryz.ntmps32
  go_wp2_with (go_at_call 62; refine hc.mono ?_; rintro e w1 ⟨bd, rfl, hp, hbl⟩; clear hc)
  go_ret2
  have hs := hbl.size
  refine ⟨w1.heap.size, rfl, ⟨bd, block_new _ _, hs, ?_⟩, hbl.alloc hs _⟩
  exact (hp.mono (T := fun k => w.heap.size ≤ k ∧ k ≠ w1.heap.size) (fun k hk s => ⟨s, by omega⟩)).kept (T := fun _ => False) ((Kp.refl _ _).alloc _) (fun _ _ f => f)

end Go.Proofs.YtoabedkcieindaaGreatDoor

namespace Go.Proofs.YtoabedkcieindaaGreatDoor
open Go.RowKit

theorem nms_upd {α : Type} (n : Nm) (f : α → α) (l : List (Nm × α)) : nmsOf (upd n f l) = nmsOf l := by
  unfold nmsOf upd
  rw [List.map_map]
  apply List.map_congr_left
  intro x _
  simp only [Function.comp_apply]
  split <;> rfl
theorem mem_upd {α : Type} {n : Nm} {f : α → α} {l : List (Nm × α)} {x : Nm × α} (h : x ∈ upd n f l) : ∃ y ∈ l, x.1 = y.1 ∧ (x.2 = f y.2 ∨ x.2 = y.2) := by
  unfold upd at h
  obtain ⟨y, hy, rfl⟩ := List.mem_map.1 h
  refine ⟨y, hy, ?_⟩
  split
  · exact ⟨rfl, .inl rfl⟩
  · exact ⟨rfl, .inr rfl⟩
theorem nameOk_le {n : Nm} (h : nameOk n = true) : n.length ≤ 20 := by
  unfold nameOk at h
  simp only [Bool.and_eq_true, decide_eq_true_eq] at h
  exact h.1.2

theorem Dk.Ok.die {d : Dk} (h : d.Ok) : d.die.Ok := ⟨h.quota, h.used, h.left0, h.left1, h.safe, h.rise, h.name⟩
theorem Dk.Ok.files {d : Dk} (h : d.Ok) {fs : List (Nm × Fl)} (hu : Go.Proofs.YtoabedkcieindaaGreatDoor.used fs ≤ d.quota) (hs : ∀ x ∈ fs, x.2.safe ≤ x.2.bytes.length) (hr : rising fs) (hn : ∀ x ∈ fs, x.1.length ≤ 20) : ({ d.burn with files := fs } : Dk).Ok := by
  have h0 := h.left0
  have h1 := h.left1
  exact ⟨h.quota, hu, by show -1 ≤ max (d.left - 1) (-1); omega, by show max (d.left - 1) (-1) ≤ _; omega, hs, hr, hn⟩

theorem newDk_ok {q : Int} (h : quotaOk q = true) : (newDk q).Ok := by
  obtain ⟨h0, h1⟩ : 0 ≤ q ∧ q ≤ 1048576 := by simpa [quotaOk] using h
  exact ⟨by simp only [newDk]; omega, by simp [newDk, used], by simp [newDk], by simp [newDk], by simp [newDk], by simp [newDk, rising], by simp [newDk]⟩

theorem write_ok {d : Dk} (h : d.Ok) (n : Nm) (c : List UInt8) : (d.write n c).2.Ok ∧ (d.write n c).2.files.length ≤ d.files.length + 1 := by
  unfold Dk.write
  split
  · exact ⟨h, Nat.le_succ _⟩
  split
  · exact ⟨h, Nat.le_succ _⟩
  rename_i hk
  split
  · exact ⟨h, Nat.le_succ _⟩
  rename_i hq
  split
  · exact ⟨h.die, Nat.le_succ _⟩
  simp only
  cases hg : getF n d.files with
  | some f =>
    simp only [Option.isSome_some, if_true]
    refine ⟨h.files ?_ (fun x hx => ?_) (rising_names (nms_upd n _ _) h.rise) (fun x hx => ?_), by simp [upd]⟩
    · have := used_upd h.rise hg (addB c)
      simp only [addB, List.length_append] at this
      omega
    · obtain ⟨y, hy, _, e⟩ := mem_upd hx
      have := h.safe y hy
      rcases e with e | e <;> rw [e]
      · simp only [addB, List.length_append]; omega
      · exact this
    · obtain ⟨y, hy, e, _⟩ := mem_upd hx
      rw [e]; exact h.name y hy
  | none =>
    simp only [Option.isSome_none, Bool.false_eq_true, if_false]
    refine ⟨h.files ?_ (fun x hx => ?_) (rising_ins h.rise hg) (fun x hx => ?_), by rw [(ins_perm _ _).length_eq]; simp⟩
    · rw [used_ins]; simp only; omega
    · rcases List.mem_cons.1 ((ins_perm _ _).mem_iff.1 hx) with rfl | hx
      · exact Nat.zero_le _
      · exact h.safe x hx
    · rcases List.mem_cons.1 ((ins_perm _ _).mem_iff.1 hx) with rfl | hx
      · exact nameOk_le (by simpa using hk)
      · exact h.name x hx

theorem sync_ok {d : Dk} (h : d.Ok) (n : Nm) : (d.sync n).2.Ok ∧ (d.sync n).2.files.length ≤ d.files.length := by
  unfold Dk.sync
  split
  · exact ⟨h, Nat.le_refl _⟩
  split
  · exact ⟨h, Nat.le_refl _⟩
  rename_i hn
  split
  · exact ⟨h.die, Nat.le_refl _⟩
  cases hg : getF n d.files with
  | none => rw [hg] at hn; simp at hn
  | some f =>
    refine ⟨h.files ?_ (fun x hx => ?_) (rising_names (nms_upd n _ _) h.rise) (fun x hx => ?_), by simp [upd]⟩
    · have := used_upd h.rise hg allSafe
      have := h.used
      simp only [allSafe] at *
      omega
    · obtain ⟨y, hy, _, e⟩ := mem_upd hx
      have := h.safe y hy
      rcases e with e | e <;> rw [e]
      · exact Nat.le_refl _
      · exact this
    · obtain ⟨y, hy, e, _⟩ := mem_upd hx
      rw [e]; exact h.name y hy

theorem mem_del {α : Type} {n : Nm} {l : List (Nm × α)} {x : Nm × α} (h : x ∈ del n l) : x ∈ l := (List.mem_filter.1 h).1
theorem used_del_le (n : Nm) (fs : List (Nm × Fl)) : used (del n fs) ≤ used fs := by
  induction fs with
  | nil => exact Nat.le_refl _
  | cons x r ih =>
    simp only [del, List.filter_cons] at ih ⊢
    split
    · simp only [used, List.map_cons, List.sum_cons] at ih ⊢; omega
    · simp only [used, List.map_cons, List.sum_cons] at ih ⊢; omega

theorem remove_ok {d : Dk} (h : d.Ok) (n : Nm) : (d.remove n).2.Ok ∧ (d.remove n).2.files.length ≤ d.files.length := by
  unfold Dk.remove
  split
  · exact ⟨h, Nat.le_refl _⟩
  split
  · exact ⟨h, Nat.le_refl _⟩
  split
  · exact ⟨h.die, Nat.le_refl _⟩
  exact ⟨h.files (Nat.le_trans (used_del_le n _) h.used) (fun x hx => h.safe x (mem_del hx)) (rising_del h.rise) (fun x hx => h.name x (mem_del hx)), List.length_filter_le _ _⟩

theorem rename_ok {d : Dk} (h : d.Ok) (n m : Nm) : (d.rename n m).2.Ok ∧ (d.rename n m).2.files.length ≤ d.files.length + 1 := by
  unfold Dk.rename
  split
  · exact ⟨h, Nat.le_succ _⟩
  split
  · exact ⟨h, Nat.le_succ _⟩
  rename_i hk
  cases hg : getF n d.files with
  | none => exact ⟨h, Nat.le_succ _⟩
  | some f =>
    simp only
    split
    · exact ⟨h.die, Nat.le_succ _⟩
    unfold moved
    split
    · exact ⟨h.files h.used h.safe h.rise h.name, Nat.le_succ _⟩
    refine ⟨h.files ?_ (fun x hx => ?_) (rising_ins (rising_del (rising_del h.rise)) (getF_del m _)) (fun x hx => ?_), ?_⟩
    · have h1 := used_del h.rise hg
      have h2 := used_del_le m (del n d.files)
      have h3 := h.used
      rw [used_ins]; simp only; omega
    · rcases List.mem_cons.1 ((ins_perm _ _).mem_iff.1 hx) with rfl | hx
      · have h9 := h.safe _ (getF_mem hg)
        exact h9
      · exact h.safe x (mem_del (mem_del hx))
    · rcases List.mem_cons.1 ((ins_perm _ _).mem_iff.1 hx) with rfl | hx
      · exact nameOk_le (by simpa using hk)
      · exact h.name x (mem_del (mem_del hx))
    · show (ins (m, f) (del m (del n d.files))).length ≤ _
      rw [(ins_perm _ _).length_eq, List.length_cons]
      have h1 := List.length_filter_le (fun x : Nm × Fl => !(x.1 == m)) (del n d.files)
      have h2 := List.length_filter_le (fun x : Nm × Fl => !(x.1 == n)) d.files
      simp only [del] at *
      omega

theorem fuse_ok {d : Dk} (h : d.Ok) (n : Int) (hn : n ≤ 9223372036854775807) : (d.fuse n).Ok ∧ (d.fuse n).files.length ≤ d.files.length := by
  unfold Dk.fuse
  split
  · exact ⟨h, Nat.le_refl _⟩
  · exact ⟨⟨h.quota, h.used, by show -1 ≤ max n (-1); omega, by show max n (-1) ≤ _; omega, h.safe, h.rise, h.name⟩, Nat.le_refl _⟩

theorem crash_ok {d : Dk} (h : d.Ok) (ks : List Int) : (d.crash ks).Ok ∧ (d.crash ks).files.length ≤ d.files.length := by
  have hlen := crashL_len ks d.files
  have hat : ∀ x ∈ crashL ks d.files, ∃ k, ∃ y ∈ d.files, x = (y.1, kept k y.2) := fun x hx => by
    obtain ⟨i, hi, rfl⟩ := List.getElem_of_mem hx
    rw [hlen] at hi
    exact ⟨_, _, List.getElem_mem hi, crashL_at ks d.files i hi⟩
  refine ⟨⟨h.quota, ?_, by show (-1 : Int) ≤ -1; omega, by show (-1 : Int) ≤ _; omega, fun x hx => ?_, ?_, fun x hx => ?_⟩, by show (crashL ks d.files).length ≤ _; omega⟩
  · have := used_crashK_le ks d.files h.safe d.files.length (Nat.le_refl _)
    rw [crashK_end] at this
    exact Nat.le_trans this h.used
  · obtain ⟨k, y, hy, rfl⟩ := hat x hx
    have := kept_len k y.2 (h.safe y hy)
    simp only [this]
    exact Nat.le_refl _
  · have := crashK_names ks d.files d.files.length
    rw [crashK_end] at this
    exact rising_names this h.rise
  · obtain ⟨k, y, hy, rfl⟩ := hat x hx
    exact h.name y hy

end Go.Proofs.YtoabedkcieindaaGreatDoor

namespace Go.Proofs.YtoabedkcieindaaGreatDoor
open Go.RowKit

structure MOk (m : Mp) : Prop where
  rise : rising m
  key : ∀ x ∈ m, keyOk x.1 = true
  val : ∀ x ∈ m, x.2.length ≤ 64

theorem MOk.nil : MOk [] := ⟨List.Pairwise.nil, fun _ h => (by cases h), fun _ h => (by cases h)⟩
theorem mem_ins {α : Type} {x y : Nm × α} {l : List (Nm × α)} : y ∈ ins x l ↔ y = x ∨ y ∈ l := by rw [(ins_perm x l).mem_iff, List.mem_cons]
theorem ins_len {α : Type} (x : Nm × α) (l : List (Nm × α)) : (ins x l).length = l.length + 1 := by rw [(ins_perm x l).length_eq]; rfl
theorem del_len {α : Type} (n : Nm) (l : List (Nm × α)) : (del n l).length ≤ l.length := List.length_filter_le _ _
theorem opOk_keyOk {o : Ox} (h : opOk o = true) : keyOk o.key = true := by simp only [opOk, Bool.and_eq_true] at h; exact h.1
theorem MOk.doOp {m : Mp} (h : MOk m) {o : Ox} (ho : opOk o = true) : MOk (doOp m o) := by
  unfold Go.Proofs.YtoabedkcieindaaGreatDoor.doOp
  split
  · exact ⟨rising_del h.rise, fun x hx => h.key x (mem_del hx), fun x hx => h.val x (mem_del hx)⟩
  · rename_i hg
    refine ⟨rising_ins (rising_del h.rise) (getF_del _ _), fun x hx => ?_, fun x hx => ?_⟩
    · rcases mem_ins.1 hx with rfl | hx
      · exact opOk_keyOk ho
      · exact h.key x (mem_del hx)
    · rcases mem_ins.1 hx with rfl | hx
      · exact opOk_val ho (by simpa using hg)
      · exact h.val x (mem_del hx)
theorem MOk.doAll {m : Mp} (h : MOk m) {l : List Ox} (hl : ∀ o ∈ l, opOk o = true) : MOk (doAll m l) := by
  induction l generalizing m with
  | nil => exact h
  | cons o r ih => exact ih (h.doOp (hl o (by simp))) (fun o' h' => hl o' (by simp [h']))
theorem doOp_len (m : Mp) (o : Ox) : (doOp m o).length ≤ m.length + 1 := by
  unfold doOp
  split
  · have := del_len o.key m; omega
  · rw [ins_len]; have := del_len o.key m; omega
theorem doAll_len (m : Mp) (l : List Ox) : (doAll m l).length ≤ m.length + l.length := by
  induction l generalizing m with
  | nil => exact Nat.le_refl _
  | cons o r ih => have := ih (doOp m o); have := doOp_len m o; simp only [doAll, List.foldl_cons, List.length_cons] at *; omega

theorem decOp_ok {l : List UInt8} {o : Ox} {n : Nat} (h : decOp l = some (o, n)) : opOk o = true ∧ 2 ≤ n ∧ n ≤ l.length := by
  unfold decOp at h
  split at h
  · simp only at h
    split at h
    · rename_i h2
      simp only [Option.some.injEq, Prod.mk.injEq] at h
      obtain ⟨rfl, rfl⟩ := h
      refine ⟨?_, by omega, by omega⟩
      simp [opOk, keyOk]; omega
    · cases h
  · simp only at h
    split at h
    · rename_i h2
      simp only [Option.some.injEq, Prod.mk.injEq] at h
      obtain ⟨rfl, rfl⟩ := h
      refine ⟨?_, by omega, by omega⟩
      simp [opOk, keyOk]; omega
    · cases h
theorem decOps_ok : ∀ (k : Nat) (l : List UInt8) (ops : List Ox), decOps k l = some ops → (∀ o ∈ ops, opOk o = true) ∧ 2 * ops.length ≤ l.length ∧ (l ≠ [] → ops ≠ [])
  | k, [], ops, h => by
    have : ops = [] := by unfold decOps at h; simpa using h.symm
    subst this
    exact ⟨fun _ h => (by cases h), by simp, fun h => absurd rfl h⟩
  | 0, c :: r, ops, h => by simp [decOps] at h
  | k + 1, c :: r, ops, h => by
    rw [decOps] at h
    cases hd : decOp (c :: r) with
    | none => rw [hd] at h; cases h
    | some x =>
      obtain ⟨o, n⟩ := x
      rw [hd] at h
      simp only at h
      obtain ⟨h1, h2, h3⟩ := decOp_ok hd
      cases hr : decOps k ((c :: r).drop n) with
      | none => rw [hr] at h; cases h
      | some rest =>
        rw [hr] at h
        simp only [Option.map_some, Option.some.injEq] at h
        subst h
        obtain ⟨k1, k2, k3⟩ := decOps_ok k _ rest hr
        refine ⟨fun o' ho' => ?_, ?_, fun _ => by simp⟩
        · rcases List.mem_cons.1 ho' with rfl | ho'
          · exact h1
          · exact k1 o' ho'
        · rw [List.length_drop] at k2
          simp only [List.length_cons] at *
          omega
theorem decode_ok {t : List UInt8} {ops : List Ox} {n : Nat} (h : decode t = some (some (ops, n))) : (∀ o ∈ ops, opOk o = true) ∧ 8 ≤ n ∧ n ≤ t.length ∧ 2 * ops.length ≤ n := by
  unfold decode at h
  split at h
  · cases h
  · simp only at h
    split at h
    · cases h
    · split at h
      · cases h
      · rename_i h1 h2 h3
        split at h
        · cases h
        · rename_i ops' hd
          split at h
          · simp only [Option.some.injEq, Prod.mk.injEq] at h
            obtain ⟨rfl, rfl⟩ := h
            obtain ⟨k1, k2, k3⟩ := decOps_ok 8 _ _ hd
            rw [List.length_take, List.length_drop] at k2
            refine ⟨k1, by omega, by omega, by omega⟩
          · cases h
theorem replay_ok : ∀ (f : Nat) (t : List UInt8) (m : Mp) (m' : Mp) (n : Nat), replay f t m = some (m', n) → MOk m → MOk m' ∧ n ≤ t.length ∧ 2 * m'.length ≤ 2 * m.length + n
  | 0, t, m, m', n, h, hm => by
    simp only [replay, Option.some.injEq, Prod.mk.injEq] at h
    obtain ⟨rfl, rfl⟩ := h
    exact ⟨hm, Nat.zero_le _, by omega⟩
  | f + 1, t, m, m', n, h, hm => by
    rw [replay] at h
    split at h
    · simp only [Option.some.injEq, Prod.mk.injEq] at h
      obtain ⟨rfl, rfl⟩ := h
      exact ⟨hm, Nat.zero_le _, by omega⟩
    · split at h
      · cases h
      · simp only [Option.some.injEq, Prod.mk.injEq] at h
        obtain ⟨rfl, rfl⟩ := h
        exact ⟨hm, Nat.zero_le _, by omega⟩
      · rename_i ops k hd
        obtain ⟨h1, h2, h3, h4⟩ := decode_ok hd
        cases hr : replay f (t.drop k) (doAll m ops) with
        | none => rw [hr] at h; cases h
        | some x =>
          obtain ⟨m2, n2⟩ := x
          rw [hr] at h
          simp only [Option.map_some, Option.some.injEq, Prod.mk.injEq] at h
          obtain ⟨rfl, rfl⟩ := h
          obtain ⟨k1, k2, k3⟩ := replay_ok f _ _ _ _ hr (hm.doAll h1)
          rw [List.length_drop] at k2
          have := doAll_len m ops
          exact ⟨k1, by omega, by omega⟩

def opsOf (m : Mp) : List Ox := m.map fun x => ⟨x.1, x.2, false⟩
theorem ins_last {α : Type} {x : Nm × α} : ∀ {l : List (Nm × α)}, (∀ y ∈ l, bytesBefore y.1 x.1 = true) → ins x l = l ++ [x]
  | [], _ => rfl
  | y :: r, h => by
    rw [ins, if_neg, ins_last (fun z hz => h z (by simp [hz]))]
    · rfl
    · have h1 := h y (by simp)
      intro h2
      exact absurd rfl (before_ne (before_trans h1 h2))
theorem doAll_opsOf : ∀ (m a : Mp), rising (a ++ m) → doAll a (opsOf m) = a ++ m
  | [], a, _ => by simp [opsOf, doAll]
  | x :: r, a, h => by
    have hb : ∀ y ∈ a, bytesBefore y.1 x.1 = true := fun y hy => by
      have := List.pairwise_append.1 h
      exact this.2.2 y hy x (by simp)
    have hd : del x.1 a = a := del_none (getF_none (fun k hk => before_ne (hb _ (List.getElem_mem hk))))
    have e : doOp a ⟨x.1, x.2, false⟩ = a ++ [x] := by simp [doOp, hd, ins_last hb]
    show doAll (doOp a ⟨x.1, x.2, false⟩) (opsOf r) = _
    rw [e, doAll_opsOf r (a ++ [x]) (by simpa using h)]
    simp

def chunks8 : Nat → List Ox → List (List Ox)
  | 0, _ => []
  | f + 1, l => if l.length = 0 then [] else l.take 8 :: chunks8 f (l.drop 8)
theorem chunks8_flat : ∀ (f : Nat) (l : List Ox), l.length ≤ f → (chunks8 f l).flatten = l
  | 0, l, h => by have : l = [] := List.eq_nil_of_length_eq_zero (by omega); subst this; rfl
  | f + 1, l, h => by
    rw [chunks8]
    split
    · rename_i h0; have : l = [] := List.eq_nil_of_length_eq_zero h0; subst this; rfl
    · rw [List.flatten_cons, chunks8_flat f _ (by rw [List.length_drop]; omega), List.take_append_drop]
theorem chunks8_ok : ∀ (f : Nat) (l : List Ox), (∀ o ∈ l, opOk o = true) → ∀ b ∈ chunks8 f l, batchOk b = true
  | 0, l, _, b, hb => by cases hb
  | f + 1, l, h, b, hb => by
    rw [chunks8] at hb
    split at hb
    · cases hb
    · rename_i h0
      rcases List.mem_cons.1 hb with rfl | hb
      · rw [batchOk_iff]
        refine ⟨⟨by rw [List.length_take]; omega, by rw [List.length_take]; omega⟩, fun o ho => h o (List.mem_of_mem_take ho)⟩
      · exact chunks8_ok f _ (fun o ho => h o (List.mem_of_mem_drop ho)) b hb
theorem opsOf_ok {m : Mp} (h : MOk m) : ∀ o ∈ opsOf m, opOk o = true := by
  intro o ho
  obtain ⟨x, hx, rfl⟩ := List.mem_map.1 ho
  have h1 := h.key x hx
  have h2 := h.val x hx
  simp [opOk, h1, h2]

end Go.Proofs.YtoabedkcieindaaGreatDoor

namespace Go.Proofs.YtoabedkcieindaaGreatDoor

theorem u32_xor (a b : Nat) (ha : a < 4294967296) (hb : b < 4294967296) : bits .xor .u32 (a : Int) (b : Int) = ((a ^^^ b : Nat) : Int) := by
  show IntKind.u32.wrap ((BitVec.ofInt 32 (a : Int) ^^^ BitVec.ofInt 32 (b : Int)).toNat : Int) = _
  have h1 : (BitVec.ofInt 32 (a : Int)).toNat = a := by rw [BitVec.ofInt_natCast, BitVec.toNat_ofNat]; exact Nat.mod_eq_of_lt (by omega)
  have h2 : (BitVec.ofInt 32 (b : Int)).toNat = b := by rw [BitVec.ofInt_natCast, BitVec.toNat_ofNat]; exact Nat.mod_eq_of_lt (by omega)
  have h3 : a ^^^ b < 2 ^ 32 := Nat.xor_lt_two_pow (by omega) (by omega)
  rw [BitVec.toNat_xor, h1, h2, IntKind.wrap_u32]
  omega
theorem fnvStep_int (n : Nat) (c : UInt8) (hn : n < 4294967296) : bits .xor .u32 (n : Int) ((c.toNat : Int) % 4294967296) * 16777619 % 4294967296 = ((fnvStep n c : Nat) : Int) := by
  have hc : c.toNat < 256 := c.toNat_lt
  have e : ((c.toNat : Int) % 4294967296) = (c.toNat : Int) := by omega
  rw [e, u32_xor n c.toNat hn (by omega)]
  unfold fnvStep
  omega
theorem wraps_i64 (n : Int) (h₀ : 0 ≤ n) (h₁ : n < 2 ^ 63) : IntKind.i64.wrap n = n := by rw [IntKind.wrap_i64]; omega
theorem wraps_u32 (n : Int) (h₀ : 0 ≤ n) (h₁ : n < 2 ^ 32) : IntKind.u32.wrap n = n := by rw [IntKind.wrap_u32]; omega
theorem i64_or8 (x y : Int) (hx₀ : 0 ≤ x) (hx : x % 256 = 0) (hx₁ : x < 9223372036854775808) (h₀ : 0 ≤ y) (h₁ : y < 256) : bits .or .i64 x y = x + y :=
  bits_join .i64 63 (by decide) wraps_i64 8 x y hx₀ hx hx₁ h₀ h₁ (by omega)
theorem u32_or8 (x y : Int) (hx₀ : 0 ≤ x) (hx : x % 256 = 0) (hx₁ : x < 4294967296) (h₀ : 0 ≤ y) (h₁ : y < 256) : bits .or .u32 x y = x + y :=
  bits_join .u32 32 (by decide) wraps_u32 8 x y hx₀ hx hx₁ h₀ h₁ (by omega)
theorem u32_or16 (x y : Int) (hx₀ : 0 ≤ x) (hx : x % 65536 = 0) (hx₁ : x < 4294967296) (h₀ : 0 ≤ y) (h₁ : y < 65536) : bits .or .u32 x y = x + y :=
  bits_join .u32 32 (by decide) wraps_u32 16 x y hx₀ hx hx₁ h₀ h₁ (by omega)
theorem u32_or24 (x y : Int) (hx₀ : 0 ≤ x) (hx : x % 16777216 = 0) (hx₁ : x < 4294967296) (h₀ : 0 ≤ y) (h₁ : y < 16777216) : bits .or .u32 x y = x + y :=
  bits_join .u32 32 (by decide) wraps_u32 24 x y hx₀ hx hx₁ h₀ h₁ (by omega)
theorem u8_or_fin : ∀ a : Fin 128, bits .or .u8 (a.val : Int) 128 = (a.val : Int) + 128 := by decide
theorem u8_or (n : Nat) (h : n < 128) : bits .or .u8 (n : Int) 128 = (n : Int) + 128 := u8_or_fin ⟨n, h⟩
set_option maxRecDepth 100000 in
theorem u8_and_fin : ∀ a : Fin 256, bits .and .u8 (a.val : Int) 128 = if 128 ≤ a.val then 128 else 0 := by decide
theorem u8_and (n : Nat) (h : n < 256) : bits .and .u8 (n : Int) 128 = if 128 ≤ n then 128 else 0 := u8_and_fin ⟨n, h⟩
set_option maxRecDepth 100000 in
theorem u8_clr_fin : ∀ a : Fin 256, bits .andNot .u8 (a.val : Int) 128 = ((a.val % 128 : Nat) : Int) := by decide
theorem u8_clr (n : Nat) (h : n < 256) : bits .andNot .u8 (n : Int) 128 = ((n % 128 : Nat) : Int) := u8_clr_fin ⟨n, h⟩

end Go.Proofs.YtoabedkcieindaaGreatDoor
