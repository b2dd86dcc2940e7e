/- The program's entry points: NewDisk, and the methods of strata.Disk. -/
import Derived.Test.YtoabedkcieindaaGreatDoorCodeI
namespace Go.Proofs.YtoabedkcieindaaGreatDoor
open Go.RowKit Go.Maps Go.Sort

/-- Block bx is a strata.Disk, over a disk that reads as d. -/
def XAt (w : World) (S : Nat → Prop) (bx : Nat) (d : Dk) : Prop := ∃ bd, w.heap[bx]? = some (.cells #[.pointer (some ⟨bd, 0, none⟩)] 116) ∧ S bx ∧ ProgAt w (fun k => S k ∧ k ≠ bx) bd d

theorem XAt.mono {w : World} {S T : Nat → Prop} {b : Nat} {d : Dk} (h : XAt w S b d) (hT : ∀ k, k < w.heap.size → S k → T k) : XAt w T b d := by
  obtain ⟨bd, h1, h2, h3⟩ := h
  exact ⟨bd, h1, hT _ (lt_of_block h1) h2, h3.mono (fun k hk s => ⟨hT k hk s.1, s.2⟩)⟩
theorem XAt.kept {w w' : World} {S T : Nat → Prop} {b : Nat} {d : Dk} (h : XAt w S b d) (k : Kp T w w') (hT : ∀ i, S i → ¬ T i) : XAt w' S b d := by
  obtain ⟨bd, h1, h2, h3⟩ := h
  exact ⟨bd, k.at h1 (hT _ h2), h2, h3.kept k (fun i s => hT i s.1)⟩
theorem x_step {w w' : World} {S : Nat → Prop} {bx bd : Nat} {d : Dk} (h1 : w.heap[bx]? = some (.cells #[.pointer (some ⟨bd, 0, none⟩)] 116)) (h2 : S bx) (hp : ProgAt w' (Nw (fun k => S k ∧ k ≠ bx) w) bd d) (kp : Kp (fun k => S k ∧ k ≠ bx) w w') : XAt w' (Nw S w) bx d ∧ Kp S w w' := by
  have hlt := lt_of_block h1
  refine ⟨⟨bd, kp.at h1 (fun s => s.2 rfl), .inl h2, hp.mono (fun k _ s => ?_)⟩, kp.mono (fun _ s => s.1)⟩
  rcases s with s | s
  · exact ⟨.inl s.1, s.2⟩
  · exact ⟨.inr s, by omega⟩
theorem cells1 {w : World} {b : Nat} {a0 : Value} {t : TypeId} (hb : w.heap[b]? = some (.cells #[a0] t)) : w.cell? ⟨b, 0, none⟩ = some a0 ∧ w.frozen? ⟨b, 0, none⟩ = false := ⟨cell_block hb, frozen_block hb⟩

set_option maxHeartbeats 400000 in
theorem inner_any {w : World} {bx bd : Nat} (h1 : w.heap[bx]? = some (.cells #[.pointer (some ⟨bd, 0, none⟩)] 116)) :
    Calls Tryz.prog 55 #[.pointer (some ⟨bx, 0, none⟩)] w fun e w' => e = .returned (.pointer (some ⟨bd, 0, none⟩)) ∧ w' = w := by
  obtain ⟨c0, z0⟩ := cells1 h1
  clear h1
  go_enter Tryz.func55, Tryz.ntmps55
  go_wp2
  go_ret
  exact ⟨rfl, rfl⟩

set_option maxHeartbeats 1000000 in
theorem xWrite_any (b : Nat) (d : Dk) (n : Nm) (c : List UInt8) (S : Nat → Prop) (w : World) (hX : XAt w S b d) (hok : d.Ok) (hl : d.files.length ≤ 4194302) (hn : n.length ≤ 1099511627776) (hcl : c.length ≤ 1099511627776) :
    Calls Tryz.prog 36 #[.pointer (some ⟨b, 0, none⟩), .string ⟨n.toArray⟩, .string ⟨c.toArray⟩] w fun e w' => e = .returned (.int .i64 (d.write n c).1) ∧ XAt w' (Nw S w) b (d.write n c).2 ∧ Kp S w w' := by
  obtain ⟨bd, h1, h2, h3⟩ := id hX
  have hin := inner_any h1
  have hc := dWrite_any bd d n c (fun k => S k ∧ k ≠ b) w h3 hok hl hn hcl
  go_enter Tryz.func36, Tryz.ntmps36
  go_wp2_with (first
    | (go_at_call 55; refine hin.mono ?_; rintro e w' ⟨rfl, rfl⟩; clear hin)
    | (go_at_call 65; refine hc.mono ?_; rintro e w1 ⟨rfl, hp, kp⟩; clear hc))
  go_ret
  exact ⟨rfl, x_step h1 h2 hp kp⟩

set_option maxHeartbeats 1000000 in
theorem xSync_any (b : Nat) (d : Dk) (n : Nm) (S : Nat → Prop) (w : World) (hX : XAt w S b d) (hok : d.Ok) (hn : n.length ≤ maxLen) :
    Calls Tryz.prog 61 #[.pointer (some ⟨b, 0, none⟩), .string ⟨n.toArray⟩] w fun e w' => e = .returned (.int .i64 (d.sync n).1) ∧ XAt w' (Nw S w) b (d.sync n).2 ∧ Kp S w w' := by
  obtain ⟨bd, h1, h2, h3⟩ := id hX
  have hin := inner_any h1
  have hc := dSync_any bd d n (fun k => S k ∧ k ≠ b) w h3 hok hn
  go_enter Tryz.func61, Tryz.ntmps61
  go_wp2_with (first
    | (go_at_call 55; refine hin.mono ?_; rintro e w' ⟨rfl, rfl⟩; clear hin)
    | (go_at_call 97; refine hc.mono ?_; rintro e w1 ⟨rfl, hp, kp⟩; clear hc))
  go_ret
  exact ⟨rfl, x_step h1 h2 hp kp⟩

set_option maxHeartbeats 1000000 in
theorem xRead_any (b : Nat) (d : Dk) (n : Nm) (S : Nat → Prop) (w : World) (hX : XAt w S b d) (hn : n.length ≤ maxLen) :
    Calls Tryz.prog 60 #[.pointer (some ⟨b, 0, none⟩), .string ⟨n.toArray⟩] w fun e w' => e = .returned (.tuple #[.string ⟨(d.read n).1.toArray⟩, .int .i64 (d.read n).2]) ∧ w' = w := by
  obtain ⟨bd, h1, h2, h3⟩ := id hX
  have hin := inner_any h1
  have hc := dRead_any bd d n (fun k => S k ∧ k ≠ b) w h3 hn
  go_enter Tryz.func60, Tryz.ntmps60
  go_wp2_with (first
    | (go_at_call 55; refine hin.mono ?_; rintro e w' ⟨rfl, rfl⟩; clear hin)
    | (go_at_call 106; refine hc.mono ?_; rintro e w1 ⟨rfl, rfl⟩; clear hc))
  go_ret2
  exact ⟨rfl, rfl⟩

set_option maxHeartbeats 1000000 in
theorem xFuse_any (b : Nat) (d : Dk) (n : Int) (S : Nat → Prop) (w : World) (hX : XAt w S b d)  :
    Calls Tryz.prog 22 #[.pointer (some ⟨b, 0, none⟩), .int .i64 n] w fun e w' => e = .returned (.tuple #[]) ∧ XAt w' (Nw S w) b (d.fuse n) ∧ Kp S w w' := by
  obtain ⟨bd, h1, h2, h3⟩ := id hX
  have hin := inner_any h1
  have hc := dFuse_any bd d n (fun k => S k ∧ k ≠ b) w h3
  go_enter Tryz.func22, Tryz.ntmps22
  go_wp2_with (first
    | (go_at_call 55; refine hin.mono ?_; rintro e w' ⟨rfl, rfl⟩; clear hin)
    | (go_at_call 56; refine hc.mono ?_; rintro e w1 ⟨rfl, hp, kp⟩; clear hc))
  go_end0
  exact ⟨rfl, x_step h1 h2 hp kp⟩

set_option maxHeartbeats 1000000 in
theorem xCrash_any (b : Nat) (d : Dk) (q : Option Addr) (qc : Nat) (ks : List Int) (S : Nat → Prop) (w : World) (hX : XAt w S b d) (hok : d.Ok) (hl : d.files.length ≤ 4194303) (hkl : ks.length ≤ 4611686018427387904) (hi : Intp w q ks) (hq : ∀ a, q = some a → 0 < ks.length → ¬ S a.block) :
    Calls Tryz.prog 24 #[.pointer (some ⟨b, 0, none⟩), .slice q ks.length qc] w fun e w' => e = .returned (.tuple #[]) ∧ XAt w' (Nw S w) b (d.crash ks) ∧ Kp S w w' := by
  obtain ⟨bd, h1, h2, h3⟩ := id hX
  have hin := inner_any h1
  have hc := dCrash_any bd d q qc ks (fun k => S k ∧ k ≠ b) w h3 hok hl hkl hi (fun a ha h0 s => hq a ha h0 s.1)
  go_enter Tryz.func24, Tryz.ntmps24
  go_wp2_with (first
    | (go_at_call 55; refine hin.mono ?_; rintro e w' ⟨rfl, rfl⟩; clear hin)
    | (go_at_call 57; refine hc.mono ?_; rintro e w1 ⟨rfl, hp, kp⟩; clear hc))
  go_end0
  exact ⟨rfl, x_step h1 h2 hp kp⟩

set_option maxHeartbeats 1000000 in
theorem xNames_dead (b : Nat) (d : Dk) (S : Nat → Prop) (w : World) (hX : XAt w S b d) (hd : d.dead = true) :
    Calls Tryz.prog 45 #[.pointer (some ⟨b, 0, none⟩)] w fun e w' => e = .returned (.tuple #[.slice none 0 0, .int .i64 4]) ∧ w' = w := by
  obtain ⟨bd, h1, h2, h3⟩ := id hX
  have hin := inner_any h1
  have hc := dNames_dead bd d _ w h3 hd
  go_enter Tryz.func45, Tryz.ntmps45
  go_wp2_with (first
    | (go_at_call 55; refine hin.mono ?_; rintro e w' ⟨rfl, rfl⟩; clear hin)
    | (go_at_call 74; refine hc.mono ?_; rintro e w1 ⟨rfl, rfl⟩; clear hc))
  go_ret2
  exact ⟨rfl, rfl⟩

set_option maxHeartbeats 1000000 in
theorem xNames_any (b : Nat) (d : Dk) (S : Nat → Prop) (w : World) (hX : XAt w S b d) (hok : d.Ok) (hl : d.files.length ≤ 4194303) (hd : d.dead = false) :
    Calls Tryz.prog 45 #[.pointer (some ⟨b, 0, none⟩)] w fun e w' => ∃ v, e = .returned (.tuple #[v, .int .i64 0]) ∧ Below w.heap.size w w' ∧ OwnS w' w.heap.size v (nmsOf d.files) := by
  obtain ⟨bd, h1, h2, h3⟩ := id hX
  have hin := inner_any h1
  have hc := dNames_any bd d _ w h3 hok hl hd
  go_enter Tryz.func45, Tryz.ntmps45
  go_wp2_with (first
    | (go_at_call 55; refine hin.mono ?_; rintro e w' ⟨rfl, rfl⟩; clear hin)
    | (go_at_call 74; refine hc.mono ?_; rintro e w1 ⟨v, rfl, hbl, hown⟩; clear hc))
  go_ret2
  exact ⟨v, rfl, hbl, hown⟩

set_option maxHeartbeats 1000000 in
theorem dNew_bad (q : Int) (w : World) (hq : quotaOk q = false) : Calls Tryz.prog 62 #[.int .i64 q] w fun e w' => e = .returned (.tuple #[.pointer none, .int .i64 1]) ∧ w' = w := by
  rcases (by simp [quotaOk] at hq; omega : q < 0 ∨ 1048576 < q) with h | h
  all_goals
    clear hq
    go_enter Tryz.func62, Tryz.ntmps62
    go_wp2
    go_ret2
    exact ⟨rfl, rfl⟩

set_option maxHeartbeats 1000000 in
theorem dNew_ok (q : Int) (w : World) (hq : quotaOk q = true) : Calls Tryz.prog 62 #[.int .i64 q] w fun e w' => ∃ bd, e = .returned (.tuple #[.pointer (some ⟨bd, 0, none⟩), .int .i64 0]) ∧ ProgAt w' (fun k => w.heap.size ≤ k) bd (newDk q) ∧ Below w.heap.size w w' := by
  obtain ⟨h0, h1⟩ : 0 ≤ q ∧ q ≤ 1048576 := by simpa [quotaOk] using hq
  clear hq
  have HQ : Hid (((q.toNat : Nat) : Int) = q) := by simp [Hid]; omega
  have hmk := run_makeMap (P := Tryz.prog) 146 w
  go_enter Tryz.func62, Tryz.ntmps62
  go_wp2
  go_ret2
  have hb2 : ((w.alloc (.map #[] 0)).alloc (.cells #[.map (some w.heap.size), .int .i64 q, .int .i64 (-1), .bool false, .int .i64 0] 148)).heap[w.heap.size + 1]? = some (.cells #[.map (some w.heap.size), .int .i64 q, .int .i64 (-1), .bool false, .int .i64 0] 148) := by
    have := block_new (w.alloc (.map #[] 0)) (.cells #[.map (some w.heap.size), .int .i64 q, .int .i64 (-1), .bool false, .int .i64 0] 148)
    simpa using this
  refine ⟨w.heap.size + 1, rfl, ⟨w.heap.size, [], ⟨?_, ?_, fun x hx => (by cases hx), List.Pairwise.nil, Nat.le_succ _, Nat.le_refl _, fun x hx => (by cases hx)⟩, rfl⟩, ((Below.refl _ _).alloc (Nat.le_refl _) _).alloc (by simp) _⟩
  · rw [hb2]
    simp only [newDk, used, List.map_nil, List.sum_nil]
    have := HQ.out
    simp [this]
  · exact (World.ownsMap_made w Tryz.prog 9 Rf).alloc _

set_option maxHeartbeats 1000000 in
theorem xNew_bad (q : Int) (w : World) (hq : quotaOk q = false) : Calls Tryz.prog 32 #[.int .i64 q] w fun e w' => e = .returned (.tuple #[.pointer none, .int .i64 1]) ∧ w' = w := by
  have hc := dNew_bad q w hq
  go_enter Tryz.func32, Tryz.ntmps32
  go_wp2_with (go_at_call 62; refine hc.mono ?_; rintro e w1 ⟨rfl, rfl⟩; clear hc)
  go_ret2
  exact ⟨rfl, rfl⟩

set_option maxHeartbeats 1000000 in
theorem xNew_ok (q : Int) (w : World) (hq : quotaOk q = true) : Calls Tryz.prog 32 #[.int .i64 q] w fun e w' => ∃ bx, e = .returned (.tuple #[.pointer (some ⟨bx, 0, none⟩), .int .i64 0]) ∧ XAt w' (fun k => w.heap.size ≤ k) bx (newDk q) ∧ Below w.heap.size w w' := by
  have hc := dNew_ok q w hq
  go_enter Tryz.func32, Tryz.ntmps32
  go_wp2_with (go_at_call 62; refine hc.mono ?_; rintro e w1 ⟨bd, rfl, hp, hbl⟩; clear hc)
  go_ret2
  have hs := hbl.size
  refine ⟨w1.heap.size, rfl, ⟨bd, block_new _ _, hs, ?_⟩, hbl.alloc hs _⟩
  exact (hp.mono (T := fun k => w.heap.size ≤ k ∧ k ≠ w1.heap.size) (fun k hk s => ⟨s, by omega⟩)).kept (T := fun _ => False) ((Kp.refl _ _).alloc _) (fun _ _ f => f)

end Go.Proofs.YtoabedkcieindaaGreatDoor
