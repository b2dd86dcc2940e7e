/- The methods of strata.Disk that only the statements over disks call. -/
import Derived.Test.YtoabedkcieindaaGreatDoorCodeJ
namespace Go.Proofs.YtoabedkcieindaaGreatDoor
open Go.RowKit Go.Maps Go.Sort

set_option maxHeartbeats 1000000 in
theorem xRename_any (b : Nat) (d : Dk) (n m : Nm) (S : Nat → Prop) (w : World) (hX : XAt w S b d) (hok : d.Ok) (hl : d.files.length ≤ 4194302) (hn : n.length ≤ 1099511627776) (hm : m.length ≤ 1099511627776) :
    Calls Tryz.prog 81 #[.pointer (some ⟨b, 0, none⟩), .string ⟨n.toArray⟩, .string ⟨m.toArray⟩] w fun e w' => e = .returned (.int .i64 (d.rename n m).1) ∧ XAt w' (Nw S w) b (d.rename n m).2 ∧ Kp S w w' := by
  obtain ⟨bd, h1, h2, h3⟩ := id hX
  have hin := inner_any h1
  have hc := dRename_any bd d n m (fun k => S k ∧ k ≠ b) w h3 hok hl hn hm
  go_enter Tryz.func81, Tryz.ntmps81
  go_wp2_with (first
    | (go_at_call 55; refine hin.mono ?_; rintro e w' ⟨rfl, rfl⟩; clear hin)
    | (go_at_call 127; refine hc.mono ?_; rintro e w1 ⟨rfl, hp, kp⟩; clear hc))
  go_ret
  exact ⟨rfl, x_step h1 h2 hp kp⟩

set_option maxHeartbeats 1000000 in
theorem xRemove_any (b : Nat) (d : Dk) (n : Nm) (S : Nat → Prop) (w : World) (hX : XAt w S b d) (hok : d.Ok) (hn : n.length ≤ maxLen) :
    Calls Tryz.prog 83 #[.pointer (some ⟨b, 0, none⟩), .string ⟨n.toArray⟩] w fun e w' => e = .returned (.int .i64 (d.remove n).1) ∧ XAt w' (Nw S w) b (d.remove n).2 ∧ Kp S w w' := by
  obtain ⟨bd, h1, h2, h3⟩ := id hX
  have hin := inner_any h1
  have hc := dRemove_any bd d n (fun k => S k ∧ k ≠ b) w h3 hok hn
  go_enter Tryz.func83, Tryz.ntmps83
  go_wp2_with (first
    | (go_at_call 55; refine hin.mono ?_; rintro e w' ⟨rfl, rfl⟩; clear hin)
    | (go_at_call 129; refine hc.mono ?_; rintro e w1 ⟨rfl, hp, kp⟩; clear hc))
  go_ret
  exact ⟨rfl, x_step h1 h2 hp kp⟩

set_option maxHeartbeats 1000000 in
theorem xSafe_any (b : Nat) (d : Dk) (n : Nm) (S : Nat → Prop) (w : World) (hX : XAt w S b d) (hn : n.length ≤ maxLen) :
    Calls Tryz.prog 86 #[.pointer (some ⟨b, 0, none⟩), .string ⟨n.toArray⟩] w fun e w' => e = .returned (.tuple #[.int .i64 (d.safe n).1, .int .i64 (d.safe n).2]) ∧ w' = w := by
  obtain ⟨bd, h1, h2, h3⟩ := id hX
  have hin := inner_any h1
  have hc := dSafe_any bd d n (fun k => S k ∧ k ≠ b) w h3 hn
  go_enter Tryz.func86, Tryz.ntmps86
  go_wp2_with (first
    | (go_at_call 55; refine hin.mono ?_; rintro e w' ⟨rfl, rfl⟩; clear hin)
    | (go_at_call 130; refine hc.mono ?_; rintro e w1 ⟨rfl, rfl⟩; clear hc))
  go_ret2
  exact ⟨rfl, rfl⟩

end Go.Proofs.YtoabedkcieindaaGreatDoor
