/- The statement: step. -/
import Derived.Test.YtoabedkcieindaaGreatDoorLawN
namespace Go.Proofs.YtoabedkcieindaaGreatDoor
open Go.RowKit Go.Maps Go.Sort

/-- One step of a script. -/
structure OpV where
  K : Int
  D : Int
  A : Int
  B : Value
  S : List UInt8
  T : List UInt8
  ops : Value
  q : Option Addr
  qc : Nat
  ks : List Int
  old : Value

def OpV.cells (o : OpV) : Array Value := #[.int .i64 o.K, .int .i64 o.D, .int .i64 o.A, o.B, .string ⟨o.S.toArray⟩, .string ⟨o.T.toArray⟩, o.ops, .slice o.q o.ks.length o.qc, o.old]

structure OpOk (w : World) (own : Nat → Nat) (o : OpV) : Prop where
  d0 : -9223372036854775808 ≤ o.D
  d1 : o.D ≤ 9223372036854775807
  a1 : o.A ≤ 9223372036854775807
  s : o.S.length ≤ 1099511627776
  t : o.T.length ≤ 1099511627776
  kl : o.ks.length ≤ 4194304
  ints : Intp w o.q o.ks
  q0 : o.q = none → o.ks = [] ∧ o.qc = 0
  q1 : ∀ a, o.q = some a → 0 < o.ks.length → own a.block = 0 ∧ a.block < w.heap.size

theorem OpOk.step {w w' : World} {own own' : Nat → Nat} {o : OpV} (h : OpOk w own o) (kp : Kp (fun k => own k ≠ 0) w w') (ho : ∀ k, k < w.heap.size → own' k = own k) : OpOk w' own' o :=
  ⟨h.d0, h.d1, h.a1, h.s, h.t, h.kl, h.ints.kept kp (fun a ha h0 e => e (h.q1 a ha h0).1), h.q0, fun a ha h0 => ⟨(ho _ (h.q1 a ha h0).2).trans (h.q1 a ha h0).1, Nat.lt_of_lt_of_le (h.q1 a ha h0).2 kp.size⟩⟩

theorem step_behind {w w1 w' : World} {own : Nat → Nat} {bW N : Nat} {rs : List DR} {ts : List TX} {nxt : Nat} (k : Below w.heap.size w w1) (h : Step w1 (recolor own w 0) bW N rs ts nxt w') : Step w own bW N rs ts nxt w' := by
  obtain ⟨kp, own', rs', ts', nxt', vd', vt', vm', L⟩ := h
  have hs := k.size
  refine ⟨(Kp.of_below k).trans kp (fun i hi e => ?_), own', rs', ts', nxt', vd', vt', vm', L.inv, fun i hi => ?_, L.len, L.sync, L.tlen, L.nx⟩
  · rw [recolor_old hi] at e; exact e
  · rw [L.old i (by omega), recolor_old hi]

theorem made_step {w : World} {own : Nat → Nat} {bW N : Nat} {rs : List DR} {ts : List TX} {nxt : Nat} {vd vt vm : Value} (h : Inv w own bW N rs ts nxt vd vt vm) (hs : ∀ r ∈ rs, r.dx = r.dy) (hrs : rs.length ≤ 16777216) (q : Int) :
    Calls Tryz.prog 49 #[ptrB bW, .int .i64 q] w fun e w' => e = .returned (.bool true) ∧ Step w own bW N rs ts nxt w' := by
  refine (made_any h hrs q).mono ?_
  rintro e w' ⟨rfl, kp, own', rs', vd', hI, ho, hr⟩
  refine ⟨rfl, kp.mono (fun _ e => by omega), own', rs', ts, nxt, vd', vt, vm, hI.more (Nat.le_succ _), ho, ?_, ?_, by omega, by omega⟩
  · rcases hr with ⟨rfl, _⟩ | ⟨_, r, rfl, _, _⟩
    · omega
    · simp
  · rcases hr with ⟨rfl, _⟩ | ⟨_, r, rfl, h1, h2⟩
    · exact hs
    · intro x hx
      rcases List.mem_append.1 hx with hx | hx
      · exact hs x hx
      · rw [List.mem_singleton.1 hx, h1, h2]

set_option maxHeartbeats 1000000 in
set_option maxRecDepth 20000 in
theorem step_made {w : World} {own : Nat → Nat} {bW N : Nat} {rs : List DR} {ts : List TX} {nxt : Nat} {vd vt vm : Value} (h : Inv w own bW N rs ts nxt vd vt vm) (hs : ∀ r ∈ rs, r.dx = r.dy) (hrs : rs.length ≤ 16777216) (o : OpV) (hK : o.K = 1) :
    Calls Tryz.prog 51 #[ptrB bW, .agg o.cells] w fun e w' => e = .returned (.bool true) ∧ Step w own bW N rs ts nxt w' := by
  have hbw : Below w.heap.size w (w.alloc (.cells o.cells 107)) := (Below.refl _ _).alloc (Nat.le_refl _) _
  have hm := made_step (h.quiet (Kp.of_below hbw)) hs hrs o.A
  unfold OpV.cells at *
  rw [hK] at *
  unfold ptrB at *
  clear h
  go_enter Tryz.func51, Tryz.ntmps51
  go_wp2_with (go_at_call 49; refine hm.mono ?_; rintro e w1 ⟨rfl, hst⟩)
  go_ret
  exact ⟨rfl, step_behind hbw hst⟩

set_option maxHeartbeats 1000000 in
set_option maxRecDepth 20000 in
theorem step_low {w : World} {own : Nat → Nat} {bW N : Nat} {rs : List DR} {ts : List TX} {nxt : Nat} {vd vt vm : Value} (h : Inv w own bW N rs ts nxt vd vt vm) (hs : ∀ r ∈ rs, r.dx = r.dy) (o : OpV) (hK : o.K < 1) :
    Calls Tryz.prog 51 #[ptrB bW, .agg o.cells] w fun e w' => e = .returned (.bool true) ∧ Step w own bW N rs ts nxt w' := by
  have hbw : Below w.heap.size w (w.alloc (.cells o.cells 107)) := (Below.refl _ _).alloc (Nat.le_refl _) _
  have hst := step_quiet h hs hbw
  obtain ⟨c0, c1, c2, c3, c4, c5, c6, c7, hz⟩ := cells8 (h.quiet (Kp.of_below hbw)).blk
  obtain ⟨a, cap, rfl, -, -, -, -⟩ := row1 h.rowd
  unfold OpV.cells at *
  have hK1 : ¬ (o.K = 1) := by omega
  unfold ptrB at *
  clear h
  go_enter Tryz.func51, Tryz.ntmps51
  go_wp2
  all_goals (go_ret; exact ⟨rfl, hst⟩)

end Go.Proofs.YtoabedkcieindaaGreatDoor
