/- The program's journal: decodeOp of an op that gives a value. -/
import Derived.Test.YtfghgmojnffgnaaGreatCodeT
namespace Go.Proofs.YtfghgmojnffgnaaGreat
open Go.RowKit Go.Maps Go.Sort

set_option maxHeartbeats 2000000 in
set_option maxRecDepth 20000 in
theorem decodeOp_put (c c' : UInt8) (r : List UInt8) (w : World) (hl : r.length ≤ 1048576) (h1 : ¬ 128 ≤ c.toNat) (hg : 1 ≤ c.toNat ∧ c.toNat ≤ 16 ∧ c'.toNat ≤ 64 ∧ 2 + c.toNat + c'.toNat ≤ r.length + 2) :
    Calls Tryz.prog 195 #[str (c :: c' :: r)] w fun e w' => e = .returned (.tuple #[aggOp ⟨r.take c.toNat, (r.drop c.toNat).take c'.toNat, false⟩, .int .i64 ((2 + c.toNat + c'.toNat : Nat) : Int)]) ∧ Below w.heap.size w w' := by
  have hz : (⟨(c :: c' :: r).toArray⟩ : ByteArray).size = r.length + 2 := rfl
  have hc0 : (⟨(c :: c' :: r).toArray⟩ : ByteArray)[0]'(by rw [hz]; omega) = c := rfl
  have hc1 : (⟨(c :: c' :: r).toArray⟩ : ByteArray)[1]'(by rw [hz]; omega) = c' := rfl
  have hcl : c.toNat < 256 := c.toNat_lt
  have hcl' : c'.toNat < 256 := c'.toNat_lt
  have HA : bits BinOp.and IntKind.u8 (c.toNat : Int) 128 = 0 := by rw [u8_and _ hcl, if_neg h1]
  have HC : bits BinOp.andNot IntKind.u8 (c.toNat : Int) 128 = ((c.toNat : Nat) : Int) := by rw [u8_clr _ hcl]; congr 1; omega
  obtain ⟨g1, g2, g3, g4⟩ := hg
  have hex : Hid ((⟨(c :: c' :: r).toArray⟩ : ByteArray).extract 2 (2 + c.toNat) = ⟨(r.take c.toNat).toArray⟩) := by show _ = _; rw [ext_bytes]; congr 3; omega
  have hex2 : Hid ((⟨(c :: c' :: r).toArray⟩ : ByteArray).extract (2 + c.toNat) (2 + c.toNat + c'.toNat) = ⟨((r.drop c.toNat).take c'.toNat).toArray⟩) := by
    show _ = _
    rw [ext_bytes, show 2 + c.toNat = c.toNat + 1 + 1 by omega]
    simp only [List.drop_succ_cons]
    congr 3; omega
  generalize hK : c.toNat = k at *
  generalize hV : c'.toNat = v at *
  go_enter Tryz.func195, Tryz.ntmps195
  go_wp2
  go_region
  go_wp2
  go_region
  go_wp2
  refine ret_op rfl rfl (block_alloc (block_new w _)) ?_
  rw [hex.out, hex2.out]
  exact ⟨rfl, (((Below.refl _ _).alloc (Nat.le_refl _) _).alloc (by simp) _).drew.drew⟩

set_option maxHeartbeats 2000000 in
set_option maxRecDepth 20000 in
theorem decodeOp_bad (c c' : UInt8) (r : List UInt8) (w : World) (hl : r.length ≤ 1048576) (h1 : ¬ 128 ≤ c.toNat) (hg : ¬ (1 ≤ c.toNat ∧ c.toNat ≤ 16 ∧ c'.toNat ≤ 64 ∧ 2 + c.toNat + c'.toNat ≤ r.length + 2)) :
    Calls Tryz.prog 195 #[str (c :: c' :: r)] w fun e w' => e = .returned (.tuple #[aggOp opZ, .int .i64 0]) ∧ Below w.heap.size w w' := by
  have hz : (⟨(c :: c' :: r).toArray⟩ : ByteArray).size = r.length + 2 := rfl
  have hc0 : (⟨(c :: c' :: r).toArray⟩ : ByteArray)[0]'(by rw [hz]; omega) = c := rfl
  have hc1 : (⟨(c :: c' :: r).toArray⟩ : ByteArray)[1]'(by rw [hz]; omega) = c' := rfl
  have hcl : c.toNat < 256 := c.toNat_lt
  have hcl' : c'.toNat < 256 := c'.toNat_lt
  have HA : bits BinOp.and IntKind.u8 (c.toNat : Int) 128 = 0 := by rw [u8_and _ hcl, if_neg h1]
  have HC : bits BinOp.andNot IntKind.u8 (c.toNat : Int) 128 = ((c.toNat : Nat) : Int) := by rw [u8_clr _ hcl]; congr 1; omega
  generalize hK : c.toNat = k at *
  generalize hV : c'.toNat = v at *
  rcases (by omega : k < 1 ∨ (1 ≤ k ∧ 16 < k) ∨ (1 ≤ k ∧ k ≤ 16 ∧ 64 < v) ∨ (1 ≤ k ∧ k ≤ 16 ∧ v ≤ 64 ∧ r.length + 2 < 2 + k + v)) with g1 | ⟨g1, g2⟩ | ⟨g1, g2, g3⟩ | ⟨g1, g2, g3, g4⟩
  all_goals
    clear hg
    go_enter Tryz.func195, Tryz.ntmps195
    go_wp2
    go_region
    go_wp2
    refine ret_op rfl rfl (block_alloc (block_new w _)) ?_
    exact ⟨rfl, (((Below.refl _ _).alloc (Nat.le_refl _) _).alloc (by simp) _).drew⟩

set_option maxHeartbeats 2000000 in
theorem decodeOp_one (c : UInt8) (w : World) (h1 : ¬ 128 ≤ c.toNat) :
    Calls Tryz.prog 195 #[str [c]] w fun e w' => e = .returned (.tuple #[aggOp opZ, .int .i64 0]) ∧ Below w.heap.size w w' := by
  have hz : (⟨[c].toArray⟩ : ByteArray).size = 1 := rfl
  have hc0 : (⟨[c].toArray⟩ : ByteArray)[0]'(by rw [hz]; omega) = c := rfl
  have hcl : c.toNat < 256 := c.toNat_lt
  have HA : bits BinOp.and IntKind.u8 (c.toNat : Int) 128 = 0 := by rw [u8_and _ hcl, if_neg h1]
  have HC : bits BinOp.andNot IntKind.u8 (c.toNat : Int) 128 = ((c.toNat : Nat) : Int) := by rw [u8_clr _ hcl]; congr 1; omega
  generalize hK : c.toNat = k at *
  go_enter Tryz.func195, Tryz.ntmps195
  go_wp2
  refine ret_op rfl rfl (block_alloc (block_new w _)) ?_
  exact ⟨rfl, ((Below.refl _ _).alloc (Nat.le_refl _) _).alloc (by simp) _⟩

theorem decodeOp_any (c : UInt8) (r : List UInt8) (w : World) (hl : r.length ≤ 1048576) :
    Calls Tryz.prog 195 #[str (c :: r)] w fun e w' => e = .returned (.tuple #[aggOp (decOpV (c :: r)).1, .int .i64 (decOpV (c :: r)).2]) ∧ Below w.heap.size w w' := by
  by_cases h1 : 128 ≤ c.toNat
  · exact decodeOp_del c r w hl h1
  · have hb : byteAt (c :: r) 0 = c.toNat := rfl
    cases r with
    | nil =>
      have HX : decOpV [c] = (opZ, 0) := by
        simp only [decOpV, decOp, hb]
        rw [if_neg h1, if_neg (by simp)]
        rfl
      rw [HX]
      exact decodeOp_one c w h1
    | cons c' r' =>
      have hb1 : byteAt (c :: c' :: r') 1 = c'.toNat := rfl
      have hl' : r'.length ≤ 1048576 := by simp at hl; omega
      by_cases hg : 1 ≤ c.toNat ∧ c.toNat ≤ 16 ∧ c'.toNat ≤ 64 ∧ 2 + c.toNat + c'.toNat ≤ r'.length + 2
      · have HX : decOpV (c :: c' :: r') = (⟨r'.take c.toNat, (r'.drop c.toNat).take c'.toNat, false⟩, 2 + c.toNat + c'.toNat) := by
          simp only [decOpV, decOp, hb, hb1]
          rw [if_neg h1, if_pos (by simp; omega)]
          rw [show 2 + c.toNat = c.toNat + 1 + 1 by omega]
          rfl
        rw [HX]
        exact decodeOp_put c c' r' w hl' h1 hg
      · have HX : decOpV (c :: c' :: r') = (opZ, 0) := by
          simp only [decOpV, decOp, hb, hb1]
          rw [if_neg h1, if_neg (by simp; omega)]
          rfl
        rw [HX]
        exact decodeOp_bad c c' r' w hl' h1 hg

end Go.Proofs.YtfghgmojnffgnaaGreat
