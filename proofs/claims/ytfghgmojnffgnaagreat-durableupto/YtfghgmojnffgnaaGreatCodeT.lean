/- The program's journal: decodeOp. -/
import Derived.Test.YtfghgmojnffgnaaGreatCodeS
import Derived.Laws.ResultCell
namespace Go.Proofs.YtfghgmojnffgnaaGreat
open Go.RowKit Go.Maps Go.Sort

def opZ : Ox := ⟨[], [], false⟩
def decOpV (b : List UInt8) : Ox × Nat := (decOp b).getD (opZ, 0)

theorem ret_op {R : Ending → World → Prop} {tm : Array Value} {W : World} {bb : Nat} {a b c v : Value} (h2 : tm.getD 2 undef = .pointer (some ⟨bb, 0, none⟩)) (h3 : tm.getD 3 undef = v) (hb : W.heap[bb]? = some (.cells #[a, b, c] 121))
    (hR : R (.returned (.tuple #[.agg #[a, b, c], v])) W) : bodyPost Tryz.prog Tryz.f195 R Exit.ret { tmps := tm, defers := [] } W := by
  obtain ⟨c0, c1, c2, _⟩ := cells3 hb
  refine bodyPost_ret (v := .tuple #[.agg #[a, b, c], v]) ?_ rfl hR
  rw [results_cell_tmp rfl]
  show ((asAddr (tm.getD 2 undef)).run Tryz.prog W).andThen _ = _
  rw [h2, h3]
  simp [asAddr, loadVar, go_sem, c0, c1, c2]
theorem ext_bytes (l : List UInt8) (i j : Nat) : (⟨l.toArray⟩ : ByteArray).extract i j = ⟨((l.drop i).take (j - i)).toArray⟩ := by
  apply ByteArray.ext
  simp

set_option maxHeartbeats 2000000 in
set_option maxRecDepth 20000 in
theorem decodeOp_del (c : UInt8) (r : List UInt8) (w : World) (hl : r.length ≤ 1048576) (h1 : 128 ≤ c.toNat) :
    Calls Tryz.prog 195 #[str (c :: r)] w fun e w' => e = .returned (.tuple #[aggOp (decOpV (c :: r)).1, .int .i64 (decOpV (c :: r)).2]) ∧ Below w.heap.size w w' := by
  have hz : (⟨(c :: r).toArray⟩ : ByteArray).size = r.length + 1 := rfl
  have hc0 : (⟨(c :: r).toArray⟩ : ByteArray)[0]'(by rw [hz]; omega) = c := rfl
  have hcl : c.toNat < 256 := c.toNat_lt
  have HA : bits BinOp.and IntKind.u8 (c.toNat : Int) 128 = 128 := by rw [u8_and _ hcl, if_pos h1]
  have HC : bits BinOp.andNot IntKind.u8 (c.toNat : Int) 128 = ((c.toNat - 128 : Nat) : Int) := by rw [u8_clr _ hcl]; congr 1; omega
  by_cases hg : 1 ≤ c.toNat - 128 ∧ c.toNat - 128 ≤ 16 ∧ 1 + (c.toNat - 128) ≤ r.length + 1
  · have HX : Hid (decOpV (c :: r) = (⟨r.take (c.toNat - 128), [], true⟩, 1 + (c.toNat - 128))) := by
      have hb : byteAt (c :: r) 0 = c.toNat := rfl
      simp only [Hid, decOpV, decOp, hb]
      rw [if_pos h1, if_pos (by simpa using hg)]
      rfl
    obtain ⟨g1, g2, g3⟩ := hg
    generalize hk : c.toNat - 128 = k at *
    go_enter Tryz.func195, Tryz.ntmps195
    go_wp2
    go_region
    go_wp2
    have hex : (⟨(c :: r).toArray⟩ : ByteArray).extract 1 (1 + k) = ⟨(r.take k).toArray⟩ := by rw [ext_bytes]; congr 3; omega
    refine ret_op rfl rfl (block_alloc (block_new w _)) ?_
    rw [HX.out, hex]
    exact ⟨rfl, (((Below.refl _ _).alloc (Nat.le_refl _) _).alloc (by simp) _).drew⟩
  · have HX : Hid (decOpV (c :: r) = (opZ, 0)) := by
      have hb : byteAt (c :: r) 0 = c.toNat := rfl
      simp only [Hid, decOpV, decOp, hb]
      rw [if_pos h1, if_neg (by simpa using hg)]
      rfl
    generalize hk : c.toNat - 128 = k at *
    have hg' : k < 1 ∨ 16 < k ∨ r.length + 1 < 1 + k := by omega
    clear hg
    go_enter Tryz.func195, Tryz.ntmps195
    go_wp2
    all_goals first
      | (refine ret_op rfl rfl (block_alloc (block_new w _)) ?_; rw [HX.out]; exact ⟨rfl, ((Below.refl _ _).alloc (Nat.le_refl _) _).alloc (by simp) _⟩)
      | (exfalso; omega)

end Go.Proofs.YtfghgmojnffgnaaGreat
