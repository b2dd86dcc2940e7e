/- The program's journal and store: isKey, isBatch, sum, storedSum. -/
import Derived.Test.YtfghgmojnffgnaaGreatStoreB
import Derived.Test.YtfghgmojnffgnaaGreatBits
namespace Go.Proofs.YtfghgmojnffgnaaGreat
open Go.RowKit Go.Maps

abbrev str (n : Nm) : Value := .string ⟨n.toArray⟩

/-- A row of ops, from an address on. -/
def Opp (w : World) (q : Option Addr) (l : List Ox) : Prop := ∀ i (h : i < l.length), ∃ g off, q = some ⟨g, off, none⟩ ∧ w.cell? ⟨g, off + i * 3, none⟩ = some (str l[i].key) ∧ w.cell? ⟨g, off + i * 3 + 1, none⟩ = some (str l[i].val) ∧ w.cell? ⟨g, off + i * 3 + 2, none⟩ = some (.bool l[i].gone)
def OxLen (l : List Ox) : Prop := ∀ o ∈ l, o.key.length ≤ 1099511627776 ∧ o.val.length ≤ 1099511627776

theorem cell_below {w w' : World} {a : Addr} {v : Value} (hb : Below w.heap.size w w') (h : w.cell? a = some v) : w'.cell? a = some v :=
  (hb.cell (World.block_lt_of_cell? w a h)).trans h
theorem Opp.below {w w' : World} {q : Option Addr} {l : List Ox} (h : Opp w q l) (hb : Below w.heap.size w w') : Opp w' q l := fun i hi => by
  obtain ⟨g, off, e, h1, h2, h3⟩ := h i hi
  exact ⟨g, off, e, cell_below hb h1, cell_below hb h2, cell_below hb h3⟩

set_option maxHeartbeats 400000 in
theorem isKey_any (n : Nm) (w : World) (hn : n.length ≤ 1099511627776) :
    Calls Tryz.prog 75 #[str n] w fun e w' => e = .returned (.bool (keyOk n)) ∧ w' = w := by
  have hs : (⟨n.toArray⟩ : ByteArray).size = n.length := rfl
  have H : Hid (keyOk n = (decide (1 ≤ n.length) && decide (n.length ≤ 16))) := rfl
  go_enter Tryz.func75, Tryz.ntmps75
  go_wp2
  all_goals go_ret
  all_goals (refine ⟨ret_bool ?_, rfl⟩; rw [H.out, Bool.eq_iff_iff]; simp at *; try omega)

theorem take_snoc_all {l : List Ox} {k : Nat} (h : k < l.length) (hr : (l.take k).all opOk = true) : (l.take (k + 1)).all opOk = opOk l[k] := by
  rw [List.take_succ_eq_append_getElem h, List.all_append, hr]; simp
theorem batchOk_bad {l : List Ox} {k : Nat} (h : k < l.length) (hb : opOk l[k] = false) : batchOk l = false := by
  rw [Bool.eq_false_iff, Ne, batchOk_iff]
  intro hh
  have := hh.2 _ (List.getElem_mem h)
  rw [hb] at this
  cases this

set_option maxHeartbeats 1000000 in
theorem isBatch_any (q : Option Addr) (qc : Nat) (l : List Ox) (w : World) (hl : l.length ≤ 1099511627776) (hk : OxLen l) (hp : Opp w q l) :
    Calls Tryz.prog 113 #[.slice q l.length qc] w fun e w' => e = .returned (.bool (batchOk l)) ∧ Below w.heap.size w w' := by
  by_cases h18 : 1 ≤ l.length ∧ l.length ≤ 8
  · obtain ⟨h1, h8⟩ := h18
    go_enter Tryz.func113, Tryz.ntmps113
    go_wp2
    go_loopw [15] (fun i wr => ∃ k : Nat, k ≤ l.length ∧ i = .int .i64 k ∧ Below w.heap.size w wr ∧ (l.take k).all opOk = true) (fun i _ => l.length - (intOf i).toNat)
    case atStart => exact ⟨0, Nat.zero_le _, rfl, Below.refl _ _, rfl⟩
    case round =>
      obtain ⟨k, hk', rfl, hb, hr⟩ := hrel
      have HR : Hid ((l.take k).all opOk = true) := hr
      clear hr
      by_cases hlt : k < l.length
      · obtain ⟨g, off, rfl, c0, c1, c2⟩ := hp.below hb k hlt
        have hkl := hk l[k] (List.getElem_mem hlt)
        have h1' := hkl.1
        have h2' := hkl.2
        have hv : ByteArray.size { data := l[k].val.toArray } = l[k].val.length := rfl
        clear hkl
        go_wp2_with (go_at_call 75; refine (isKey_any _ _ h1').mono ?_; rintro e w' ⟨rfl, rfl⟩)
        · go_roundw
          case rel => exact ⟨k + 1, by omega, by go_num, hb.alloc hb.size _, by rw [take_snoc_all hlt HR.out]; simp [opOk, *]⟩
          case measure => simp [intOf]; omega
        · go_ret
          exact ⟨ret_bool (batchOk_bad hlt (by simp [opOk, *]; omega)).symm, hb.alloc hb.size _⟩
        · go_roundw
          case rel => exact ⟨k + 1, by omega, by go_num, hb.alloc hb.size _, by rw [take_snoc_all hlt HR.out]; simp [opOk, *]; omega⟩
          case measure => simp [intOf]; omega
        · go_ret
          exact ⟨ret_bool (batchOk_bad hlt (by simp [opOk, *])).symm, hb.alloc hb.size _⟩
      · have E : Hid (batchOk l = true) := by
          have := HR.out
          rw [List.take_of_length_le (by omega)] at this
          show batchOk l = true
          rw [batchOk_iff]
          exact ⟨⟨h1, h8⟩, List.all_eq_true.1 this⟩
        go_wp2
        go_ret
        exact ⟨ret_bool E.out.symm, hb⟩
  · have E : Hid (batchOk l = false) := by
      show batchOk l = false
      rw [Bool.eq_false_iff, Ne, batchOk_iff]
      exact fun h => h18 h.1
    have h0 : l.length < 1 ∨ 8 < l.length := by omega
    clear h18
    rcases h0 with h0 | h0
    all_goals
      go_enter Tryz.func113, Tryz.ntmps113
      go_wp2
      go_ret
      exact ⟨ret_bool E.out.symm, Below.refl _ _⟩

set_option maxHeartbeats 1000000 in
theorem sum_any (s : List UInt8) (w : World) (hs : s.length ≤ 1099511627776) :
    Calls Tryz.prog 161 #[str s] w fun e w' => e = .returned (.int .u32 (fnv s)) ∧ w' = w := by
  have hz : (⟨s.toArray⟩ : ByteArray).size = s.length := rfl
  go_enter Tryz.func161, Tryz.ntmps161
  go_wp2
  go_loop [3, 7] (fun n i => ∃ k : Nat, k ≤ s.length ∧ i = .int .i64 k ∧ n = .int .u32 (fnv (s.take k))) (fun _ i => s.length - (intOf i).toNat)
  case atStart => exact ⟨0, Nat.zero_le _, rfl, rfl⟩
  case round =>
    obtain ⟨k, hk', rfl, rfl⟩ := hrel
    by_cases hlt : k < s.length
    · have hn := fnv_lt (s.take k)
      generalize hN : fnv (s.take k) = N at *
      go_wp2
      go_round
      case rel =>
        refine ⟨k + 1, by omega, by go_num, ?_⟩
        rw [List.take_succ_eq_append_getElem hlt, fnv_snoc, hN, ← fnvStep_int N s[k] hn]
        rfl
      case measure => simp [intOf]; omega
    · have E : Hid (s.take k = s) := List.take_of_length_le (by omega)
      go_wp2
      go_ret
      rw [E.out]
      exact ⟨rfl, rfl⟩

theorem ret_u32 {a b : Int} (h : a = b) : Ending.returned (.int .u32 a) = .returned (.int .u32 b) := by rw [h]

set_option maxHeartbeats 1000000 in
theorem storedSum_any (s : List UInt8) (w : World) (hs : s.length = 4) :
    Calls Tryz.prog 182 #[str s] w fun e w' => e = .returned (.int .u32 (be4N s)) ∧ Below w.heap.size w w' := by
  obtain ⟨a, b, c, d, rfl⟩ : ∃ a b c d, s = [a, b, c, d] := by
    match s, hs with
    | [a, b, c, d], _ => exact ⟨a, b, c, d, rfl⟩
  have ha : a.toNat < 256 := a.toNat_lt
  have hb : b.toNat < 256 := b.toNat_lt
  have hc : c.toNat < 256 := c.toNat_lt
  have hd : d.toNat < 256 := d.toNat_lt
  have hz : (⟨[a, b, c, d].toArray⟩ : ByteArray).size = 4 := rfl
  go_enter Tryz.func182, Tryz.ntmps182
  go_wp2
  go_region
  go_wp2
  go_ret
  refine ⟨ret_u32 ?_, (Below.refl _ _).drew⟩
  show bits .or .u32 (bits .or .u32 (bits .or .u32 ((a.toNat : Int) % 4294967296 * 16777216 % 4294967296) ((b.toNat : Int) % 4294967296 * 65536 % 4294967296)) ((c.toNat : Int) % 4294967296 * 256 % 4294967296)) ((d.toNat : Int) % 4294967296) = _
  have e1 : (a.toNat : Int) % 4294967296 * 16777216 % 4294967296 = a.toNat * 16777216 := by omega
  have e2 : (b.toNat : Int) % 4294967296 * 65536 % 4294967296 = b.toNat * 65536 := by omega
  have e3 : (c.toNat : Int) % 4294967296 * 256 % 4294967296 = c.toNat * 256 := by omega
  have e4 : (d.toNat : Int) % 4294967296 = d.toNat := by omega
  rw [e1, e2, e3, e4, u32_or24 ((a.toNat : Int) * 16777216) (b.toNat * 65536) (by omega) (by omega) (by omega) (by omega) (by omega), u32_or16 ((a.toNat : Int) * 16777216 + b.toNat * 65536) (c.toNat * 256) (by omega) (by omega) (by omega) (by omega) (by omega), u32_or8 ((a.toNat : Int) * 16777216 + b.toNat * 65536 + c.toNat * 256) d.toNat (by omega) (by omega) (by omega) (by omega) (by omega)]
  have e : be4N [a, b, c, d] = a.toNat * 16777216 + b.toNat * 65536 + c.toNat * 256 + d.toNat := rfl
  rw [e]
  omega

end Go.Proofs.YtfghgmojnffgnaaGreat
