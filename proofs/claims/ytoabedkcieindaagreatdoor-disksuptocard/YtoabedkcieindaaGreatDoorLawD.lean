/- The statement: looks. -/
import Derived.Test.YtoabedkcieindaaGreatDoorLawC
namespace Go.Proofs.YtoabedkcieindaaGreatDoor
open Go.RowKit Go.Maps Go.Sort

theorem cells8 {w : World} {b : Nat} {a0 a1 a2 a3 a4 a5 a6 a7 : Value} {t : TypeId} (hb : w.heap[b]? = some (.cells #[a0, a1, a2, a3, a4, a5, a6, a7] t)) :
    w.cell? ⟨b, 0, none⟩ = some a0 ∧ w.cell? ⟨b, 1, none⟩ = some a1 ∧ w.cell? ⟨b, 2, none⟩ = some a2 ∧ w.cell? ⟨b, 3, none⟩ = some a3 ∧ w.cell? ⟨b, 4, none⟩ = some a4 ∧ w.cell? ⟨b, 5, none⟩ = some a5 ∧ w.cell? ⟨b, 6, none⟩ = some a6 ∧ w.cell? ⟨b, 7, none⟩ = some a7 ∧ ∀ o, w.frozen? ⟨b, o, none⟩ = false :=
  ⟨cell_block hb, cell_block hb, cell_block hb, cell_block hb, cell_block hb, cell_block hb, cell_block hb, cell_block hb, fun _ => frozen_block hb⟩

/-- A row of one-cell values, as cells. -/
theorem row1 {w : World} {e : TypeId} {v : Value} {n : Nat} {xs : List Value} (h : w.ownsRow 0 e 1 v n xs) : ∃ a cap, v = .slice a n cap ∧ n = xs.length ∧ n ≤ cap ∧ cap ≤ maxLen ∧ ∀ i (_ : i < xs.length), ∃ g, a = some ⟨g, 0, none⟩ ∧ g < w.heap.size ∧ w.cell? ⟨g, i, none⟩ = some xs[i] := by
  have hl : xs.length = n := by simpa using h.1
  rcases h.2 with ⟨hv, hn⟩ | ⟨g, cap, cur, hv, _, hb, h1, h2, _⟩
  · exact ⟨none, 0, by rw [hv, hn], hl.symm, by omega, by unfold maxLen; omega, fun i hi => by omega⟩
  · subst hv
    refine ⟨_, cap, rfl, hl.symm, h1, h2, fun i hi => ⟨g, rfl, lt_of_block hb, ?_⟩⟩
    rw [h.cellAt i (by omega)]
    exact List.getElem?_eq_getElem hi

set_option maxHeartbeats 2000000 in
set_option maxRecDepth 20000 in
theorem looks_any {w : World} {own : Nat → Nat} {bW N : Nat} {rs : List DR} {ts : List TX} {nxt : Nat} {vd vt vm : Value} (h : Inv w own bW N rs ts nxt vd vt vm) (hts : ts.length ≤ 16777216) (hnx : nxt ≤ 1099511627776) :
    Calls Tryz.prog 52 #[ptrB bW] w fun e w' => e = .returned (.bool true) ∧ Below w.heap.size w w' := by
  obtain ⟨c0, c1, c2, c3, c4, c5, c6, c7, hz⟩ := cells8 h.blk
  have hbl := lt_of_block h.blk
  obtain ⟨at_, capt, rfl, ht1, ht2, ht3, hct⟩ := row1 h.rowt
  obtain ⟨am, capm, rfl, hm1, hm2, hm3, hcm⟩ := row1 h.rowm
  have htx := h.text
  have HL1 : Hid ((ts.map (·.v)).length = ts.length) := by simp [Hid]
  have HL2 : Hid ((ts.map fun t => Value.int .i64 t.m).length = ts.length) := by simp [Hid]
  unfold ptrB
  clear h hz ht1 ht2 ht3 hm1 hm2 hm3
  go_enter Tryz.func52, Tryz.ntmps52
  go_wp2
  go_loopw [3] (fun i wr => i = .int .i64 0 ∧ wr = w) (fun _ _ => 0)
  case atStart => exact ⟨rfl, rfl⟩
  case round =>
    obtain ⟨rfl, rfl⟩ := hrel
    go_wp2
    go_loopw [6] (fun i w2 => i = .int .i64 0 ∧ w2 = wr) (fun _ _ => 0)
    case atStart => exact ⟨rfl, rfl⟩
    case round =>
      obtain ⟨rfl, rfl⟩ := hrel
      go_wp2
      obtain ⟨w2, rfl⟩ : ∃ w2, w2 = wr := ⟨_, rfl⟩
      go_loopw [9] (fun i w3 => ∃ j : Nat, j ≤ ts.length ∧ i = .int .i64 j ∧ Below w2.heap.size w2 w3) (fun i _ => ts.length - (intOf i).toNat)
      case atStart => exact ⟨0, Nat.zero_le _, rfl, Below.refl _ _⟩
      case round =>
        obtain ⟨w3, rfl⟩ : ∃ w3, w3 = wr := ⟨_, rfl⟩
        obtain ⟨j, hj, rfl, hb3⟩ := hrel
        have hs3 := hb3.size
        have d1 := (hb3.cell (p := ⟨bW, 3, none⟩) hbl).trans c3
        have d2 := (hb3.cell (p := ⟨bW, 6, none⟩) hbl).trans c6
        by_cases hlt : j < ts.length
        · obtain ⟨gt, rfl, hgt, hcell⟩ := hct j (by rw [HL1.out]; exact hlt)
          obtain ⟨gm, rfl, hgm, hcelm⟩ := hcm j (by rw [HL2.out]; exact hlt)
          rw [List.getElem_map] at hcell hcelm
          obtain ⟨⟨a, n, cap, hv, hn, hcs⟩, hmn⟩ := htx ts[j] (List.getElem_mem hlt)
          rw [hv] at hcell
          have hc1 := (hb3.cell (p := ⟨gt, j, none⟩) hgt).trans hcell
          have hc2 := (hb3.cell (p := ⟨gm, j, none⟩) hgm).trans hcelm
          have hmb : ts[j].m ≤ 1099511627776 := by omega
          generalize hM : ts[j].m = M at *
          clear hcell hcelm hct hcm htx hv hM c0 c1 c2 c3 c4 c5 c6 c7
          go_wp2_with (go_at_call 95; refine (text_any M hmb _).mono ?_; rintro e w4 ⟨rfl, hb4⟩)
          have hB4 : Below w2.heap.size w2 w4 := hb3.trans (hb4.mono hs3)
          have e1 := (hb4.cell (p := ⟨bW, 3, none⟩) (by show bW < _; omega)).trans d1
          have e2 := (hb4.cell (p := ⟨gt, j, none⟩) (by show gt < _; omega)).trans hc1
          clear d1 d2 hc1 hc2 hb4
          go_loopw [11] (fun i w5 => ∃ k : Nat, k ≤ n ∧ i = .int .i64 k ∧ w5 = w4) (fun i _ => n - (intOf i).toNat)
          case atStart => exact ⟨0, Nat.zero_le _, rfl, rfl⟩
          case round =>
            obtain ⟨k, hk, rfl, hw5⟩ := hrel
            subst hw5
            by_cases hkn : k < n
            · obtain ⟨g, rfl, _, hcg⟩ := hcs k hkn
              have hglt := World.block_lt_of_cell? w2 ⟨g, k, none⟩ hcg
              have hcg4 := (hB4.cell (p := ⟨g, k, none⟩) hglt).trans hcg
              unfold encS at hcg4
              clear hcs hcg
              go_wp2
              go_roundw
              case rel => exact ⟨k + 1, by omega, by go_num, trivial⟩
              case measure => simp [intOf]; omega
            · go_wp2
              go_roundw
              case rel => exact ⟨j + 1, by omega, by go_num, hB4⟩
              case measure => simp [intOf]; omega
        · go_wp2
          go_ret
          exact ⟨rfl, hb3⟩

end Go.Proofs.YtoabedkcieindaaGreatDoor
