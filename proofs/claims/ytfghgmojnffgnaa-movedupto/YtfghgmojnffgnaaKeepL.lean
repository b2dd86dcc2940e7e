/- Moved. -/
import Derived.Test.YtfghgmojnffgnaaKeepJ
import Derived.Test.YtfghgmojnffgnaaKeepK
namespace Go.Proofs.Ytfghgmojnffgnaa
open Go.RowKit Go.Maps Go.Sort

theorem do_in {L : List DoV} {w w' : World} {U : Nat → Prop} (hok : ∀ o ∈ L, DoOk w o ∧ ∀ b, o.q = some b → 0 < o.ops.length → b.block < w.heap.size) (hb : Below w.heap.size w w') (hU : ∀ k, U k → w.heap.size ≤ k) : ∀ o ∈ L.filter isB, DoOk w' o ∧ DoOut U o := fun o ho => by
  obtain ⟨h1, h2⟩ := hok o (List.mem_filter.1 ho).1
  exact ⟨h1.below hb, fun a ha h0 s => by have := h2 a ha h0; have := hU _ s; omega⟩

set_option maxHeartbeats 1000000 in
set_option maxRecDepth 20000 in
theorem moved_any (p : Int) (q1 q2 : Option Addr) (c1 c2 : Nat) (L M : List DoV) (w : World) (hp0 : -9223372036854775808 ≤ p) (hp1 : p ≤ 9223372036854775807) (hl : L.length ≤ 1048576) (hl2 : M.length ≤ 1048576) (hL : Dop w q1 L) (hM : Dop w q2 M)
    (hok : ∀ o ∈ L, DoOk w o ∧ ∀ b, o.q = some b → 0 < o.ops.length → b.block < w.heap.size) (hok2 : ∀ o ∈ M, DoOk w o ∧ ∀ b, o.q = some b → 0 < o.ops.length → b.block < w.heap.size) :
    Calls Try.prog 3 #[.int .i64 p, .slice q1 L.length c1, .slice q2 M.length c2] w fun e w' => e = .returned (.bool true) ∧ Below w.heap.size w w' := by
  have hpick := fun w => kpick_any p 3 w hp0 hp1 (by omega) (by omega)
  have hfl : (L.filter isB).length ≤ 1048576 := Nat.le_trans (List.length_filter_le _ _) hl
  have hfm : (M.filter isB).length ≤ 1048576 := Nat.le_trans (List.length_filter_le _ _) hl2
  go_enter Try.func3, Try.ntmps3
  go_wp2_with (go_at_call 9; refine (hpick _).mono ?_; rintro e w' ⟨r0, rfl, hr0, hr1, hw⟩; subst w'; clear hpick)
  go_wp2_with (go_at_call 8; refine (fresh_any 1048576 r0 _ (by omega) (by omega) hr0 (by omega)).mono ?_; rintro e w1 ⟨bx, bz, d1, rfl, hS1, hb1, hD1, ht1, hq1, hu1⟩)
  have hs1 := hb1.size
  go_wp2_with (go_at_call 11; refine (batches_any q1 c1 L w1 (hL.below hb1) hl).mono ?_; rintro e w2 ⟨v2, rfl, hb2, ho2⟩; obtain ⟨q2', c2', rfl, hD2, hn2⟩ := ho2.dop)
  have hs2 := hb2.size
  have hB2 : Below w.heap.size w w2 := hb1.trans (hb2.mono hs1)
  have hW2 : Wr w2 (fun k => w.heap.size ≤ k ∧ k < w1.heap.size) bx bz (.slice none 0 0) d1 ⟨1, [], false, false⟩ 110 :=
    ⟨(hS1.mono (fun k hk s => ⟨s, hk⟩)).below hb2, fun k s => by omega, PRowS.nil _ _ _, hD1, ht1.symm, rfl, hq1, by omega⟩
  have hWr := wrote_any bx bz _ d1 _ 110 _ q2' c2' _ w2 hW2 (by omega) hfl hD2 (fun a ha _ s => by have := (hn2 a ha).1; omega) (do_in hok hB2 (fun k s => s.1))
  refine hWr.mono ?_
  rintro e w3 ⟨lv, left, U3, d3, st3, rfl, hW3, hU3, k3, ht3, hle3⟩
  clear hWr
  have hUb : ∀ k, U3 k → w.heap.size ≤ k := fun k s => (hU3 k s).elim (fun s => s.1) (fun s => by omega)
  have hB3 : Below w.heap.size w w3 := below_kp2 hB2 k3 (fun k s => s.1)
  have hlen3 := hW3.inv.len
  go_wp2_with (go_at_call 12; refine (copied_any bx d3 st3.m U3 w3 hW3.shop.x hW3.inv).mono ?_; rintro e w4 ⟨bc, rfl, hC4, hb4⟩)
  have hcI := hW3.inv.copyOf
  have hcT : (copyOf d3).turn = 0 := rfl
  generalize copyOf d3 = dc at *
  have hwb : -9223372036854775808 ≤ wrap64 (p + 1) ∧ wrap64 (p + 1) ≤ 9223372036854775807 := by unfold wrap64; omega
  have hpick := fun w => kpick_any (wrap64 (p + 1)) 3 w hwb.1 hwb.2 (by omega) (by omega)
  clear hwb
  go_wp2_with (go_at_call 9; refine (hpick _).mono ?_; rintro e w' ⟨r5, rfl, hr50, hr51, hw⟩; subst w'; clear hpick)
  go_wp2_with (go_at_call 13; refine (xOpen_inv bc dc st3.m r5 _ w4 hC4 hcI (by rw [hcT]; omega) (by rw [hcT]; omega) hr50 (by omega)).mono ?_; rintro e w6 ⟨bu, du, rfl, hS6, k6, hDu, htu, _⟩)
  have hB36 : Below w3.heap.size w3 w6 := below_kp hb4 k6
  have hs36 := hB36.size
  have hW6 := hW3.below hB36
  have hB6 := hB3.trans (hB36.mono hB3.size)
  have hS6' : Shop w6 (fun k => w3.heap.size ≤ k) bc bu du ⟨dc.turn + 1, st3.m, false, false⟩ := hS6.mono (fun k _ s => s.elim id (fun s => Nat.le_trans hb4.size s))
  have hH := fun v V W (hS : Shop W (fun k => w3.heap.size ≤ k) bc bu du _) (hr : PRowS W V v st3.m) => holds_any bc bu du ⟨dc.turn + 1, st3.m, false, false⟩ _ V v W hS hDu.mok (by show st3.m.length ≤ _; omega) (ready_open hDu.alive htu.symm) hr
  have hH6 := hH lv U3 w6 hS6' hW6.row
  go_wp2_with (go_at_call 14; refine hH6.mono ?_; rintro e w7 ⟨rfl, hb7⟩; clear hH6)
  have hB7 := hB6.trans (hb7.mono hB6.size)
  go_wp2_with (go_at_call 11; refine (batches_any q2 c2 M w7 (hM.below hB7) hl2).mono ?_; rintro e w8 ⟨v8, rfl, hb8, ho8⟩; obtain ⟨q8, c8, rfl, hD8, hn8⟩ := ho8.dop)
  have hB8 := hB7.trans (hb8.mono hB7.size)
  have hW8 := (hW6.below hb7).below hb8
  have hsz7 := hb7.size
  have hWr := wrote_any bx bz lv d3 st3 left U3 q8 c8 _ w8 hW8 (by omega) hfm hD8 (fun a ha _ s => by have := (hn8 a ha).1; have := hW3.up _ s; omega) (do_in hok2 hB8 hUb)
  refine hWr.mono ?_
  rintro e w9 ⟨mv, left9, U9, d9, st9, rfl, hW9, hU9, k9, ht9, hle9⟩
  clear hWr
  have hS9 : Shop w9 (fun k => w3.heap.size ≤ k) bc bu du ⟨dc.turn + 1, st3.m, false, false⟩ := ((hS6'.below hb7).below hb8).kept k9 (fun i s u => by have := hW3.up _ u; omega)
  have hB9 := below_kp2 hB8 k9 hUb
  have hH9 := hH lv U3 w9 hS9 (hW8.row.kept k9)
  clear hH
  go_wp2_with (go_at_call 14; refine hH9.mono ?_; rintro e w10 ⟨rfl, hb10⟩; clear hH9)
  have hB10 := hB9.trans (hb10.mono hB9.size)
  have hW10 := hW9.below hb10
  have hlen9 := hW9.inv.len
  have hH10 := holds_any bx bz d9 st9 U9 U9 mv w10 hW10.shop hW10.inv.mok (by omega) (ready_open hW10.inv.alive hW10.turn) hW10.row
  go_wp2_with (go_at_call 14; refine hH10.mono ?_; rintro e w11 ⟨rfl, hb11⟩; clear hH10)
  go_ret
  exact ⟨rfl, hB10.trans (hb11.mono hB10.size)⟩

end Go.Proofs.Ytfghgmojnffgnaa
