/- The statements' copied: a disk with the same files. -/
import Derived.Test.YtfghgmojnffgnaaGreatKeepG
namespace Go.Proofs.YtfghgmojnffgnaaGreat
open Go.RowKit Go.Maps Go.Sort

theorem copy_write (b : List UInt8) (h : b.length ≤ 1048576) : (newDk 1048576).write logN b = (0, grew (newDk 1048576) ⟨b, 0⟩) := by
  unfold Dk.write
  rw [if_neg (by simp [newDk]), if_neg (by simp [logName]), if_neg (by simp [newDk, used]; omega), if_neg (by simp [newDk])]
  simp only [Dk.burn, grew, newDk]
  rfl
theorem copy_sync (b : List UInt8) : (grew (newDk 1048576) ⟨b, 0⟩).sync logN = (0, grew (newDk 1048576) ⟨b, b.length⟩) := by
  unfold Dk.sync
  rw [if_neg (by simp [newDk, grew]), if_neg (by simp [grew, getF]), if_neg (by simp [newDk, grew])]
  simp only [Dk.burn, grew, newDk]
  rfl
theorem DInv.copy {d : Dk} {m : Mp} (h : DInv d m) {f : Fl} (hf : d.files = [(logN, f)]) : DInv (Go.Proofs.YtfghgmojnffgnaaGreat.grew (newDk 1048576) ⟨f.bytes, f.bytes.length⟩) m ∧ f.bytes.length ≤ 1048576 ∧ DInv (Go.Proofs.YtfghgmojnffgnaaGreat.grew (newDk 1048576) ⟨f.bytes, 0⟩) m := by
  have hus := h.ok.used
  have hq := h.ok.quota
  rw [hf, used_one] at hus
  rcases h.log with ⟨e, _⟩ | ⟨bs, g, hg, hfb, hbs, rfl⟩
  · rw [hf] at e; cases e
  obtain rfl : g = f := by rw [hf] at hg; simpa using hg.symm
  have hn := DInv.new 1048576 (by omega)
  exact ⟨hn.grew (f := ⟨g.bytes, g.bytes.length⟩) (Nat.le_refl _) (by simp only [newDk]; omega) hfb hbs rfl, by omega, hn.grew (f := ⟨g.bytes, 0⟩) (Nat.zero_le _) (by simp only [newDk]; omega) hfb hbs rfl⟩
/-- The copy of a disk. -/
def copyOf (d : Dk) : Dk := { newDk 1048576 with files := d.files.map fun x => (x.1, ⟨x.2.bytes, x.2.bytes.length⟩) }
theorem DInv.copyOf {d : Dk} {m : Mp} (h : DInv d m) : DInv (Go.Proofs.YtfghgmojnffgnaaGreat.copyOf d) m := by
  rcases h.log with ⟨e, rfl⟩ | ⟨bs, g, hg, _⟩
  · have : Go.Proofs.YtfghgmojnffgnaaGreat.copyOf d = newDk 1048576 := by unfold Go.Proofs.YtfghgmojnffgnaaGreat.copyOf; rw [e]; rfl
    rw [this]; exact DInv.new _ (by omega)
  · have : Go.Proofs.YtfghgmojnffgnaaGreat.copyOf d = Go.Proofs.YtfghgmojnffgnaaGreat.grew (newDk 1048576) ⟨g.bytes, g.bytes.length⟩ := by unfold Go.Proofs.YtfghgmojnffgnaaGreat.copyOf; rw [hg]; rfl
    rw [this]; exact (h.copy hg).1

/-- A row of names that is there, outside of a set. -/
def NRow (w : World) (V : Nat → Prop) (q : Option Addr) (l : List Nm) : Prop := ∀ i (_ : i < l.length), ∃ g, q = some ⟨g, 0, none⟩ ∧ ¬ V g ∧ w.cell? ⟨g, i, none⟩ = some (encS l[i])
theorem NRow.step {w w' : World} {V : Nat → Prop} {q : Option Addr} {l : List Nm} (h : NRow w V q l) (k : Kp V w w') : NRow w' (Nw V w) q l := fun i hi => by
  obtain ⟨g, e, hn, hc⟩ := h i hi
  have hgl := World.block_lt_of_cell? w ⟨g, i, none⟩ hc
  have hbk := k.block g hgl hn
  exact ⟨g, e, fun s => s.elim hn (fun s => by simp only at hgl; omega), by simp only [World.cell?, hbk] at hc ⊢; exact hc⟩
theorem NRow.mono {w : World} {V V' : Nat → Prop} {q : Option Addr} {l : List Nm} (h : NRow w V q l) (hV : ∀ k, V' k → V k) : NRow w V' q l := fun i hi => by
  obtain ⟨g, e, hn, hc⟩ := h i hi
  exact ⟨g, e, fun s => hn (hV g s), hc⟩

set_option maxHeartbeats 2000000 in
set_option maxRecDepth 20000 in
theorem copied_any (bx : Nat) (d : Dk) (m : Mp) (S : Nat → Prop) (w : World) (hX : XAt w S bx d) (hD : DInv d m) :
    Calls Tryz.prog 39 #[.pointer (some ⟨bx, 0, none⟩)] w fun e w' => ∃ bc, e = .returned (.tuple #[.pointer (some ⟨bc, 0, none⟩), .bool true]) ∧ XAt w' (fun k => w.heap.size ≤ k) bc (copyOf d) ∧ Below w.heap.size w w' := by
  have hN := xNew_ok 1048576 w (by decide)
  have hfl := hD.files
  go_enter Tryz.func39, Tryz.ntmps39
  go_wp2_with (first
    | (go_at_call 27; refine hN.mono ?_; rintro e w1 ⟨bc, rfl, hC, hb1⟩; clear hN; have hX1 := hX.kept (T := fun _ => False) (Kp.of_below hb1) (fun _ _ f => f))
    | (go_at_call 57; refine (xNames_any bx d S w1 hX1 hD.ok (by omega) hD.alive).mono ?_; rintro e w2 ⟨nv, rfl, hb2, hO⟩))
  obtain ⟨nq, nc, rfl, hnm⟩ := ownS_shape hO
  have hs1 := hb1.size
  have hs2 := hb2.size
  have hX2 := hX1.kept (T := fun _ => False) (Kp.of_below hb2) (fun _ _ f => f)
  have hC2 : XAt w2 (fun k => w.heap.size ≤ k ∧ k < w1.heap.size) bc (newDk 1048576) := (hC.mono (fun k hk s => ⟨s, hk⟩)).kept (T := fun _ => False) (Kp.of_below hb2) (fun _ _ f => f)
  have hN2 : NRow w2 (fun k => w.heap.size ≤ k ∧ k < w1.heap.size) nq (nmsOf d.files) := fun i hi => by
    obtain ⟨g, e, hg, hc⟩ := hnm i hi
    exact ⟨g, e, fun s => by omega, hc⟩
  have hnl : (nmsOf d.files).length ≤ 1 := by rw [nms_len]; exact hfl
  have hB2 : Below w.heap.size w w2 := hb1.trans (hb2.mono hs1)
  have hcp : (nmsOf d.files).length = 0 → copyOf d = newDk 1048576 := fun h => by
    have : d.files = [] := List.length_eq_zero_iff.1 (by rw [nms_len] at h; exact h)
    unfold copyOf; rw [this]; rfl
  have hone : 0 < (nmsOf d.files).length → ∃ f, Hid (d.files = [(logN, f)]) ∧ nmsOf d.files = [logN] := fun h => by
    rcases hD.log with ⟨hf, _⟩ | ⟨_, f, hf, _⟩
    · rw [hf] at h; exact absurd h (by simp [nmsOf])
    · exact ⟨f, hf, by rw [hf]; rfl⟩
  clear hO hnm hC hX1
  generalize nmsOf d.files = NL at *
  go_loopw [7, 8] (fun _ i wr => ∃ (k : Nat) (V : Nat → Prop) (dc : Dk), k ≤ NL.length ∧ i = .int .i64 k ∧ XAt wr V bc dc ∧ (∀ j, V j → w.heap.size ≤ j ∧ j < wr.heap.size) ∧ NRow wr V nq NL ∧ Below w.heap.size w wr ∧ (k = 0 → dc = newDk 1048576) ∧ (k = NL.length → dc = copyOf d)) (fun _ i _ => NL.length - (intOf i).toNat)
  case atStart => exact ⟨0, _, _, Nat.zero_le _, rfl, hC2, fun j s => ⟨s.1, by omega⟩, hN2, hB2, fun _ => rfl, fun h => (hcp h.symm).symm⟩
  case round =>
    obtain ⟨k, V, dc, hk, rfl, hc, hV, hn, hB, h0, hL⟩ := hrel
    have hs := hB.size
    have hXr := hX.kept (T := fun _ => False) (Kp.of_below hB) (fun _ _ f => f)
    by_cases hlt : k < NL.length
    · obtain ⟨f, hf, hNL⟩ := hone (by omega)
      obtain rfl : k = 0 := by omega
      obtain rfl := h0 rfl
      obtain ⟨hcI, hbl, hcI0⟩ := hD.copy hf.out
      obtain ⟨g, rfl, hng, hcell⟩ := hn 0 hlt
      have hnm0 : NL[0] = logN := by simp [hNL]
      have HL1 : Hid (NL.length = 1) := by show _ = _; rw [hNL]; rfl
      clear hNL
      rw [hnm0] at hcell
      have hcell' : wr.cell? ⟨g, 0, none⟩ = some (str logN) := hcell
      have HE : Hid (copyOf d = grew (newDk 1048576) ⟨f.bytes, f.bytes.length⟩) := by show _ = _; unfold copyOf; rw [hf.out]; rfl
      have hRd := xRead_any bx d logN S wr hXr (by decide)
      have hrd : d.read logN = (f.bytes, 0) := by simp [Dk.read, hD.alive, hf.out, getF]
      rw [hrd] at hRd
      have hWr := xWrite_any bc (newDk 1048576) logN f.bytes V wr hc (DInv.new _ (by omega)).ok (by simp [newDk]) (by decide) (by omega)
      rw [copy_write _ hbl] at hWr
      have hSy := fun W X h => xSync_any bc (grew (newDk 1048576) ⟨f.bytes, 0⟩) logN X W h hcI0.ok (by decide)
      rw [copy_sync] at hSy
      clear hcell
      have hcl : ∀ w4, Kp V wr w4 → w4.cell? ⟨g, 0, none⟩ = some (str logN) := fun w4 k4 => by
        have hbk := k4.block g (World.block_lt_of_cell? wr ⟨g, 0, none⟩ hcell') hng
        simp only [World.cell?, hbk] at hcell' ⊢
        exact hcell'
      go_wp2_with (first
        | (go_at_call 53; refine hRd.mono ?_; rintro e w3 ⟨rfl, hw3⟩; subst w3; clear hRd)
        | (go_at_call 45; refine hWr.mono ?_; rintro e w4 ⟨rfl, hc4, k4⟩; clear hWr; have hcell4 := hcl w4 k4)
        | (go_at_call 47; refine (hSy _ _ hc4).mono ?_; rintro e w5 ⟨rfl, hc5, k5⟩; clear hSy))
      go_roundw
      case rel =>
        have hk4 := k4.size
        have hl1 := HL1.out
        refine ⟨1, fun j => Nw (Nw V wr) w4 j ∧ j < w5.heap.size, _, by omega, by go_num, hc5.mono (fun j hj s => ⟨s, hj⟩), fun j s => ⟨?_, s.2⟩, ((hn.step k4).step k5).mono (fun j s => s.1), ?_, fun h => by omega, fun _ => HE.out.symm⟩
        · rcases s.1 with (s | s) | s
          · exact (hV j s).1
          · omega
          · omega
        · refine below_kp (below_kp hB (k4.mono (fun j s => (hV j s).1))) (k5.mono (fun j s => ?_))
          rcases s with s | s
          · exact (hV j s).1
          · omega
      case measure => simp [intOf]; omega
    · obtain rfl := hL (by omega)
      go_wp2
      go_ret2
      exact ⟨bc, rfl, hc.mono (fun j _ s => (hV j s).1), hB⟩

end Go.Proofs.YtfghgmojnffgnaaGreat
