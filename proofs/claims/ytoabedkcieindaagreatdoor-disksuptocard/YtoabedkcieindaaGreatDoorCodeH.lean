/- The program's disk: crash, Crash. -/
import Derived.Test.YtoabedkcieindaaGreatDoorCodeG
namespace Go.Proofs.YtoabedkcieindaaGreatDoor
open Go.RowKit Go.Maps Go.Sort

theorem kept_eq (k : Int) (f : Fl) : kept k f = ⟨f.bytes.take (keptN k f), keptN k f⟩ := rfl

theorem PrSt.drewN {w : World} {S : Nat → Prop} {bd bm : Nat} {ps : PL} {room fuse : Int} {dead : Bool} {turn : Int} (h : PrSt w S bd bm ps room fuse dead turn) (m : Nat) : PrSt (w.drewN m) S bd bm ps room fuse dead turn := ⟨h.blk, h.map, h.file, h.apart, h.sb, h.sm, h.sf⟩

theorem Kp.undrew {S : Nat → Prop} {a w : World} (h : Kp S a.drew w) : Kp S a w := ⟨h.os, h.tape, h.output, h.size, h.block⟩

/-- A file's number of safe bytes is written. -/
theorem safe_close {w : World} {S : Nat → Prop} {b bm : Nat} {ps : PL} {room fuse : Int} {dead : Bool} {turn : Int} {k : Nat} {n : Nm} {p : PF} {m : Nat} (hst : PrSt w S b bm ps room fuse dead turn) (hk : k < ps.length) (hek : ps[k] = (n, p)) :
    PrSt (w.setCell ⟨p.bf, 1, none⟩ (.int .i64 m)) S b bm (ps.set k (n, ⟨⟨p.fl.bytes, m⟩, p.bf, p.sv⟩)) room fuse dead turn ∧ Kp S w (w.setCell ⟨p.bf, 1, none⟩ (.int .i64 m)) := by
  have hfl := hst.file _ (List.getElem_mem hk)
  have hsf := hst.sf _ (List.getElem_mem hk)
  rw [hek] at hfl hsf
  simp only at hfl hsf
  have hne : ∀ g, p.sv.ownBlock = some g → g ≠ p.bf := fun g hg => row_ne hfl.1 hfl.2 hg (by decide)
  have h2 := hst.setF k hk ⟨⟨p.fl.bytes, m⟩, p.bf, p.sv⟩ (by rw [hek]) (w' := w.setCell ⟨p.bf, 1, none⟩ (.int .i64 m)) ((Kp.set1 _ _ _ _).mono (fun i hi => .inl (by rw [hek]; exact hi))) ⟨(block_set hfl.1 _).trans rfl, ownsRow_of_block hfl.2 (fun g hg => Below.heap_setCell _ _ _ _ (hne g hg))⟩ (fun g hg => .inl (by rw [hek]; exact hg))
  rw [hek] at h2
  refine ⟨h2.mono (fun i hi s => s.elim (fun s => s) (fun h => absurd hi (by simp; omega))), (Kp.set1 _ _ _ _).b hsf.1⟩

/-- A file's bytes are laid anew. -/
theorem bytes_close {w w1 : World} {S : Nat → Prop} {b bm : Nat} {ps : PL} {room fuse : Int} {dead : Bool} {turn : Int} {k : Nat} {n : Nm} {p : PF} {l : List UInt8} {v' : Value} (hst : PrSt w S b bm ps room fuse dead turn) (hk : k < ps.length) (hek : ps[k] = (n, p)) (hb1 : Below w.heap.size w w1) (hob : OwnB w1 w.heap.size v' l) :
    PrSt (w1.setCell ⟨p.bf, 0, none⟩ v') (Nw S w) b bm (ps.set k (n, ⟨⟨l, p.fl.safe⟩, p.bf, v'⟩)) room fuse dead turn ∧ Kp S w (w1.setCell ⟨p.bf, 0, none⟩ v') := by
  have hfl := hst.file _ (List.getElem_mem hk)
  have hsf := hst.sf _ (List.getElem_mem hk)
  rw [hek] at hfl hsf
  simp only at hfl hsf
  have hf1 := block_at2 hfl.1 hb1
  have kp : Kp (fun i => i = p.bf) w (w1.setCell ⟨p.bf, 0, none⟩ v') := (Kp.of_below (S := fun i => i = p.bf) hb1).put rfl _
  have h2 := hst.setF k hk ⟨⟨l, p.fl.safe⟩, p.bf, v'⟩ (by rw [hek]) (w' := w1.setCell ⟨p.bf, 0, none⟩ v') (kp.mono (fun i hi => .inl (by rw [hek]; exact hi))) ⟨(block_set hf1 _).trans rfl, ownsRow_base (ownsRow_of_block hob (fun g hg => Below.heap_setCell _ _ _ _ (row_ne hf1 hob hg (by decide)))) (Nat.zero_le _)⟩ (fun g hg => .inr (World.ownsRow.lt hob g hg).1)
  rw [hek] at h2
  exact ⟨h2, kp.b hsf.1⟩

set_option maxHeartbeats 1000000 in
set_option maxRecDepth 20000 in
theorem dcrash_any {w : World} {S : Nat → Prop} {b bm : Nat} {ps : PL} {room fuse : Int} {dead : Bool} {turn : Int} {k : Nat} {n : Nm} {p : PF} (hst : PrSt w S b bm ps room fuse dead turn) (hk : k < ps.length) (hek : ps[k] = (n, p)) (keep : Int)
    (hs : p.fl.safe ≤ p.fl.bytes.length) (hl : p.fl.bytes.length ≤ 1048576) (h0 : -1048576 ≤ room) (h1 : room ≤ 1048576) :
    Calls Tryz.prog 101 #[.pointer (some ⟨b, 0, none⟩), .pointer (some ⟨p.bf, 0, none⟩), .int .i64 keep] w fun e w' => e = .returned (.tuple #[]) ∧ (∃ p', p'.fl = kept keep p.fl ∧ p'.bf = p.bf ∧ PrSt w' (Nw S w) b bm (ps.set k (n, p')) (room + p.fl.bytes.length - keptN keep p.fl) fuse dead turn) ∧ Kp S w w' := by
  have hfl := hst.file _ (List.getElem_mem hk)
  rw [hek] at hfl
  simp only at hfl
  obtain ⟨a, cap, hsv⟩ := ownB_shape hfl.2
  obtain ⟨g0, g1, z0, z1⟩ := cells2 hfl.1
  rw [hsv] at g0
  obtain ⟨r0, r1, r2, r3, r8, r4, r5, r6, r7, r9⟩ := cells5 hst.blk
  have hbne : b ≠ p.bf := cells_ne hst.blk hfl.1 (by decide)
  have hm : keptN keep p.fl ≤ p.fl.bytes.length := by unfold keptN; omega
  have hmi : (p.fl.safe : Int) + min (max keep 0) ((p.fl.bytes.length : Int) - (p.fl.safe : Int)) = (keptN keep p.fl : Nat) := by unfold keptN; omega
  generalize hM : keptN keep p.fl = M at *
  by_cases hlost : M < p.fl.bytes.length
  · obtain ⟨g, rfl⟩ : ∃ g, a = some ⟨g, 0, none⟩ := by
      rcases hfl.2.2 with ⟨hv, hn⟩ | ⟨g, cap', cur, hv, _⟩
      · omega
      · rw [hsv] at hv; exact ⟨g, by simpa using (Value.slice.inj hv).1⟩
    have hcell := ownB_cells (hsv ▸ hfl.2)
    have hcl := fun m => bClone_any g M cap p.fl.bytes (w.drewN m) hm hl hcell
    have HC : Hid (∀ i (hi : i < p.fl.bytes.length), w.cell? ⟨g, i, none⟩ = some (encB p.fl.bytes[i])) := hcell
    clear hcell
    have hcap : M ≤ cap := by
      rcases hfl.2.2 with ⟨hv, hn⟩ | ⟨g', cap', cur, hv, _, _, hc, _⟩
      · omega
      · rw [hsv] at hv; have := (Value.slice.inj hv).2.2; omega
    have hcap2 : p.fl.bytes.length ≤ cap ∧ cap ≤ maxLen := by
      rcases hfl.2.2 with ⟨hv, hn⟩ | ⟨g', cap', cur, hv, _, _, hc, hc2, _⟩
      · omega
      · rw [hsv] at hv; have := (Value.slice.inj hv).2.2; omega
    obtain ⟨hcap3, hcap4⟩ := hcap2
    unfold maxLen at hcap4
    go_enter Tryz.func101, Tryz.ntmps101
    go_wp2
    go_region
    clear hmi
    go_wp2_with (go_at_call 156; refine (hcl 1).mono ?_; rintro e w1 ⟨v1, rfl, hb1, hob⟩; obtain ⟨a', cap', hsv'⟩ := ownB_shape hob; subst hsv'; have hst1 := hst.drew.below hb1; have hf1 := block_at2 (w1 := w.drew) hfl.1 hb1; obtain ⟨y0, y1, x0, x1⟩ := cells2 hf1; obtain ⟨s0, s1, s2, s3, s8, s4, s5, s6, s7, s9⟩ := cells5 hst1.blk)
    go_end0
    have htl : (p.fl.bytes.take M).length = M := by simp; omega
    rw [htl] at hob
    have hA := bytes_close hst.drew hk hek hb1 hob
    have hB := hA.1.fields (Kp.set1 _ b 1 (.int .i64 (room + ((p.fl.bytes.length : Int) - M)))) ((block_set hA.1.blk _).trans rfl)
    have hC := safe_close (k := k) (n := n) (p := ⟨⟨p.fl.bytes.take M, p.fl.safe⟩, p.bf, .slice a' M cap'⟩) (m := M) hB (by simpa using hk) (by simp)
    rw [List.set_set] at hC
    refine ⟨rfl, ⟨⟨⟨p.fl.bytes.take M, M⟩, p.bf, .slice a' M cap'⟩, by rw [kept_eq, hM], rfl, ?_⟩, ?_⟩
    · rw [show room + (p.fl.bytes.length : Int) - (M : Int) = room + ((p.fl.bytes.length : Int) - M) by omega]
      exact hC.1
    · exact kpNw (((hA.2.mono (fun _ s => (.inl s : Nw S w _))).put (o := 1) (.inl hst.sb) (.int .i64 (room + ((p.fl.bytes.length : Int) - M)))).trans hC.2 (fun _ _ s => s)).undrew
  · have HM : Hid (M = p.fl.bytes.length) := by show M = _; omega
    go_enter Tryz.func101, Tryz.ntmps101
    go_wp2
    go_region
    clear hmi
    go_wp2
    go_end0
    have hC := safe_close (m := M) hst hk hek
    refine ⟨rfl, ⟨⟨⟨p.fl.bytes, M⟩, p.bf, p.sv⟩, by rw [kept_eq, hM, HM.out, List.take_length], rfl, ?_⟩, hC.2.drew⟩
    rw [show room + (p.fl.bytes.length : Int) - (M : Int) = room by have := HM.out; omega]
    exact hC.1.drew.mono (fun _ _ s => Or.inl s)

end Go.Proofs.YtoabedkcieindaaGreatDoor
