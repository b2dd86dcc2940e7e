/- The document's own disk (strataref): Names, Crash. -/
import Derived.Test.YtoabedkcieindaaGreatDoorRefE
namespace Go.Proofs.YtoabedkcieindaaGreatDoor
open Go.RowKit

set_option maxHeartbeats 1000000 in
set_option maxRecDepth 20000 in
theorem yNames_any (b : Nat) (d : Dk) (S : Nat → Prop) (w : World) (hR : RefAt w S b d) (hl : d.files.length ≤ 4194303) (hd : d.dead = false) :
    Calls Tryz.prog 88 #[.pointer (some ⟨b, 0, none⟩)] w fun e w' => ∃ v, e = .returned (.tuple #[v, .int .i64 0]) ∧ Below w.heap.size w w' ∧ OwnS w' w.heap.size v (nmsOf d.files) := by
  obtain ⟨v, hb, hrow, sb, sg⟩ := id hR
  obtain ⟨p, cap, rfl, hp⟩ := rowp hrow
  rw [hd] at hb
  obtain ⟨i0, hi, hz0, hz1, hz2⟩ := info_parts Tryz.info9
  obtain ⟨c0, c1, c2, c3, f0, f1, f2, f3⟩ := cells4 hb
  have hblt := lt_of_block hb
  generalize hL : d.files = L at *
  clear hL
  clear hb hR hrow
  go_enter Tryz.func88, Tryz.ntmps88
  go_wp2
  go_loopw [4, 5] (fun v i wr => ∃ j : Nat, j ≤ L.length ∧ i = .int .i64 j ∧ Below w.heap.size w wr ∧ OwnS wr w.heap.size v (nmsOf (L.take j))) (fun _ i _ => L.length - (intOf i).toNat)
  case atStart => exact ⟨0, Nat.zero_le _, rfl, Below.refl _ _, World.ownsRow_nil _ _ _ _⟩
  case round =>
    obtain ⟨j, hj, rfl, hbl, hown⟩ := hrel
    have hsz := hbl.size
    have e1 := (hbl.cell (p := ⟨b, 1, none⟩) hblt).trans c1
    clear c0 c1 c2 c3 f0 f1 f2 f3
    by_cases hlt : j < L.length
    · obtain ⟨g, rfl, d0, d1, d2⟩ := (hp.below hbl) j hlt
      have hll : (nmsOf (L.take j)).length ≤ 4194303 := by simp [nmsOf]; omega
      have HT : Hid (nmsOf (L.take (j + 1)) = nmsOf (L.take j) ++ [L[j].1]) := by unfold nmsOf; rw [List.take_succ_eq_append_getElem hlt, List.map_append]; rfl
      generalize hT : nmsOf (L.take j) = T at *
      clear hT
      unfold OwnS at hown
      go_wp2_with (first
        | (at_builtin; refine wpList_append_own _ rfl (.tmp 19) (.tmp 28) 67 rfl w.heap.size 9 i0 _ 1 16 Tryz.underlying67 hi hz0 hz1 hz2 rfl (by decide) _ _ _ rfl (hown.alloc _) ⟨wr.heap.size, 0, none⟩ 1 1 [encS L[j].1] rfl rfl (one_at _ _ _) (by intro u hu; simp at hu; subst hu; rfl) (by unfold maxLen; omega) (by omega) (by simp; omega) ?_; intro v' w1 hown' hgrow _)
        | go_in)
      have HO : Hid (OwnS w1 w.heap.size v' (T ++ [L[j].1])) := own_snoc1 hown'
      have HB : Hid (Below w.heap.size w w1) := (hbl.alloc hsz _).grown hgrow (by simp; omega) (fun q hq => (hown.lt q hq).1)
      clear hown' hgrow hown d0 d1 d2
      go_wp2
      go_roundw
      case rel => exact ⟨j + 1, by omega, by go_num, HB.out, by rw [HT.out]; exact HO.out⟩
      case measure => simp [intOf]; omega
    · have : j = L.length := by omega
      subst this
      rw [List.take_length] at hown
      go_wp2
      go_ret2
      exact ⟨_, rfl, hbl, hown⟩

set_option maxHeartbeats 1000000 in
theorem yNames_dead (b : Nat) (d : Dk) (S : Nat → Prop) (w : World) (hR : RefAt w S b d) (hd : d.dead = true) :
    Calls Tryz.prog 88 #[.pointer (some ⟨b, 0, none⟩)] w fun e w' => e = .returned (.tuple #[.slice none 0 0, .int .i64 4]) ∧ w' = w := by
  obtain ⟨v, hb, hrow, sb, sg⟩ := id hR
  rw [hd] at hb
  obtain ⟨c0, c1, c2, c3, f0, f1, f2, f3⟩ := cells4 hb
  clear hb
  go_enter Tryz.func88, Tryz.ntmps88
  go_wp2
  go_ret2
  exact ⟨rfl, rfl⟩

/-- One round of Crash: two cells are written. -/
theorem crash_step {S : Nat → Prop} {w wr : World} {b g cap j : Nat} {quota left dd : Value} {fs : List (Nm × Fl)} {ks : List Int} {i : Int} (m : Nat) (kp : Kp S w wr) (hbr : wr.heap[b]? = some (.cells #[quota, .slice (some ⟨g, 0, none⟩) fs.length cap, left, dd] 168))
    (hrr : wr.ownsRow 0 172 3 (.slice (some ⟨g, 0, none⟩) fs.length cap) fs.length ((crashK ks fs j).flatMap fcells)) (hlt : j < fs.length) (hi : i = (keptN (ks.getD j 0) fs[j].2 : Nat)) (hm : (m : Int) = i) (sg : S g) :
    Kp S w ((wr.setCell ⟨g, j * 3 + 1, none⟩ (.string ((⟨fs[j].2.bytes.toArray⟩ : ByteArray).extract 0 m))).setCell ⟨g, j * 3 + 2, none⟩ (.int .i64 i)).drew ∧
    ((wr.setCell ⟨g, j * 3 + 1, none⟩ (.string ((⟨fs[j].2.bytes.toArray⟩ : ByteArray).extract 0 m))).setCell ⟨g, j * 3 + 2, none⟩ (.int .i64 i)).drew.heap[b]? = some (.cells #[quota, .slice (some ⟨g, 0, none⟩) fs.length cap, left, dd] 168) ∧
    ((wr.setCell ⟨g, j * 3 + 1, none⟩ (.string ((⟨fs[j].2.bytes.toArray⟩ : ByteArray).extract 0 m))).setCell ⟨g, j * 3 + 2, none⟩ (.int .i64 i)).drew.ownsRow 0 172 3 (.slice (some ⟨g, 0, none⟩) fs.length cap) fs.length ((crashK ks fs (j + 1)).flatMap fcells) := by
  obtain rfl : m = keptN (ks.getD j 0) fs[j].2 := by omega
  subst hi
  have hlen := crashK_len ks fs j
  have hj : j < (crashK ks fs j).length := by omega
  have hat := crashK_here ks fs j hlt
  rw [ByteArray.extract_mk]
  simp only [List.drop_zero, Nat.sub_zero]
  refine ⟨((kp.put sg _).put sg _).drew, ?_, ?_⟩
  · have hne : g ≠ b := row_ne hbr hrr rfl (by decide)
    exact block_set_ne (block_set_ne hbr (Ne.symm hne) _) (Ne.symm hne) _
  · have h1 : wr.ownsRow 0 172 3 (.slice (some ⟨g, 0, none⟩) (crashK ks fs j).length cap) (crashK ks fs j).length ((crashK ks fs j).flatMap fcells) := by rw [hlen]; exact hrr
    have h2 := (h1.stored (j * 3 + 1) (.string ⟨(fs[j].2.bytes.take (keptN (ks.getD j 0) fs[j].2)).toArray⟩)).1
    rw [flat_set (crashK ks fs j) j 1 _ (fs[j].1, ⟨fs[j].2.bytes.take (keptN (ks.getD j 0) fs[j].2), fs[j].2.safe⟩) hj (by rw [hat]; simp [fcells]) (by omega)] at h2
    have h3 := (h2.stored (j * 3 + 2) (.int .i64 (keptN (ks.getD j 0) fs[j].2 : Nat))).1
    have hj2 : j < ((crashK ks fs j).set j (fs[j].1, ⟨fs[j].2.bytes.take (keptN (ks.getD j 0) fs[j].2), fs[j].2.safe⟩)).length := by simpa using hj
    rw [flat_set _ j 2 _ (fs[j].1, kept (ks.getD j 0) fs[j].2) hj2 (by simp [fcells, kept, keptN]) (by omega), List.set_set, ← crashK_succ ks fs j hlt, hlen] at h3
    exact h3

set_option maxHeartbeats 800000 in
set_option maxRecDepth 20000 in
theorem yCrash_any (b : Nat) (d : Dk) (q : Option Addr) (qc : Nat) (ks : List Int) (S : Nat → Prop) (w : World) (hR : RefAt w S b d) (hok : d.Ok) (hl : d.files.length ≤ 4194303) (hkl : ks.length ≤ 4611686018427387904) (hi : Intp w q ks) (hq : ∀ a, q = some a → 0 < ks.length → ¬ S a.block) :
    Calls Tryz.prog 134 #[.pointer (some ⟨b, 0, none⟩), .slice q ks.length qc] w fun e w' => e = .returned (.tuple #[]) ∧ RefAt w' (Nw S w) b (d.crash ks) ∧ Kp S w w' := by
  obtain ⟨v, hb, hrow, sb, sg⟩ := id hR
  obtain ⟨p, cap, rfl, hp⟩ := rowp hrow
  have hsafe : ∀ i (h : i < d.files.length), d.files[i].2.safe ≤ d.files[i].2.bytes.length ∧ d.files[i].2.bytes.length ≤ 1048576 := fun i h => ⟨hok.safe _ (List.getElem_mem h), Nat.le_trans (used_ge d.files i h) (Nat.le_trans hok.used hok.quota)⟩
  obtain ⟨quota, fs, left, dead, turn⟩ := d
  simp only at *
  go_enter Tryz.func134, Tryz.ntmps134
  go_wp2
  go_loopw [4] (fun i wr => ∃ j : Nat, j ≤ fs.length ∧ i = .int .i64 j ∧ Kp S w wr ∧ wr.heap[b]? = some (.cells #[.int .i64 quota, .slice p fs.length cap, .int .i64 left, .bool dead] 168) ∧ wr.ownsRow 0 172 3 (.slice p fs.length cap) fs.length ((crashK ks fs j).flatMap fcells)) (fun i _ => fs.length - (intOf i).toNat)
  case atStart => exact ⟨0, Nat.zero_le _, rfl, Kp.refl _ _, hb, by simpa [crashK] using hrow⟩
  case round =>
    obtain ⟨j, hj, rfl, kp, hbr, hrr⟩ := hrel
    have hrr' : wr.ownsRow 0 172 3 (.slice p (crashK ks fs j).length cap) (crashK ks fs j).length ((crashK ks fs j).flatMap fcells) := by rw [crashK_len]; exact hrr
    obtain ⟨c0, c1, c2, c3, f0, f1, f2, f3⟩ := cells4 hbr
    by_cases hlt : j < fs.length
    · obtain ⟨p', cap', hpe, hp'⟩ := rowp hrr'
      obtain ⟨rfl, rfl⟩ : p = p' ∧ cap = cap' := by simpa using hpe
      obtain ⟨g, rfl, d0, d1, d2⟩ := hp' j (by rw [crashK_len]; exact hlt)
      rw [crashK_here ks fs j hlt] at d0 d1 d2
      have z1 := hrr.frozenAt (j * 3 + 1)
      have z2 := hrr.frozenAt (j * 3 + 2)
      obtain ⟨hs1, hs2⟩ := hsafe j hlt
      have hik := hi.kept kp hq
      have HR : Hid (wr.ownsRow 0 172 3 (.slice (some ⟨g, 0, none⟩) fs.length cap) fs.length ((crashK ks fs j).flatMap fcells)) := hrr
      have HB : Hid (wr.heap[b]? = some (.cells #[.int .i64 quota, .slice (some ⟨g, 0, none⟩) fs.length cap, .int .i64 left, .bool dead] 168)) := hbr
      clear hrr hrr' hp' hp hb hrow hpe hbr hi hsafe
      have hne : g ≠ b := row_ne HB.out HR.out rfl (by decide)
      have hne' : b ≠ g := hne.symm
      have KP : Hid (Kp S w wr) := kp
      clear kp
      have sg' := sg g rfl
      by_cases hjk : j < ks.length
      · obtain ⟨gk, ok, rfl, hck⟩ := hik j hjk
        clear hik hq
        by_cases h0 : 0 < ks[j]
        · by_cases h1 : ks[j] < (fs[j].2.bytes.length : Int) - (fs[j].2.safe : Int)
          · have HI : Hid ((fs[j].2.safe : Int) + ks[j] = (keptN (ks.getD j 0) fs[j].2 : Nat)) := by
              show _ = _; rw [getD_in hjk]; unfold keptN; omega
            go_wp2
            go_region
            go_wp2
            go_roundw
            case rel => exact ⟨j + 1, by omega, by go_num, crash_step _ KP.out HB.out HR.out hlt HI.out (by omega) sg'⟩
            case measure => simp [intOf]; omega
          · have HI : Hid ((fs[j].2.safe : Int) + ((fs[j].2.bytes.length : Int) - (fs[j].2.safe : Int)) = (keptN (ks.getD j 0) fs[j].2 : Nat)) := by
              show _ = _; rw [getD_in hjk]; unfold keptN; omega
            go_wp2
            go_region
            go_wp2
            go_roundw
            case rel => exact ⟨j + 1, by omega, by go_num, crash_step _ KP.out HB.out HR.out hlt HI.out (by omega) sg'⟩
            case measure => simp [intOf]; omega
        · have HI : Hid ((fs[j].2.safe : Int) = (keptN (ks.getD j 0) fs[j].2 : Nat)) := by
            show _ = _; rw [getD_in hjk]; unfold keptN; omega
          go_wp2
          go_region
          go_wp2
          go_roundw
          case rel => exact ⟨j + 1, by omega, by go_num, crash_step _ KP.out HB.out HR.out hlt HI.out (by omega) sg'⟩
          case measure => simp [intOf]; omega
      · have HI : Hid ((fs[j].2.safe : Int) = (keptN (ks.getD j 0) fs[j].2 : Nat)) := by
          show _ = _; rw [getD_out (by omega)]; unfold keptN; omega
        clear hik hq
        go_wp2
        go_region
        go_wp2
        go_roundw
        case rel => exact ⟨j + 1, by omega, by go_num, crash_step _ KP.out HB.out HR.out hlt HI.out (by omega) sg'⟩
        case measure => simp [intOf]; omega
    · have : j = fs.length := by omega
      subst this
      rw [crashK_end] at hrr
      have hne : ∀ g, (Value.slice p fs.length cap).ownBlock = some g → g ≠ b := fun g hg => row_ne hbr hrr hg (by decide)
      have HB : Hid (wr.heap[b]? = some (.cells #[.int .i64 quota, .slice p fs.length cap, .int .i64 left, .bool dead] 168)) := hbr
      clear hbr hrr' hi hq hb hp hrow
      go_wp2
      go_end0
      refine ⟨rfl, ⟨.slice p fs.length cap, (block_set (block_set HB.out _) _).trans rfl, ?_, .inl sb, fun g hg => .inl (sg g hg)⟩, (kp.put sb _).put sb _⟩
      show World.ownsRow _ _ _ _ _ (crashL ks fs).length ((crashL ks fs).flatMap fcells)
      rw [crashL_len]
      exact ownsRow_of_block hrr (fun g hg => (Below.heap_setCell _ _ _ _ (hne g hg)).trans (Below.heap_setCell _ _ _ _ (hne g hg)))


end Go.Proofs.YtoabedkcieindaaGreatDoor
