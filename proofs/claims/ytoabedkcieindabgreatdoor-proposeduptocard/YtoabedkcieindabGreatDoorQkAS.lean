import Derived.Test.YtoabedkcieindabGreatDoorQkAH
import Derived.Maps.RangeWalk
import Derived.Sort.KeysCollected
import Derived.Sort.OwnSorted
import Derived.Maps.AppendAt
import Derived.Test.YtoabedkcieindabGreatDoorQkAP
import Derived.Test.YtoabedkcieindabGreatDoorQkAR
import Derived.MapKept
import Derived.RangeFuncRecord
import Derived.Test.YtoabedkcieindabGreatDoorQkAL
import Derived.Test.YtoabedkcieindabGreatDoorQkAN
import Derived.Test.YtoabedkcieindabGreatDoorQkAM
namespace Go.Proofs.YtoabedkcieindabGreatDoor
open Go.RowKit Go.Maps Go.Sort
def okB (lo hi n : Nm) : Bool := !bytesBefore n lo && (hi == [] || bytesBefore n hi)
def keysB {α : Type} (lo hi : Nm) (m : List (Nm × α)) : List Nm := (nmsOf m).filter (okB lo hi)
theorem keys_datX (xs : MX) : strKeys (datX xs) = nmsOf xs := by
  show (xs.map entX).map (fun p => strOf p.1) = xs.map (·.1)
  rw [List.map_map]
  rfl
theorem sorted_keysB {α : Type} {m : List (Nm × α)} (h : rising m) {ss : List (List UInt8)} (hp : ss.Perm (nmsOf m)) (lo hi : Nm) : (ss.filter (okB lo hi)).mergeSort (fun x y => decide (x ≤ y)) = keysB lo hi m := by
  rw [mergeSort_of_perm (hp.filter (okB lo hi))]
  apply List.mergeSort_of_pairwise
  refine List.Pairwise.filter _ ?_
  unfold nmsOf
  rw [List.pairwise_map]
  exact h.imp (fun hab => by simpa using before_le hab)
theorem sizeX (xs : MX) : Maps.size (datX xs) = xs.length := by simp [datX, Maps.size]
theorem invS (key : Value) (kl : Lit) (h : keyOf Tryz.prog 9 key = some kl) : ∃ x, key = encStr x := by
  obtain ⟨x, hx, _⟩ := Maps.keyOf_str Tryz.underlying9 h; exact ⟨x, hx⟩
theorem invX (v : Value) (y : DataW Sl × List MemPlace) (h : Rs v = some y) : ∃ c : Sl, v = slV c := by
  unfold Rs at h
  split at h
  · exact ⟨(_, _, _), rfl⟩
  · cases h
theorem filt_no {lo hi x : Nm} (h : okB lo hi x = false) (ss : List (List UInt8)) : (ss ++ [x]).filter (okB lo hi) = ss.filter (okB lo hi) := by simp [List.filter_append, h]
theorem filt_yes {lo hi x : Nm} (h : okB lo hi x = true) (ss : List (List UInt8)) : (ss ++ [x]).filter (okB lo hi) = ss.filter (okB lo hi) ++ [x] := by simp [List.filter_append, h]
def betM (lo hi : Nm) (m : Mm) : Ly := (m.filter fun x => okB lo hi x.1).flatMap (·.2)
def versK (m : Mm) (k : Nm) : Ly := (getF k m).getD []
theorem getF_rise {α : Type} {m : List (Nm × α)} (hr : rising m) {x : Nm × α} (hx : x ∈ m) : getF x.1 m = some x.2 := by
  obtain ⟨k, hk, rfl⟩ := List.getElem_of_mem hx
  exact getF_at hk rfl (fun j hj e => by have := rising_at hr (i := j) (j := k) (by omega) hk e; omega)
theorem bet_keys {m : Mm} (hr : rising m) (lo hi : Nm) : (keysB lo hi m).flatMap (versK m) = betM lo hi m := by
  unfold keysB betM nmsOf
  rw [List.filter_map, List.flatMap_map]
  rw [List.flatMap_def, List.flatMap_def]
  congr 1
  apply List.map_congr_left
  intro x hx
  have := (List.mem_filter.1 hx).1
  simp [versK, getF_rise hr this]
theorem bet_len (lo hi : Nm) (m : Mm) : (betM lo hi m).length ≤ (flatM m).length := by
  induction m with
  | nil => simp [betM, flatM]
  | cons x r ih =>
    simp only [betM, flatM, List.filter_cons, List.flatMap_cons, List.length_append] at ih ⊢
    split
    · simp only [List.flatMap_cons, List.length_append]; omega
    · omega
def NoE (w w' : World) : Prop := ∀ (k : Nat) (cs : Array Value) (t : TypeId) (z : Nat × Nat), w.heap[k]? = some (.cells cs t z) → t ≠ 226 → w'.heap[k]? = some (.cells cs t z)
theorem NoE.refl (w : World) : NoE w w := fun _ _ _ _ h _ => h
theorem NoE.trans {a b c : World} (h : NoE a b) (k : NoE b c) : NoE a c := fun i cs t z hi ht => k i cs t z (h i cs t z hi ht) ht
theorem NoE.own {w w' : World} {n0 : Nat} {v : Value} {l : Ly} (ho : OwnE w n0 v l) (k : Kp (fun i => v.ownBlock = some i) w w') : NoE w w' := fun _ _ _ _ h ht => k.at h (fun e => row_ne h ho e ht rfl)
theorem NoE.row {w w' : World} (k : NoE w w') {base : Nat} {v : Value} {l : List Nm} (h : OwnS w base v l) : OwnS w' base v l := by
  refine ⟨h.1, ?_⟩
  rcases h.2 with hn | ⟨g, cap, cur, hv, hb, hg, rest⟩
  · exact .inl hn
  · exact .inr ⟨g, cap, cur, hv, hb, k _ _ _ _ hg (by decide), rest⟩
theorem rowShape {w : World} {base : Nat} {e : TypeId} {size : Nat} {v : Value} {n : Nat} {xs : List Value} (h : w.ownsRow base e size v n xs) : ∃ a c, v = .slice a n c := by
  rcases h.2 with ⟨hv, hn⟩ | ⟨g, cap, cur, hv, _⟩
  · exact ⟨none, 0, by rw [hv, hn]⟩
  · exact ⟨_, _, hv⟩
theorem sortS_any (v : Value) (base : Nat) (ss : List (List UInt8)) (w : World) (h : OwnS w base v ss) (hl : ss.length ≤ 4194304) :
    Calls Tryz.prog 173 #[v] w fun e w' => e = .returned (.tuple #[]) ∧ OwnS w' base v (ss.mergeSort (fun x y => decide (x ≤ y))) ∧ Kp (fun i => v.ownBlock = some i) w w' := by
  rcases h.2 with ⟨rfl, hn⟩ | ⟨g, cap, cur, rfl, hbase, hb, h1, h2, h3, h4⟩
  · have hnil : ss = [] := List.eq_nil_of_length_eq_zero hn
    subst hnil
    refine (AnyM.slices_Sort_string_none Tryz.sort173 none 0 w).mono ?_
    rintro e w' ⟨rfl, rfl⟩
    exact ⟨rfl, by rw [List.mergeSort_nil]; exact World.ownsRow_nil _ _ _ _, Kp.refl _ _⟩
  · have hH : Holds encStr w g 0 ss.toArray := holds_of_block hb (by have h5 : cur.toList.take (ss.length * 1) = ss.map encStr := h4; simpa using h5)
    refine (AnyM.slices_Sort_string Tryz.sort173 g 0 cap ss w hH (lt_of_block hb) (by omega)).mono ?_
    rintro e w' ⟨rfl, nn, os, rfl⟩
    refine ⟨rfl, ?_, (Kp.refl _ _).grown (grownBy_sorted _) (fun k hk _ => by cases hk; rfl)⟩
    have := ownsRow_sorted (n := nn) (os := os) (ss := ss) (ts := ss.mergeSort (fun x y => decide (x ≤ y))) (by simp) hbase hb h1 h2 h3
    unfold OwnS
    rw [List.length_mergeSort]
    exact this
set_option maxHeartbeats 2000000 in
set_option maxRecDepth 20000 in
theorem between_any (bm : Nat) (E : Nat → Prop) (m : Mm) (lo hi : Nm) (w : World) (hM : MemAt w E bm m) (hr : rising m) (hml : m.length ≤ 100000) (hfl : (flatM m).length ≤ 100000) (hkn : ∀ x ∈ m, x.1.length ≤ 1099511627776) :
    Calls Tryz.prog 119 #[.map (some bm), str lo, str hi] w fun e w' => ∃ v, e = .returned v ∧ Below w.heap.size w w' ∧ OwnE w' w.heap.size v (betM lo hi m) := by
  have hKN : ∀ k ∈ keysB lo hi m, k.length ≤ 1099511627776 := fun k hk => by
    obtain ⟨x, hx, rfl⟩ := List.mem_map.1 (List.mem_filter.1 hk).1
    exact hkn x hx
  obtain ⟨xs, hmx, hm, _⟩ := id hM
  have hnm : nmsOf m = nmsOf xs := by rw [← hmx]; simp [nmsOf, mmOf]
  have hxl : xs.length ≤ 100000 := by have : xs.length = m.length := by { rw [← hmx]; simp [mmOf] }
                                      omega
  clear hmx
  obtain ⟨i0, hi0, hz0, hz1, hz2⟩ := info_parts Tryz.info9
  have hbl := hm.lt
  go_enter Tryz.func119, Tryz.ntmps119
  go_wp2_with (first
    | (at_range; refine wpList_range_own _ rfl _ 107 rfl 9 112 keyedS Tryz.underlying107 _ bm xs.length _ rfl hm ?_; intro w0 hrg0 hg0 hs0)
    | go_in)
  go_frame
  go_loopw [7] (fun v wr => ∃ (left : Lit → Bool) (cnt : Nat) (ss : List (List UInt8)), wr.ranges Tryz.prog 9 Rs bm w.heap.size xs.length (datX xs) left cnt ∧ ss.length + cnt ≤ xs.length ∧
      wr.ownsRow w.heap.size 9 1 v (ss.filter (okB lo hi)).length ((ss.filter (okB lo hi)).map encStr) ∧ Collected (datX xs) left ss ∧ Below w.heap.size w wr)
    (fun _ wr => wr.rangeLeft bm w.heap.size)
  case atStart =>
    exact ⟨_, _, [], hrg0, by simp [sizeX], World.ownsRow_nil _ _ _ _, Collected.start _, (Below.refl _ _).grown hg0 (Nat.le_refl _) (fun j hj => by cases hj)⟩
  case round =>
    obtain ⟨left, cnt, ss, hrg, hcs, hrow, hC, hnx⟩ := hrel
    go_wp2_with (first
      | (at_next; refine wpList_next_ranges _ rfl _ rfl 9 keyedS Rs encStr slV invS invX bm w.heap.size xs.length _ _ _ rfl hrg ?_ ?_)
      | go_in)
    · intro hc0 hl0
      have hS := sorted_keysB hr ((hC.perm hm keyedS Tryz.underlying9 hl0).trans (by rw [keys_datX, hnm])) lo hi
      have hlen : (ss.filter (okB lo hi)).length ≤ ss.length := List.length_filter_le _ _
      have hLL : (ss.filter (okB lo hi)).length = (keysB lo hi m).length := by rw [← hS]; simp
      obtain ⟨va, vc, hveq⟩ := rowShape hrow
      rw [hLL] at hveq
      subst hveq
      have hso := sortS_any (.slice va (keysB lo hi m).length vc) w.heap.size (ss.filter (okB lo hi)) wr hrow (by omega)
      rw [hS] at hso
      have hkp0 : ∀ g, (Value.slice va (keysB lo hi m).length vc).ownBlock = some g → w.heap.size ≤ g := fun g hg => (World.ownsRow.lt hrow g hg).1
      go_wp2_with (go_at_call 173; refine hso.mono ?_; rintro e w5 ⟨rfl, hks, kp5⟩)
      have hb5 : Below w.heap.size w w5 := hnx.trans ⟨kp5.os, kp5.tape, kp5.output, kp5.size, fun i hi => kp5.block i (Nat.lt_of_lt_of_le hi hnx.size) (fun e => by have := hkp0 i e; omega)⟩
      clear hC hcs hrg hrow hS hso kp5 hkp0 hLL hlen
      have hkl : (keysB lo hi m).length ≤ m.length := Nat.le_trans (List.length_filter_le _ _) (by simp [nmsOf])
      have HK : Hid ((keysB lo hi m).flatMap (versK m) = betM lo hi m) := bet_keys hr lo hi
      have hKL : ∀ j, (((keysB lo hi m).take j).flatMap (versK m)).length ≤ 100000 := fun j => by
        have h1 := bet_len lo hi m
        rw [← HK.out] at h1
        have e : (keysB lo hi m).flatMap (versK m) = ((keysB lo hi m).take j).flatMap (versK m) ++ ((keysB lo hi m).drop j).flatMap (versK m) := by rw [← List.flatMap_append, List.take_append_drop]
        rw [e, List.length_append] at h1
        omega
      generalize keysB lo hi m = KS at *
      have hs5 := hb5.size
      go_loopw [9, 38] (fun v i wr => ∃ j : Nat, j ≤ KS.length ∧ i = .int .i64 j ∧ OwnE wr w.heap.size v ((KS.take j).flatMap (versK m)) ∧ Below w.heap.size w wr ∧ NoE w5 wr) (fun _ i _ => KS.length - (intOf i).toNat)
      case atStart => exact ⟨0, Nat.zero_le _, rfl, OwnR.nil _ _ _ _ _, hb5, NoE.refl _⟩
      case round =>
        obtain ⟨j, hj, rfl, hown, hb, hne⟩ := hrel
        have hsr := hb.size
        by_cases hlt : j < KS.length
        · obtain ⟨a2, c2, e2, hoc2⟩ := ownS_shape (hne.row hks)
          obtain ⟨g, rfl, _, hcell⟩ := hoc2 j hlt
          obtain ⟨rfl, -, rfl⟩ : va = some ⟨g, 0, none⟩ ∧ True ∧ vc = c2 := by simpa using e2
          unfold encS at hcell
          have hkn : KS[j].length ≤ 1099511627776 := hKN _ (List.getElem_mem hlt)
          obtain ⟨s, hlk, hsl, hsE⟩ := (hM.below hb).look KS[j] (by unfold maxLen; omega)
          have HC : Hid ((KS.take (j + 1)).flatMap (versK m) = (KS.take j).flatMap (versK m) ++ versK m KS[j]) := by show _ = _; rw [List.take_succ_eq_append_getElem hlt, List.flatMap_append, List.flatMap_singleton]
          have hle : ((KS.take j).flatMap (versK m)).length + (versK m KS[j]).length ≤ 100000 := by rw [← List.length_append, ← HC.out]; exact hKL _
          replace hsl : SlAt wr s (versK m KS[j]) := hsl
          obtain ⟨sa, sn, sc⟩ := s
          replace hlk : (Instr.lookup 107 (.map (some bm)) (.string ⟨KS[j].toArray⟩) false).run Tryz.prog wr = .ok (.slice sa sn sc) wr := hlk
          have hln : sn = (versK m KS[j]).length := hsl.len
          subst hln
          generalize (KS.take j).flatMap (versK m) = X at *
          generalize versK m KS[j] = V at *
          obtain ⟨a3, cap3, rfl⟩ := hown.shape
          go_wp2_with (at_builtin; refine wpList_appR _ rfl (.tmp 42) (.tmp 45) 226 112 Tryz.info226 rfl (by decide) Tryz.underlying112 enC_len enC_one rfl w.heap.size _ _ V sa sc rfl rfl hsr hown hsl.nil hsl.pl hsl.row.rp (by omega) (by omega) ?_; intro v3 w3 hown3 kp3; have hb3 := hown.belowOwn hsr kp3; have hn3 := NoE.own hown kp3; obtain ⟨a4, cap4, rfl⟩ := hown3.shape)
          go_roundw
          case rel => exact ⟨j + 1, by omega, by go_num, by rw [HC.out]; rwa [List.length_append] at hown3, hb.trans hb3, hne.trans hn3⟩
          case measure => simp [intOf]; omega
        · have E2 : Hid (KS.take j = KS) := List.take_of_length_le (by omega)
          rw [E2.out, HK.out] at hown
          obtain ⟨a3, cap3, rfl⟩ := hown.shape
          go_wp2
          go_ret
          exact ⟨_, rfl, hb, hown⟩
    · intro x sa0 sn0 sc0 kl yd yp w2 cnt2 hkey hlk hv hat hrg2 hlt hg2 hs2 hen
      obtain ⟨x', ex, rfl, _⟩ := Maps.keyOf_str Tryz.underlying9 hkey
      obtain rfl : x = x' := encStr_inj ex
      have hrow2 := hrow.kept hg2 (Or.inr (row_ne_iter hrow hrg).symm)
      clear hs2
      go_wp2_with (first
        | (at_builtin; refine wpList_append_own _ rfl (.tmp 30) (.tmp 32) 41 rfl w.heap.size 9 i0 _ 1 16 Tryz.underlying41 hi0 hz0 hz1 hz2 rfl (by decide) _ _ _ rfl (hrow2.alloc _) ⟨w2.heap.size, 0, none⟩ 1 1 [encStr x] rfl rfl (cell_one_new _ _ _) (by simp [Value.oneCell', encStr]) (by unfold maxLen at *; have := List.length_filter_le (okB lo hi) ss; omega) (by have := List.length_filter_le (okB lo hi) ss; omega) (by have := hnx.size; have := hg2.size; simp; omega) ?_; intro v' w3 hown' hg3 hnil3; go_frame)
        | go_in)
      · have hk : okB lo hi x = false := by simp [okB, ← less_before, *]
        go_roundw
        case rel => exact ⟨_, cnt2, ss ++ [x], hrg2, by simp; omega, by rw [filt_no hk]; exact hrow2, hC.step hlk hat, hnx.grown hg2 hnx.size (fun j hj => by cases hj; exact Nat.le_refl _)⟩
        case measure => rw [hrg2.left_eq, hrg.left_eq]; exact hlt
      · have hk : okB lo hi x = true := by simp [okB, ← less_before, *]
        have hrg3 := (hrg2.alloc _).kept hg3 (row_ne_low hrow2 hbl) (row_ne_iter hrow2 hrg2)
        go_roundw
        case rel =>
          have hh : hi = [] := by assumption
          rw [← hh]
          refine ⟨_, cnt2, hrg3, ss ++ [x], by simp; omega, by rw [filt_yes hk]; simpa using hown', hC.step hlk hat, ?_⟩
          exact ((hnx.grown hg2 hnx.size (fun j hj => by cases hj; exact Nat.le_refl _)).alloc (by have := hnx.size; have := hg2.size; omega) _).grown hg3 (by have := hnx.size; have := hg2.size; simp; omega) (fun j hj => (hrow2.lt j hj).1)
        case measure => rw [hrg3.left_eq, hrg.left_eq]; exact hlt
      · have hk : okB lo hi x = true := by
          have h1 : ¬ Op.bytesLess x lo = true := by assumption
          have h2 : List.isEmpty hi = true ∨ Op.bytesLess x hi = true := by assumption
          simp only [okB, ← less_before]
          rcases h2 with h2 | h2
          · have : hi = [] := by simpa using h2
            simp [this, h1]
          · simp [h1, h2]
        have hrg3 := (hrg2.alloc _).kept hg3 (row_ne_low hrow2 hbl) (row_ne_iter hrow2 hrg2)
        go_roundw
        case rel =>
          refine ⟨_, cnt2, ss ++ [x], hrg3, by simp; omega, by rw [filt_yes hk]; simpa using hown', hC.step hlk hat, ?_⟩
          exact ((hnx.grown hg2 hnx.size (fun j hj => by cases hj; exact Nat.le_refl _)).alloc (by have := hnx.size; have := hg2.size; omega) _).grown hg3 (by have := hnx.size; have := hg2.size; simp; omega) (fun j hj => (hrow2.lt j hj).1)
        case measure => rw [hrg3.left_eq, hrg.left_eq]; exact hlt
      · have hk : okB lo hi x = false := by
          have h1 : ¬ Op.bytesLess x lo = true := by assumption
          have h2 : List.isEmpty hi = false ∧ Op.bytesLess x hi = false := by assumption
          have h3 : ¬ hi = [] := by assumption
          simp [okB, ← less_before, h2.2, h3]
        go_roundw
        case rel => exact ⟨_, cnt2, ss ++ [x], hrg2, by simp; omega, by rw [filt_no hk]; exact hrow2, hC.step hlk hat, hnx.grown hg2 hnx.size (fun j hj => by cases hj; exact Nat.le_refl _)⟩
        case measure => rw [hrg2.left_eq, hrg.left_eq]; exact hlt
end Go.Proofs.YtoabedkcieindabGreatDoor

namespace Go.Proofs.YtoabedkcieindabGreatDoor
open Go.RowKit Go.Maps Go.Sort Go.Shelf
def lsC (bd bm bsn : Nat) (s : Sl) (st : Ls) : Obj := .cells #[.pointer (some ⟨bd, 0, none⟩), .int .i64 st.turn, .int .i64 st.policy, .map (some bm), slV s, .int .i64 st.next, .int .i64 st.log, .int .i64 st.len, .int .i64 st.batch, .map (some bsn), .int .i64 st.taken, .bool st.loose, .bool st.stuck] 111
structure LsAt (w : World) (E : Nat → Prop) (T bd bm bsn : Nat) (s : Sl) (l : List Tr) (st : Ls) : Prop where
  blk : w.heap[T]? = some (lsC bd bm bsn s st)
  mem : MemAt w E bm st.mem
  snp : SnAt w bsn st.snaps
  sn0 : st.snaps.length ≤ 1000
  tab : TrAt w s l
  es : TrEs w l
  is : l.map (·.1) = st.tabs
  inT : ∀ a, s.1 = some a → E a.block
  inE : ∀ x ∈ l, ∀ a, x.2.1 = some a → E a.block
  ne : bm ≠ bsn
  nE : ¬ E T ∧ ¬ E bm ∧ ¬ E bsn
  bnd : ∀ k, E k → k < w.heap.size
theorem TrAt.kept {w w' : World} {S : Nat → Prop} {s : Sl} {l : List Tr} (h : TrAt w s l) (k : Kp S w w') (hs : ∀ a, s.1 = some a → 0 < l.length → ¬ S a.block) : TrAt w' s l :=
  ⟨h.len, h.cap, h.nil, h.pl, fun i hi j u hu => by
    obtain ⟨g, off, e, c⟩ := h.row i hi j u hu
    exact ⟨g, off, e, by rw [World.cell?_of_block (k.block g (World.block_lt_of_cell? w _ c) (hs _ e (by omega)))]; exact c⟩⟩
theorem TrEs.kept {w w' : World} {S : Nat → Prop} {l : List Tr} (h : TrEs w l) (k : Kp S w w') (hs : ∀ x ∈ l, ∀ a, x.2.1 = some a → ¬ S a.block) : TrEs w' l := fun x hx => (h x hx).kept k (fun a ha _ => hs x hx a ha)
theorem LsAt.kept {w w' : World} {E S : Nat → Prop} {T bd bm bsn : Nat} {s : Sl} {l : List Tr} {st : Ls} (h : LsAt w E T bd bm bsn s l st) (k : Kp S w w') (hT : ¬ S T) (hm : ¬ S bm) (hn : ¬ S bsn) (hE : ∀ i, E i → ¬ S i) : LsAt w' E T bd bm bsn s l st :=
  ⟨(k.block T (lt_of_block h.blk) hT).trans h.blk, h.mem.kept k hm hE, h.snp.kept k hn, h.sn0, h.tab.kept k (fun a ha _ => hE _ (h.inT a ha)), h.es.kept k (fun x hx a ha => hE _ (h.inE x hx a ha)), h.is, h.inT, h.inE, h.ne, h.nE, fun i hi => Nat.lt_of_lt_of_le (h.bnd i hi) k.size⟩
theorem LsAt.below {w w' : World} {E : Nat → Prop} {T bd bm bsn : Nat} {s : Sl} {l : List Tr} {st : Ls} (h : LsAt w E T bd bm bsn s l st) (k : Below w.heap.size w w') : LsAt w' E T bd bm bsn s l st := h.kept (S := fun _ => False) (Kp.of_below k) (fun f => f) (fun f => f) (fun f => f) (fun _ _ f => f)
theorem LsAt.cell {w : World} {E : Nat → Prop} {T bd bm bsn : Nat} {s : Sl} {l : List Tr} {st : Ls} (h : LsAt w E T bd bm bsn s l st) (j : Nat) : w.cell? ⟨T, j, none⟩ = #[.pointer (some ⟨bd, 0, none⟩), .int .i64 st.turn, .int .i64 st.policy, .map (some bm), slV s, .int .i64 st.next, .int .i64 st.log, .int .i64 st.len, .int .i64 st.batch, .map (some bsn), .int .i64 st.taken, .bool st.loose, .bool st.stuck][j]? := cell_block h.blk
theorem LsAt.frozen {w : World} {E : Nat → Prop} {T bd bm bsn : Nat} {s : Sl} {l : List Tr} {st : Ls} (h : LsAt w E T bd bm bsn s l st) (j : Nat) : w.frozen? ⟨T, j, none⟩ = false := frozen_block h.blk
theorem MemAt.clear {w : World} {E : Nat → Prop} {bm : Nat} {m : Mm} (h : MemAt w E bm m) (ty : TypeId) :
    ∃ w', (Builtin.clear_ #[107] ty #[.map (some bm)]).run Tryz.prog w = .ok (.tuple #[]) w' ∧ MemAt w' E bm [] ∧ Kp (fun i => i = bm) w w' := by
  obtain ⟨es, c, hb⟩ := h.isMap
  refine ⟨w.putObj bm (.map #[] c), ?_, ⟨[], rfl, ⟨#[], c, ?_, ⟨by simp, Go.MapKept.stamped_empty c, by simp⟩, Nat.le_refl _, rfl⟩, fun x hx => by cases hx⟩, ?_⟩
  · simp [Builtin.clear_, run_underlying Tryz.underlying107, MapKept.run_getObj_map hb, MapKept.run_setObj_map _ hb, Result.andThen, World.putObj]
  · exact World.putObj_heap_same (lt_of_block hb)
  · exact ⟨rfl, rfl, rfl, by simp [World.putObj], fun k _ hk => World.putObj_heap_other (by omega)⟩
end Go.Proofs.YtoabedkcieindabGreatDoor

namespace Go.Proofs.YtoabedkcieindabGreatDoor
open Go.RowKit Go.Maps Go.Sort Go.Shelf
theorem OwnL.one (w : World) (base : Nat) (s : Sl) (hb : base ≤ w.heap.size) : OwnL (w.alloc (.cells #[slV s] 112)) base (.slice (some ⟨w.heap.size, 0, none⟩) 1 1) [s] :=
  ⟨by simp [slC], .inr ⟨w.heap.size, 1, #[slV s], rfl, hb, block_new w _, Nat.le_refl _, by unfold maxLen; omega, by simp, by simp [slC]⟩⟩
structure LbI (w1 w2 wr : World) (base : Nat) (v : Value) (xs : List (Sl × Ly)) : Prop where
  own : OwnL wr base v (xs.map (·.1))
  at_ : ∀ i, v.ownBlock = some i → i = w1.heap.size ∨ w2.heap.size ≤ i
  kp : Kp (fun i => i = w1.heap.size ∨ w2.heap.size ≤ i) w2 wr
  each : ∀ x ∈ xs, SlAt wr x.1 x.2 ∧ ∀ a, x.1.1 = some a → a.block < w2.heap.size ∧ a.block ≠ w1.heap.size
theorem LbI.below {w1 w2 wr W' : World} {base : Nat} {v : Value} {xs : List (Sl × Ly)} (h : LbI w1 w2 wr base v xs) (k : Below wr.heap.size wr W') : LbI w1 w2 W' base v xs :=
  ⟨h.own.below k, h.at_, h.kp.trans (T := fun _ => False) (Kp.of_below k) (fun _ _ f => f.elim), fun x hx => ⟨(h.each x hx).1.below k, (h.each x hx).2⟩⟩
theorem LbI.add {w1 w2 wr W' : World} {base : Nat} {v v' : Value} {xs : List (Sl × Ly)} {y : Sl × Ly} (h : LbI w1 w2 wr base v xs) (ho : OwnL W' base v' (xs.map (·.1) ++ [y.1])) (k : Kp (fun i => v.ownBlock = some i) wr W') (hat : v'.ownBlock = v.ownBlock ∨ v'.ownBlock = some wr.heap.size) (hy : SlAt wr y.1 y.2 ∧ ∀ a, y.1.1 = some a → a.block < w2.heap.size ∧ a.block ≠ w1.heap.size) : LbI w1 w2 W' base v' (xs ++ [y]) := by
  have hsz := h.kp.size
  refine ⟨by rw [List.map_append]; exact ho, fun i hi => ?_, h.kp.trans k (fun i _ hi => h.at_ i hi), fun x hx => ?_⟩
  · rcases hat with e | e
    · exact h.at_ i (by rw [← e]; exact hi)
    · rw [e] at hi; cases hi; exact .inr hsz
  · have hx' : SlAt wr x.1 x.2 ∧ ∀ a, x.1.1 = some a → a.block < w2.heap.size ∧ a.block ≠ w1.heap.size := by
      rcases List.mem_append.1 hx with hx | hx
      · exact h.each x hx
      · rw [List.mem_singleton] at hx; subst hx; exact hy
    refine ⟨hx'.1.kept k (fun a ha _ hv => ?_), hx'.2⟩
    have := hx'.2 a ha
    rcases h.at_ _ hv with e | e <;> omega
set_option maxHeartbeats 400000 in
set_option maxRecDepth 20000 in
theorem layersBetween_any (T bd bm bsn : Nat) (s : Sl) (l : List Tr) (st : Ls) (E : Nat → Prop) (lo hi : Nm) (w : World) (hL : LsAt w E T bd bm bsn s l st) (hr : rising st.mem) (hml : st.mem.length ≤ 100000) (hfl : (flatM st.mem).length ≤ 100000) (hkn : ∀ x ∈ st.mem, x.1.length ≤ 1099511627776) (hll : l.length ≤ 1000) (hel : ∀ x ∈ l, x.1.es.length ≤ 100000 ∧ srt x.1.es) :
    Calls Tryz.prog 104 #[.pointer (some ⟨T, 0, none⟩), str lo, str hi] w fun e w' => ∃ (q : Option Addr) (qc : Nat) (xs : List (Sl × Ly)), e = .returned (.slice q xs.length qc) ∧ Below w.heap.size w w' ∧ OwnL w' w.heap.size (.slice q xs.length qc) (xs.map (·.1)) ∧ (∀ x ∈ xs, SlAt w' x.1 x.2) ∧ xs.map (·.2) = betM lo hi st.mem :: (newF st.tabs).map (betL lo hi) := by
  have c3 : w.cell? ⟨T, 3, none⟩ = some (.map (some bm)) := hL.cell 3
  have hBt := between_any bm E st.mem lo hi w hL.mem hr hml hfl hkn
  obtain ⟨sq, sn, sc⟩ := s
  obtain rfl : sn = l.length := hL.tab.len
  have hNf := fun w1 (h : Below w.heap.size w w1) => newestFirst_any sq sc l w1 (hL.tab.below h) (by omega)
  have hnew : newF st.tabs = l.reverse.map (·.1.es) := by rw [← hL.is]; simp [newF, Function.comp_def]
  generalize hY : l.reverse = Y at *
  have hYl : Y.length = l.length := by rw [← hY]; simp
  have hYm : ∀ x ∈ Y, x ∈ l := fun x hx => by rw [← hY] at hx; exact List.mem_reverse.1 hx
  have HN : Hid (newF st.tabs = Y.map (·.1.es)) := hnew
  clear hnew hY
  go_enter Tryz.func104, Tryz.ntmps104
  go_wp2_with (first
    | (go_at_call 119; refine hBt.mono ?_; rintro e w1 ⟨v1, rfl, hb1, ho1⟩; obtain ⟨⟨a1, n1, k1⟩, rfl, hs1, hf1⟩ := ho1.slAt; have hb1' : Below w.heap.size w (w1.alloc (.cells #[.slice a1 n1 k1] 112)) := hb1.alloc hb1.size _; have hNf1 := hNf _ hb1'; have c4 : (w1.alloc (.cells #[.slice a1 n1 k1] 112)).cell? ⟨T, 4, none⟩ = some (.slice sq l.length sc) := cell_below hb1' (hL.cell 4); clear hBt hNf)
    | (go_at_call 70; refine hNf1.mono ?_; rintro e w2 ⟨v2, rfl, hb2, ho2⟩; obtain ⟨q2, cap2, rfl, hc2, hr2, hn2, hf2⟩ := ho2.rp slC_len))
  have hz1 : w1.heap.size + 1 ≤ w2.heap.size := by have := hb2.size; simpa using this
  have hI0 : LbI w1 w2 w2 w.heap.size (.slice (some ⟨w1.heap.size, 0, none⟩) 1 1) [((a1, n1, k1), betM lo hi st.mem)] := by
    refine ⟨(OwnL.one w1 w.heap.size (a1, n1, k1) hb1.size).below hb2, fun i hi => .inl (by cases hi; rfl), Kp.refl _ _, fun x hx => ?_⟩
    rw [List.mem_singleton] at hx
    subst hx
    exact ⟨(hs1.below ((Below.refl _ w1).alloc (Nat.le_refl _) _)).below hb2, fun a ha => by have := (hf1 a ha).2; omega⟩
  have hbw2 : Below w.heap.size w w2 := hb1'.trans (hb2.mono (by have := hb1.size; simp; omega))
  rw [List.length_map] at *
  go_loopw [7, 24] (fun v i wr => ∃ (k : Nat) (xs : List (Sl × Ly)), k ≤ Y.length ∧ i = .int .i64 k ∧ LbI w1 w2 wr w.heap.size v xs ∧ xs.map (·.2) = betM lo hi st.mem :: (((Y.take k).map (·.1.es)).map (betL lo hi))) (fun _ i _ => Y.length - (intOf i).toNat)
  case atStart => exact ⟨0, _, Nat.zero_le _, rfl, hI0, by simp⟩
  case round =>
    clear hI0
    obtain ⟨k, xs, hk, rfl, hI, hxs⟩ := hrel
    have HX : Hid (xs.map (·.2) = betM lo hi st.mem :: (((Y.take k).map (·.1.es)).map (betL lo hi))) := hxs
    have hxl : xs.length ≤ 1001 := by have := congrArg List.length hxs; simp at this; omega
    clear hxs
    have hsw : w.heap.size ≤ wr.heap.size := Nat.le_trans hbw2.size hI.kp.size
    have hbwr : Below w.heap.size w wr := ⟨hI.kp.os.trans hbw2.os, hI.kp.tape.trans hbw2.tape, hI.kp.output.trans hbw2.output, hsw, fun i hi => (hI.kp.block i (by have := hbw2.size; omega) (by have := hb1.size; have := hbw2.size; omega)).trans (hbw2.block i hi)⟩
    by_cases hlt : k < Y.length
    · obtain ⟨g, off, hq, cg⟩ := hr2 k (by simpa using hlt) 0 _ rfl
      simp only [List.getElem_map, Nat.mul_one, Nat.add_zero] at cg
      subst hq
      have hg2 := hf2 _ rfl
      simp only [World.size_alloc] at hg2
      replace cg : wr.cell? ⟨g, off + k, none⟩ = some (slV Y[k].2) := by rw [World.cell?_of_block (hI.kp.block g hg2.2 (by omega))]; exact cg
      have hYk := hYm _ (List.getElem_mem hlt)
      have hsl := (hL.es _ hYk).below hbwr
      have hin := hL.inE _ hYk
      have hbd := hL.bnd
      have hek := hel _ hYk
      have hBw := layBetween_any Y[k].2 Y[k].1.es lo hi wr hsl (by omega) hek.2
      have HT : Hid (betM lo hi st.mem :: (((Y.take (k + 1)).map (·.1.es)).map (betL lo hi)) = (betM lo hi st.mem :: (((Y.take k).map (·.1.es)).map (betL lo hi))) ++ [betL lo hi Y[k].1.es]) := by show _ = _; rw [List.take_succ_eq_append_getElem hlt, List.map_append, List.map_append]; rfl
      clear hsl hek
      generalize Y[k] = y at *
      obtain ⟨⟨yn, yl, ye⟩, ⟨ya, ym, yc⟩⟩ := y
      rw [show slV (ya, ym, yc) = Value.slice ya ym yc from rfl] at cg hBw
      simp only at hin HT hBw
      obtain ⟨va, vc, rfl⟩ := hI.own.shape
      rw [List.length_map] at hI ⊢
      go_wp2_with (first
        | (go_at_call 171; refine hBw.mono ?_; rintro e wb ⟨q5, n5, c5, rfl, hs5, hf5, hb5⟩; have hI5 := (hI.below hb5).below ((Below.refl _ wb).alloc (Nat.le_refl _) (.cells #[.slice q5 n5 c5] 112)); obtain ⟨v6, w6, hr6, ho6, kp6, hat6⟩ := appR_run (fl := slC) (sz := 1) (ts := 133) Tryz.info112 rfl (by decide) Tryz.underlying133 slC_len slC_one (L := [(q5, n5, c5)]) (sc := 1) hI5.own (rp_block slC_len (block_new wb (.cells #[.slice q5 n5 c5] 112)) rfl) (Nat.le_trans hsw (Nat.le_trans hb5.size (by simp))) (by rw [List.length_map]; simp; omega) (by decide) 133)
        | (at_builtin; refine Lib.wpList_append_run _ rfl _ _ _ _ rfl _ _ rfl rfl _ _ hr6 ?_; obtain ⟨q7, c7, rfl⟩ := ho6.shape))
      go_roundw
      case rel => exact ⟨k + 1, xs ++ [((q5, n5, c5), betL lo hi ye)], by omega, by go_num, hI5.add (y := ((q5, n5, c5), betL lo hi ye)) (by have := ho6; rw [List.length_append, List.length_map] at this; exact this) kp6 (by have := hat6; rw [List.length_append, List.length_map] at this; exact this) ⟨hs5.below ((Below.refl _ wb).alloc (Nat.le_refl _) _), fun a ha => by
          obtain ⟨b, hb, eb⟩ := hf5 a ha
          have h1 := hbd _ (hin b hb)
          have h2 := hb1.size
          omega⟩, by rw [List.map_append, HX.out, HT.out]; rfl⟩
      case measure => simp [intOf]; omega
    · have HE : Hid (xs.map (·.2) = betM lo hi st.mem :: (newF st.tabs).map (betL lo hi)) := by show _ = _; rw [HX.out, HN.out, List.take_of_length_le (by omega)]
      obtain ⟨va, vc, rfl⟩ := hI.own.shape
      rw [List.length_map] at hI ⊢
      go_wp2
      go_ret
      exact ⟨_, _, xs, rfl, hbwr, hI.own, fun x hx => (hI.each x hx).1, HE.out⟩
end Go.Proofs.YtoabedkcieindabGreatDoor

namespace Go.Proofs.YtoabedkcieindabGreatDoor
open Go.RowKit Go.Maps Go.Sort
theorem manBody_len (m : Man) {k : Nat} (h : k ≤ m.tabs.length) : (manBody m k).length = 16 + 16 * k := by
  induction k with
  | zero => simp [manBody, be8_len]
  | succ k ih => rw [manBody_snoc (by omega), List.length_append, List.length_append, ih (by omega), be8_len, be8_len]; omega
set_option maxHeartbeats 2000000 in
set_option maxRecDepth 20000 in
theorem manEncode_any (q : Option Addr) (qc : Nat) (m : Man) (w : World) (hp : Plp w q m.tabs) (hl : m.tabs.length ≤ 4000) (h1 : m.next < 9223372036854775808) (h2 : m.log < 9223372036854775808) (h3 : ∀ p ∈ m.tabs, p.number < 9223372036854775808 ∧ p.level < 9223372036854775808) :
    Calls Tryz.prog 130 #[.agg #[.int .i64 m.next, .int .i64 m.log, .slice q m.tabs.length qc]] w fun e w' => e = .returned (str (encMan m)) ∧ Below w.heap.size w w' := by
  have hA := appendNumber_any (.slice none 0 0) [] m.next (w.alloc (.cells #[.int .i64 m.next, .int .i64 m.log, .slice q m.tabs.length qc] 183)) (w.heap.size + 1) (by simp) (World.ownsRow_nil _ _ _ _) h1 (by simp)
  go_enter Tryz.func130, Tryz.ntmps130
  go_wp2_with (first
    | (go_at_call 205; refine hA.mono ?_; rintro e w1 ⟨v1, rfl, hown1, hb1, hn1⟩; clear hA hn1; have hbk : w1.heap[w.heap.size]? = some (.cells #[.int .i64 m.next, .int .i64 m.log, .slice q m.tabs.length qc] 183) := (hb1.block _ (by omega)).trans (block_new w _); have hs1 := hb1.size; simp only [World.size_alloc] at hs1; obtain ⟨q0, q1, q2, f0, f1, f2⟩ := cells3 hbk; obtain ⟨a1, n1, cap1, rfl⟩ := ownB_some hown1; have hA2 := appendNumber_any _ _ m.log w1 (w.heap.size + 1) (by omega) hown1 h2 (by simp [be8_len]))
    | (go_at_call 205; refine hA2.mono ?_; rintro e w2 ⟨v2, rfl, hown2, hb2, hn2⟩; clear hA2 hn2 q0 q1 q2 f0 f1 f2; have hbk2 := (hb2.block _ (by omega)).trans hbk; have hs2 := hb2.size; obtain ⟨q0, q1, q2, f0, f1, f2⟩ := cells3 hbk2; obtain ⟨a2, n2, cap2, rfl⟩ := ownB_some hown2)
    | go_in)
  go_loopw [3, 16] (fun v i wr => ∃ k : Nat, k ≤ m.tabs.length ∧ i = .int .i64 k ∧ OwnB wr (w.heap.size + 1) v (manBody m k) ∧ Below w.heap.size w wr ∧ w.heap.size + 1 ≤ wr.heap.size) (fun _ i _ => m.tabs.length - (intOf i).toNat)
  case atStart =>
    refine ⟨0, Nat.zero_le _, rfl, ?_, ?_, by omega⟩
    · simpa [manBody] using hown2
    · exact (((Below.refl _ w).alloc (Nat.le_refl _) _).trans (hb1.mono (by omega))).trans (hb2.mono (by omega))
  case round =>
    clear q0 q1 q2 f0 f1 f2 hbk hbk2 hown1 hown2 hb1 hb2 hs1 hs2
    obtain ⟨k, hk, rfl, hown, hb, hs⟩ := hrel
    have hle : (manBody m k).length ≤ 64016 := by rw [manBody_len m hk]; omega
    have hge : 16 ≤ (manBody m k).length := by rw [manBody_len m hk]; omega
    by_cases hlt : k < m.tabs.length
    · obtain ⟨g, off, rfl, c0, c1⟩ := hp.below hb k hlt
      have h3k := h3 _ (List.getElem_mem hlt)
      have hS := manBody_snoc hlt
      have HS : Hid (manBody m (k + 1) = manBody m k ++ be8 m.tabs[k].number ++ be8 m.tabs[k].level) := hS
      clear hS
      obtain ⟨a, n, cap, rfl⟩ := ownB_some hown
      have hA := appendNumber_any (.slice a n cap) (manBody m k) m.tabs[k].number (wr.alloc (.cells #[encN m.tabs[k].number, encN m.tabs[k].level] 245)) (w.heap.size + 1) (by simp; omega) (hown.alloc _) h3k.1 (by omega)
      go_wp2_with (first
        | (go_at_call 205; refine hA.mono ?_; rintro e w1 ⟨v1, rfl, hown1, hb1, hn1⟩; clear hA; have hbk := hn1 _ _ _ _ (block_new wr _) (by decide); have hs1 := hb1.size; simp only [World.size_alloc] at hs1; obtain ⟨q0, q1, f0, f1⟩ := cells2 hbk; obtain ⟨a1, n1, cap1, rfl⟩ := ownB_some hown1; have hA2 := appendNumber_any _ _ m.tabs[k].level w1 (w.heap.size + 1) (by omega) hown1 h3k.2 (by simp [be8_len]; omega))
        | (go_at_call 205; refine hA2.mono ?_; rintro e w2 ⟨v2, rfl, hown2, hb2, hn2⟩; clear hA2 q0 q1 f0 f1; have hs2 := hb2.size; obtain ⟨a2, n2, cap2, rfl⟩ := ownB_some hown2)
        | go_in)
      go_roundw
      case rel => exact ⟨k + 1, by omega, by go_num, by rw [HS.out]; exact hown2, ((hb.alloc (by omega) _).trans (hb1.mono (by omega))).trans (hb2.mono (by omega)), by omega⟩
      case measure => simp [intOf]; omega
    · have E : manBody m k = be8 m.next ++ (be8 m.log ++ m.tabs.flatMap encPl) := by unfold manBody; rw [List.take_of_length_le (by omega)]
      have HE : Hid (encMan m = sealT (manBody m k)) := by show _ = _; rw [E]; rfl
      clear E
      generalize manBody m k = B at *
      obtain ⟨a, cap, rfl⟩ := ownB_shape hown
      obtain ⟨g, rfl⟩ : ∃ g, a = some ⟨g, 0, none⟩ := by
        rcases hown.2 with ⟨hv, hn⟩ | ⟨g, cap', cur, hv, _⟩
        · omega
        · exact ⟨g, by simpa using (Value.slice.inj hv).1⟩
      have hSe := seal_any g cap (w.heap.size + 1) B wr hs hown (by omega)
      generalize sealT B = T at *
      go_wp2_with (go_at_call 166; refine hSe.mono ?_; rintro e w1 ⟨rfl, hb1⟩)
      go_ret
      rw [HE.out]
      exact ⟨rfl, hb.trans (hb1.mono (by omega))⟩
end Go.Proofs.YtoabedkcieindabGreatDoor

namespace Go.Proofs.YtoabedkcieindabGreatDoor
open Go.RowKit Go.Maps Go.Sort Go.Shelf
def CmPost (w w' : World) (S E : Nat → Prop) (T bd bm bsn : Nat) (r : Int × Dk × Ls) : Prop :=
  ∃ S' E' s' l', (∀ k, S' k → Nw S w k) ∧ (∀ k, E' k → Nw E w k) ∧ (∀ k, E' k → ¬ S' k) ∧ ¬ S' T ∧ ¬ S' bm ∧ ¬ S' bsn ∧ ProgAt w' S' bd r.2.1 ∧ LsAt w' E' T bd bm bsn s' l' r.2.2
theorem Our.len {n : Nm} (h : Our n) : n.length ≤ 1000 := by
  rcases h with rfl | rfl | ⟨k, _, rfl | rfl⟩
  · decide
  · decide
  · have := lgN_ok k
    simp only [nameOk, Bool.and_eq_true, decide_eq_true_eq] at this
    omega
  · exact tbN_len k
structure Swp (d : Dk) : Prop where
  ok : d.Ok
  few : d.files.length ≤ 1000000
  live : d.dead = false
  our : ∀ n ∈ nmsOf d.files, Our n
theorem sweepX_own (st : Ls) {d : Dk} (h : Swp d) : sweepX st d = sweepO st.log st.tabs (nmsOf d.files) d := by
  unfold sweepX
  rw [h.live]
  simp only [Bool.false_eq_true, if_false]
  exact sweepF_own st _ d h.our
set_option maxHeartbeats 400000 in
set_option maxRecDepth 20000 in
theorem commit_door (R : Ending → World → Prop) (tmps : Array Value) (T bd bm bsn : Nat) (s : Sl) (l : List Tr) (st : Ls) (d : Dk) (S E : Nat → Prop) (w : World) (hL : LsAt w E T bd bm bsn s l st) (hP : ProgAt w S bd d) (hS : Swp d) (hST : ¬ S T) (hSE : ∀ k, E k → ¬ S k) (hlg : st.log ≤ 1000001) (hl : l.length ≤ 1000) (hnum : ∀ x ∈ l, x.1.number ≤ 10000000000000)
    (hR : ∀ w2, ProgAt w2 (Nw (fun k => S k ∧ k < w.heap.size) w) bd (sweepX st d).2 → Kp (fun k => S k ∧ k < w.heap.size) w w2 → R (.returned (tmps.getD 6 undef)) w2) :
    bodyPostD Tryz.prog Tryz.f71 R Exit.ret { tmps := tmps, defers := [{ target := .fn (.func 116) #[], args := #[.pointer (some ⟨T, 0, none⟩)] }] } w := by
  have hP' : ProgAt w (fun k => S k ∧ k < w.heap.size) bd d := hP.mono (fun k hk s => ⟨s, hk⟩)
  have hsw := sweepD_any .returning T bd st.log s l d _ w (hL.cell 0) (hL.cell 4) (hL.cell 6) (fun h => hST h.1) hL.tab (fun a ha _ h => hSE _ (hL.inT a ha) h.1) hP' hS.ok hS.few hS.live hS.our (fun n hn => (hS.our n hn).len) (by omega) (fun x hx => by have := hnum x hx; omega) hl
  rw [hL.is, ← sweepX_own st hS] at hsw
  show Leaves Tryz.prog Tryz.f71 tmps R _ .returning w
  refine leaves_cons (f := 116) (args := #[.pointer (some ⟨T, 0, none⟩)]) (by simp) (by simp [go_sem]) ?_
  refine hsw.mono ?_
  rintro e u' w2 ⟨rfl, rfl, hP2, k2⟩
  exact ⟨_, results_tmp rfl _ _ _, hR w2 hP2 k2⟩
set_option maxHeartbeats 400000 in
set_option maxRecDepth 20000 in
theorem commit_bad (T bd bm bsn : Nat) (s s2 : Sl) (l l2 : List Tr) (st : Ls) (d : Dk) (S E : Nat → Prop) (log : Nat) (w : World) (hL : LsAt w E T bd bm bsn s l st) (h2 : TrAt w s2 l2) (he2 : TrEs w l2) (hE2 : ∀ x ∈ l2, ∀ a, x.2.1 = some a → E a.block)
    (hP : ProgAt w S bd d) (hok : d.Ok) (hfl : d.files.length ≤ 100000) (hST : ¬ S T) (hSm : ¬ S bm) (hSn : ¬ S bsn) (hSE : ∀ k, E k → ¬ S k) (hnx : st.next ≤ 1000000000000) (hlg : st.log ≤ 1000000) (hl : l.length ≤ 1000) (hl2 : l2.length ≤ 1000)
    (hnum : ∀ x ∈ l, x.1.number ≤ 1000000000000) (hnum2 : ∀ x ∈ l2, x.1.number ≤ 1000000000000 ∧ x.1.level ≤ 1000000) (hes : ∀ x ∈ l2, LyOk x.1.es ∧ x.1.es ≠ [] ∧ x.1.es.length ≤ 500)
    (hA1 : Swp (writtenF st.next (l2.map (·.1)) d).2.1) (hx1 : (writtenF st.next (l2.map (·.1)) d).1 ≠ 0) :
    Calls Tryz.prog 71 #[.pointer (some ⟨T, 0, none⟩), slV s2, .int .i64 log] w fun e w' => e = .returned (.int .i64 (commitX d st (l2.map (·.1)) log).1) ∧ CmPost w w' S E T bd bm bsn (commitX d st (l2.map (·.1)) log) ∧ Kp (fun k => S k ∨ k = T ∨ k = bm) w w' := by
  have hWn := written_any T bd st.next s2 l2 d S w (hL.cell 0) (hL.cell 5) hST h2 he2 (fun x hx a ha _ => hSE _ (hE2 x hx a ha)) hP hok (by omega) (by omega) (fun x hx => by have := hnum2 x hx; omega) hl2 hes
  have hTl := lt_of_block hL.blk
  obtain ⟨X, hX⟩ : ∃ X, writtenF st.next (l2.map (·.1)) d = X := ⟨_, rfl⟩
  rw [hX] at hWn hA1 hx1
  have hx : ¬ X.1 = 0 := hx1
  clear hx1
  · have HC : Hid (commitX d st (l2.map (·.1)) log = (X.1, (sweepX st X.2.1).2, st)) := by show _ = _; unfold commitX; rw [hX]; simp only [ne_eq, hx, not_false_eq_true, if_true]
    clear hX
    obtain ⟨x0, hx0⟩ : ∃ x0, X.1 = x0 := ⟨_, rfl⟩
    rw [hx0] at hx hWn HC
    clear hx0
    go_enter_defers Tryz.func71, Tryz.ntmps71
    go_wp2_with (go_at_call 127; refine hWn.mono ?_; rintro e w1 ⟨v1, n1, rfl, hP1, k1, hs1⟩)
    have hS1T : ¬ (fun k => Nw S w k ∧ v1.ownBlock ≠ some k) T := by rintro ⟨h | h, _⟩; exact hST h; omega
    have hEl : ∀ k, E k → ¬ (fun k => Nw S w k ∧ v1.ownBlock ≠ some k) k := by rintro k h1 ⟨h | h, _⟩; exact hSE k h1 h; have := hL.bnd k h1; omega
    have hL1 : LsAt w1 E T bd bm bsn s l st := hL.kept k1 hST hSm hSn hSE
    refine commit_door _ _ T bd bm bsn s l st X.2.1 _ _ w1 hL1 hP1 hA1 hS1T hEl (by omega) hl (fun x hx => by have := hnum x hx; omega) (fun w2 hP2 k2 => ?_)
    have hbm := hL.mem.lt
    have hbn := hL.snp.lt
    have hz1 := k1.size
    rw [HC.out]
    refine ⟨rfl, ⟨_, _, s, l, fun k hk => hk.elim (fun h => h.1.1) (fun h => .inr (Nat.le_trans hz1 h)), fun k hk => .inl hk, fun k hk h => h.elim (fun h => hEl k hk h.1) (fun h => by have := hL.bnd k hk; omega), fun h => h.elim (fun h => hS1T h.1) (fun h => by omega), ?_, ?_, hP2, hL1.kept k2 (fun h => hS1T h.1) ?_ ?_ (fun k hk h => hEl k hk h.1)⟩, ?_⟩
    · rintro (⟨⟨h | h, _⟩, _⟩ | h); exact hSm h; omega; omega
    · rintro (⟨⟨h | h, _⟩, _⟩ | h); exact hSn h; omega; omega
    · rintro ⟨⟨h | h, _⟩, _⟩; exact hSm h; omega
    · rintro ⟨⟨h | h, _⟩, _⟩; exact hSn h; omega
    · exact (k1.mono (fun k h => .inl h)).trans k2 (fun k hk h => .inl (h.1.1.elim id (fun h => by omega)))
end Go.Proofs.YtoabedkcieindabGreatDoor
