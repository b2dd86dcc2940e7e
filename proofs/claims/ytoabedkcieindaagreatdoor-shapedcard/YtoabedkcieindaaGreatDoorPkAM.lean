import Derived.Test.YtoabedkcieindaaGreatDoorPkAL
import Derived.StillTactics
namespace Go.Proofs.YtoabedkcieindaaGreatDoor
open Go.RowKit Go.Maps Go.Sort

theorem mixedP : Tryz.prog.follows .mixedOrders = true := by kernel_rfl
def LeastK (ls : List Ly) (k i : Nat) : Prop :=
  i < k ∧ ∃ e, (ls.getD i []).head? = some e ∧ (∀ j f, j < k → (ls.getD j []).head? = some f → bytesBefore f.op.key e.op.key = false) ∧
    (∀ j f, j < i → (ls.getD j []).head? = some f → bytesBefore e.op.key f.op.key = true)
def FirstK (ls : List Ly) (k : Nat) (v : Int) : Prop := (v = -1 ∧ ∀ j, j < k → ls.getD j [] = []) ∨ ∃ i : Nat, v = i ∧ LeastK ls k i
def firstV (ls : List Ly) : Int := match leastI ls with | none => -1 | some i => i

theorem FirstK.end {ls : List Ly} {v : Int} (h : FirstK ls ls.length v) : v = firstV ls := by
  unfold firstV
  rcases h with ⟨rfl, hn⟩ | ⟨i, rfl, hi, e, h1, h2, h3⟩
  · cases hl : leastI ls with
    | none => rfl
    | some i =>
      exfalso
      obtain ⟨e, h1, _⟩ := leastI_is hl
      by_cases hi : i < ls.length
      · rw [hn i hi] at h1; cases h1
      · simp [List.getD, List.getElem?_eq_none (by omega : ls.length ≤ i)] at h1
  · rw [leastI_of (i := i) ⟨e, h1, fun j f hf => ?_, h3⟩]
    by_cases hj : j < ls.length
    · exact h2 j f hj hf
    · simp [List.getD, List.getElem?_eq_none (by omega : ls.length ≤ j)] at hf
theorem FirstK.skip {ls : List Ly} {k : Nat} {v : Int} (h : FirstK ls k v) (hk : ls.getD k [] = []) : FirstK ls (k + 1) v := by
  rcases h with ⟨rfl, hn⟩ | ⟨i, rfl, hi, e, h1, h2, h3⟩
  · exact .inl ⟨rfl, fun j hj => by rcases Nat.lt_or_ge j k with h | h; exact hn j h; obtain rfl : j = k := by omega
                                    exact hk⟩
  · refine .inr ⟨i, rfl, by omega, e, h1, fun j f hj hf => ?_, h3⟩
    rcases Nat.lt_or_ge j k with h | h
    · exact h2 j f h hf
    · obtain rfl : j = k := by omega
      rw [hk] at hf; cases hf
theorem FirstK.stay {ls : List Ly} {k i : Nat} {e f : En} {t : Ly} (h : LeastK ls k i) (hk : ls.getD k [] = f :: t) (he : (ls.getD i []).head? = some e) (hb : bytesBefore f.op.key e.op.key = false) : FirstK ls (k + 1) i := by
  obtain ⟨hi, e', h1, h2, h3⟩ := h
  rw [he] at h1; cases h1
  refine .inr ⟨i, rfl, by omega, e, he, fun j g hj hg => ?_, h3⟩
  rcases Nat.lt_or_ge j k with h | h
  · exact h2 j g h hg
  · obtain rfl : j = k := by omega
    rw [hk] at hg; cases hg; exact hb
theorem FirstK.less {ls : List Ly} {k i : Nat} {e f : En} {t : Ly} (h : LeastK ls k i) (hk : ls.getD k [] = f :: t) (he : (ls.getD i []).head? = some e) (hb : bytesBefore f.op.key e.op.key = true) : FirstK ls (k + 1) k := by
  obtain ⟨hi, e', h1, h2, h3⟩ := h
  rw [he] at h1; cases h1
  refine .inr ⟨k, rfl, by omega, f, by rw [hk]; rfl, fun j g hj hg => ?_, fun j g hj hg => lt_le_trans hb (h2 j g hj hg)⟩
  rcases Nat.lt_or_ge j k with h | h
  · exact lt_asymm (lt_le_trans hb (h2 j g h hg))
  · obtain rfl : j = k := by omega
    rw [hk] at hg; cases hg; exact WideAt.bytes_irrefl _
theorem FirstK.one {ls : List Ly} {k : Nat} {f : En} {t : Ly} (hn : ∀ j, j < k → ls.getD j [] = []) (hk : ls.getD k [] = f :: t) : FirstK ls (k + 1) k := by
  refine .inr ⟨k, rfl, by omega, f, by rw [hk]; rfl, fun j g hj hg => ?_, fun j g hj hg => ?_⟩
  · rcases Nat.lt_or_ge j k with h | h
    · rw [hn j h] at hg; cases hg
    · obtain rfl : j = k := by omega
      rw [hk] at hg; cases hg; exact WideAt.bytes_irrefl _
  · rw [hn j hj] at hg; cases hg

theorem SlAt.head {w : World} {s : Sl} {e : En} {t : Ly} (h : SlAt w s (e :: t)) : ∃ g off, s.1 = some ⟨g, off, none⟩ ∧ w.cell? ⟨g, off, none⟩ = some (str e.op.key) ∧ w.cell? ⟨g, off + 1, none⟩ = some (str e.op.val) ∧ w.cell? ⟨g, off + 2, none⟩ = some (.bool e.op.gone) ∧ w.cell? ⟨g, off + 3, none⟩ = some (.int .i64 e.batch) := by
  obtain ⟨g, off, hq, c0, c1, c2, c3⟩ := h.row 0 (by simp)
  exact ⟨g, off, hq, by simpa using c0, by simpa using c1, by simpa using c2, by simpa using c3⟩

theorem sndAt (xs : List (Sl × Ly)) (k : Nat) (h : k < xs.length) : (xs.map (·.2)).getD k [] = xs[k].2 := by simp [List.getD, h]

set_option maxHeartbeats 1600000 in
set_option maxRecDepth 20000 in
theorem first_any (q : Option Addr) (qc : Nat) (xs : List (Sl × Ly)) (w : World) (hp : Lyp w q xs) (hl : xs.length ≤ 1000000) :
    Calls Tryz.prog 229 #[.slice q xs.length qc] w fun e w' => e = .returned (.int .i64 (firstV (xs.map (·.2)))) ∧ Below w.heap.size w w' := by
  go_enter Tryz.func229, Tryz.ntmps229
  go_wp2
  go_loopw [3, 8] (fun v i wr => ∃ (k : Nat) (a : Int), k ≤ xs.length ∧ i = .int .i64 k ∧ v = .int .i64 a ∧ FirstK (xs.map (·.2)) k a ∧ Below w.heap.size w wr) (fun _ i _ => xs.length - (intOf i).toNat)
  case atStart => exact ⟨0, -1, Nat.zero_le _, rfl, rfl, .inl ⟨rfl, fun j hj => by omega⟩, Below.refl _ _⟩
  case round =>
    obtain ⟨k, a, hk, rfl, rfl, hF, hb⟩ := hrel
    by_cases hlt : k < xs.length
    · have hpr := (hp.below hb)
      obtain ⟨g, off, rfl, c0⟩ := hpr.at k hlt
      have hsl := hpr.each _ (List.getElem_mem hlt)
      have HG := sndAt xs k hlt
      generalize hxk : xs[k] = x at *
      obtain ⟨⟨sa, sn, sc⟩, V⟩ := x
      simp only at HG hsl c0
      have hln : sn = V.length := hsl.len
      subst hln
      replace c0 : wr.cell? ⟨g, off + k, none⟩ = some (.slice sa V.length sc) := c0
      cases V with
      | nil =>
        have HF : Hid (FirstK (xs.map (·.2)) (k + 1) a) := hF.skip HG
        clear hF
        go_wp2
        go_region
        go_wp2
        go_roundw
        case rel => exact ⟨k + 1, a, by omega, by go_num, rfl, HF.out, hb.drew⟩
        case measure => simp [intOf]; omega
      | cons f t =>
        obtain ⟨g1, off1, hq1, d0, d1, d2, d3⟩ := hsl.head
        simp only at hq1
        subst hq1
        rcases hF with ⟨rfl, hn⟩ | ⟨i, rfl, hL⟩
        · have HF : Hid (FirstK (xs.map (·.2)) (k + 1) k) := FirstK.one hn HG
          clear hn
          go_wp2
          go_region
          go_wp2
          go_roundw
          case rel => exact ⟨k + 1, k, by omega, by go_num, rfl, HF.out, hb.drew⟩
          case measure => simp [intOf]; omega
        · have hi := hL.1
          obtain ⟨_, e, he, _⟩ := id hL
          have hil : i < xs.length := by omega
          obtain ⟨g', off', e', c1⟩ := hpr.at i hil
          cases e'
          have hsl2 := hpr.each _ (List.getElem_mem hil)
          have HG2 := sndAt xs i hil
          generalize hxi : xs[i] = y at *
          obtain ⟨⟨ta, tn, tc⟩, U⟩ := y
          simp only at HG2 hsl2 c1
          have hln2 : tn = U.length := hsl2.len
          subst hln2
          replace c1 : wr.cell? ⟨g, off + i, none⟩ = some (.slice ta U.length tc) := c1
          have he' := he
          rw [HG2] at he'
          cases U with
          | nil => cases he'
          | cons e1 t1 =>
            cases he'
            obtain ⟨g2, off2, hq2, p0, p1, p2, p3⟩ := hsl2.head
            simp only at hq2
            subst hq2
            cases hbb : bytesBefore f.op.key e.op.key with
            | true =>
              have HF : Hid (FirstK (xs.map (·.2)) (k + 1) k) := FirstK.less hL HG he hbb
              rw [← less_before] at hbb
              clear hL he
              go_wp2
              refine wp_region_still_lit mixedP (by kernel_rfl) ?_
              (iterate 23 still_step)
              refine wpStill_nil ?_
              go_wp2
              go_roundw
              case rel => exact ⟨k + 1, k, by omega, by go_num, rfl, HF.out, hb.drew⟩
              case measure => simp [intOf]; omega
            | false =>
              have HF : Hid (FirstK (xs.map (·.2)) (k + 1) i) := FirstK.stay hL HG he hbb
              rw [← less_before] at hbb
              clear hL he
              go_wp2
              refine wp_region_still_lit mixedP (by kernel_rfl) ?_
              (iterate 23 still_step)
              refine wpStill_nil ?_
              go_wp2
              go_roundw
              case rel => exact ⟨k + 1, i, by omega, by go_num, rfl, HF.out, hb.drew⟩
              case measure => simp [intOf]; omega
    · have hkk : k = xs.length := by omega
      subst hkk
      have E : Hid (a = firstV (xs.map (·.2))) := FirstK.end (by rw [List.length_map]; exact hF)
      clear hF
      go_wp2
      go_ret
      exact ⟨ret_int E.out, hb⟩

end Go.Proofs.YtoabedkcieindaaGreatDoor

namespace Go.Proofs.YtoabedkcieindaaGreatDoor
open Go.RowKit Go.Maps Go.Sort

theorem sCl {n : Nm} (h : n.length ≤ 281474976710656) (w : World) : Calls Tryz.prog 119 #[str n] w fun e w' => e = .returned (str n) ∧ Below w.heap.size w w' := sClone_any ⟨n.toArray⟩ w h

structure Og (w W : World) (o : Ox) : Prop where
  box : W.heap[w.heap.size]? = some (.cells #[str o.key, str o.val, .bool o.gone] 77)
  res : W.heap[w.heap.size + 1]? = some (.cells #[.string ⟨#[]⟩, .string ⟨#[]⟩, .bool false] 77)
  bel : Below w.heap.size w W
theorem Og.start (w : World) (o : Ox) : Og w ((w.alloc (.cells #[str o.key, str o.val, .bool o.gone] 77)).alloc (.cells #[.string ⟨#[]⟩, .string ⟨#[]⟩, .bool false] 77)) o :=
  ⟨block_alloc (block_new w _), by have := block_new (w.alloc (.cells #[str o.key, str o.val, .bool o.gone] 77)) (.cells #[.string ⟨#[]⟩, .string ⟨#[]⟩, .bool false] 77); rwa [World.size_alloc] at this, ((Below.refl _ _).alloc (Nat.le_refl _) _).alloc (by simp) _⟩
theorem Og.below {w W W' : World} {o : Ox} (h : Og w W o) (k : Below W.heap.size W W') : Og w W' o := ⟨(k.block _ (lt_of_block h.box)).trans h.box, (k.block _ (lt_of_block h.res)).trans h.res, h.bel.trans (k.mono h.bel.size)⟩
theorem Og.drew {w W : World} {o : Ox} (h : Og w W o) : Og w W.drew o := ⟨h.box, h.res, h.bel.drew⟩
theorem Og.set {w W : World} {o : Ox} (h : Og w W o) (a b c : Value) : (((W.setCell ⟨w.heap.size + 1, 0, none⟩ a).setCell ⟨w.heap.size + 1, 1, none⟩ b).setCell ⟨w.heap.size + 1, 2, none⟩ c).heap[w.heap.size + 1]? = some (.cells #[a, b, c] 77) ∧ Below w.heap.size w (((W.setCell ⟨w.heap.size + 1, 0, none⟩ a).setCell ⟨w.heap.size + 1, 1, none⟩ b).setCell ⟨w.heap.size + 1, 2, none⟩ c) := by
  refine ⟨by rw [block_set (block_set (block_set h.res _) _)]; rfl, ?_⟩
  have k := (((Kp.of_below (S := fun i => w.heap.size ≤ i) (w := W) (w' := W) (Below.refl _ _)).put (g := w.heap.size + 1) (o := 0) (by omega) a).put (g := w.heap.size + 1) (o := 1) (by omega) b).put (g := w.heap.size + 1) (o := 2) (by omega) c
  exact ⟨k.os.trans h.bel.os, k.tape.trans h.bel.tape, k.output.trans h.bel.output, Nat.le_trans h.bel.size k.size, fun i hi => (k.block i (Nat.lt_of_lt_of_le hi h.bel.size) (by omega)).trans (h.bel.block i hi)⟩

set_option maxHeartbeats 1000000 in
set_option maxRecDepth 20000 in
theorem own_any (o : Ox) (w : World) (hk : o.key.length ≤ 1099511627776) (hv : o.gone = false → o.val.length ≤ 1099511627776) :
    Calls Tryz.prog 168 #[aggOp o] w fun e w' => e = .returned (aggOp (bare o)) ∧ Below w.heap.size w w' := by
  have hc1 := fun w => sCl (n := o.key) (by omega) w
  have hF := Og.start w o
  cases hg : o.gone
  · have hc2 := fun w => sCl (n := o.val) (by have := hv hg; omega) w
    have HB : Hid (aggOp (bare o) = .agg #[str o.key, str o.val, .bool false]) := by show _ = _; simp [bare, hg]
    rw [hg] at hF
    clear hv
    go_enter Tryz.func168, Tryz.ntmps168
    go_wp2
    replace hF := hF.drew
    go_region_with (go_at_call 119; (first | refine (hc1 _).mono ?_ | refine (hc2 _).mono ?_); rintro e w1 ⟨rfl, hb1⟩; replace hF := hF.below hb1; have hF1 := hF.box; have hF2 := hF.res; rw [hg] at hF1; obtain ⟨p0, p1, p2, _⟩ := cells3 hF1; obtain ⟨q0, q1, q2, f0, f1, f2⟩ := cells3 hF2)
    all_goals go_wp2
    all_goals
      obtain ⟨s1, s2⟩ := hF.set (str o.key) (str o.val) (.bool false)
      refine bodyPost_ret (results_cell_row rfl _ _ _ _ _ _ _ rfl s1 Tryz.underlying77 rfl rfl) rfl ⟨?_, s2⟩
      rw [HB.out]
  · have HB : Hid (aggOp (bare o) = .agg #[str o.key, str [], .bool true]) := by show _ = _; simp [bare, hg]
    rw [hg] at hF
    clear hv
    go_enter Tryz.func168, Tryz.ntmps168
    go_wp2_with (go_at_call 119; refine (hc1 _).mono ?_; rintro e w1 ⟨rfl, hb1⟩; replace hF := hF.below hb1; have hF2 := hF.res; obtain ⟨q0, q1, q2, f0, f1, f2⟩ := cells3 hF2)
    obtain ⟨s1, s2⟩ := hF.set (str o.key) (str []) (.bool true)
    refine bodyPost_ret (results_cell_row rfl _ _ _ _ _ _ _ rfl s1 Tryz.underlying77 rfl rfl) rfl ⟨?_, s2⟩
    rw [HB.out]

end Go.Proofs.YtoabedkcieindaaGreatDoor

namespace Go.Proofs.YtoabedkcieindaaGreatDoor
open Go.RowKit Go.Maps Go.Sort

theorem Enp.kept {w w' : World} {S : Nat → Prop} {q : Option Addr} {l : Ly} (h : Enp w q l) (k : Kp S w w') (hs : ∀ a, q = some a → 0 < l.length → ¬ S a.block) : Enp w' q l := fun i hi => by
  obtain ⟨g, off, rfl, c0, c1, c2, c3⟩ := h i hi
  have hb := k.block g (World.block_lt_of_cell? w ⟨g, off + i * 4, none⟩ c0) (hs _ rfl (by omega))
  have hc : ∀ o, w'.cell? ⟨g, o, none⟩ = w.cell? ⟨g, o, none⟩ := fun o => by simp only [World.cell?, hb]
  exact ⟨g, off, rfl, (hc _).trans c0, (hc _).trans c1, (hc _).trans c2, (hc _).trans c3⟩
theorem SlAt.kept {w w' : World} {S : Nat → Prop} {s : Sl} {l : Ly} (h : SlAt w s l) (k : Kp S w w') (hs : ∀ a, s.1 = some a → 0 < l.length → ¬ S a.block) : SlAt w' s l := ⟨h.len, h.cap, h.nil, h.pl, h.row.kept k hs⟩
theorem Enp.noMap {w : World} {bm : Nat} {es : Array MapEntry} {c : Nat} {q : Option Addr} {l : Ly} (h : Enp w q l) (hm : w.heap[bm]? = some (.map es c)) : ∀ a, q = some a → 0 < l.length → a.block ≠ bm := by
  rintro a rfl hl rfl
  obtain ⟨g, off, e, c0, _⟩ := h 0 hl
  cases e
  simp [World.cell?, hm] at c0

def Rs : Value → Option (DataW Sl × List MemPlace)
  | .slice a n c => some (.held (a, n, c), [])
  | _ => none
theorem Rs_held {v : Value} {s : Sl} {z : List MemPlace} (h : Rs v = some (.held s, z)) : v = slV s := by
  unfold Rs at h; split at h
  · simp only [Option.some.injEq, Prod.mk.injEq, DataW.held.injEq] at h; rw [← h.1]
  · cases h

abbrev MX := List (Nm × (Sl × Ly))
def entX (x : Nm × (Sl × Ly)) : Lit × DataW Sl := (.string x.1, .held x.2.1)
def datX (xs : MX) : DataW Sl := .map (xs.map entX)
def mmOf (xs : MX) : Mm := xs.map fun x => (x.1, x.2.2)

theorem mm_get (n : Nm) : ∀ xs : MX, getF n (mmOf xs) = (getF n xs).map (·.2)
  | [] => rfl
  | x :: r => by
    show getF n ((x.1, x.2.2) :: mmOf r) = _
    rw [getF, getF]
    split
    · rfl
    · exact mm_get n r
theorem mm_del (n : Nm) (xs : MX) : del n (mmOf xs) = mmOf (del n xs) := by
  simp only [mmOf, del, List.filter_map]
  rfl
theorem mm_ins (n : Nm) (s : Sl) (l : Ly) : ∀ xs : MX, ins (n, l) (mmOf xs) = mmOf (ins (n, (s, l)) xs)
  | [] => rfl
  | x :: r => by
    show ins (n, l) ((x.1, x.2.2) :: mmOf r) = _
    rw [ins, ins]
    split
    · rfl
    · rw [mm_ins n s l r]; rfl

theorem at_datX (n : Nm) (z : DataW Sl) : ∀ xs : MX, (datX xs).atKey (.string n) z = match getF n xs with | none => z | some p => .held p.1
  | [] => rfl
  | x :: r => by
    have ih := at_datX n z r
    simp only [datX, DataW.atKey, List.map_cons, List.find?_cons] at ih ⊢
    rw [getF]
    by_cases e : x.1 = n
    · simp [entX, same_str, e]
    · have : (Lit.string x.1).sameKey (.string n) = false := by rw [same_str]; simpa using e
      simp only [entX, this, if_neg e]
      exact ih
theorem del_datX (n : Nm) (xs : MX) : (datX xs).del (.string n) = datX (del n xs) := by
  simp only [datX, DataW.del, del, List.filter_map]
  congr 2
theorem ins_datX (x : Nm × (Sl × Ly)) : ∀ xs : MX, DataW.insert (entX x) (xs.map entX) = (ins x xs).map entX
  | [] => rfl
  | y :: r => by
    rw [List.map_cons, DataW.insert, ins]
    show (if bytesBefore x.1 y.1 then _ else _) = _
    split
    · rfl
    · rw [List.map_cons, ins_datX x r]
theorem put_datX (n : Nm) (p : Sl × Ly) (xs : MX) : (datX xs).put (.string n) (.held p.1) = datX (ins (n, p) (del n xs)) := by
  have h1 := del_datX n xs
  simp only [datX, DataW.del, DataW.map.injEq] at h1
  simp only [datX, DataW.put]
  rw [h1]
  exact congrArg _ (ins_datX (n, p) (del n xs))
theorem tightX {w : World} {bm k : Nat} {xs : MX} (h : w.ownsMap Tryz.prog 9 Rs bm k (datX xs)) : w.ownsMap Tryz.prog 9 Rs bm xs.length (datX xs) := by
  obtain ⟨es, c, h1, F, h3, h4⟩ := h
  refine ⟨es, c, h1, F, ?_, h4⟩
  have := congrArg Maps.size h4
  simp only [datX, Maps.size, List.length_map, length_sorted, Array.length_toList] at this
  omega

def MemAt (w : World) (E : Nat → Prop) (bm : Nat) (m : Mm) : Prop :=
  ∃ xs : MX, mmOf xs = m ∧ w.ownsMap Tryz.prog 9 Rs bm xs.length (datX xs) ∧ ∀ x ∈ xs, SlAt w x.2.1 x.2.2 ∧ ∀ a, x.2.1.1 = some a → E a.block

theorem MemAt.lt {w : World} {E : Nat → Prop} {bm : Nat} {m : Mm} (h : MemAt w E bm m) : bm < w.heap.size := by
  obtain ⟨_, _, h, _⟩ := h; exact h.lt
theorem MemAt.isMap {w : World} {E : Nat → Prop} {bm : Nat} {m : Mm} (h : MemAt w E bm m) : ∃ es c, w.heap[bm]? = some (.map es c) := by
  obtain ⟨_, _, ⟨es, c, h, _⟩, _⟩ := h; exact ⟨es, c, h⟩
theorem MemAt.ne {w : World} {E : Nat → Prop} {bm b : Nat} {m : Mm} {cs : Array Value} {t : TypeId} {z : Nat × Nat} (h : MemAt w E bm m) (hb : w.heap[b]? = some (.cells cs t z)) : b ≠ bm := by
  rintro rfl
  obtain ⟨es, c, h1⟩ := h.isMap
  rw [h1] at hb; cases hb
theorem MemAt.kept {w w' : World} {E S : Nat → Prop} {bm : Nat} {m : Mm} (h : MemAt w E bm m) (k : Kp S w w') (h1 : ¬ S bm) (h2 : ∀ i, E i → ¬ S i) : MemAt w' E bm m := by
  obtain ⟨xs, e, hm, hx⟩ := h
  exact ⟨xs, e, ownsMap_of_block hm (k.block bm hm.lt h1), fun x hxx => ⟨(hx x hxx).1.kept k (fun a ha _ => h2 _ ((hx x hxx).2 a ha)), (hx x hxx).2⟩⟩
theorem MemAt.below {w w' : World} {E : Nat → Prop} {bm : Nat} {m : Mm} (h : MemAt w E bm m) (k : Below w.heap.size w w') : MemAt w' E bm m := h.kept (S := fun _ => False) (Kp.of_below k) (fun f => f) (fun _ _ f => f)
theorem MemAt.drew {w : World} {E : Nat → Prop} {bm : Nat} {m : Mm} (h : MemAt w E bm m) : MemAt w.drew E bm m := h.kept (S := fun _ => False) ((Kp.refl _ _).drew) (fun f => f) (fun _ _ f => f)
theorem MemAt.alloc {w : World} {E : Nat → Prop} {bm : Nat} {m : Mm} (h : MemAt w E bm m) (o : Obj) : MemAt (w.alloc o) E bm m := h.below ((Below.refl _ _).alloc (Nat.le_refl _) _)
theorem MemAt.mono {w : World} {E F : Nat → Prop} {bm : Nat} {m : Mm} (h : MemAt w E bm m) (hE : ∀ k, E k → F k) : MemAt w F bm m := by
  obtain ⟨xs, e, hm, hx⟩ := h
  exact ⟨xs, e, hm, fun x hxx => ⟨(hx x hxx).1, fun a ha => hE _ ((hx x hxx).2 a ha)⟩⟩

theorem MemAt.look {w : World} {E : Nat → Prop} {bm : Nat} {m : Mm} (h : MemAt w E bm m) (n : Nm) (hn : n.length ≤ maxLen) :
    ∃ s : Sl, (Instr.lookup 141 (.map (some bm)) (str n) false).run Tryz.prog w = .ok (slV s) w ∧ SlAt w s ((getF n m).getD []) ∧ ∀ a, s.1 = some a → E a.block := by
  obtain ⟨xs, rfl, hm, hx⟩ := h
  obtain ⟨v, z, hrun, hv⟩ := hm.lookup keyedS Tryz.underlying141 (Tryz.zeroValue162 w) (zd := .held (none, 0, 0)) (zp := []) rfl (keyS hn)
  rw [at_datX] at hv
  rw [mm_get]
  cases hg : getF n xs with
  | none =>
    rw [hg] at hv
    exact ⟨(none, 0, 0), by rw [hrun, Rs_held hv], ⟨rfl, Nat.le_refl _, fun _ => ⟨rfl, rfl⟩, fun a ha => (by cases ha), Enp.nil _ _⟩, fun a ha => by cases ha⟩
  | some p =>
    rw [hg] at hv
    have hmem := getF_mem hg
    exact ⟨p.1, by rw [hrun, Rs_held hv], (hx _ hmem).1, (hx _ hmem).2⟩

theorem mem_insF {α : Type} {x y : Nm × α} : ∀ {l : List (Nm × α)}, y ∈ ins x l → y = x ∨ y ∈ l
  | [], h => by simp [ins] at h; exact .inl h
  | z :: r, h => by
    rw [ins] at h
    split at h
    · simpa using h
    · rcases List.mem_cons.1 h with rfl | h
      · exact .inr (by simp)
      · rcases mem_insF h with rfl | h
        · exact .inl rfl
        · exact .inr (by simp [h])

theorem MemAt.put {w : World} {E : Nat → Prop} {bm : Nat} {m : Mm} (h : MemAt w E bm m) (n : Nm) (s : Sl) (l : Ly) (hn : n.length ≤ maxLen) (hl : m.length < maxLen) (hs : SlAt w s l) (hE : ∀ a, s.1 = some a → E a.block) :
    ∃ w', (Instr.mapUpdate 141 (.map (some bm)) (str n) (slV s)).run Tryz.prog w = .ok () w' ∧ MemAt w' E bm (ins (n, l) (del n m)) ∧ Kp (fun i => i = bm) w w' := by
  obtain ⟨es, c, hM⟩ := h.isMap
  obtain ⟨xs, rfl, hm, hx⟩ := h
  obtain ⟨w', h1, h2, h3⟩ := hm.update keyedS Tryz.underlying141 (by simpa [mmOf] using hl) (keyS hn) (d := .held s) (ps := []) (val := slV s) rfl
  have kp : Kp (fun i => i = bm) w w' := (Kp.refl _ _).grown h3 (fun k hk _ => by cases hk; rfl)
  have keep : ∀ {s : Sl} {l : Ly}, SlAt w s l → SlAt w' s l := fun hs => hs.kept kp (hs.row.noMap hM)
  have h2' := put_datX n (s, l) xs
  rw [h2'] at h2
  refine ⟨w', h1, ⟨ins (n, (s, l)) (del n xs), ?_, tightX h2, fun x hxx => ?_⟩, kp⟩
  · rw [mm_del, mm_ins n s l]
  · rcases mem_insF hxx with rfl | hd
    · exact ⟨keep hs, hE⟩
    · have := (List.mem_filter.1 (show x ∈ xs.filter _ from hd)).1
      exact ⟨keep (hx x this).1, (hx x this).2⟩

end Go.Proofs.YtoabedkcieindaaGreatDoor
