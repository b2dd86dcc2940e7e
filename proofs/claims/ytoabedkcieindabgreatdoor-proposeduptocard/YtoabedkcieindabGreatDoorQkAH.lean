import Derived.Test.YtoabedkcieindabGreatDoorQkAG
import Derived.Test.YtoabedkcieindabGreatDoorQkAA
import Derived.RangeFuncNested
import Derived.RangeFuncBox
import Derived.RangeFuncBound
import Derived.RangeFuncCalls
import Derived.RangeFuncLeaves
import Derived.Shelf.Abstract
import Derived.Shelf.RegionOpen
import Derived.OwnWalkIn
import Derived.TacticsInMore
import Derived.LoopNIn
import Derived.LoopIn
namespace Go.Proofs.YtoabedkcieindabGreatDoor
open Go.RowKit Go.Maps Go.Sort
theorem doM_snoc {l : List Ox} {k : Nat} (n last : Int) (m : Mm) (h : k < l.length) : doM n last m (l.take (k + 1)) = doM1 n last (doM n last m (l.take k)) l[k] := by
  unfold doM; rw [List.take_succ_eq_append_getElem h, List.foldl_append]; rfl
theorem doM1_len (n last : Int) (m : Mm) (o : Ox) : (doM1 n last m o).length ≤ m.length + 1 := by
  unfold doM1; rw [ins_len]; have := del_len o.key m; omega
theorem doM_len (n last : Int) : ∀ (l : List Ox) (m : Mm), (doM n last m l).length ≤ m.length + l.length
  | [], m => by simp [doM]
  | o :: r, m => by
    have h1 := doM_len n last r (doM1 n last m o)
    have h2 := doM1_len n last m o
    have : doM n last m (o :: r) = doM n last (doM1 n last m o) r := rfl
    rw [this, List.length_cons]; omega
def slTail (s : Sl) : Sl := ((if s.2.2 = 1 then s.1 else s.1.map (·.add 4)), s.2.1 - 1, s.2.2 - 1)
theorem SlAt.tail {w : World} {s : Sl} {e : En} {t : Ly} (h : SlAt w s (e :: t)) : SlAt w (slTail s) t := by
  obtain ⟨g, off, hq, _⟩ := h.row 0 (by simp)
  have h1 := h.len
  have h2 := h.cap
  simp only [List.length_cons] at h1 h2
  refine ⟨by simp only [slTail]; omega, by simp only [slTail]; omega, fun hn => ?_, fun a ha => ?_, fun i hi => ?_⟩
  · simp only [slTail, hq] at hn
    split at hn <;> simp at hn
  · simp only [slTail, hq] at ha
    split at ha
    · simp at ha; exact ⟨g, off, ha.symm⟩
    · simp [Addr.add_lit] at ha; exact ⟨g, off + 4, ha.symm⟩
  · obtain ⟨g', off', e', c0, c1, c2, c3⟩ := h.row (i + 1) (by simpa using hi)
    rw [hq] at e'
    cases e'
    refine ⟨g, off + 4, ?_, ?_, ?_, ?_, ?_⟩
    · simp only [slTail, hq]
      rw [if_neg (by omega)]
      simp [Addr.add_lit]
    · rw [show off + 4 + i * 4 = off + (i + 1) * 4 by omega]; simpa using c0
    · rw [show off + 4 + i * 4 + 1 = off + (i + 1) * 4 + 1 by omega]; simpa using c1
    · rw [show off + 4 + i * 4 + 2 = off + (i + 1) * 4 + 2 by omega]; simpa using c2
    · rw [show off + 4 + i * 4 + 3 = off + (i + 1) * 4 + 3 by omega]; simpa using c3
theorem slTail_blk {s : Sl} {E : Nat → Prop} (h : ∀ a, s.1 = some a → E a.block) : ∀ a, (slTail s).1 = some a → E a.block := by
  intro a ha
  simp only [slTail] at ha
  split at ha
  · exact h a ha
  · cases hs : s.1 with
    | none => rw [hs] at ha; cases ha
    | some b =>
      rw [hs] at ha
      simp only [Option.map_some, Option.some.injEq] at ha
      subst ha
      have := h b hs
      unfold Addr.add
      split <;> simpa using this
structure Dm (w W : World) (E : Nat → Prop) (bm : Nat) (m : Mm) (bx : Nat) (e : En) (s : Sl) (l : Ly) : Prop where
  box : W.heap[bx]? = some (.cells #[str e.op.key, str e.op.val, .bool e.op.gone, .int .i64 e.batch] 226)
  map : MemAt W E bm m
  kp : Kp (fun i => i = bm) w W
  sl : SlAt W s l
theorem Dm.below {w W W' : World} {E : Nat → Prop} {bm : Nat} {m : Mm} {bx : Nat} {e : En} {s : Sl} {l : Ly} (h : Dm w W E bm m bx e s l) (k : Below W.heap.size W W') : Dm w W' E bm m bx e s l :=
  ⟨block_at2 h.box k, h.map.below k, h.kp.trans (T := fun _ => False) (Kp.of_below k) (fun _ _ f => f.elim), h.sl.below k⟩
theorem Dm.drew {w W : World} {E : Nat → Prop} {bm : Nat} {m : Mm} {bx : Nat} {e : En} {s : Sl} {l : Ly} (h : Dm w W E bm m bx e s l) : Dm w W.drew E bm m bx e s l := h.below ((Below.refl _ _).drew)
theorem cells4' {w : World} {b : Nat} {a0 a1 a2 a3 : Value} {t : TypeId} (hb : w.heap[b]? = some (.cells #[a0, a1, a2, a3] t)) :
    w.cell? ⟨b, 0, none⟩ = some a0 ∧ w.cell? ⟨b, 1, none⟩ = some a1 ∧ w.cell? ⟨b, 2, none⟩ = some a2 ∧ w.cell? ⟨b, 3, none⟩ = some a3 :=
  ⟨cell_block hb, cell_block hb, cell_block hb, cell_block hb⟩
theorem flat_del (n : Nm) : ∀ m : Mm, ((getF n m).getD []).length + (flatM (del n m)).length ≤ (flatM m).length
  | [] => by simp [getF, del, flatM]
  | x :: r => by
    have ih := flat_del n r
    have hd : (flatM (del n r)).length ≤ (flatM r).length := by omega
    simp only [flatM, del, List.filter_cons, List.flatMap_cons, List.length_append] at ih hd ⊢
    rw [getF]
    by_cases e : x.1 = n
    · simp only [e, if_true, beq_self_eq_true, Bool.not_true, Bool.false_eq_true, if_false, Option.getD_some]
      omega
    · have hb : (!(x.1 == n)) = true := by simp [e]
      simp only [if_neg e, hb, if_true, List.flatMap_cons, List.length_append]
      omega
theorem flat_ins (x : Nm × Ly) : ∀ m : Mm, (flatM (ins x m)).length = x.2.length + (flatM m).length
  | [] => by simp [ins, flatM]
  | y :: r => by
    have ih := flat_ins x r
    rw [ins]
    split
    · simp [flatM]
    · simp only [flatM, List.flatMap_cons, List.length_append] at ih ⊢; omega
theorem vers_len (last : Int) (l : Ly) : (versM last l).length ≤ l.length := by
  cases l with
  | nil => simp [versM]
  | cons e t => simp only [versM]; split <;> simp
theorem flat_doM1 (n last : Int) (m : Mm) (o : Ox) : (flatM (doM1 n last m o)).length ≤ (flatM m).length + 1 := by
  unfold doM1
  rw [flat_ins]
  have := flat_del o.key m
  have := vers_len last ((getF o.key m).getD [])
  simp only [List.length_cons]
  omega
theorem flat_doM (n last : Int) : ∀ (l : List Ox) (m : Mm), (flatM (doM n last m l)).length ≤ (flatM m).length + l.length
  | [], m => by simp [doM]
  | o :: r, m => by
    have h1 := flat_doM n last r (doM1 n last m o)
    have h2 := flat_doM1 n last m o
    have : doM n last m (o :: r) = doM n last (doM1 n last m o) r := rfl
    rw [this, List.length_cons]; omega
theorem lyp_two {W : World} (e : En) {s2 : Sl} {l2 : Ly} (h : SlAt W s2 l2) :
    Lyp (((W.alloc (.cells #[str e.op.key, str e.op.val, .bool e.op.gone, .int .i64 e.batch] 226)).alloc (.cells #[.slice (some ⟨W.heap.size, 0, none⟩) 1 1, slV s2] 112)).drew) (some ⟨W.heap.size + 1, 0, none⟩) [((some ⟨W.heap.size, 0, none⟩, 1, 1), [e]), (s2, l2)] := by
  have b2 := block_new (W.alloc (.cells #[str e.op.key, str e.op.val, .bool e.op.gone, .int .i64 e.batch] 226)) (.cells #[.slice (some ⟨W.heap.size, 0, none⟩) 1 1, slV s2] 112)
  rw [World.size_alloc] at b2
  have b1 := block_alloc (p := .cells #[.slice (some ⟨W.heap.size, 0, none⟩) 1 1, slV s2] 112) (block_new W (.cells #[str e.op.key, str e.op.val, .bool e.op.gone, .int .i64 e.batch] 226))
  have hB : Below W.heap.size W (((W.alloc (.cells #[str e.op.key, str e.op.val, .bool e.op.gone, .int .i64 e.batch] 226)).alloc (.cells #[.slice (some ⟨W.heap.size, 0, none⟩) 1 1, slV s2] 112)).drew) := (((Below.refl _ W).alloc (Nat.le_refl _) _).alloc (by simp) _).drew
  refine ⟨fun i hi j u hu => ?_, fun x hx => ?_⟩
  · refine ⟨_, _, rfl, ?_⟩
    rw [cell_block (w := ((W.alloc _).alloc _).drew) b2]
    match i, hi, j, hu with
    | 0, _, 0, hu => simp [slC] at hu; subst hu; rfl
    | 1, _, 0, hu => simp [slC] at hu; subst hu; rfl
  · simp only [List.mem_cons, List.not_mem_nil, or_false] at hx
    rcases hx with rfl | rfl
    · refine ⟨rfl, Nat.le_refl _, fun h => (by cases h), fun a ha => (by cases ha; exact ⟨_, _, rfl⟩), fun i hi => ?_⟩
      obtain rfl : i = 0 := by simpa using hi
      obtain ⟨c0, c1, c2, c3⟩ := cells4' (w := ((W.alloc _).alloc _).drew) b1
      exact ⟨_, _, rfl, c0, c1, c2, c3⟩
    · exact h.below hB
set_option maxHeartbeats 4000000 in
set_option maxRecDepth 20000 in
theorem mdo_any (bm : Nat) (E : Nat → Prop) (m : Mm) (q : Option Addr) (qc : Nat) (l : List Ox) (n last : Int) (w : World) (hm : MemAt w E bm m) (hml : m.length ≤ 100000) (hfl : (flatM m).length ≤ 100000) (hl : l.length ≤ 1000) (hop : ∀ o ∈ l, opOk o = true) (hp : Opp w q l) :
    Calls Tryz.prog 100 #[.map (some bm), .slice q l.length qc, .int .i64 n, .int .i64 last] w fun e w' => e = .returned (.tuple #[]) ∧ MemAt w' (Nw E w) bm (doM n last m l) ∧ Kp (fun i => i = bm) w w' := by
  obtain ⟨mes, mc, hisM⟩ := hm.isMap
  go_enter Tryz.func100, Tryz.ntmps100
  go_wp2
  go_loopw [14] (fun i wr => ∃ k : Nat, k ≤ l.length ∧ i = .int .i64 k ∧ MemAt wr (Nw E w) bm (doM n last m (l.take k)) ∧ Kp (fun i => i = bm) w wr) (fun i _ => l.length - (intOf i).toNat)
  case atStart => exact ⟨0, Nat.zero_le _, rfl, hm.mono (fun _ h => .inl h), Kp.refl _ _⟩
  case round =>
    obtain ⟨k, hk, rfl, hmr, hkp⟩ := hrel
    by_cases hlt : k < l.length
    · obtain ⟨g, off, hq, c0, c1, c2⟩ := hp k hlt
      have hgm : g ≠ bm := by
        rintro rfl
        simp [World.cell?, hisM] at c0
      have hgl := World.block_lt_of_cell? w ⟨g, off + k * 3, none⟩ c0
      have ce : ∀ a : Addr, a.block = g → wr.cell? a = w.cell? a := fun a ha => by
        have := hkp.block g hgl hgm
        simp only [World.cell?, ha, this]
      subst hq
      have k0 := (ce ⟨g, off + k * 3, none⟩ rfl).trans c0
      have k1 := (ce ⟨g, off + k * 3 + 1, none⟩ rfl).trans c1
      have k2 := (ce ⟨g, off + k * 3 + 2, none⟩ rfl).trans c2
      clear c0 c1 c2 ce
      have ho := hop l[k] (List.getElem_mem hlt)
      obtain ⟨y1, y2⟩ := opOk_key ho
      have hml2 := doM_len n last (l.take k) m
      rw [List.length_take] at hml2
      have hfl2 := flat_doM n last (l.take k) m
      rw [List.length_take] at hfl2
      have HS : Hid (doM n last m (l.take (k + 1)) = doM1 n last (doM n last m (l.take k)) l[k]) := doM_snoc n last m hlt
      generalize doM n last m (l.take k) = M at *
      have hown := own_any l[k] (wr.alloc (.cells #[str l[k].key, str l[k].val, .bool l[k].gone] 103)) (by omega) (fun hg => by have := opOk_val ho hg; omega)
      go_wp2_with (go_at_call 169; refine hown.mono ?_; rintro e w1 ⟨rfl, hb1⟩)
      have hb0 : Below wr.heap.size wr w1 := ((Below.refl _ wr).alloc (Nat.le_refl _) _).trans (hb1.mono (by simp))
      have HS2 : Hid (doM n last m (l.take (k + 1)) = ins ((bare l[k]).key, ⟨bare l[k], n⟩ :: versM last ((getF (bare l[k]).key M).getD [])) (del (bare l[k]).key M)) := by
        show _ = _
        rw [HS.out, bare_key]
        rfl
      have hbk : (bare l[k]).key.length ≤ 16 := by rw [bare_key]; exact y2
      clear HS hown
      generalize bare l[k] = b at *
      have hm1 := (hmr.below hb0).alloc (.cells #[str b.key, str b.val, .bool b.gone, .int .i64 n] 226)
      have hk1 : Kp (fun i => i = bm) w (w1.alloc (.cells #[str b.key, str b.val, .bool b.gone, .int .i64 n] 226)) := (hkp.trans (T := fun _ => False) (Kp.of_below hb0) (fun _ _ f => f.elim)).alloc _
      obtain ⟨s, hlk, hsl, hsE⟩ := hm1.look b.key (by unfold maxLen; omega)
      have hVl : ((getF b.key M).getD []).length ≤ (flatM M).length := by have := flat_del b.key M; omega
      generalize (getF b.key M).getD [] = V at *
      obtain ⟨sa, sn, sc⟩ := s
      have hln := hsl.len
      simp only at hln
      replace hlk : (Instr.lookup 107 (.map (some bm)) (str b.key) false).run Tryz.prog (w1.alloc (.cells #[str b.key, str b.val, .bool b.gone, .int .i64 n] 226)) = .ok (.slice sa sn sc) (w1.alloc (.cells #[str b.key, str b.val, .bool b.gone, .int .i64 n] 226)) := hlk
      cases V with
      | nil =>
        simp only [List.length_nil] at hln
        subst hln
        have hF : Dm w _ (Nw E w) bm M w1.heap.size ⟨b, n⟩ (sa, 0, sc) [] := ⟨block_new _ _, hm1, hk1, hsl⟩
        have HS3 : Hid (doM n last m (l.take (k + 1)) = ins (b.key, [⟨b, n⟩]) (del b.key M)) := HS2.out
        clear HS2 hm1 hk1 hVl
        have hcat := concatE_any (some ⟨w1.heap.size + 1 + 1, 0, none⟩) 2 [((some ⟨w1.heap.size + 1, 0, none⟩, 1, 1), [⟨b, n⟩]), ((sa, 0, sc), [])] _ (by have := lyp_two ⟨b, n⟩ hF.sl; rw [World.size_alloc] at this; exact this) (by simp) (by simp [sumL] <;> omega)
        rw [show catL [((some ⟨w1.heap.size + 1, 0, none⟩, 1, 1), [⟨b, n⟩]), ((sa, 0, sc), [])] = ⟨b, n⟩ :: [] by simp [catL]] at hcat
        replace hcat : Calls Tryz.prog 170 #[.slice (some ⟨w1.heap.size + 1 + 1, 0, none⟩) 2 2] _ _ := hcat
        have hF2 := ((hF.below ((Below.refl _ _).alloc (Nat.le_refl _) (.cells #[str b.key, str b.val, .bool b.gone, .int .i64 n] 226))).below ((Below.refl _ _).alloc (Nat.le_refl _) (.cells #[.slice (some ⟨w1.heap.size + 1, 0, none⟩) 1 1, slV (sa, 0, sc)] 112))).drew
        go_wp2
        go_region_with (go_at_call 170; refine hcat.mono ?_; rintro er w3 ⟨v3, rfl, hb3, hown3⟩; obtain ⟨s3, rfl, hs3, hs3b⟩ := hown3.slAt; have hF3 := hF2.below hb3; obtain ⟨q0, q1, q2, q3⟩ := cells4' hF3.box; obtain ⟨w4, hrun, hm4, kp4⟩ := hF3.map.put b.key s3 (⟨b, n⟩ :: []) (by unfold maxLen; omega) (by unfold maxLen; omega) hs3 (fun a ha => .inr (Nat.le_trans hF2.kp.size (hs3b a ha).1)))
        all_goals go_wp2
        all_goals
          go_roundw
          case rel => exact ⟨k + 1, by omega, by go_num, by rw [HS3.out]; exact hm4, hF3.kp.trans kp4 (fun _ _ e => e)⟩
          case measure => simp [intOf]; omega
      | cons e t =>
        simp only [List.length_cons] at hln hVl
        subst hln
        obtain ⟨g1, off1, hq1, d0, d1, d2, d3⟩ := hsl.row 0 (by simp)
        simp only at hq1
        subst hq1
        simp only [Nat.zero_mul, Nat.add_zero, List.getElem_cons_zero] at d3
        clear d0 d1 d2
        by_cases hlast : last < e.batch
        · have hcap := hsl.cap
          simp only [List.length_cons] at hcap
          have HS3 : Hid (doM n last m (l.take (k + 1)) = ins (b.key, ⟨b, n⟩ :: t) (del b.key M)) := by show _ = _; rw [HS2.out]; simp [versM, hlast]
          have htl := hsl.tail
          by_cases hsc : sc = 1
          · subst hsc
            obtain rfl : t = [] := List.eq_nil_of_length_eq_zero (by omega)
            have hF : Dm w _ (Nw E w) bm M w1.heap.size ⟨b, n⟩ (some ⟨g1, off1, none⟩, 0, 0) [] := ⟨block_new _ _, hm1, hk1, by simpa [slTail] using htl⟩
            clear HS2 hm1 hk1 htl
            have hcat := concatE_any (some ⟨w1.heap.size + 1 + 1, 0, none⟩) 2 [((some ⟨w1.heap.size + 1, 0, none⟩, 1, 1), [⟨b, n⟩]), ((some ⟨g1, off1, none⟩, 0, 0), [])] _ (by have := lyp_two ⟨b, n⟩ hF.sl; rw [World.size_alloc] at this; exact this) (by simp) (by simp [sumL] <;> omega)
            rw [show catL [((some ⟨w1.heap.size + 1, 0, none⟩, 1, 1), [⟨b, n⟩]), ((some ⟨g1, off1, none⟩, 0, 0), [])] = ⟨b, n⟩ :: [] by simp [catL]] at hcat
            replace hcat : Calls Tryz.prog 170 #[.slice (some ⟨w1.heap.size + 1 + 1, 0, none⟩) 2 2] _ _ := hcat
            have hF2 := ((hF.below ((Below.refl _ _).alloc (Nat.le_refl _) (.cells #[str b.key, str b.val, .bool b.gone, .int .i64 n] 226))).below ((Below.refl _ _).alloc (Nat.le_refl _) (.cells #[.slice (some ⟨w1.heap.size + 1, 0, none⟩) 1 1, slV (some ⟨g1, off1, none⟩, 0, 0)] 112))).drew
            go_wp2
            go_region_with (go_at_call 170; refine hcat.mono ?_; rintro er w3 ⟨v3, rfl, hb3, hown3⟩; obtain ⟨s3, rfl, hs3, hs3b⟩ := hown3.slAt; have hF3 := hF2.below hb3; obtain ⟨q0, q1, q2, q3⟩ := cells4' hF3.box; obtain ⟨w4, hrun, hm4, kp4⟩ := hF3.map.put b.key s3 (⟨b, n⟩ :: []) (by unfold maxLen; omega) (by unfold maxLen; omega) hs3 (fun a ha => .inr (Nat.le_trans hF2.kp.size (hs3b a ha).1)))
            all_goals go_wp2
            all_goals
              go_roundw
              case rel => exact ⟨k + 1, by omega, by go_num, by rw [HS3.out]; exact hm4, hF3.kp.trans kp4 (fun _ _ e => e)⟩
              case measure => simp [intOf]; omega
          · have hF : Dm w _ (Nw E w) bm M w1.heap.size ⟨b, n⟩ (some ⟨g1, off1 + 4, none⟩, t.length, sc - 1) t := ⟨block_new _ _, hm1, hk1, by simpa [slTail, hsc, Addr.add_lit] using htl⟩
            clear HS2 hm1 hk1 htl
            have hcat := concatE_any (some ⟨w1.heap.size + 1 + 1, 0, none⟩) 2 [((some ⟨w1.heap.size + 1, 0, none⟩, 1, 1), [⟨b, n⟩]), ((some ⟨g1, off1 + 4, none⟩, t.length, sc - 1), t)] _ (by have := lyp_two ⟨b, n⟩ hF.sl; rw [World.size_alloc] at this; exact this) (by simp) (by simp [sumL] <;> omega)
            rw [show catL [((some ⟨w1.heap.size + 1, 0, none⟩, 1, 1), [⟨b, n⟩]), ((some ⟨g1, off1 + 4, none⟩, t.length, sc - 1), t)] = ⟨b, n⟩ :: t by simp [catL]] at hcat
            replace hcat : Calls Tryz.prog 170 #[.slice (some ⟨w1.heap.size + 1 + 1, 0, none⟩) 2 2] _ _ := hcat
            have hF2 := ((hF.below ((Below.refl _ _).alloc (Nat.le_refl _) (.cells #[str b.key, str b.val, .bool b.gone, .int .i64 n] 226))).below ((Below.refl _ _).alloc (Nat.le_refl _) (.cells #[.slice (some ⟨w1.heap.size + 1, 0, none⟩) 1 1, slV (some ⟨g1, off1 + 4, none⟩, t.length, sc - 1)] 112))).drew
            go_wp2
            go_region_with (go_at_call 170; refine hcat.mono ?_; rintro er w3 ⟨v3, rfl, hb3, hown3⟩; obtain ⟨s3, rfl, hs3, hs3b⟩ := hown3.slAt; have hF3 := hF2.below hb3; obtain ⟨q0, q1, q2, q3⟩ := cells4' hF3.box; obtain ⟨w4, hrun, hm4, kp4⟩ := hF3.map.put b.key s3 (⟨b, n⟩ :: t) (by unfold maxLen; omega) (by unfold maxLen; omega) hs3 (fun a ha => .inr (Nat.le_trans hF2.kp.size (hs3b a ha).1)))
            all_goals go_wp2
            all_goals
              go_roundw
              case rel => exact ⟨k + 1, by omega, by go_num, by rw [HS3.out]; exact hm4, hF3.kp.trans kp4 (fun _ _ e => e)⟩
              case measure => simp [intOf]; omega
        · have hF : Dm w _ (Nw E w) bm M w1.heap.size ⟨b, n⟩ (some ⟨g1, off1, none⟩, t.length + 1, sc) (e :: t) := ⟨block_new _ _, hm1, hk1, hsl⟩
          have HS3 : Hid (doM n last m (l.take (k + 1)) = ins (b.key, ⟨b, n⟩ :: e :: t) (del b.key M)) := by show _ = _; rw [HS2.out]; simp [versM, hlast]
          clear HS2 hm1 hk1
          have hcat := concatE_any (some ⟨w1.heap.size + 1 + 1, 0, none⟩) 2 [((some ⟨w1.heap.size + 1, 0, none⟩, 1, 1), [⟨b, n⟩]), ((some ⟨g1, off1, none⟩, t.length + 1, sc), (e :: t))] _ (by have := lyp_two ⟨b, n⟩ hF.sl; rw [World.size_alloc] at this; exact this) (by simp) (by simp [sumL] <;> omega)
          rw [show catL [((some ⟨w1.heap.size + 1, 0, none⟩, 1, 1), [⟨b, n⟩]), ((some ⟨g1, off1, none⟩, t.length + 1, sc), (e :: t))] = ⟨b, n⟩ :: (e :: t) by simp [catL]] at hcat
          replace hcat : Calls Tryz.prog 170 #[.slice (some ⟨w1.heap.size + 1 + 1, 0, none⟩) 2 2] _ _ := hcat
          have hF2 := ((hF.below ((Below.refl _ _).alloc (Nat.le_refl _) (.cells #[str b.key, str b.val, .bool b.gone, .int .i64 n] 226))).below ((Below.refl _ _).alloc (Nat.le_refl _) (.cells #[.slice (some ⟨w1.heap.size + 1, 0, none⟩) 1 1, slV (some ⟨g1, off1, none⟩, t.length + 1, sc)] 112))).drew
          go_wp2
          go_region_with (go_at_call 170; refine hcat.mono ?_; rintro er w3 ⟨v3, rfl, hb3, hown3⟩; obtain ⟨s3, rfl, hs3, hs3b⟩ := hown3.slAt; have hF3 := hF2.below hb3; obtain ⟨q0, q1, q2, q3⟩ := cells4' hF3.box; obtain ⟨w4, hrun, hm4, kp4⟩ := hF3.map.put b.key s3 (⟨b, n⟩ :: (e :: t)) (by unfold maxLen; omega) (by unfold maxLen; omega) hs3 (fun a ha => .inr (Nat.le_trans hF2.kp.size (hs3b a ha).1)))
          all_goals go_wp2
          all_goals
            go_roundw
            case rel => exact ⟨k + 1, by omega, by go_num, by rw [HS3.out]; exact hm4, hF3.kp.trans kp4 (fun _ _ e => e)⟩
            case measure => simp [intOf]; omega
    · rw [List.take_of_length_le (by omega)] at hmr
      go_wp2
      go_end0
      exact ⟨rfl, hmr, hkp⟩
end Go.Proofs.YtoabedkcieindabGreatDoor

namespace Go.Proofs.YtoabedkcieindabGreatDoor
open Go.RowKit
section
variable {F : Fence} {n : Nat} {P : Program} {α : Type}
def SeqT (F : Fence) (n : Nat) (P : Program) (g : Nat) (lb : Array Value) (encs : α → Array Value) (Kr : World → World → Prop) (Tn : Nat → World → World → Prop) (S Sp : List α → Prop) (N : Nat) (w : World) : Prop :=
  ∀ (l : Nat) (J Jx : List α → World → Prop) (W : World), Below w.heap.size w W → (∀ s A B, J s A → Tn W.heap.size A B → J s B) → (∀ s A B, Jx s A → Tn W.heap.size A B → Jx s B) →
    (∀ pre x W1, J pre W1 → pre.length < N → YieldAt F (n - 1) P l (encs x) W1 fun e W' =>
      (e = .returned (.bool true) ∧ J (pre ++ [x]) W' ∧ Kr W1 W') ∨ (e = .returned (.bool false) ∧ Jx (pre ++ [x]) W')) →
    J [] W →
    CallsIn F n P g (#[.func (.yield l) #[] #[]] ++ lb) W fun e W' => (∃ v, e = .returned v) ∧ ((∃ xs, S xs ∧ J xs W') ∨ (∃ pre, Sp pre ∧ Jx pre W'))
structure Bk (W : World) (b : Nat) (r : Loop) : Prop where
  loop : W.heap[b + 1]? = some (.loop r)
  dfr : W.heap[b]? = some (.deferred (some []))
theorem Bk.lt {W : World} {b : Nat} {r : Loop} (h : Bk W b r) : b + 1 < W.heap.size := lt_of_block h.loop
theorem Bk.put {W : World} {b : Nat} {r : Loop} (h : Bk W b r) (r' : Loop) : Bk (W.putObj (b + 1) (.loop r')) b r' :=
  ⟨World.putObj_heap_same h.lt, (World.putObj_heap_other (by omega)).trans h.dfr⟩
theorem Bk.from {W W' : World} {b : Nat} {r : Loop} (h : Bk W b r) (k : KeepsFrom b W W') : Bk W' b r := ⟨k.same _ _ (by omega) h.loop rfl, k.same _ _ (Nat.le_refl _) h.dfr rfl⟩
theorem Bk.step {W W' : World} {b : Nat} {r : Loop} (h : Bk W b r) (k : ∀ (j : Nat) (o : Obj), W.heap[j]? = some o → o.isCells = false → o.isWalk = false → W'.heap[j]? = some o) : Bk W' b r :=
  ⟨k _ _ h.loop rfl rfl, k _ _ h.dfr rfl rfl⟩
theorem rangeFunc_T {g : Operand} {ps : Array Tmp} {assign body : Code} {Q : Exit → Act → World → Prop} {a : Act} {w : World}
    (hro : F.round = none) (h1 : 1 ≤ n) {gf : Nat} {lb : Array Value} (hg : a.eval g = .func (.func gf) #[] lb) (hFg : F.fn gf) (eg : ∀ args w, (callFunc gf args).run P w = .ok (.enter gf args) w)
    {encs : α → Array Value} {Kr : World → World → Prop} {Tn : Nat → World → World → Prop} {S Sp : List α → Prop} {N : Nat} {w0 : World} (hseq : SeqT F (n - 1) P gf lb encs Kr Tn S Sp N w0)
    (hKt : ∀ {A B C : World}, Kr A B → Kr B C → Kr A C) (hKb : ∀ (W : World) (l : Nat) (o o' : Obj), w.heap.size ≤ l → W.heap[l]? = some o → o.isCells = false → o.isWalk = false → Kr W (W.putObj l o'))
    (hTo : ∀ {b : Nat} {A B : World}, Tn b A B → ∀ (j : Nat) (o : Obj), A.heap[j]? = some o → o.isCells = false → o.isWalk = false → B.heap[j]? = some o)
    (hb0 : Below w0.heap.size w0 w) (hps : ∀ x, (encs x).size = ps.size)
    (I : List α → World → Prop) (Ix : Code → List α → World → Prop) (hI : OwnFrom w.heap.size I) (hIx : ∀ c, OwnFrom w.heap.size (Ix c))
    (hIT : ∀ s A B, I s A → Tn (w.heap.size + 2) A B → I s B) (hIxT : ∀ c s A B, Ix c s A → Tn (w.heap.size + 2) A B → Ix c s B) (h0 : I [] w) (Ax : α → Act → World → Prop) (hAx : ∀ x a', OwnFrom w.heap.size (fun (_ : Unit) W => Ax x a' W))
    (hassign : ∀ (l : Nat) (pre : List α) (x : α) (W : World) (K : Act → World → Prop), I pre W → (∀ a' W', KeepsFrom w.heap.size W W' → Kr W W' → I pre W' → Ax x a' W' → K a' W') →
      assign.wpIn (F.inRound l) (n - 1 - 1) P (Exit.then K (fun _ _ _ => False)) { tmps := (ps.zip (encs x)).foldl (fun t (p, v) => t.setIfInBounds p v) a.tmps, defers := [] } W)
    (hbody : ∀ (l : Nat) (pre : List α) (x : α) (a' : Act) (W : World), w.heap.size ≤ l → (∃ r, W.heap[l]? = some (.loop r)) → I pre W → Ax x a' W → pre.length < N → body.wpIn (F.inRound l) (n - 1 - 1) P (ownPostG w.heap.size Kr I Ix (pre ++ [x]) W) a' W)
    (hdone : ∀ (D : Nat) (xs : List α) (W : World), w.heap.size ≤ D → S xs → I xs W → W.heap[D]? = some (.deferred (some [])) → Q .normal { a with defers := { target := .collected D, args := #[] } :: a.defers } W)
    (hstop : ∀ (D : Nat) (c : Code) (pre : List α) (W : World), w.heap.size ≤ D → Sp pre → Ix c pre W → W.heap[D]? = some (.deferred (some [])) → c.wpIn F n P Q { a with defers := { target := .collected D, args := #[] } :: a.defers } W) :
    (Code.rangeFunc g ps assign body).wpIn F n P Q a w := by
  refine wpIn_rangeFunc fun fn hfn => ?_
  rw [hro]
  generalize hR : (fun (st : LoopState) (pe : Option Code) => ({ state := st, pending := pe, fn, tmps := a.tmps, params := ps, assign, body, defers := w.heap.size } : Loop)) = R
  have hst : ∀ st pe, R st pe = { state := st, pending := pe, fn, tmps := a.tmps, params := ps, assign, body, defers := w.heap.size } := fun st pe => by rw [← hR]
  have hbk1 : Bk ((w.alloc (.deferred (some []))).alloc (.loop (R .ready none))) w.heap.size (R .ready none) := by
    refine ⟨?_, block_alloc (block_new w _)⟩
    have := block_new (w.alloc (.deferred (some []))) (.loop (R .ready none))
    rwa [World.size_alloc] at this
  have hsz1 : ((w.alloc (.deferred (some []))).alloc (.loop (R .ready none))).heap.size = w.heap.size + 2 := by simp
  have hI1 := hI.alloc (.loop (R .ready none)) (hI.alloc (.deferred (some [])) h0)
  have hb1 : Below w0.heap.size w0 ((w.alloc (.deferred (some []))).alloc (.loop (R .ready none))) := (hb0.alloc hb0.size _).alloc (by have := hb0.size; simp; omega) _
  refine ⟨w.heap.size + 1, [{ target := .collected w.heap.size, args := #[] }], (w.alloc (.deferred (some []))).alloc (.loop (R .ready none)), { target := .fn (.func gf) lb, args := #[.func (.yield (w.heap.size + 1)) #[] #[]] }, (w.alloc (.deferred (some []))).alloc (.loop (R .ready none)), gf,
    #[.func (.yield (w.heap.size + 1)) #[] #[]] ++ lb, (w.alloc (.deferred (some []))).alloc (.loop (R .ready none)), ?_, ?_, ?_, ?_, fun _ => h1, ?_⟩
  · rw [hst]; exact run_enterLoop_outer _ _ _ _ _
  · simp only [resolve, hg]
    simp [go_sem]
  · intro f' hf'; simp [Target.leads] at hf'; subst hf'; exact hFg
  · simp [invoke, go_sem, eg]
  generalize (w.alloc (.deferred (some []))).alloc (.loop (R .ready none)) = W1 at *
  have hput : ∀ {s : List α} {W : World} {r : Loop} (r' : Loop), I s W → Bk W w.heap.size r → I s (W.putObj (w.heap.size + 1) (.loop r')) := fun r' hi hb => hI.putObj _ hi (by omega) hb.loop rfl
  refine (hseq (w.heap.size + 1) (fun s W => I s W ∧ Bk W w.heap.size (R .ready none)) (fun s W => ∃ c, Ix c s W ∧ Bk W w.heap.size (R .done (some c))) W1 hb1
    (fun s A B hs ht => by rw [hsz1] at ht; exact ⟨hIT s A B hs.1 ht, hs.2.step (hTo ht)⟩)
    (fun s A B hs ht => by
      rw [hsz1] at ht
      obtain ⟨c, hc, hb⟩ := hs
      exact ⟨c, hIxT c s A B hc ht, hb.step (hTo ht)⟩) ?_ ⟨hI1, hbk1⟩).mono ?_
  ·
    rintro pre x W ⟨hi, hb⟩ hlen
    have hy := run_yield (P := P) (args := encs x) hb.loop (by rw [hst]; exact hps x)
    rw [hst] at hy
    refine ⟨fn, _, assign, body, hy, roundIn_of_wpIn hfn (hassign _ pre x W _ hi ?_)⟩
    intro a' V hkf hkr hi' hax
    replace hb := hb.from hkf
    refine ⟨_, run_beginRound hb.loop (by rw [hst]), ?_⟩
    have hbB := hb.put { R .ready none with state := .busy }
    have hkB := hKb V (w.heap.size + 1) _ (.loop { R .ready none with state := .busy }) (by omega) hb.loop rfl rfl
    refine wpIn_mono (hbody _ pre x a' _ (by omega) ⟨_, hbB.loop⟩ (hput _ hi' hb) ((hAx x a').putObj (s := ()) _ hax (by omega) hb.loop rfl) hlen) ?_
    have fin : ∀ (j : Option Code) (U : World), Bk U w.heap.size { R .ready none with state := .busy } → (Instr.endRound (w.heap.size + 1) j).run P U = .ok (.bool j.isNone) (U.putObj (w.heap.size + 1) (.loop (R (if j.isNone then .ready else .done) j))) := fun j U hU => by
      have := run_endRound (P := P) j hU.loop
      rw [hst] at this ⊢
      exact this
    rintro e a3 U hp
    cases e with
    | normal =>
      obtain ⟨hkf3, hkr3, hi3⟩ := hp
      have hb3 := hbB.from hkf3
      exact ⟨_, _, fin none U hb3, .inl ⟨rfl, ⟨hput _ hi3 hb3, hb3.put _⟩, hKt hkr (hKt (hKt hkB hkr3) (hKb _ _ _ _ (by omega) hb3.loop rfl rfl))⟩⟩
    | ret =>
      have hb3 := hbB.from hp.1
      exact ⟨_, _, fin (some .ret) U hb3, .inr ⟨rfl, .ret, (hIx _).putObj _ hp.2 (by omega) hb3.loop rfl, hb3.put _⟩⟩
    | exit id =>
      have hb3 := hbB.from hp.1
      exact ⟨_, _, fin (some (.exit id)) U hb3, .inr ⟨rfl, .exit id, (hIx _).putObj _ hp.2 (by omega) hb3.loop rfl, hb3.put _⟩⟩
    | goto t =>
      have hb3 := hbB.from hp.1
      exact ⟨_, _, fin (some (.goto t)) U hb3, .inr ⟨rfl, .goto t, (hIx _).putObj _ hp.2 (by omega) hb3.loop rfl, hb3.put _⟩⟩
    | panic ch => exact hp.elim
    | outgrown => exact hp.elim
  ·
    rintro e U ⟨⟨v, rfl⟩, (⟨xs, hS, hi, hb⟩ | ⟨pre, hSp, c, hi, hb⟩)⟩
    · exact ⟨none, _, by have := run_endLoop (P := P) hb.loop (by rw [hst]; simp); rw [hst] at this; exact this, hdone _ xs _ (Nat.le_refl _) hS (hput _ hi hb) ((World.putObj_heap_other (by omega)).trans hb.dfr)⟩
    · exact ⟨some c, _, by have := run_endLoop (P := P) hb.loop (by rw [hst]; simp); rw [hst] at this; exact this, hstop _ c pre _ (Nat.le_refl _) hSp ((hIx c).putObj _ hi (by omega) hb.loop rfl) ((World.putObj_heap_other (by omega)).trans hb.dfr)⟩
end
end Go.Proofs.YtoabedkcieindabGreatDoor

namespace Go.Proofs.YtoabedkcieindabGreatDoor
open Go.RowKit Go.Maps Go.Sort Go.Shelf
attribute [local go_sem] Oper.semAt_some
theorem Tryz.info112 : (Tryz.prog.info? 112).map (fun i => (i.zero, i.size, i.bytes)) = some (some (.slice none 0 0), 1, 24) := by kernel_rfl
abbrev OwnL (w : World) (base : Nat) (v : Value) (l : List Sl) : Prop := OwnR 112 slC 1 w base v l
set_option maxHeartbeats 1000000 in
set_option maxRecDepth 20000 in
theorem cloneL_any (q : Option Addr) (qc : Nat) (ss : List Sl) (w : World) (hq : Rp slC 1 w q ss) (hqn : q = none → qc = 0 ∧ ss = []) (hqa : ∀ a, q = some a → ∃ g off, a = ⟨g, off, none⟩) (hl : ss.length ≤ 1000000) :
    Calls Tryz.prog 196 #[.slice q ss.length qc] w fun e w' => ∃ v, e = .returned v ∧ Below w.heap.size w w' ∧ OwnL w' w.heap.size v ss := by
  have q0 : ∀ (w : World) (a : Option Addr) (n c n' c' : Nat), (binOp .eql 133 (.slice a n c) (.slice none n' c')).run Tryz.prog w = .ok (.bool a.isNone) w := fun w a n c n' c' => Lib.run_eql_slice_nil w _ _ a n c n' c' Tryz.underlying133
  cases q with
  | none =>
    obtain ⟨rfl, rfl⟩ := hqn rfl
    go_enter Tryz.func196, Tryz.ntmps196
    go_wp2
    go_ret
    exact ⟨_, rfl, Below.refl _ _, OwnR.nil _ _ _ _ _⟩
  | some a =>
    obtain ⟨g, off, rfl⟩ := hqa a rfl
    have h0 : OwnL (w.alloc (.cells #[] 112)) w.heap.size (.slice (some ⟨w.heap.size, 0, none⟩) 0 0) [] := World.ownsRow_lit (size := 1) w #[] 0 (Nat.le_refl _) (Nat.zero_le _) rfl
    go_enter Tryz.func196, Tryz.ntmps196
    go_wp2_with (first
      | (at_builtin; refine wpList_appR _ rfl (.tmp 5) (.tmp 6) 112 133 Tryz.info112 rfl (by decide) Tryz.underlying133 slC_len slC_one rfl w.heap.size _ [] ss (some ⟨g, off, none⟩) qc rfl rfl (by simp) h0 (fun e => by cases e) (fun a ha => ⟨_, _, (Option.some.inj ha).symm⟩) (hq.below ((Below.refl _ _).alloc (Nat.le_refl _) _)) (by simp; omega) (by simp; omega) ?_; intro v3 w3 hown3 kp3; have hb3 := OwnR.belowOwn (by simp) h0 kp3; obtain ⟨a3, cap3, rfl⟩ := hown3.shape)
      | go_in)
    go_ret
    refine ⟨_, rfl, ((Below.refl _ _).alloc (Nat.le_refl _) _).trans hb3, ?_⟩
    simpa using hown3
def TnM (b : Nat) (A B : World) : Prop := Kp (fun k => b ≤ k ∧ ∃ cs z, A.heap[k]? = some (.cells cs 112 z)) A B
theorem TnM.of_below {b : Nat} {A B : World} (h : Below A.heap.size A B) : TnM b A B := Kp.of_below h
theorem TnM.others {b : Nat} {A B : World} (h : TnM b A B) (j : Nat) (o : Obj) (hj : A.heap[j]? = some o) (hc : o.isCells = false) : B.heap[j]? = some o :=
  Kp.at h hj (fun ⟨_, cs, z, e⟩ => by rw [hj] at e; cases e; cases hc)
structure KrM (Z : Nat → Prop) (n0 : Nat) (W W' : World) : Prop where
  size : W.heap.size ≤ W'.heap.size
  low : ∀ k, Z k → k < W.heap.size → W'.heap[k]? = W.heap[k]?
  ent : ∀ (k : Nat) (cs : Array Value) (z : Nat × Nat), n0 ≤ k → W.heap[k]? = some (.cells cs 112 z) → W'.heap[k]? = some (.cells cs 112 z)
theorem KrM.trans {Z : Nat → Prop} {n0 : Nat} {A B C : World} (h : KrM Z n0 A B) (k : KrM Z n0 B C) : KrM Z n0 A C :=
  ⟨Nat.le_trans h.size k.size, fun i z hi => (k.low i z (Nat.lt_of_lt_of_le hi h.size)).trans (h.low i z hi), fun i cs z hn hi => k.ent i cs z hn (h.ent i cs z hn hi)⟩
theorem KrM.of_kp {Z S : Nat → Prop} {n0 : Nat} {A B : World} (h : Kp S A B) (hz : ∀ i, Z i → ¬ S i) (he : ∀ (k : Nat) (cs : Array Value) (z : Nat × Nat), n0 ≤ k → A.heap[k]? = some (.cells cs 112 z) → ¬ S k) : KrM Z n0 A B :=
  ⟨h.size, fun i z hi => h.block i hi (hz i z), fun i cs z hn hi => h.at hi (he i cs z hn hi)⟩
theorem KrM.sl {Z : Nat → Prop} {n0 : Nat} {A B : World} (h : KrM Z n0 A B) {s : Sl} {l : Ly} (hs : SlAt A s l) (hz : ∀ a, s.1 = some a → 0 < l.length → Z a.block) : SlAt B s l := by
  refine ⟨hs.len, hs.cap, hs.nil, hs.pl, fun i hi => ?_⟩
  obtain ⟨g, off, hq, c0, c1, c2, c3⟩ := hs.row i hi
  have hb := h.low g (hz _ hq (by omega)) (World.block_lt_of_cell? A ⟨g, off + i * 4, none⟩ c0)
  have hc : ∀ o, B.cell? ⟨g, o, none⟩ = A.cell? ⟨g, o, none⟩ := fun o => by simp only [World.cell?, hb]
  exact ⟨g, off, hq, (hc _).trans c0, (hc _).trans c1, (hc _).trans c2, (hc _).trans c3⟩
theorem KrM.row {Z : Nat → Prop} {n0 base : Nat} {A B : World} (h : KrM Z n0 A B) {v : Value} {l : List Sl} (ho : OwnL A base v l) (hb : n0 ≤ base) : OwnL B base v l := by
  refine ⟨ho.1, ?_⟩
  rcases ho.2 with hn | ⟨g, cap, cur, hv, hbb, hg, rest⟩
  · exact .inl hn
  · exact .inr ⟨g, cap, cur, hv, hbb, h.ent _ _ _ (by omega) hg, rest⟩
def restLen (w : World) (v : Value) : Nat := match v with
  | .slice (some a) n _ => match w.heap[a.block]? with
    | some (.cells cs _ _) => ((cs.toList.take n).map fun u => match u with | .slice _ m _ => m | _ => 0).sum
    | _ => 0
  | _ => 0
theorem flat_slC (l : List Sl) : l.flatMap slC = l.map slV := by induction l with | nil => rfl | cons x r ih => simp [slC, ih]
theorem restLen_is {w : World} {base : Nat} {v : Value} {ys : List (Sl × Ly)} (h : OwnL w base v (ys.map (·.1))) (hy : ∀ y ∈ ys, y.1.2.1 = y.2.length) : restLen w v = sumL ys := by
  rcases h.2 with ⟨rfl, hn⟩ | ⟨g, cap, cur, rfl, _, hg, _, _, _, h4⟩
  · have : ys = [] := by simpa using hn
    subst this; rfl
  · simp only [restLen, hg]
    rw [Nat.mul_one] at h4
    rw [h4, flat_slC, List.map_map, List.map_map]
    unfold sumL
    congr 1
    apply List.map_congr_left
    intro y hyy
    exact hy y hyy
theorem merge_len : ∀ (k : Nat) (ls : List Ly), ls.flatten.length = k → (mergeF k ls).length = k
  | 0, ls, _ => by simp [mergeF]
  | k + 1, ls, h => by
    rw [mergeF]
    cases hl : leastI ls with
    | none =>
      exfalso
      have : ls.flatten = [] := by
        rw [List.flatten_eq_nil_iff]
        intro l hm
        obtain ⟨i, _, rfl⟩ := mem_getD hm
        exact leastI_none hl i
      rw [this] at h; simp at h
    | some i =>
      obtain ⟨e, he, _⟩ := leastI_is hl
      simp only [he]
      have hc : ∃ t, ls.getD i [] = e :: t := by
        cases hg : ls.getD i [] with
        | nil => rw [hg] at he; cases he
        | cons a t => rw [hg] at he; cases he; exact ⟨t, rfl⟩
      obtain ⟨t, ht⟩ := hc
      rw [ht, List.length_cons, List.tail_cons, merge_len k _ (by have := set_flat ls i e t ht; omega)]
theorem sum_flat (ys : List (Sl × Ly)) : (ys.map (·.2)).flatten.length = sumL ys := by simp [sumL, List.length_flatten, List.map_map]; rfl
end Go.Proofs.YtoabedkcieindabGreatDoor
