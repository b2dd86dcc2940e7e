import Derived.Test.YtoabedkcieindabGreatDoorQkAZ
import Derived.Test.YtoabedkcieindabGreatDoorQkAU
namespace Go.Proofs.YtoabedkcieindabGreatDoor
open Go.RowKit Go.Maps Go.Sort
theorem doAll_snoc {l : List Ox} {k : Nat} (m : Mp) (h : k < l.length) : doAll m (l.take (k + 1)) = doOp (doAll m (l.take k)) l[k] := by
  rw [List.take_succ_eq_append_getElem h, doAll_append]; rfl
theorem all_after {k : Nm} {v : Nm} {r : List (Nm × Nm)} (h : ∀ y ∈ r, bytesBefore k y.1 = true) : (r.filter fun x => bytesBefore k x.1) = r ∧ del k r = r ∧ ins (k, v) r = (k, v) :: r := by
  refine ⟨List.filter_eq_self.2 h, List.filter_eq_self.2 (fun y hy => ?_), ?_⟩
  · have := before_ne (h y hy)
    simpa using fun e => this e.symm
  · cases r with
    | nil => rfl
    | cons y r => simp only [ins]; rw [if_pos (h y (by simp))]
theorem before_asymm {a b : Nm} (h : bytesBefore a b = true) : bytesBefore b a = false := by
  cases h2 : bytesBefore b a
  · rfl
  · have := before_trans h h2; rw [WideAt.bytes_irrefl] at this; cases this
theorem kdoneL_doOp : ∀ {l : List (Nm × Nm)} (o : Ox), rising l → kdoneL l o = doOp l o
  | [], o, _ => by unfold kdoneL doOp; cases o.gone <;> rfl
  | x :: r, o, hr => by
    have hr1 : ∀ y ∈ r, bytesBefore x.1 y.1 = true := (List.pairwise_cons.1 hr).1
    have hr2 : rising r := (List.pairwise_cons.1 hr).2
    cases hb : bytesBefore x.1 o.key
    · by_cases e : x.1 = o.key
      · obtain ⟨a1, a2, a3⟩ := all_after (k := o.key) (v := o.val) (r := r) (by rw [← e]; exact hr1)
        have hd : del o.key (x :: r) = r := by
          unfold del at a2 ⊢
          rw [List.filter_cons_of_neg (by simp [e])]; exact a2
        have ht : ((x :: r).takeWhile fun y => bytesBefore y.1 o.key) = [] := by rw [List.takeWhile_cons_of_neg (by simp [hb])]
        have hf : ((x :: r).filter fun y => bytesBefore o.key y.1) = r := by
          rw [List.filter_cons_of_neg (by rw [e, WideAt.bytes_irrefl]; simp)]; exact a1
        unfold kdoneL doOp
        rw [ht, hf, hd]
        cases o.gone
        · simp [a3]
        · simp
      · have hk : bytesBefore o.key x.1 = true := by
          rcases WideAt.bytes_total x.1 o.key e with c | c
          · rw [hb] at c; cases c
          · exact c
        obtain ⟨a1, a2, a3⟩ := all_after (k := o.key) (v := o.val) (r := x :: r) (by
          intro y hy
          rcases List.mem_cons.1 hy with rfl | hy
          · exact hk
          · exact before_trans hk (hr1 y hy))
        have ht : ((x :: r).takeWhile fun y => bytesBefore y.1 o.key) = [] := by rw [List.takeWhile_cons_of_neg (by simp [hb])]
        unfold kdoneL doOp
        rw [ht, a1, a2]
        cases o.gone
        · simp [a3]
        · simp
    · have ih := kdoneL_doOp o hr2
      have hk := before_asymm hb
      have ht : ((x :: r).takeWhile fun y => bytesBefore y.1 o.key) = x :: r.takeWhile fun y => bytesBefore y.1 o.key := List.takeWhile_cons_of_pos (by exact hb)
      have hf : ((x :: r).filter fun y => bytesBefore o.key y.1) = r.filter fun y => bytesBefore o.key y.1 := by rw [List.filter_cons_of_neg (by simp [hk])]
      have hd : del o.key (x :: r) = x :: del o.key r := by
        unfold del
        rw [List.filter_cons_of_pos (by simpa using before_ne hb)]
      unfold kdoneL doOp at ih ⊢
      rw [ht, hf, hd]
      cases hg : o.gone
      · rw [hg] at ih
        simp only [Bool.false_eq_true, if_false] at ih ⊢
        show _ = ins (o.key, o.val) (x :: del o.key r)
        rw [ins, if_neg (by simp [hk]), ← ih]
        simp
      · rw [hg] at ih
        simp only [if_true] at ih ⊢
        rw [← ih]
        simp
theorem rising_doOp {l : List (Nm × Nm)} (o : Ox) (h : rising l) : rising (doOp l o) := by
  unfold doOp
  split
  · exact rising_del h
  · exact rising_ins (rising_del h) (getF_del _ _)
theorem rising_doAll {l : List (Nm × Nm)} (ops : List Ox) (h : rising l) : rising (doAll l ops) := by
  induction ops generalizing l with
  | nil => exact h
  | cons o r ih => exact ih (rising_doOp o h)
def PRow (w : World) (v : Value) (l : List (Nm × Nm)) : Prop := ∃ q c, v = .slice q l.length c ∧ Pairp w q l
theorem PRow.below {w w' : World} {v : Value} {l : List (Nm × Nm)} (h : PRow w v l) (hb : Below w.heap.size w w') : PRow w' v l := by
  obtain ⟨q, c, e, hp⟩ := h
  exact ⟨q, c, e, hp.below hb⟩
theorem OwnP.row {w : World} {base : Nat} {v : Value} {l : List (Nm × Nm)} (h : OwnP w base v l) : PRow w v l := by
  obtain ⟨q, c, e, hp, _⟩ := h.pairp
  exact ⟨q, c, e, hp⟩
set_option maxHeartbeats 2000000 in
set_option maxRecDepth 20000 in
theorem behind_any (v0 : Value) (l : List (Nm × Nm)) (qo : Option Addr) (oc : Nat) (ops : List Ox) (w : World) (hv : PRow w v0 l) (hr : rising l) (ho : Opp w qo ops) (hl : l.length + ops.length ≤ 4190000) :
    Calls Tryz.prog 29 #[v0, .slice qo ops.length oc] w fun e w' => ∃ v, e = .returned v ∧ Below w.heap.size w w' ∧ PRow w' v (doAll l ops) := by
  go_enter Tryz.func29, Tryz.ntmps29
  go_wp2
  go_loopw [0, 5] (fun v i wr => ∃ k : Nat, k ≤ ops.length ∧ i = .int .i64 k ∧ PRow wr v (doAll l (ops.take k)) ∧ Below w.heap.size w wr) (fun _ i _ => ops.length - (intOf i).toNat)
  case atStart => exact ⟨0, Nat.zero_le _, rfl, hv, Below.refl _ _⟩
  case round =>
    obtain ⟨k, hk, rfl, hrow, hB⟩ := hrel
    have hs := hB.size
    by_cases hlt : k < ops.length
    · obtain ⟨g, off, rfl, c0, c1, c2⟩ := (ho.below hB) k hlt
      obtain ⟨q, c, rfl, hp⟩ := hrow
      have hml := doAll_len l (ops.take k)
      rw [List.length_take] at hml
      have HS : Hid (doAll l (ops.take (k + 1)) = kdoneL (doAll l (ops.take k)) ops[k]) := by show _ = _; rw [doAll_snoc l hlt, kdoneL_doOp _ (rising_doAll _ hr)]
      generalize doAll l (ops.take k) = M at *
      go_wp2_with (go_at_call 52; refine (kdone_any q c M ops[k] _ hp (by omega)).mono ?_; rintro e w1 ⟨v, rfl, hb, hown⟩)
      go_roundw
      case rel => exact ⟨k + 1, by omega, by go_num, by rw [HS.out]; exact hown.row, hB.trans (hb.mono hs)⟩
      case measure => simp [intOf]; omega
    · rw [List.take_of_length_le (by omega)] at hrow
      go_wp2
      go_ret
      exact ⟨_, rfl, hB, hrow⟩
end Go.Proofs.YtoabedkcieindabGreatDoor
namespace Go.Proofs.YtoabedkcieindabGreatDoor
open Go.RowKit Go.Maps Go.Sort
def tidyK (k : Nm) : Nm := if 16 < k.length then k.take 16 else if k = [] then [107] else k
def tidyV (v : Nm) : Nm := if 64 < v.length then v.take 64 else v
def tidyOp (o : Ox) : Ox := ⟨tidyK o.key, tidyV o.val, o.gone⟩
def tidyL (l : List Ox) : List Ox := if l = [] then [⟨[107], [118], false⟩] else (l.take 8).map tidyOp
def OxBig (l : List Ox) : Prop := ∀ o ∈ l, o.key.length ≤ 9223372036854775807 ∧ o.val.length ≤ 9223372036854775807
theorem op_new {W : World} {n : Nat} (h : W.heap.size = n) {a b c : Value} : ∀ j u, [a, b, c][j]? = some u → (W.alloc (.cells #[a, b, c] 103)).cell? ((⟨n, 0, none⟩ : Addr).add j) = some u := by
  intro j u hu
  subst h
  rw [Addr.add_lit, Nat.zero_add, cell_block (block_new W _)]
  simpa using hu
theorem take_some {k : List UInt8} (h : 16 < k.length) : k.take 16 ≠ [] := by
  intro e
  have := congrArg List.length e
  rw [List.length_take, List.length_nil] at this
  omega
theorem nonempty_bytes {k : List UInt8} (h : k ≠ []) : (⟨k.toArray⟩ : ByteArray).toList.isEmpty = false := by
  rw [ByteArray.toList_eq]
  simpa using h
theorem tidy_next {wr w w2 W1 : World} {row : Option Nat} {B : Nat} (hB : Below B w wr) (hs : B ≤ wr.heap.size) (h1 : Below wr.heap.size wr W1) {O : Obj} (hg : (W1.alloc O).grownBy w2 row) (hr : ∀ k, row = some k → B ≤ k) : Below B w w2 :=
  ((hB.trans (h1.mono hs)).alloc (by have := h1.size; omega) _).grown hg (by have := h1.size; simp; omega) hr
set_option maxHeartbeats 1000000 in
set_option maxRecDepth 20000 in
theorem tidied_any (q : Option Addr) (qc : Nat) (l : List Ox) (w : World) (hp : Opp w q l) (hk : OxBig l) (_ : l.length ≤ 9223372036854775807) :
    Calls Tryz.prog 27 #[.slice q l.length qc] w fun e w' => ∃ v, e = .returned v ∧ Below w.heap.size w w' ∧ OwnO w' w.heap.size v (tidyL l) := by
  obtain ⟨i0, hi0, hz0, hz1, hz2⟩ := info_parts Tryz.info103
  go_enter Tryz.func27, Tryz.ntmps27
  go_wp2
  go_loopw [3, 4] (fun v i wr => ∃ k : Nat, k ≤ l.length ∧ k ≤ 8 ∧ i = .int .i64 k ∧ OwnO wr w.heap.size v ((l.take k).map tidyOp) ∧ Below w.heap.size w wr) (fun _ i _ => l.length - (intOf i).toNat)
  case atStart => exact ⟨0, Nat.zero_le _, by omega, rfl, World.ownsRow_nil _ _ _ _, Below.refl _ _⟩
  case round =>
    obtain ⟨k, hk1, hk8, rfl, hown, hB⟩ := hrel
    have hs := hB.size
    by_cases hlt : k < l.length
    · obtain ⟨g, off, rfl, c0, c1, c2⟩ := (hp.below hB) k hlt
      by_cases h8 : k < 8
      · obtain ⟨kl, vl⟩ := hk l[k] (List.getElem_mem hlt)
        have hz : (⟨l[k].key.toArray⟩ : ByteArray).size = l[k].key.length := rfl
        have hzv : (⟨l[k].val.toArray⟩ : ByteArray).size = l[k].val.length := rfl
        have HM : Hid ((l.take (k + 1)).map tidyOp = (l.take k).map tidyOp ++ [tidyOp l[k]]) := by show _ = _; rw [List.take_succ_eq_append_getElem hlt, List.map_append]; rfl
        have hml : ((l.take k).map tidyOp).length ≤ 8 := by rw [List.length_map, List.length_take]; omega
        have hexk : Hid ((⟨l[k].key.toArray⟩ : ByteArray).extract 0 16 = ⟨(l[k].key.take 16).toArray⟩) := by show _ = _; rw [ext_bytes]; rfl
        have hexv : Hid ((⟨l[k].val.toArray⟩ : ByteArray).extract 0 64 = ⟨(l[k].val.take 64).toArray⟩) := by show _ = _; rw [ext_bytes]; rfl
        generalize (l.take k).map tidyOp = M at *
        have hW : ∀ W1, Below wr.heap.size wr W1 → World.ownsRow W1 w.heap.size 103 3 u3 M.length (flatO M) := fun W1 h1 => ownsRow_of_block hown (fun g hg => h1.block g (World.ownsRow.lt hown g hg).2)
        by_cases e1 : 16 < l[k].key.length
        · have hne : ((⟨l[k].key.toArray⟩ : ByteArray).extract 0 16).toList.isEmpty = false := by rw [hexk.out]; exact nonempty_bytes (take_some (by omega))
          by_cases e3 : 64 < l[k].val.length
          · have hA := (Below.refl wr.heap.size wr).alloc (Nat.le_refl _) (.cells #[.string ((⟨l[k].key.toArray⟩ : ByteArray).extract 0 16), .string ((⟨l[k].val.toArray⟩ : ByteArray).extract 0 64), .bool l[k].gone] 103)
            go_wp2_with (first
              | (at_builtin; refine wpList_append_own _ rfl (.tmp 40) (.tmp 42) 29 rfl w.heap.size 103 i0 _ 3 40 Tryz.underlying29 hi0 hz0 hz1 hz2 rfl (by decide) _ M.length (flatO M) rfl (World.ownsRow.alloc (hW _ hA) _) ⟨wr.heap.size + 1, 0, none⟩ 1 1 [.string ((⟨l[k].key.toArray⟩ : ByteArray).extract 0 16), .string ((⟨l[k].val.toArray⟩ : ByteArray).extract 0 64), .bool l[k].gone] rfl rfl (op_new (by simp)) (by simp [Value.oneCell']) (by unfold maxLen; omega) (by omega) (by simp; omega) ?_; intro v' w2 hown' hgrow _)
              | go_in)
            have hb2 : Below w.heap.size w w2 := tidy_next hB hs hA hgrow (fun k hk => (World.ownsRow.lt hown k hk).1)
            have hT : tidyOp l[k] = ⟨l[k].key.take 16, l[k].val.take 64, l[k].gone⟩ := by simp [tidyOp, tidyK, tidyV, e1, e3]
            go_roundw
            case rel =>
              refine ⟨k + 1, by omega, by omega, by go_num, ?_, hb2⟩
              unfold OwnO
              rw [HM.out, flatO_snoc, List.length_append, hT]
              try rw [hexk.out] at hown'
              try rw [hexv.out] at hown'
              exact hown'
            case measure => simp [intOf]; omega
          · have hA := (Below.refl wr.heap.size wr).alloc (Nat.le_refl _) (.cells #[.string ((⟨l[k].key.toArray⟩ : ByteArray).extract 0 16), str l[k].val, .bool l[k].gone] 103)
            go_wp2_with (first
              | (at_builtin; refine wpList_append_own _ rfl (.tmp 40) (.tmp 42) 29 rfl w.heap.size 103 i0 _ 3 40 Tryz.underlying29 hi0 hz0 hz1 hz2 rfl (by decide) _ M.length (flatO M) rfl (World.ownsRow.alloc (hW _ hA) _) ⟨wr.heap.size + 1, 0, none⟩ 1 1 [.string ((⟨l[k].key.toArray⟩ : ByteArray).extract 0 16), str l[k].val, .bool l[k].gone] rfl rfl (op_new (by simp)) (by simp [Value.oneCell']) (by unfold maxLen; omega) (by omega) (by simp; omega) ?_; intro v' w2 hown' hgrow _)
              | go_in)
            have hb2 : Below w.heap.size w w2 := tidy_next hB hs hA hgrow (fun k hk => (World.ownsRow.lt hown k hk).1)
            have hT : tidyOp l[k] = ⟨l[k].key.take 16, l[k].val, l[k].gone⟩ := by simp [tidyOp, tidyK, tidyV, e1, e3]
            go_roundw
            case rel =>
              refine ⟨k + 1, by omega, by omega, by go_num, ?_, hb2⟩
              unfold OwnO
              rw [HM.out, flatO_snoc, List.length_append, hT]
              try rw [hexk.out] at hown'
              try rw [hexv.out] at hown'
              exact hown'
            case measure => simp [intOf]; omega
        · by_cases e2 : l[k].key = []
          · by_cases e3 : 64 < l[k].val.length
            · rw [e2] at c0
              have hA := (Below.refl wr.heap.size wr).alloc (Nat.le_refl _) (.cells #[str [107], .string ((⟨l[k].val.toArray⟩ : ByteArray).extract 0 64), .bool l[k].gone] 103)
              go_wp2_with (first
                | (at_builtin; refine wpList_append_own _ rfl (.tmp 40) (.tmp 42) 29 rfl w.heap.size 103 i0 _ 3 40 Tryz.underlying29 hi0 hz0 hz1 hz2 rfl (by decide) _ M.length (flatO M) rfl (World.ownsRow.alloc (hW _ hA) _) ⟨wr.heap.size + 1, 0, none⟩ 1 1 [str [107], .string ((⟨l[k].val.toArray⟩ : ByteArray).extract 0 64), .bool l[k].gone] rfl rfl (op_new (by simp)) (by simp [Value.oneCell']) (by unfold maxLen; omega) (by omega) (by simp; omega) ?_; intro v' w2 hown' hgrow _)
                | go_in)
              have hb2 : Below w.heap.size w w2 := tidy_next hB hs hA hgrow (fun k hk => (World.ownsRow.lt hown k hk).1)
              have hT : tidyOp l[k] = ⟨[107], l[k].val.take 64, l[k].gone⟩ := by simp [tidyOp, tidyK, tidyV, e3, e2]
              go_roundw
              case rel =>
                refine ⟨k + 1, by omega, by omega, by go_num, ?_, hb2⟩
                unfold OwnO
                rw [HM.out, flatO_snoc, List.length_append, hT]
                try rw [hexk.out] at hown'
                try rw [hexv.out] at hown'
                exact hown'
              case measure => simp [intOf]; omega
            · rw [e2] at c0
              have hA := (Below.refl wr.heap.size wr).alloc (Nat.le_refl _) (.cells #[str [107], str l[k].val, .bool l[k].gone] 103)
              go_wp2_with (first
                | (at_builtin; refine wpList_append_own _ rfl (.tmp 40) (.tmp 42) 29 rfl w.heap.size 103 i0 _ 3 40 Tryz.underlying29 hi0 hz0 hz1 hz2 rfl (by decide) _ M.length (flatO M) rfl (World.ownsRow.alloc (hW _ hA) _) ⟨wr.heap.size + 1, 0, none⟩ 1 1 [str [107], str l[k].val, .bool l[k].gone] rfl rfl (op_new (by simp)) (by simp [Value.oneCell']) (by unfold maxLen; omega) (by omega) (by simp; omega) ?_; intro v' w2 hown' hgrow _)
                | go_in)
              have hb2 : Below w.heap.size w w2 := tidy_next hB hs hA hgrow (fun k hk => (World.ownsRow.lt hown k hk).1)
              have hT : tidyOp l[k] = ⟨[107], l[k].val, l[k].gone⟩ := by simp [tidyOp, tidyK, tidyV, e3, e2]
              go_roundw
              case rel =>
                refine ⟨k + 1, by omega, by omega, by go_num, ?_, hb2⟩
                unfold OwnO
                rw [HM.out, flatO_snoc, List.length_append, hT]
                try rw [hexk.out] at hown'
                try rw [hexv.out] at hown'
                exact hown'
              case measure => simp [intOf]; omega
          · have e2' : (l[k].key == []) = false := by simpa using e2
            by_cases e3 : 64 < l[k].val.length
            · have hA := (Below.refl wr.heap.size wr).alloc (Nat.le_refl _) (.cells #[str l[k].key, .string ((⟨l[k].val.toArray⟩ : ByteArray).extract 0 64), .bool l[k].gone] 103)
              go_wp2_with (first
                | (at_builtin; refine wpList_append_own _ rfl (.tmp 40) (.tmp 42) 29 rfl w.heap.size 103 i0 _ 3 40 Tryz.underlying29 hi0 hz0 hz1 hz2 rfl (by decide) _ M.length (flatO M) rfl (World.ownsRow.alloc (hW _ hA) _) ⟨wr.heap.size + 1, 0, none⟩ 1 1 [str l[k].key, .string ((⟨l[k].val.toArray⟩ : ByteArray).extract 0 64), .bool l[k].gone] rfl rfl (op_new (by simp)) (by simp [Value.oneCell']) (by unfold maxLen; omega) (by omega) (by simp; omega) ?_; intro v' w2 hown' hgrow _)
                | go_in)
              have hb2 : Below w.heap.size w w2 := tidy_next hB hs hA hgrow (fun k hk => (World.ownsRow.lt hown k hk).1)
              have hT : tidyOp l[k] = ⟨l[k].key, l[k].val.take 64, l[k].gone⟩ := by simp [tidyOp, tidyK, tidyV, e1, e3, e2]
              go_roundw
              case rel =>
                refine ⟨k + 1, by omega, by omega, by go_num, ?_, hb2⟩
                unfold OwnO
                rw [HM.out, flatO_snoc, List.length_append, hT]
                try rw [hexk.out] at hown'
                try rw [hexv.out] at hown'
                exact hown'
              case measure => simp [intOf]; omega
            · have hA := (Below.refl wr.heap.size wr).alloc (Nat.le_refl _) (.cells #[str l[k].key, str l[k].val, .bool l[k].gone] 103)
              go_wp2_with (first
                | (at_builtin; refine wpList_append_own _ rfl (.tmp 40) (.tmp 42) 29 rfl w.heap.size 103 i0 _ 3 40 Tryz.underlying29 hi0 hz0 hz1 hz2 rfl (by decide) _ M.length (flatO M) rfl (World.ownsRow.alloc (hW _ hA) _) ⟨wr.heap.size + 1, 0, none⟩ 1 1 [str l[k].key, str l[k].val, .bool l[k].gone] rfl rfl (op_new (by simp)) (by simp [Value.oneCell']) (by unfold maxLen; omega) (by omega) (by simp; omega) ?_; intro v' w2 hown' hgrow _)
                | go_in)
              have hb2 : Below w.heap.size w w2 := tidy_next hB hs hA hgrow (fun k hk => (World.ownsRow.lt hown k hk).1)
              have hT : tidyOp l[k] = ⟨l[k].key, l[k].val, l[k].gone⟩ := by simp [tidyOp, tidyK, tidyV, e1, e3, e2]
              go_roundw
              case rel =>
                refine ⟨k + 1, by omega, by omega, by go_num, ?_, hb2⟩
                unfold OwnO
                rw [HM.out, flatO_snoc, List.length_append, hT]
                try rw [hexk.out] at hown'
                try rw [hexv.out] at hown'
                exact hown'
              case measure => simp [intOf]; omega
      · have HE : Hid (tidyL l = (l.take k).map tidyOp) := by
          show _ = _
          have h0 : l ≠ [] := by intro h; rw [h] at hlt; simp at hlt
          unfold tidyL; rw [if_neg h0, show k = 8 by omega]
        have hne0 : (l.take k).map tidyOp ≠ [] := by
          intro h; have := congrArg List.length h; rw [List.length_map, List.length_take, List.length_nil] at this; omega
        obtain ⟨qq, cc, rfl, hopp, _⟩ := hown.opp
        generalize (l.take k).map tidyOp = M at *
        have hm0 : M.length ≠ 0 := fun h => hne0 (List.length_eq_zero_iff.1 h)
        have hm1 : ((M.length : Int) == 0) = false := by simpa using hne0
        go_wp2
        go_ret
        refine ⟨_, rfl, hB, ?_⟩
        rw [HE.out]
        exact hown
    · have hkl : k = l.length := by omega
      by_cases h0 : l = []
      · have HE : Hid (tidyL l = [⟨[107], [118], false⟩]) := by show _ = _; unfold tidyL; rw [if_pos h0]
        have hM : (l.take k).map tidyOp = [] := by rw [h0]; simp
        rw [hM] at hown
        obtain ⟨qq, cc, rfl, hopp, _⟩ := hown.opp
        go_wp2_with (first
          | (at_builtin; refine wpList_append_own _ rfl (.tmp 47) (.tmp 49) 29 rfl w.heap.size 103 i0 _ 3 40 Tryz.underlying29 hi0 hz0 hz1 hz2 rfl (by decide) _ 0 [] rfl (World.ownsRow.alloc hown _) ⟨wr.heap.size, 0, none⟩ 1 1 [str [107], str [118], .bool false] rfl rfl (op_new rfl) (by simp [Value.oneCell']) (by unfold maxLen; omega) (by omega) (by simp; omega) ?_; intro v' w2 hown' hgrow _)
          | go_in)
        go_ret
        refine ⟨_, rfl, (hB.alloc hs _).grown hgrow (by simp; omega) (fun k hk => (World.ownsRow.lt hown k hk).1), ?_⟩
        rw [HE.out]
        exact hown'
      · have HE : Hid (tidyL l = (l.take k).map tidyOp) := by
          show _ = _
          unfold tidyL; rw [if_neg h0, List.take_of_length_le (by omega), List.take_of_length_le (by omega)]
        have hne0 : (l.take k).map tidyOp ≠ [] := by
          intro h; have := congrArg List.length h; rw [List.length_map, List.length_take, List.length_nil] at this
          exact h0 (List.length_eq_zero_iff.1 (by omega))
        obtain ⟨qq, cc, rfl, hopp, _⟩ := hown.opp
        generalize (l.take k).map tidyOp = M at *
        have hm0 : M.length ≠ 0 := fun h => hne0 (List.length_eq_zero_iff.1 h)
        have hm1 : ((M.length : Int) == 0) = false := by simpa using hne0
        go_wp2
        go_ret
        refine ⟨_, rfl, hB, ?_⟩
        rw [HE.out]
        exact hown
end Go.Proofs.YtoabedkcieindabGreatDoor

namespace Go.Proofs.YtoabedkcieindabGreatDoor
open Go.RowKit Go.Maps Go.Sort Go.Shelf
def ttC (x : Nat × Nat × Nat) : List Value := [.int .i64 x.1, .int .i64 x.2.1, .int .i64 x.2.2]
theorem ttC_len (x : Nat × Nat × Nat) : (ttC x).length = 3 := rfl
theorem ttC_one (x : Nat × Nat × Nat) : ∀ u ∈ ttC x, u.oneCell' = true := by intro u hu; simp [ttC] at hu; rcases hu with rfl | rfl | rfl <;> rfl
def ttOf (t : Tb) : Nat × Nat × Nat := (t.number, t.level, t.es.length)
abbrev OwnTt (w : World) (base : Nat) (v : Value) (l : List (Nat × Nat × Nat)) : Prop := OwnR 45 ttC 3 w base v l
theorem Tryz.info45 : (Tryz.prog.info? 45).map (fun i => (i.zero, i.size, i.bytes)) = some (some (.agg #[.int .i64 0, .int .i64 0, .int .i64 0]), 3, 24) := by kernel_rfl
set_option maxHeartbeats 400000 in
set_option maxRecDepth 20000 in
theorem sTables_any (T bd bm bsn : Nat) (s : Sl) (l : List Tr) (st : Ls) (E : Nat → Prop) (w : World) (hL : LsAt w E T bd bm bsn s l st) {m r f : Value} {dead : Bool} {t : Int} (hd : w.heap[bd]? = some (.cells #[m, r, f, .bool dead, .int .i64 t] 117)) (h0 : lready t dead st = 0) (hl : l.length ≤ 1000) (hel : ∀ x ∈ l, x.1.es.length ≤ 100000) :
    Calls Tryz.prog 32 #[.pointer (some ⟨T, 0, none⟩)] w fun e w' => ∃ v, e = .returned (.tuple #[v, .int .i64 0]) ∧ OwnTt w' w.heap.size v (st.tabs.map ttOf) ∧ Below w.heap.size w w' := by
  have hR := lReady_any hL hd
  rw [h0] at hR
  rw [← hL.is]
  have htab := hL.tab
  have hes := hL.es
  have c4' := hL.cell 4
  obtain ⟨sq, sn, sc⟩ := s
  obtain rfl : sn = l.length := htab.len
  clear hL hd
  go_enter Tryz.func32, Tryz.ntmps32
  go_wp2_with (go_at_call 56; refine hR.mono ?_; rintro e w0 ⟨rfl, hb0⟩; have c4 : w0.cell? ⟨T, 4, none⟩ = some (.slice sq l.length sc) := cell_below hb0 c4'; clear hR c4')
  go_loopw [5, 18] (fun v i wr => ∃ k : Nat, k ≤ l.length ∧ i = .int .i64 k ∧ OwnTt wr w.heap.size v (((l.take k).map (·.1)).map ttOf) ∧ Below w.heap.size w wr) (fun _ i _ => l.length - (intOf i).toNat)
  case atStart => exact ⟨0, Nat.zero_le _, rfl, OwnR.nil _ _ _ _ _, hb0⟩
  case round =>
    obtain ⟨k, hk, rfl, hown, hb⟩ := hrel
    have hs := hb.size
    by_cases hlt : k < l.length
    · obtain ⟨g, off, hq, c0⟩ := (htab.below hb).row k hlt 0 _ rfl
      obtain ⟨g', off', hq', c1⟩ := (htab.below hb).row k hlt 1 _ rfl
      obtain ⟨g'', off'', hq'', c2⟩ := (htab.below hb).row k hlt 2 _ rfl
      simp only at hq hq' hq''
      subst hq
      cases hq'
      cases hq''
      simp only [Nat.add_zero, ← Nat.add_assoc] at c0 c1 c2
      have hlen := (hes l[k] (List.getElem_mem hlt)).len
      have hel' := hel l[k] (List.getElem_mem hlt)
      have HT : Hid (((l.take (k + 1)).map (·.1)).map ttOf = ((l.take k).map (·.1)).map ttOf ++ [ttOf l[k].1]) := by show _ = _; rw [List.take_succ_eq_append_getElem hlt, List.map_append, List.map_append]; rfl
      have HO : Hid (ttOf l[k].1 = (l[k].1.number, l[k].1.level, l[k].1.es.length)) := rfl
      have hlk : (((l.take k).map (·.1)).map ttOf).length ≤ 1000 := by simp; omega
      generalize l[k] = x at *
      obtain ⟨⟨xn, xl, xe⟩, ⟨xa, xm, xc⟩⟩ := x
      simp only at hlen hel' HO
      subst hlen
      generalize ((l.take k).map (·.1)).map ttOf = L at *
      obtain ⟨a2, cap2, rfl⟩ := hown.shape
      rw [show slV (xa, xe.length, xc) = .slice xa xe.length xc from rfl] at c2
      go_wp2_with (first
        | (at_builtin; refine wpList_appR _ rfl (.tmp 22) (.tmp 31) 45 38 Tryz.info45 rfl (by decide) Tryz.underlying38 ttC_len ttC_one rfl w.heap.size _ _ [(xn, xl, xe.length)] (some ⟨wr.heap.size + 1, 0, none⟩) 1 rfl rfl (by simp; omega) ((hown.alloc _).alloc _) (fun e => by cases e) (fun a ha => ⟨_, _, (Option.some.inj ha).symm⟩) (by have := block_new (wr.alloc (.cells #[.int .i64 xn, .int .i64 xl, .slice xa xe.length xc] 114)) (.cells #[.int .i64 xn, .int .i64 xl, .int .i64 xe.length] 45); rw [World.size_alloc] at this; exact rp_block ttC_len this rfl) (by simp; omega) (by simp; omega) ?_; intro v3 w3 hown3 kp3; have hb3 := OwnR.belowOwn (by simp; omega) ((hown.alloc _).alloc _) kp3; obtain ⟨a3, cap3, rfl⟩ := hown3.shape)
        | go_in)
      go_roundw
      case rel => exact ⟨k + 1, by omega, by go_num, by rw [HT.out, HO.out]; rwa [List.length_append] at hown3, ((hb.alloc (by omega) _).alloc (by simp; omega) _).trans hb3⟩
      case measure => simp [intOf]; omega
    · have E : Hid (l.take k = l) := List.take_of_length_le (by omega)
      rw [E.out] at hown
      obtain ⟨a, cap, rfl⟩ := hown.shape
      go_wp2
      go_ret2
      exact ⟨_, rfl, hown, hb⟩
end Go.Proofs.YtoabedkcieindabGreatDoor

namespace Go.Proofs.YtoabedkcieindabGreatDoor
open Go.RowKit Go.Maps Go.Sort Go.Shelf
structure Lx (w : World) (U : Nat → Prop) (bx bz : Nat) (d : Dk) (st : Ls) : Prop where
  ex : ∃ (bd T bm bsn : Nat) (S E : Nat → Prop) (s : Sl) (l : List Tr), w.heap[bx]? = some (.cells #[.pointer (some ⟨bd, 0, none⟩)] 80) ∧ w.heap[bz]? = some (.cells #[.pointer (some ⟨T, 0, none⟩)] 82) ∧ U bx ∧ U bz ∧
    (∀ k, (S k ∨ E k ∨ k = T ∨ k = bm ∨ k = bsn) → U k ∧ k ≠ bx ∧ k ≠ bz) ∧ Lsy w S E T bd bm bsn s l d st
theorem Lsy.kept {w w' : World} {S E V : Nat → Prop} {T bd bm bsn : Nat} {s : Sl} {l : List Tr} {d : Dk} {st : Ls} (h : Lsy w S E T bd bm bsn s l d st) (k : Kp V w w') (hV : ∀ i, (S i ∨ E i ∨ i = T ∨ i = bm ∨ i = bsn) → ¬ V i) : Lsy w' S E T bd bm bsn s l d st :=
  ⟨h.prog.kept k (fun i s => hV i (.inl s)), h.at_.kept k (hV _ (.inr (.inr (.inl rfl)))) (hV _ (.inr (.inr (.inr (.inl rfl))))) (hV _ (.inr (.inr (.inr (.inr rfl))))) (fun i e => hV i (.inr (.inl e))), h.dj, h.nT, h.nm, h.nn⟩
theorem Lx.kept {w w' : World} {U V : Nat → Prop} {bx bz : Nat} {d : Dk} {st : Ls} (h : Lx w U bx bz d st) (k : Kp V w w') (hV : ∀ i, U i → ¬ V i) : Lx w' U bx bz d st := by
  obtain ⟨bd, T, bm, bsn, S, E, s, l, h1, h2, h3, h4, h5, h6⟩ := h.ex
  exact ⟨bd, T, bm, bsn, S, E, s, l, k.at h1 (hV _ h3), k.at h2 (hV _ h4), h3, h4, h5, h6.kept k (fun i x => hV i (h5 i x).1)⟩
theorem Lx.below {w w' : World} {U : Nat → Prop} {bx bz : Nat} {d : Dk} {st : Ls} (h : Lx w U bx bz d st) (k : Below w.heap.size w w') : Lx w' U bx bz d st := h.kept (V := fun _ => False) (Kp.of_below k) (fun _ _ f => f)
theorem Lx.mono {w : World} {U V : Nat → Prop} {bx bz : Nat} {d : Dk} {st : Ls} (h : Lx w U bx bz d st) (hV : ∀ k, k < w.heap.size → U k → V k) : Lx w V bx bz d st := by
  obtain ⟨bd, T, bm, bsn, S, E, s, l, h1, h2, h3, h4, h5, h6⟩ := h.ex
  refine ⟨bd, T, bm, bsn, fun k => S k ∧ k < w.heap.size, E, s, l, h1, h2, hV _ (lt_of_block h1) h3, hV _ (lt_of_block h2) h4, fun k hk => ?_, ⟨h6.prog.mono (fun k hk s => ⟨s, hk⟩), h6.at_, fun k e x => h6.dj k e x.1, fun x => h6.nT x.1, fun x => h6.nm x.1, fun x => h6.nn x.1⟩⟩
  have hlt : k < w.heap.size := by
    rcases hk with x | x | rfl | rfl | rfl
    · exact x.2
    · exact h6.at_.bnd k x
    · exact lt_of_block h6.at_.blk
    · exact h6.at_.mem.lt
    · exact h6.at_.snp.lt
  have := h5 k (hk.imp (fun x => x.1) id)
  exact ⟨hV k hlt this.1, this.2⟩
theorem Lx.step {w w' : World} {U S E : Nat → Prop} {bx bz bd T bm bsn : Nat} {r : Int × Dk × Ls} (h1 : w.heap[bx]? = some (.cells #[.pointer (some ⟨bd, 0, none⟩)] 80)) (h2 : w.heap[bz]? = some (.cells #[.pointer (some ⟨T, 0, none⟩)] 82)) (h3 : U bx) (h4 : U bz) (h5 : ∀ k, (S k ∨ E k ∨ k = T ∨ k = bm ∨ k = bsn) → U k ∧ k ≠ bx ∧ k ≠ bz)
    (hc : CmPost w w' S E T bd bm bsn r) (k : Kp (fun k => S k ∨ k = T ∨ k = bm) w w') : Lx w' (Nw U w) bx bz r.2.1 r.2.2 ∧ Kp U w w' := by
  obtain ⟨S', E', s', l', a1, a2, a3, a4, a5, a6, hP, hL⟩ := hc
  have hlx := lt_of_block h1
  have hlz := lt_of_block h2
  have q : ∀ k, (S k ∨ k = T ∨ k = bm) → U k ∧ k ≠ bx ∧ k ≠ bz := fun k hk => h5 k (hk.imp id (fun x => .inr (x.imp id .inl)))
  refine ⟨⟨bd, T, bm, bsn, S', E', s', l', k.at h1 (fun x => (q _ x).2.1 rfl), k.at h2 (fun x => (q _ x).2.2 rfl), .inl h3, .inl h4, fun i hi => ?_, ⟨hP, hL, a3, a4, a5, a6⟩⟩, k.mono (fun i x => (q i x).1)⟩
  have up : ∀ {P : Nat → Prop}, (∀ j, P j → U j ∧ j ≠ bx ∧ j ≠ bz) → Nw P w i → Nw U w i ∧ i ≠ bx ∧ i ≠ bz := fun hP x => by
    rcases x with x | x
    · exact ⟨.inl (hP i x).1, (hP i x).2⟩
    · exact ⟨.inr x, by omega, by omega⟩
  rcases hi with x | x | x | x | x
  · exact up (fun j hj => h5 j (.inl hj)) (a1 i x)
  · exact up (fun j hj => h5 j (.inr (.inl hj))) (a2 i x)
  · have := h5 i (.inr (.inr (.inl x))); exact ⟨.inl this.1, this.2⟩
  · have := h5 i (.inr (.inr (.inr (.inl x)))); exact ⟨.inl this.1, this.2⟩
  · have := h5 i (.inr (.inr (.inr (.inr x)))); exact ⟨.inl this.1, this.2⟩
set_option maxHeartbeats 400000 in
theorem sinner_any {w : World} {bz T : Nat} (h : w.heap[bz]? = some (.cells #[.pointer (some ⟨T, 0, none⟩)] 82)) :
    Calls Tryz.prog 30 #[.pointer (some ⟨bz, 0, none⟩)] w fun e w' => e = .returned (.pointer (some ⟨T, 0, none⟩)) ∧ w' = w := by
  obtain ⟨c0, z0⟩ := cells1 h
  clear h
  go_enter Tryz.func30, Tryz.ntmps30
  go_wp2
  go_ret
  exact ⟨rfl, rfl⟩
end Go.Proofs.YtoabedkcieindabGreatDoor
