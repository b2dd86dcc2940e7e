import Derived.Test.YtoabedkcieindaaGreatDoorHkAZ
import Derived.Test.YtoabedkcieindaaGreatDoorHkAU
import Derived.Test.YtoabedkcieindaaGreatDoorHkAW
import Derived.Test.YtoabedkcieindaaGreatDoorHkAN
namespace Go.Proofs.YtoabedkcieindaaGreatDoor
open Go.RowKit Go.Maps Go.Sort
theorem doAll_snoc {l : List Ox} {k : Nat} (m : Mp) (h : k < l.length) : doAll m (l.take (k + 1)) = doOp (doAll m (l.take k)) l[k] := by
  rw [List.take_succ_eq_append_getElem h, doAll_append]; rfl
theorem all_after {k : Nm} {v : Nm} {r : List (Nm × Nm)} (h : ∀ y ∈ r, bytesBefore k y.1 = true) : (r.filter fun x => bytesBefore k x.1) = r ∧ del k r = r ∧ ins (k, v) r = (k, v) :: r := by
  refine ⟨List.filter_eq_self.2 h, List.filter_eq_self.2 (fun y hy => ?_), ?_⟩
  · have := before_ne (h y hy)
    simpa using fun e => this e.symm
  · cases r with
    | nil => rfl
    | cons y r => simp only [ins]; rw [if_pos (h y (by simp))]
theorem before_asymm {a b : Nm} (h : bytesBefore a b = true) : bytesBefore b a = false := by
  cases h2 : bytesBefore b a
  · rfl
  · have := before_trans h h2; rw [WideAt.bytes_irrefl] at this; cases this
theorem kdoneL_doOp : ∀ {l : List (Nm × Nm)} (o : Ox), rising l → kdoneL l o = doOp l o
  | [], o, _ => by unfold kdoneL doOp; cases o.gone <;> rfl
  | x :: r, o, hr => by
    have hr1 : ∀ y ∈ r, bytesBefore x.1 y.1 = true := (List.pairwise_cons.1 hr).1
    have hr2 : rising r := (List.pairwise_cons.1 hr).2
    cases hb : bytesBefore x.1 o.key
    · by_cases e : x.1 = o.key
      · obtain ⟨a1, a2, a3⟩ := all_after (k := o.key) (v := o.val) (r := r) (by rw [← e]; exact hr1)
        have hd : del o.key (x :: r) = r := by
          unfold del at a2 ⊢
          rw [List.filter_cons_of_neg (by simp [e])]; exact a2
        have ht : ((x :: r).takeWhile fun y => bytesBefore y.1 o.key) = [] := by rw [List.takeWhile_cons_of_neg (by simp [hb])]
        have hf : ((x :: r).filter fun y => bytesBefore o.key y.1) = r := by
          rw [List.filter_cons_of_neg (by rw [e, WideAt.bytes_irrefl]; simp)]; exact a1
        unfold kdoneL doOp
        rw [ht, hf, hd]
        cases o.gone
        · simp [a3]
        · simp
      · have hk : bytesBefore o.key x.1 = true := by
          rcases WideAt.bytes_total x.1 o.key e with c | c
          · rw [hb] at c; cases c
          · exact c
        obtain ⟨a1, a2, a3⟩ := all_after (k := o.key) (v := o.val) (r := x :: r) (by
          intro y hy
          rcases List.mem_cons.1 hy with rfl | hy
          · exact hk
          · exact before_trans hk (hr1 y hy))
        have ht : ((x :: r).takeWhile fun y => bytesBefore y.1 o.key) = [] := by rw [List.takeWhile_cons_of_neg (by simp [hb])]
        unfold kdoneL doOp
        rw [ht, a1, a2]
        cases o.gone
        · simp [a3]
        · simp
    · have ih := kdoneL_doOp o hr2
      have hk := before_asymm hb
      have ht : ((x :: r).takeWhile fun y => bytesBefore y.1 o.key) = x :: r.takeWhile fun y => bytesBefore y.1 o.key := List.takeWhile_cons_of_pos (by exact hb)
      have hf : ((x :: r).filter fun y => bytesBefore o.key y.1) = r.filter fun y => bytesBefore o.key y.1 := by rw [List.filter_cons_of_neg (by simp [hk])]
      have hd : del o.key (x :: r) = x :: del o.key r := by
        unfold del
        rw [List.filter_cons_of_pos (by simpa using before_ne hb)]
      unfold kdoneL doOp at ih ⊢
      rw [ht, hf, hd]
      cases hg : o.gone
      · rw [hg] at ih
        simp only [Bool.false_eq_true, if_false] at ih ⊢
        show _ = ins (o.key, o.val) (x :: del o.key r)
        rw [ins, if_neg (by simp [hk]), ← ih]
        simp
      · rw [hg] at ih
        simp only [if_true] at ih ⊢
        rw [← ih]
        simp
theorem rising_doOp {l : List (Nm × Nm)} (o : Ox) (h : rising l) : rising (doOp l o) := by
  unfold doOp
  split
  · exact rising_del h
  · exact rising_ins (rising_del h) (getF_del _ _)
theorem rising_doAll {l : List (Nm × Nm)} (ops : List Ox) (h : rising l) : rising (doAll l ops) := by
  induction ops generalizing l with
  | nil => exact h
  | cons o r ih => exact ih (rising_doOp o h)
def PRow (w : World) (v : Value) (l : List (Nm × Nm)) : Prop := ∃ q c, v = .slice q l.length c ∧ Pairp w q l
theorem PRow.below {w w' : World} {v : Value} {l : List (Nm × Nm)} (h : PRow w v l) (hb : Below w.heap.size w w') : PRow w' v l := by
  obtain ⟨q, c, e, hp⟩ := h
  exact ⟨q, c, e, hp.below hb⟩
theorem OwnP.row {w : World} {base : Nat} {v : Value} {l : List (Nm × Nm)} (h : OwnP w base v l) : PRow w v l := by
  obtain ⟨q, c, e, hp, _⟩ := h.pairp
  exact ⟨q, c, e, hp⟩
set_option maxHeartbeats 2000000 in
set_option maxRecDepth 20000 in
theorem behind_any (v0 : Value) (l : List (Nm × Nm)) (qo : Option Addr) (oc : Nat) (ops : List Ox) (w : World) (hv : PRow w v0 l) (hr : rising l) (ho : Opp w qo ops) (hl : l.length + ops.length ≤ 4190000) :
    Calls Tryz.prog 35 #[v0, .slice qo ops.length oc] w fun e w' => ∃ v, e = .returned v ∧ Below w.heap.size w w' ∧ PRow w' v (doAll l ops) := by
  go_enter Tryz.func35, Tryz.ntmps35
  go_wp2
  go_loopw [0, 5] (fun v i wr => ∃ k : Nat, k ≤ ops.length ∧ i = .int .i64 k ∧ PRow wr v (doAll l (ops.take k)) ∧ Below w.heap.size w wr) (fun _ i _ => ops.length - (intOf i).toNat)
  case atStart => exact ⟨0, Nat.zero_le _, rfl, hv, Below.refl _ _⟩
  case round =>
    obtain ⟨k, hk, rfl, hrow, hB⟩ := hrel
    have hs := hB.size
    by_cases hlt : k < ops.length
    · obtain ⟨g, off, rfl, c0, c1, c2⟩ := (ho.below hB) k hlt
      obtain ⟨q, c, rfl, hp⟩ := hrow
      have hml := doAll_len l (ops.take k)
      rw [List.length_take] at hml
      have HS : Hid (doAll l (ops.take (k + 1)) = kdoneL (doAll l (ops.take k)) ops[k]) := by show _ = _; rw [doAll_snoc l hlt, kdoneL_doOp _ (rising_doAll _ hr)]
      generalize doAll l (ops.take k) = M at *
      go_wp2_with (go_at_call 64; refine (kdone_any q c M ops[k] _ hp (by omega)).mono ?_; rintro e w1 ⟨v, rfl, hb, hown⟩)
      go_roundw
      case rel => exact ⟨k + 1, by omega, by go_num, by rw [HS.out]; exact hown.row, hB.trans (hb.mono hs)⟩
      case measure => simp [intOf]; omega
    · rw [List.take_of_length_le (by omega)] at hrow
      go_wp2
      go_ret
      exact ⟨_, rfl, hB, hrow⟩
end Go.Proofs.YtoabedkcieindaaGreatDoor
namespace Go.Proofs.YtoabedkcieindaaGreatDoor
open Go.RowKit Go.Maps Go.Sort
def tidyK (k : Nm) : Nm := if 16 < k.length then k.take 16 else if k = [] then [107] else k
def tidyV (v : Nm) : Nm := if 64 < v.length then v.take 64 else v
def tidyOp (o : Ox) : Ox := ⟨tidyK o.key, tidyV o.val, o.gone⟩
def tidyL (l : List Ox) : List Ox := if l = [] then [⟨[107], [118], false⟩] else (l.take 8).map tidyOp
def OxBig (l : List Ox) : Prop := ∀ o ∈ l, o.key.length ≤ 9223372036854775807 ∧ o.val.length ≤ 9223372036854775807
theorem op_new {W : World} {n : Nat} (h : W.heap.size = n) {a b c : Value} : ∀ j u, [a, b, c][j]? = some u → (W.alloc (.cells #[a, b, c] 77)).cell? ((⟨n, 0, none⟩ : Addr).add j) = some u := by
  intro j u hu
  subst h
  rw [Addr.add_lit, Nat.zero_add, cell_block (block_new W _)]
  simpa using hu
theorem take_some {k : List UInt8} (h : 16 < k.length) : k.take 16 ≠ [] := by
  intro e
  have := congrArg List.length e
  rw [List.length_take, List.length_nil] at this
  omega
theorem nonempty_bytes {k : List UInt8} (h : k ≠ []) : (⟨k.toArray⟩ : ByteArray).toList.isEmpty = false := by
  rw [ByteArray.toList_eq]
  simpa using h
theorem tidy_next {wr w w2 W1 : World} {row : Option Nat} {B : Nat} (hB : Below B w wr) (hs : B ≤ wr.heap.size) (h1 : Below wr.heap.size wr W1) {O : Obj} (hg : (W1.alloc O).grownBy w2 row) (hr : ∀ k, row = some k → B ≤ k) : Below B w w2 :=
  ((hB.trans (h1.mono hs)).alloc (by have := h1.size; omega) _).grown hg (by have := h1.size; simp; omega) hr
set_option maxHeartbeats 1000000 in
set_option maxRecDepth 20000 in
theorem tidied_any (q : Option Addr) (qc : Nat) (l : List Ox) (w : World) (hp : Opp w q l) (hk : OxBig l) (_ : l.length ≤ 9223372036854775807) :
    Calls Tryz.prog 33 #[.slice q l.length qc] w fun e w' => ∃ v, e = .returned v ∧ Below w.heap.size w w' ∧ OwnO w' w.heap.size v (tidyL l) := by
  obtain ⟨i0, hi0, hz0, hz1, hz2⟩ := info_parts Tryz.info77
  go_enter Tryz.func33, Tryz.ntmps33
  go_wp2
  go_loopw [3, 4] (fun v i wr => ∃ k : Nat, k ≤ l.length ∧ k ≤ 8 ∧ i = .int .i64 k ∧ OwnO wr w.heap.size v ((l.take k).map tidyOp) ∧ Below w.heap.size w wr) (fun _ i _ => l.length - (intOf i).toNat)
  case atStart => exact ⟨0, Nat.zero_le _, by omega, rfl, World.ownsRow_nil _ _ _ _, Below.refl _ _⟩
  case round =>
    obtain ⟨k, hk1, hk8, rfl, hown, hB⟩ := hrel
    have hs := hB.size
    by_cases hlt : k < l.length
    · obtain ⟨g, off, rfl, c0, c1, c2⟩ := (hp.below hB) k hlt
      by_cases h8 : k < 8
      · obtain ⟨kl, vl⟩ := hk l[k] (List.getElem_mem hlt)
        have hz : (⟨l[k].key.toArray⟩ : ByteArray).size = l[k].key.length := rfl
        have hzv : (⟨l[k].val.toArray⟩ : ByteArray).size = l[k].val.length := rfl
        have HM : Hid ((l.take (k + 1)).map tidyOp = (l.take k).map tidyOp ++ [tidyOp l[k]]) := by show _ = _; rw [List.take_succ_eq_append_getElem hlt, List.map_append]; rfl
        have hml : ((l.take k).map tidyOp).length ≤ 8 := by rw [List.length_map, List.length_take]; omega
        have hexk : Hid ((⟨l[k].key.toArray⟩ : ByteArray).extract 0 16 = ⟨(l[k].key.take 16).toArray⟩) := by show _ = _; rw [ext_bytes]; rfl
        have hexv : Hid ((⟨l[k].val.toArray⟩ : ByteArray).extract 0 64 = ⟨(l[k].val.take 64).toArray⟩) := by show _ = _; rw [ext_bytes]; rfl
        generalize (l.take k).map tidyOp = M at *
        have hW : ∀ W1, Below wr.heap.size wr W1 → World.ownsRow W1 w.heap.size 77 3 u3 M.length (flatO M) := fun W1 h1 => ownsRow_of_block hown (fun g hg => h1.block g (World.ownsRow.lt hown g hg).2)
        by_cases e1 : 16 < l[k].key.length
        · have hne : ((⟨l[k].key.toArray⟩ : ByteArray).extract 0 16).toList.isEmpty = false := by rw [hexk.out]; exact nonempty_bytes (take_some (by omega))
          by_cases e3 : 64 < l[k].val.length
          · have hA := (Below.refl wr.heap.size wr).alloc (Nat.le_refl _) (.cells #[.string ((⟨l[k].key.toArray⟩ : ByteArray).extract 0 16), .string ((⟨l[k].val.toArray⟩ : ByteArray).extract 0 64), .bool l[k].gone] 77)
            go_wp2_with (first
              | (at_builtin; refine wpList_append_own _ rfl (.tmp 40) (.tmp 42) 60 rfl w.heap.size 77 i0 _ 3 40 Tryz.underlying60 hi0 hz0 hz1 hz2 rfl (by decide) _ M.length (flatO M) rfl (World.ownsRow.alloc (hW _ hA) _) ⟨wr.heap.size + 1, 0, none⟩ 1 1 [.string ((⟨l[k].key.toArray⟩ : ByteArray).extract 0 16), .string ((⟨l[k].val.toArray⟩ : ByteArray).extract 0 64), .bool l[k].gone] rfl rfl (op_new (by simp)) (by simp [Value.oneCell']) (by unfold maxLen; omega) (by omega) (by simp; omega) ?_; intro v' w2 hown' hgrow _)
              | go_in)
            have hb2 : Below w.heap.size w w2 := tidy_next hB hs hA hgrow (fun k hk => (World.ownsRow.lt hown k hk).1)
            have hT : tidyOp l[k] = ⟨l[k].key.take 16, l[k].val.take 64, l[k].gone⟩ := by simp [tidyOp, tidyK, tidyV, e1, e3]
            go_roundw
            case rel =>
              refine ⟨k + 1, by omega, by omega, by go_num, ?_, hb2⟩
              unfold OwnO
              rw [HM.out, flatO_snoc, List.length_append, hT]
              try rw [hexk.out] at hown'
              try rw [hexv.out] at hown'
              exact hown'
            case measure => simp [intOf]; omega
          · have hA := (Below.refl wr.heap.size wr).alloc (Nat.le_refl _) (.cells #[.string ((⟨l[k].key.toArray⟩ : ByteArray).extract 0 16), str l[k].val, .bool l[k].gone] 77)
            go_wp2_with (first
              | (at_builtin; refine wpList_append_own _ rfl (.tmp 40) (.tmp 42) 60 rfl w.heap.size 77 i0 _ 3 40 Tryz.underlying60 hi0 hz0 hz1 hz2 rfl (by decide) _ M.length (flatO M) rfl (World.ownsRow.alloc (hW _ hA) _) ⟨wr.heap.size + 1, 0, none⟩ 1 1 [.string ((⟨l[k].key.toArray⟩ : ByteArray).extract 0 16), str l[k].val, .bool l[k].gone] rfl rfl (op_new (by simp)) (by simp [Value.oneCell']) (by unfold maxLen; omega) (by omega) (by simp; omega) ?_; intro v' w2 hown' hgrow _)
              | go_in)
            have hb2 : Below w.heap.size w w2 := tidy_next hB hs hA hgrow (fun k hk => (World.ownsRow.lt hown k hk).1)
            have hT : tidyOp l[k] = ⟨l[k].key.take 16, l[k].val, l[k].gone⟩ := by simp [tidyOp, tidyK, tidyV, e1, e3]
            go_roundw
            case rel =>
              refine ⟨k + 1, by omega, by omega, by go_num, ?_, hb2⟩
              unfold OwnO
              rw [HM.out, flatO_snoc, List.length_append, hT]
              try rw [hexk.out] at hown'
              try rw [hexv.out] at hown'
              exact hown'
            case measure => simp [intOf]; omega
        · by_cases e2 : l[k].key = []
          · by_cases e3 : 64 < l[k].val.length
            · rw [e2] at c0
              have hA := (Below.refl wr.heap.size wr).alloc (Nat.le_refl _) (.cells #[str [107], .string ((⟨l[k].val.toArray⟩ : ByteArray).extract 0 64), .bool l[k].gone] 77)
              go_wp2_with (first
                | (at_builtin; refine wpList_append_own _ rfl (.tmp 40) (.tmp 42) 60 rfl w.heap.size 77 i0 _ 3 40 Tryz.underlying60 hi0 hz0 hz1 hz2 rfl (by decide) _ M.length (flatO M) rfl (World.ownsRow.alloc (hW _ hA) _) ⟨wr.heap.size + 1, 0, none⟩ 1 1 [str [107], .string ((⟨l[k].val.toArray⟩ : ByteArray).extract 0 64), .bool l[k].gone] rfl rfl (op_new (by simp)) (by simp [Value.oneCell']) (by unfold maxLen; omega) (by omega) (by simp; omega) ?_; intro v' w2 hown' hgrow _)
                | go_in)
              have hb2 : Below w.heap.size w w2 := tidy_next hB hs hA hgrow (fun k hk => (World.ownsRow.lt hown k hk).1)
              have hT : tidyOp l[k] = ⟨[107], l[k].val.take 64, l[k].gone⟩ := by simp [tidyOp, tidyK, tidyV, e3, e2]
              go_roundw
              case rel =>
                refine ⟨k + 1, by omega, by omega, by go_num, ?_, hb2⟩
                unfold OwnO
                rw [HM.out, flatO_snoc, List.length_append, hT]
                try rw [hexk.out] at hown'
                try rw [hexv.out] at hown'
                exact hown'
              case measure => simp [intOf]; omega
            · rw [e2] at c0
              have hA := (Below.refl wr.heap.size wr).alloc (Nat.le_refl _) (.cells #[str [107], str l[k].val, .bool l[k].gone] 77)
              go_wp2_with (first
                | (at_builtin; refine wpList_append_own _ rfl (.tmp 40) (.tmp 42) 60 rfl w.heap.size 77 i0 _ 3 40 Tryz.underlying60 hi0 hz0 hz1 hz2 rfl (by decide) _ M.length (flatO M) rfl (World.ownsRow.alloc (hW _ hA) _) ⟨wr.heap.size + 1, 0, none⟩ 1 1 [str [107], str l[k].val, .bool l[k].gone] rfl rfl (op_new (by simp)) (by simp [Value.oneCell']) (by unfold maxLen; omega) (by omega) (by simp; omega) ?_; intro v' w2 hown' hgrow _)
                | go_in)
              have hb2 : Below w.heap.size w w2 := tidy_next hB hs hA hgrow (fun k hk => (World.ownsRow.lt hown k hk).1)
              have hT : tidyOp l[k] = ⟨[107], l[k].val, l[k].gone⟩ := by simp [tidyOp, tidyK, tidyV, e3, e2]
              go_roundw
              case rel =>
                refine ⟨k + 1, by omega, by omega, by go_num, ?_, hb2⟩
                unfold OwnO
                rw [HM.out, flatO_snoc, List.length_append, hT]
                try rw [hexk.out] at hown'
                try rw [hexv.out] at hown'
                exact hown'
              case measure => simp [intOf]; omega
          · have e2' : (l[k].key == []) = false := by simpa using e2
            by_cases e3 : 64 < l[k].val.length
            · have hA := (Below.refl wr.heap.size wr).alloc (Nat.le_refl _) (.cells #[str l[k].key, .string ((⟨l[k].val.toArray⟩ : ByteArray).extract 0 64), .bool l[k].gone] 77)
              go_wp2_with (first
                | (at_builtin; refine wpList_append_own _ rfl (.tmp 40) (.tmp 42) 60 rfl w.heap.size 77 i0 _ 3 40 Tryz.underlying60 hi0 hz0 hz1 hz2 rfl (by decide) _ M.length (flatO M) rfl (World.ownsRow.alloc (hW _ hA) _) ⟨wr.heap.size + 1, 0, none⟩ 1 1 [str l[k].key, .string ((⟨l[k].val.toArray⟩ : ByteArray).extract 0 64), .bool l[k].gone] rfl rfl (op_new (by simp)) (by simp [Value.oneCell']) (by unfold maxLen; omega) (by omega) (by simp; omega) ?_; intro v' w2 hown' hgrow _)
                | go_in)
              have hb2 : Below w.heap.size w w2 := tidy_next hB hs hA hgrow (fun k hk => (World.ownsRow.lt hown k hk).1)
              have hT : tidyOp l[k] = ⟨l[k].key, l[k].val.take 64, l[k].gone⟩ := by simp [tidyOp, tidyK, tidyV, e1, e3, e2]
              go_roundw
              case rel =>
                refine ⟨k + 1, by omega, by omega, by go_num, ?_, hb2⟩
                unfold OwnO
                rw [HM.out, flatO_snoc, List.length_append, hT]
                try rw [hexk.out] at hown'
                try rw [hexv.out] at hown'
                exact hown'
              case measure => simp [intOf]; omega
            · have hA := (Below.refl wr.heap.size wr).alloc (Nat.le_refl _) (.cells #[str l[k].key, str l[k].val, .bool l[k].gone] 77)
              go_wp2_with (first
                | (at_builtin; refine wpList_append_own _ rfl (.tmp 40) (.tmp 42) 60 rfl w.heap.size 77 i0 _ 3 40 Tryz.underlying60 hi0 hz0 hz1 hz2 rfl (by decide) _ M.length (flatO M) rfl (World.ownsRow.alloc (hW _ hA) _) ⟨wr.heap.size + 1, 0, none⟩ 1 1 [str l[k].key, str l[k].val, .bool l[k].gone] rfl rfl (op_new (by simp)) (by simp [Value.oneCell']) (by unfold maxLen; omega) (by omega) (by simp; omega) ?_; intro v' w2 hown' hgrow _)
                | go_in)
              have hb2 : Below w.heap.size w w2 := tidy_next hB hs hA hgrow (fun k hk => (World.ownsRow.lt hown k hk).1)
              have hT : tidyOp l[k] = ⟨l[k].key, l[k].val, l[k].gone⟩ := by simp [tidyOp, tidyK, tidyV, e1, e3, e2]
              go_roundw
              case rel =>
                refine ⟨k + 1, by omega, by omega, by go_num, ?_, hb2⟩
                unfold OwnO
                rw [HM.out, flatO_snoc, List.length_append, hT]
                try rw [hexk.out] at hown'
                try rw [hexv.out] at hown'
                exact hown'
              case measure => simp [intOf]; omega
      · have HE : Hid (tidyL l = (l.take k).map tidyOp) := by
          show _ = _
          have h0 : l ≠ [] := by intro h; rw [h] at hlt; simp at hlt
          unfold tidyL; rw [if_neg h0, show k = 8 by omega]
        have hne0 : (l.take k).map tidyOp ≠ [] := by
          intro h; have := congrArg List.length h; rw [List.length_map, List.length_take, List.length_nil] at this; omega
        obtain ⟨qq, cc, rfl, hopp, _⟩ := hown.opp
        generalize (l.take k).map tidyOp = M at *
        have hm0 : M.length ≠ 0 := fun h => hne0 (List.length_eq_zero_iff.1 h)
        have hm1 : ((M.length : Int) == 0) = false := by simpa using hne0
        go_wp2
        go_ret
        refine ⟨_, rfl, hB, ?_⟩
        rw [HE.out]
        exact hown
    · have hkl : k = l.length := by omega
      by_cases h0 : l = []
      · have HE : Hid (tidyL l = [⟨[107], [118], false⟩]) := by show _ = _; unfold tidyL; rw [if_pos h0]
        have hM : (l.take k).map tidyOp = [] := by rw [h0]; simp
        rw [hM] at hown
        obtain ⟨qq, cc, rfl, hopp, _⟩ := hown.opp
        go_wp2_with (first
          | (at_builtin; refine wpList_append_own _ rfl (.tmp 47) (.tmp 49) 60 rfl w.heap.size 77 i0 _ 3 40 Tryz.underlying60 hi0 hz0 hz1 hz2 rfl (by decide) _ 0 [] rfl (World.ownsRow.alloc hown _) ⟨wr.heap.size, 0, none⟩ 1 1 [str [107], str [118], .bool false] rfl rfl (op_new rfl) (by simp [Value.oneCell']) (by unfold maxLen; omega) (by omega) (by simp; omega) ?_; intro v' w2 hown' hgrow _)
          | go_in)
        go_ret
        refine ⟨_, rfl, (hB.alloc hs _).grown hgrow (by simp; omega) (fun k hk => (World.ownsRow.lt hown k hk).1), ?_⟩
        rw [HE.out]
        exact hown'
      · have HE : Hid (tidyL l = (l.take k).map tidyOp) := by
          show _ = _
          unfold tidyL; rw [if_neg h0, List.take_of_length_le (by omega), List.take_of_length_le (by omega)]
        have hne0 : (l.take k).map tidyOp ≠ [] := by
          intro h; have := congrArg List.length h; rw [List.length_map, List.length_take, List.length_nil] at this
          exact h0 (List.length_eq_zero_iff.1 (by omega))
        obtain ⟨qq, cc, rfl, hopp, _⟩ := hown.opp
        generalize (l.take k).map tidyOp = M at *
        have hm0 : M.length ≠ 0 := fun h => hne0 (List.length_eq_zero_iff.1 h)
        have hm1 : ((M.length : Int) == 0) = false := by simpa using hne0
        go_wp2
        go_ret
        refine ⟨_, rfl, hB, ?_⟩
        rw [HE.out]
        exact hown
end Go.Proofs.YtoabedkcieindaaGreatDoor



namespace Go.Proofs.YtoabedkcieindaaGreatDoor
open Go.RowKit Go.Maps Go.Sort Go.Shelf
structure Lx (w : World) (U : Nat → Prop) (bx bz : Nat) (d : Dk) (st : Ls) : Prop where
  ex : ∃ (bd T bm bsn : Nat) (S E : Nat → Prop) (s : Sl) (l : List Tr), w.heap[bx]? = some (.cells #[.pointer (some ⟨bd, 0, none⟩)] 116) ∧ w.heap[bz]? = some (.cells #[.pointer (some ⟨T, 0, none⟩)] 118) ∧ U bx ∧ U bz ∧
    (∀ k, (S k ∨ E k ∨ k = T ∨ k = bm ∨ k = bsn) → U k ∧ k ≠ bx ∧ k ≠ bz) ∧ Lsy w S E T bd bm bsn s l d st
theorem Lsy.kept {w w' : World} {S E V : Nat → Prop} {T bd bm bsn : Nat} {s : Sl} {l : List Tr} {d : Dk} {st : Ls} (h : Lsy w S E T bd bm bsn s l d st) (k : Kp V w w') (hV : ∀ i, (S i ∨ E i ∨ i = T ∨ i = bm ∨ i = bsn) → ¬ V i) : Lsy w' S E T bd bm bsn s l d st :=
  ⟨h.prog.kept k (fun i s => hV i (.inl s)), h.at_.kept k (hV _ (.inr (.inr (.inl rfl)))) (hV _ (.inr (.inr (.inr (.inl rfl))))) (hV _ (.inr (.inr (.inr (.inr rfl))))) (fun i e => hV i (.inr (.inl e))), h.dj, h.nT, h.nm, h.nn⟩
theorem Lx.kept {w w' : World} {U V : Nat → Prop} {bx bz : Nat} {d : Dk} {st : Ls} (h : Lx w U bx bz d st) (k : Kp V w w') (hV : ∀ i, U i → ¬ V i) : Lx w' U bx bz d st := by
  obtain ⟨bd, T, bm, bsn, S, E, s, l, h1, h2, h3, h4, h5, h6⟩ := h.ex
  exact ⟨bd, T, bm, bsn, S, E, s, l, k.at h1 (hV _ h3), k.at h2 (hV _ h4), h3, h4, h5, h6.kept k (fun i x => hV i (h5 i x).1)⟩
theorem Lx.below {w w' : World} {U : Nat → Prop} {bx bz : Nat} {d : Dk} {st : Ls} (h : Lx w U bx bz d st) (k : Below w.heap.size w w') : Lx w' U bx bz d st := h.kept (V := fun _ => False) (Kp.of_below k) (fun _ _ f => f)
theorem Lx.mono {w : World} {U V : Nat → Prop} {bx bz : Nat} {d : Dk} {st : Ls} (h : Lx w U bx bz d st) (hV : ∀ k, k < w.heap.size → U k → V k) : Lx w V bx bz d st := by
  obtain ⟨bd, T, bm, bsn, S, E, s, l, h1, h2, h3, h4, h5, h6⟩ := h.ex
  refine ⟨bd, T, bm, bsn, fun k => S k ∧ k < w.heap.size, E, s, l, h1, h2, hV _ (lt_of_block h1) h3, hV _ (lt_of_block h2) h4, fun k hk => ?_, ⟨h6.prog.mono (fun k hk s => ⟨s, hk⟩), h6.at_, fun k e x => h6.dj k e x.1, fun x => h6.nT x.1, fun x => h6.nm x.1, fun x => h6.nn x.1⟩⟩
  have hlt : k < w.heap.size := by
    rcases hk with x | x | rfl | rfl | rfl
    · exact x.2
    · exact h6.at_.bnd k x
    · exact lt_of_block h6.at_.blk
    · exact h6.at_.mem.lt
    · exact h6.at_.snp.lt
  have := h5 k (hk.imp (fun x => x.1) id)
  exact ⟨hV k hlt this.1, this.2⟩
theorem Lx.step {w w' : World} {U S E : Nat → Prop} {bx bz bd T bm bsn : Nat} {r : Int × Dk × Ls} (h1 : w.heap[bx]? = some (.cells #[.pointer (some ⟨bd, 0, none⟩)] 116)) (h2 : w.heap[bz]? = some (.cells #[.pointer (some ⟨T, 0, none⟩)] 118)) (h3 : U bx) (h4 : U bz) (h5 : ∀ k, (S k ∨ E k ∨ k = T ∨ k = bm ∨ k = bsn) → U k ∧ k ≠ bx ∧ k ≠ bz)
    (hc : CmPost w w' S E T bd bm bsn r) (k : Kp (fun k => S k ∨ k = T ∨ k = bm) w w') : Lx w' (Nw U w) bx bz r.2.1 r.2.2 ∧ Kp U w w' := by
  obtain ⟨S', E', s', l', a1, a2, a3, a4, a5, a6, hP, hL⟩ := hc
  have hlx := lt_of_block h1
  have hlz := lt_of_block h2
  have q : ∀ k, (S k ∨ k = T ∨ k = bm) → U k ∧ k ≠ bx ∧ k ≠ bz := fun k hk => h5 k (hk.imp id (fun x => .inr (x.imp id .inl)))
  refine ⟨⟨bd, T, bm, bsn, S', E', s', l', k.at h1 (fun x => (q _ x).2.1 rfl), k.at h2 (fun x => (q _ x).2.2 rfl), .inl h3, .inl h4, fun i hi => ?_, ⟨hP, hL, a3, a4, a5, a6⟩⟩, k.mono (fun i x => (q i x).1)⟩
  have up : ∀ {P : Nat → Prop}, (∀ j, P j → U j ∧ j ≠ bx ∧ j ≠ bz) → Nw P w i → Nw U w i ∧ i ≠ bx ∧ i ≠ bz := fun hP x => by
    rcases x with x | x
    · exact ⟨.inl (hP i x).1, (hP i x).2⟩
    · exact ⟨.inr x, by omega, by omega⟩
  rcases hi with x | x | x | x | x
  · exact up (fun j hj => h5 j (.inl hj)) (a1 i x)
  · exact up (fun j hj => h5 j (.inr (.inl hj))) (a2 i x)
  · have := h5 i (.inr (.inr (.inl x))); exact ⟨.inl this.1, this.2⟩
  · have := h5 i (.inr (.inr (.inr (.inl x)))); exact ⟨.inl this.1, this.2⟩
  · have := h5 i (.inr (.inr (.inr (.inr x)))); exact ⟨.inl this.1, this.2⟩
set_option maxHeartbeats 400000 in
theorem sinner_any {w : World} {bz T : Nat} (h : w.heap[bz]? = some (.cells #[.pointer (some ⟨T, 0, none⟩)] 118)) :
    Calls Tryz.prog 53 #[.pointer (some ⟨bz, 0, none⟩)] w fun e w' => e = .returned (.pointer (some ⟨T, 0, none⟩)) ∧ w' = w := by
  obtain ⟨c0, z0⟩ := cells1 h
  clear h
  go_enter Tryz.func53, Tryz.ntmps53
  go_wp2
  go_ret
  exact ⟨rfl, rfl⟩
end Go.Proofs.YtoabedkcieindaaGreatDoor

namespace Go.Proofs.YtoabedkcieindaaGreatDoor
structure Sq where
  tk : Nat
  l : List (Int × Int × Mp)
variable {Q : Sq}
theorem Stp.shapedB {O : List Tb} {c : Int} {L M N : Nat} {p : Int} {bs : List Int} {b : Int} (hb : b ∈ bs) : ∀ (n : Nat) {ts : List Tb}, ts.length ≤ n → Stp O c L M N ts → ∀ k, viewE b (newF (shapedX p bs ts)).flatten k = viewE b (newF ts).flatten k := by
  intro n
  induction n with
  | zero =>
    intro ts hn h
    obtain rfl : ts = [] := by cases ts with | nil => rfl | cons a r => simp at hn
    exact fun k => rfl
  | succ n ih =>
    intro ts hn h
    by_cases hc : (crowd p (ts.map (·.level))).2 = 0
    · rw [shapedX_end hc]
      exact fun _ => rfl
    · have hl := stepT_len (bs := bs) hc
      rw [shapedX_step hc]
      intro k
      refine (ih (by omega) (h.step (bs := bs) hc) k).trans ?_
      obtain ⟨g1, g2⟩ := crowd_span hc
      exact view_repl (by omega) h.srt (.inl hb) k
def bareE (e : En) : Prop := e.op.gone = true → e.op.val = []
structure Lsu (d : Dk) (s : Ls) (M : Mp) (n c : Nat) (Q : Sq) : Prop where
  lin : ∃ bs m, Lin d s bs m ∧ s.len = (logOf bs).length ∧ bs.flatten.length ≤ n
  ok : d.Ok
  stl : Stl d
  qu : d.quota = 1048576
  turn : s.turn = d.turn
  pol : 0 ≤ s.policy ∧ s.policy ≤ 2
  sn : s.snaps = Q.l.map fun q => (q.1, q.2.1)
  stk : s.stuck = false
  mok : MmOk s.mem
  mop : ∀ e ∈ flatM s.mem, opOk e.op = true ∧ e.batch ≤ s.batch
  bat : 0 ≤ s.batch ∧ s.batch ≤ n
  rise : rising M
  view : ∀ k, viewE s.batch s.layers.flatten k = getF k M
  srt : ∀ x ∈ s.tabs, srt x.es
  tok : ∀ x ∈ s.tabs, ∀ e ∈ x.es, opOk e.op = true ∧ e.batch ≤ s.batch
  ne : ∀ x ∈ s.tabs, x.es ≠ []
  lv : nonR (s.tabs.map (·.level))
  ents : entsT s.tabs + (flatM s.mem).length ≤ n
  lev : ∀ x ∈ s.tabs, x.level + s.tabs.length + mz s.mem ≤ n
  few : s.tabs.length + mz s.mem ≤ n
  log : s.log + mz s.mem ≤ n
  next : s.next ≤ 1 + 111 * c
  mbar : ∀ e ∈ flatM s.mem, bareE e
  tbar : ∀ x ∈ s.tabs, ∀ e ∈ x.es, bareE e
  lo : s.loose = true → 0 < s.len
  tkn : s.taken = Q.tk
  snk : ∀ q ∈ Q.l, (0 ≤ q.2.1 ∧ q.2.1 ≤ s.batch ∧ q.1 ≤ Q.tk) ∧ rising q.2.2 ∧ ∀ k, viewE q.2.1 s.layers.flatten k = getF k q.2.2
theorem Lsu.up {d : Dk} {s : Ls} {M : Mp} {n c c' : Nat} (h : Lsu d s M n c Q) (hc : c ≤ c') : Lsu d s M n c' Q := { h with next := Nat.le_trans h.next (by omega) }
theorem Lsu.num {d : Dk} {s : Ls} {M : Mp} {n c : Nat} (h : Lsu d s M n c Q) : 1 ≤ s.next ∧ (∀ x ∈ s.tabs, 1 ≤ x.number ∧ x.number < s.next) ∧ (s.tabs.map (·.number)).Nodup := by
  obtain ⟨bs, m, hl, _⟩ := h.lin
  obtain ⟨h1, h2, h3, h4, h5⟩ := hl.dur.says.ok
  simp only [manOf] at h1 h4 h5
  refine ⟨h1, ?_, by simpa [Function.comp_def] using h5⟩
  have : ∀ (l : List Pl) (lv : Nat), plsOk s.next lv l = true → ∀ p ∈ l, 1 ≤ p.number ∧ p.number < s.next := by
    intro l
    induction l with
    | nil => intro _ _ p hp; cases hp
    | cons q r ih =>
      intro lv hq p hp
      simp only [plsOk, Bool.and_eq_true, decide_eq_true_eq] at hq
      rcases List.mem_cons.1 hp with rfl | hp
      · exact ⟨hq.1.1.1, hq.1.1.2⟩
      · exact ih _ hq.2 p hp
  exact fun x hx => this _ _ h4 ⟨x.number, x.level⟩ (List.mem_map.2 ⟨x, hx, rfl⟩)
theorem Lsu.inK {d : Dk} {s : Ls} {M : Mp} {n c : Nat} (h : Lsu d s M n c Q) {q : Int × Int × Mp} (hq : q ∈ Q.l) : q.2.1 ∈ s.kept := by
  unfold Ls.kept
  rw [h.sn, List.map_map]
  exact List.mem_map.2 ⟨q, hq, rfl⟩
theorem Lsu.ofK {d : Dk} {s : Ls} {M : Mp} {n c : Nat} (h : Lsu d s M n c Q) {b : Int} (hb : b ∈ s.kept) : 0 ≤ b ∧ b ≤ s.batch := by
  unfold Ls.kept at hb
  rw [h.sn, List.map_map] at hb
  obtain ⟨q, hq, rfl⟩ := List.mem_map.1 hb
  have := (h.snk q hq).1
  exact ⟨this.1, this.2.1⟩
theorem Lsu.our {d : Dk} {s : Ls} {M : Mp} {n c : Nat} (h : Lsu d s M n c Q) : ∀ x ∈ d.files, Our x.1 := fun x hx => by
  obtain ⟨bs, m, hl, _⟩ := h.lin
  obtain ⟨h1, h2, h3, h4, h5⟩ := hl.dur.says.ok
  simp only [manOf] at h2 h3
  have := needs_mem (hl.cln h.stl.al x hx)
  unfold needN at this
  simp only [List.mem_cons, List.mem_map] at this
  rcases this with e | e | ⟨t, ht, e⟩
  · exact .inl e
  · exact .inr (.inr ⟨s.log, by omega, .inl e⟩)
  · have := (h.num.2.1 t ht).2
    exact .inr (.inr ⟨t.number, by omega, .inr e.symm⟩)
theorem Lsu.room {d : Dk} {s : Ls} {M : Mp} {n c : Nat} (h : Lsu d s M n c Q) (hn : n ≤ 110) : used d.files ≤ 25000 ∧ d.files.length ≤ 2 + s.tabs.length := by
  obtain ⟨bs, m, hl, _, hb⟩ := h.lin
  have h1 := hl.used h.stl.al
  have h2 := szT_len (ts := s.tabs) (fun t ht e he => (h.tok t ht e he).1)
  have h3 := logOf_len (bs := bs) hl.dur.says.bok
  have h4 := h.ents
  have h5 := h.few
  refine ⟨?_, hl.count h.stl.al⟩
  omega
theorem mz_one {m : Mm} (h : m ≠ []) : mz m = 1 := by unfold mz; cases hh : m with | nil => exact absurd hh h | cons a r => rfl
structure Cmt (s : Ls) (M : Mp) (n : Nat) (T : List Tb) (log : Nat) : Prop where
  lw : log = s.log ∨ log = s.log + 1
  stp : ∃ X Y, Stp s.tabs s.batch (s.tabs.length + 1) X Y T ∧ X + (if log = s.log then mz s.mem else 0) ≤ n ∧ Y + (if log = s.log then (flatM s.mem).length else 0) ≤ n
  few : T.length + (if log = s.log then mz s.mem else 0) ≤ n
  lg : log + (if log = s.log then mz s.mem else 0) ≤ n
  bar : ∀ x ∈ T, ∀ e ∈ x.es, bareE e
  view : ∀ k, viewE s.batch ((if log = s.log then flatM s.mem else []) ++ (newF T).flatten) k = getF k M
  snv : ∀ b ∈ s.kept, ∀ k, viewE b ((if log = s.log then flatM s.mem else []) ++ (newF T).flatten) k = viewE b s.layers.flatten k
theorem Lsu.commit {d : Dk} {s : Ls} {M : Mp} {n c : Nat} (h : Lsu d s M n c Q) (hn : n ≤ 110) (hc : c ≤ 1000000000) {T : List Tb} {log : Nat} (hC : Cmt s M n T log) :
    Rm d (szT T + (20 + 16 * T.length)) (T.length + 2) ∧ (commitX d s T log).1 = 0 ∧ Lsu (commitX d s T log).2.1 (commitX d s T log).2.2 M n (c + 1) Q ∧ (commitX d s T log).2.2.policy = s.policy ∧ (commitX d s T log).2.2.batch = s.batch ∧ (commitX d s T log).2.2.tabs.length = T.length ∧ (commitX d s T log).2.2.mem = if log = s.log then s.mem else [] := by
  obtain ⟨X, Y, a, hX, hY⟩ := hC.stp
  obtain ⟨n1, n2, n3⟩ := h.num
  have hf := h.few
  have hnx := h.next
  have hlen := a.len
  have htf := hC.few
  have htl := hC.lg
  have hslog := h.log
  have hFit : Fits s T := by
    refine ⟨a.lv, fun t ht => ?_, fun t ht h0 => ?_, ?_, fun t ht => ?_, ?_, ?_⟩
    · have := a.top t ht; omega
    · exact a.old.subset (List.mem_filter.2 ⟨ht, by simpa using h0⟩)
    · exact List.Nodup.sublist (a.old.map _) n3
    · exact ⟨layOk_of (a.srt t ht) (fun e he => ⟨(a.ok t ht e he).1, before_nil _⟩), a.ne t ht⟩
    · exact Nat.le_trans (List.length_filter_le _ _) hlen
    · omega
  have hR : Rm d (szT T + (20 + 16 * T.length)) (T.length + 2) := by
    obtain ⟨r1, r2⟩ := h.room hn
    have z1 := szT_len (ts := T) (fun t ht e he => (a.ok t ht e he).1)
    have z2 := a.ents
    exact ⟨h.ok, h.stl, by rw [h.qu]; omega, h.our, by omega⟩
  obtain ⟨c1, c2, c3, c4, _, _⟩ := Rm.commit (s := s) log hR (by omega)
  obtain ⟨bs, m, hl, hlen0, hbs⟩ := h.lin
  refine ⟨hR, c1, ?_⟩
  rcases commit_any hl hFit (log := log) (hC.lw.imp id fun e => ⟨e, by omega⟩) with ⟨x, _⟩ | ⟨_, ts1, nx1, g1, g2, g3, g4, g5, g6⟩
  · exact absurd c1 x
  · have hll : ts1.length = T.length := by have := congrArg List.length g2; simpa using this
    have hmem : ∀ x ∈ ts1, ∃ y ∈ T, y.es = x.es := fun x hx => mem_by_map g2 hx
    have hmel : ∀ x ∈ ts1, ∃ y ∈ T, y.level = x.level := fun x hx => mem_by_map g3 hx
    have hV := hC.view
    have hW := hC.snv
    have hnx1 : nx1 ≤ 1 + 111 * (c + 1) := by omega
    by_cases hlg : log = s.log
    · have et : s.turned ts1 nx1 log = { s with tabs := ts1, next := nx1 } := by unfold Ls.turned; rw [if_pos hlg]
      rw [et] at g1 g6
      rw [if_pos hlg, if_pos hlg] at g6
      rw [if_pos hlg] at hX hY htf htl
      simp only [if_pos hlg] at hV hW
      rw [g1]
      refine ⟨⟨⟨bs, m, g6, hlen0, hbs⟩, c2.ok, c2.stl, c3.trans h.qu, h.turn.trans c4.symm, h.pol, h.sn, h.stk, h.mok, h.mop, h.bat, h.rise, fun k => ?_, fun x hx => ?_, fun x hx => ?_, fun x hx => ?_, ?_, ?_, fun x hx => ?_, ?_, h.log, hnx1, h.mbar, fun x hx => ?_, h.lo, h.tkn, fun q hq => ?_⟩, rfl, rfl, hll, (if_pos hlg).symm⟩
      · rw [← hV k]
        have : (Ls.layers { s with tabs := ts1, next := nx1 }).flatten = flatM s.mem ++ (newF T).flatten := by
          rw [← newF_by g2]; simp [Ls.layers]
        rw [this]
      · obtain ⟨y, hy, e⟩ := hmem x hx; rw [← e]; exact a.srt y hy
      · obtain ⟨y, hy, e⟩ := hmem x hx; rw [← e]; exact a.ok y hy
      · obtain ⟨y, hy, e⟩ := hmem x hx; rw [← e]; exact a.ne y hy
      · simp only; rw [g3]; exact a.lv
      · simp only; rw [entsT_by g2]; have := a.ents; omega
      · obtain ⟨y, hy, e⟩ := hmel x hx
        have := a.top y hy
        simp only
        omega
      · simp only; omega
      · obtain ⟨y, hy, e⟩ := hmem x hx; rw [← e]; exact hC.bar y hy
      · obtain ⟨u1, u2, u3⟩ := h.snk q hq
        refine ⟨u1, u2, fun k => ?_⟩
        rw [← u3 k, ← hW q.2.1 (h.inK hq) k]
        have : (Ls.layers { s with tabs := ts1, next := nx1 }).flatten = flatM s.mem ++ (newF T).flatten := by
          rw [← newF_by g2]; simp [Ls.layers]
        rw [this]
    · have et : s.turned ts1 nx1 log = { s with tabs := ts1, next := nx1, mem := [], log := log, len := 0, loose := false } := by unfold Ls.turned; rw [if_neg hlg]
      rw [et] at g1 g6
      rw [if_neg hlg, if_neg hlg] at g6
      rw [if_neg hlg] at hX hY htf htl
      simp only [if_neg hlg, List.nil_append] at hV hW
      rw [g1]
      refine ⟨⟨⟨[], 0, g6, rfl, by simp⟩, c2.ok, c2.stl, c3.trans h.qu, h.turn.trans c4.symm, h.pol, h.sn, h.stk, ⟨List.Pairwise.nil, fun x hx => by cases hx⟩, fun e he => (by simp [flatM] at he), h.bat, h.rise, fun k => ?_, fun x hx => ?_, fun x hx => ?_, fun x hx => ?_, ?_, ?_, fun x hx => ?_, ?_, ?_, hnx1, fun e he => (by simp [flatM] at he), fun x hx => ?_, fun hlo => (by cases hlo), h.tkn, fun q hq => ?_⟩, rfl, rfl, hll, (if_neg hlg).symm⟩
      · rw [← hV k]
        have : (Ls.layers { s with tabs := ts1, next := nx1, mem := [], log := log, len := 0, loose := false }).flatten = (newF T).flatten := by
          rw [← newF_by g2]; simp [Ls.layers, flatM]
        rw [this]
      · obtain ⟨y, hy, e⟩ := hmem x hx; rw [← e]; exact a.srt y hy
      · obtain ⟨y, hy, e⟩ := hmem x hx; rw [← e]; exact a.ok y hy
      · obtain ⟨y, hy, e⟩ := hmem x hx; rw [← e]; exact a.ne y hy
      · simp only; rw [g3]; exact a.lv
      · simp only [flatM, List.flatMap_nil, List.length_nil, Nat.add_zero]; rw [entsT_by g2]; have := a.ents; omega
      · obtain ⟨y, hy, e⟩ := hmel x hx
        have := a.top y hy
        simp only [mz, List.isEmpty_nil, if_true]
        omega
      · simp only [mz, List.isEmpty_nil, if_true]; omega
      · simp only [mz, List.isEmpty_nil, if_true]; omega
      · obtain ⟨y, hy, e⟩ := hmem x hx; rw [← e]; exact hC.bar y hy
      · obtain ⟨u1, u2, u3⟩ := h.snk q hq
        refine ⟨u1, u2, fun k => ?_⟩
        rw [← u3 k, ← hW q.2.1 (h.inK hq) k]
        have : (Ls.layers { s with tabs := ts1, next := nx1, mem := [], log := log, len := 0, loose := false }).flatten = (newF T).flatten := by
          rw [← newF_by g2]; simp [Ls.layers, flatM]
        rw [this]
end Go.Proofs.YtoabedkcieindaaGreatDoor
