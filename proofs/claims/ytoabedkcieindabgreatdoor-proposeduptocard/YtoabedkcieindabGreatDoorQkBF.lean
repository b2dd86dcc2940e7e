import Derived.Test.YtoabedkcieindabGreatDoorQkBE
import Derived.Test.YtoabedkcieindabGreatDoorQkAX
namespace Go.Proofs.YtoabedkcieindabGreatDoor
open Go.RowKit Go.Maps Go.Sort Go.Shelf
section fork
variable {P : Program} {ops : Array Oper} {Q : Exit → Act → World → Prop} {md : Region.Mode} {S : World → Prop} {c : Nat}
theorem wpAnyC_fork {i j : Nat} {oi oj : Oper} {fuel : Nat} {listed : Array Bool} {a : Act} {w : World} (hr : Region.ready md ops listed = [i, j]) (hi : ops[i]? = some oi) (hj : ops[j]? = some oj) (wi : Region.wanted oi (yielded ops a.tmps) = true) (wj : Region.wanted oj (yielded ops a.tmps) = true)
    (h1 : ∀ K : Act → World → Prop, Shut (∀ a' w', S w' → wpAnyC P md ops Q S c fuel (listed.setIfInBounds i true) a' w' → K a' w') → oi.wp P a w K Q)
    (h2 : ∀ K : Act → World → Prop, Shut (∀ a' w', S w' → wpAnyC P md ops Q S c fuel (listed.setIfInBounds j true) a' w' → K a' w') → oj.wp P a w K Q) : wpAnyC P md ops Q S c (fuel + 1) listed a w := by
  refine ⟨fun h0 => (by rw [hr] at h0; cases h0), fun k hk => ?_⟩
  rw [hr] at hk
  have hk' : k = i ∨ k = j := by simpa using hk
  rcases hk' with rfl | rfl
  · unfold wpOp
    rw [hi]
    simp only [wi, if_true]
    exact .inl (h1 _ (fun a' w' hS hW => ⟨fun _ => hS, hW⟩))
  · unfold wpOp
    rw [hj]
    simp only [wj, if_true]
    exact .inl (h2 _ (fun a' w' hS hW => ⟨fun _ => hS, hW⟩))
end fork
theorem repl_map (l : List Tr) (f t : Nat) (b : Tr) : (l.take f ++ (if b.1.es = [] then [] else [b]) ++ l.drop t).map (·.1) = replT (l.map (·.1)) f t b.1 := by
  unfold replT
  rw [List.map_append, List.map_append, List.map_take, List.map_drop, List.append_assoc]
  congr 2
  cases b.1.es <;> simp
theorem repl_mem {l : List Tr} {f t : Nat} {b x : Tr} (hx : x ∈ l.take f ++ (if b.1.es = [] then [] else [b]) ++ l.drop t) : x ∈ l ∨ x = b := by
  rcases List.mem_append.1 hx with hx | hx
  · rcases List.mem_append.1 hx with hx | hx
    · exact .inl (List.mem_of_mem_take hx)
    · split at hx
      · simp at hx
      · exact .inr (by simpa using hx)
  · exact .inl (List.mem_of_mem_drop hx)
theorem merge_fit {w Wf : World} {T log f t lv : Nat} {l : List Tr} {es : Ly} {qe : Option Addr} {ce : Nat} {R : Ending → World → Prop} (hbF : Below w.heap.size w Wf) (hes : TrEs w l) (hse : SlAt Wf (qe, es.length, ce) es) (hf : ∀ a, qe = some a → w.heap.size ≤ a.block ∧ a.block < Wf.heap.size)
    (hC : ∀ w1 s2 l2, Below w.heap.size w w1 → TrAt w1 s2 l2 → TrEs w1 l2 → l2.map (·.1) = replT (l.map (·.1)) f t ⟨0, lv, es⟩ → (∀ x ∈ l2, x ∈ l ∨ ∀ a, x.2.1 = some a → w.heap.size ≤ a.block ∧ a.block < w1.heap.size) → Calls Tryz.prog 71 #[.pointer (some ⟨T, 0, none⟩), slV s2, .int .i64 log] w1 fun e w' => ∃ v, e = .returned v ∧ Calls Tryz.prog 54 #[.pointer (some ⟨T, 0, none⟩), v] w' fun e' w'' => (∃ v', e' = .returned v') ∧ R e' w'') :
    ∀ w1 s2, Below Wf.heap.size Wf w1 → TrAt w1 s2 (l.take f ++ (if es = [] then [] else [((⟨0, lv, es⟩ : Tb), ((qe, es.length, ce) : Sl))]) ++ l.drop t) → Calls Tryz.prog 71 #[.pointer (some ⟨T, 0, none⟩), slV s2, .int .i64 log] w1 fun e w' => ∃ v, e = .returned v ∧ Calls Tryz.prog 54 #[.pointer (some ⟨T, 0, none⟩), v] w' fun e' w'' => (∃ v', e' = .returned v') ∧ R e' w'' := fun w1 s2 hb ht => by
  refine hC w1 s2 _ (hbF.trans (hb.mono hbF.size)) ht (fun x hx => ?_) (repl_map l f t (⟨0, lv, es⟩, (qe, es.length, ce))) (fun x hx => ?_)
  · rcases repl_mem (b := (⟨0, lv, es⟩, (qe, es.length, ce))) hx with hx | rfl
    · exact ((hes x hx).below hbF).below hb
    · exact hse.below hb
  · rcases repl_mem (b := (⟨0, lv, es⟩, (qe, es.length, ce))) hx with hx | rfl
    · exact .inl hx
    · exact .inr fun a ha => ⟨(hf a ha).1, Nat.lt_of_lt_of_le (hf a ha).2 hb.size⟩
set_option maxHeartbeats 2000000 in
set_option maxRecDepth 100000 in
theorem sMerge_any (T bd bm bsn : Nat) (s : Sl) (l : List Tr) (st : Ls) (E : Nat → Prop) (q : Option Addr) (qc : Nat) (ns : List Nat) (f t lv : Nat) (es : Ly) (w : World) (R : Ending → World → Prop) (hL : LsAt w E T bd bm bsn s l st) {m0 r0 f0 : Value} {dead : Bool} {tn : Int} (hd : w.heap[bd]? = some (.cells #[m0, r0, f0, .bool dead, .int .i64 tn] 117)) (h0 : lwritable tn dead st = 0)
    (hn : Inp w q ns) (h1 : 1 ≤ ns.length) (h2 : ns.length ≤ l.length) (hsp : spanR ((idxs st ns).mergeSort (fun x y => decide (x ≤ y))) = ((f : Int), (t : Int))) (hft : f < t) (htl : t ≤ l.length) (hll : l.length ≤ 999) (hlv : (l[f]'(by omega)).1.level = lv) (hen0 : entsT (l.map (·.1)) ≤ 100000) (hes : mergeT st.kept (l.map (·.1)) f t = es) (hesl : es.length ≤ 1000000)
    (hC : ∀ w1 s2 l2, Below w.heap.size w w1 → TrAt w1 s2 l2 → TrEs w1 l2 → l2.map (·.1) = replT (l.map (·.1)) f t ⟨0, lv, es⟩ → (∀ x ∈ l2, x ∈ l ∨ ∀ a, x.2.1 = some a → w.heap.size ≤ a.block ∧ a.block < w1.heap.size) → Calls Tryz.prog 71 #[.pointer (some ⟨T, 0, none⟩), slV s2, .int .i64 st.log] w1 fun e w' => ∃ v, e = .returned v ∧ Calls Tryz.prog 54 #[.pointer (some ⟨T, 0, none⟩), v] w' fun e' w'' => (∃ v', e' = .returned v') ∧ R e' w'') :
    Calls Tryz.prog 42 #[.pointer (some ⟨T, 0, none⟩), .slice q ns.length qc] w fun e w' => R e w' := by
  have hw := lWritable_any hL hd
  rw [h0] at hw
  have hSp := fun w1 (hb : Below w.heap.size w w1) => span_any T bd bm bsn s l st E q qc ns w1 (hL.below hb) (by omega) (hn.below hb) h1 h2
  rw [hsp] at hSp
  obtain ⟨sq, sn, sc⟩ := s
  obtain rfl : sn = l.length := hL.tab.len
  have hcap : l.length ≤ sc := hL.tab.cap
  obtain ⟨g, off, hq, dl0⟩ := hL.tab.row f (by omega) 1 _ rfl
  simp only at hq
  subst hq
  rw [← Nat.add_assoc] at dl0
  have dl0' : w.cell? ⟨g, off + f * 3 + 1, none⟩ = some (.int .i64 lv) := by rw [← hlv]; exact dl0
  have c4' : w.cell? ⟨T, 4, none⟩ = some (.slice (some ⟨g, off, none⟩) l.length sc) := hL.cell 4
  have c6' : w.cell? ⟨T, 6, none⟩ = some (.int .i64 st.log) := hL.cell 6
  have hsl : ((l.drop f).take (t - f)).length = t - f := by rw [List.length_take, List.length_drop]; omega
  have hsub : TrAt w (some ⟨g, off + f * 3, none⟩, t - f, sc - f) ((l.drop f).take (t - f)) := by
    have h1 := hL.tab.drop f (by omega)
    rw [if_neg (by omega)] at h1
    exact h1.take (t - f) (by rw [List.length_drop]; omega)
  have hse0 : ∀ x ∈ (l.drop f).take (t - f), SlAt w x.2 x.1.es := fun x hx => hL.es x (List.mem_of_mem_drop (List.mem_of_mem_take hx))
  have hMT : Hid (es = needL st.kept (f == 0) (mergeL ((((l.drop f).take (t - f)).reverse.map fun x => (x.2, x.1.es)).map (·.2)))) := by
    show _ = _
    rw [← hes]
    unfold mergeT newF
    rw [← List.map_drop, ← List.map_take, ← List.map_reverse, List.map_map, List.map_map]
    rfl
  have hen : sumL (((l.drop f).take (t - f)).reverse.map fun x => (x.2, x.1.es)) ≤ 100000 := by
    have h1 := entsT_split (l.map (·.1)) f t (by omega)
    have h2 : sumL (((l.drop f).take (t - f)).reverse.map fun x => (x.2, x.1.es)) = entsT (((l.map (·.1)).drop f).take (t - f)) := by
      unfold sumL entsT
      rw [← List.map_drop, ← List.map_take, List.map_map, List.map_map, List.map_reverse, List.sum_reverse]
      rfl
    omega
  clear hes dl0 hlv
  generalize (l.drop f).take (t - f) = sub at *
  have hcf : ¬ (sc = f) := by omega
  have hlw : ((f : Int) == 0) = (f == 0) := by cases f <;> rfl
  rw [← hlw] at hMT
  clear hlw
  have hff : f ≤ t := by omega
  have htc : t ≤ sc := by omega
  have htz : ¬ ((t : Int) = 0) := by omega
  have hfl : f < l.length := by omega
  go_enter Tryz.func42, Tryz.ntmps42
  go_wp2_with (first
    | (go_at_call 53; refine hw.mono ?_; rintro e w1 ⟨rfl, hb1⟩; have hSp1 := hSp w1 hb1; clear hw hSp)
    | (go_at_call 68; refine hSp1.mono ?_; rintro e W ⟨rfl, hbW1⟩; have hbW : Below w.heap.size w W := hb1.trans (hbW1.mono hb1.size)))
  have hse := fun x hx => (hse0 x hx).below hbW
  have hSd : Below W.heap.size W W.drew := (Below.refl _ W).drew
  have d4 := fun w' (h : Below W.heap.size W w') => cell_below h (cell_below hbW c4')
  have dlv := fun w' (h : Below W.heap.size W w') => cell_below h (cell_below hbW dl0')
  have hNF := fun w' (h : Below W.heap.size W w') => newestFirst_any (some ⟨g, off + f * 3, none⟩) (sc - f) sub w' (by rw [hsl]; exact (hsub.below hbW).below h) (by omega)
  rw [hsl] at hNF
  have hNd := fun (w5 : World) (q5 : Option Addr) (c5 : Nat) (h5 : Below W.heap.size W w5) (hly : Lyp w5 q5 (sub.reverse.map fun x => (x.2, x.1.es))) (hn : q5 = none → c5 = 0 ∧ (sub.reverse.map fun x => (x.2, x.1.es)) = []) (ha : ∀ a, q5 = some a → ∃ g off, a = ⟨g, off, none⟩) =>
    needed_any T bsn st.snaps q5 c5 (sub.reverse.map fun x => (x.2, x.1.es)) ((f : Int) == 0) w5 (cell_below h5 (cell_below hbW (hL.cell 9))) (((hL.below hbW).below h5).snp) hL.sn0 hly hn ha (by simp only [List.length_map, List.length_reverse, hsl]; omega) hen
  simp only [List.length_map, List.length_reverse, hsl] at hNd
  rw [show st.snaps.map (·.2) = st.kept from rfl] at hNd
  rw [← hMT.out] at hNd
  refine wp_calm ?_
  refine wp_region_C (fun w' => Below W.heap.size W w') 22 mixedP ?_
  refine wpAnyC_take (i := 0) [1, 2, 3, 5, 6, 7, 20, 22] (v := .pointer (some ⟨T, 0, none⟩)) rfl (by kernel_rfl) (by kernel_rfl) (by kernel_rfl) (by kernel_rfl) (fun _ _ _ h => h) (Or.inl ⟨by rfl, fun w' hS => ?_⟩) hSd ?_
  · skip
    go_simp
  refine wpAnyC_take (i := 1) [2, 3, 5, 6, 7, 20, 22] (v := .pointer (some ⟨T, 0, none⟩)) rfl (by kernel_rfl) (by kernel_rfl) (by kernel_rfl) (by kernel_rfl) (fun _ _ _ h => h) (Or.inl ⟨by rfl, fun w' hS => ?_⟩) hSd ?_
  · skip
    go_simp
  refine wpAnyC_take (i := 2) [3, 5, 6, 7, 20, 22] (v := .pointer (some ⟨T, 4, none⟩)) rfl (by kernel_rfl) (by kernel_rfl) (by kernel_rfl) (by kernel_rfl) (fun _ _ _ h => h) (Or.inl ⟨by rfl, fun w' hS => ?_⟩) hSd ?_
  · skip
    go_simp
  refine wpAnyC_take (i := 3) [5, 6, 7, 20, 22] (v := .slice (some ⟨g, off, none⟩) l.length sc) rfl (by kernel_rfl) (by kernel_rfl) (by kernel_rfl) (by kernel_rfl) (fun _ _ _ h => h) (Or.inl ⟨by rfl, fun w' hS => ?_⟩) hSd ?_
  · have := d4 w' hS
    go_simp
  refine wpAnyC_take (i := 4) [5, 6, 7, 20, 22] (v := .int .i64 f) rfl (by kernel_rfl) (by kernel_rfl) (by kernel_rfl) (by kernel_rfl) (fun _ _ _ h => h) (Or.inl ⟨by rfl, fun w' hS => ?_⟩) hSd ?_
  · skip
    go_simp
  refine wpAnyC_take (i := 5) [6, 7, 20, 22] (v := .pointer (some ⟨g, off + f * 3, none⟩)) rfl (by kernel_rfl) (by kernel_rfl) (by kernel_rfl) (by kernel_rfl) (fun _ _ _ h => h) (Or.inl ⟨by rfl, fun w' hS => ?_⟩) hSd ?_
  · skip
    go_simp
  refine wpAnyC_take (i := 6) [7, 20, 22] (v := .pointer (some ⟨g, off + f * 3 + 1, none⟩)) rfl (by kernel_rfl) (by kernel_rfl) (by kernel_rfl) (by kernel_rfl) (fun _ _ _ h => h) (Or.inl ⟨by rfl, fun w' hS => ?_⟩) hSd ?_
  · skip
    go_simp
  refine wpAnyC_take (i := 7) [20, 22] (v := .int .i64 lv) rfl (by kernel_rfl) (by kernel_rfl) (by kernel_rfl) (by kernel_rfl) (fun _ _ _ h => h) (Or.inl ⟨by rfl, fun w' hS => ?_⟩) hSd ?_
  · have := dlv w' hS
    go_simp
  refine wpAnyC_take (i := 8) [19, 20, 22] (v := .pointer (some ⟨T, 0, none⟩)) rfl (by kernel_rfl) (by kernel_rfl) (by kernel_rfl) (by kernel_rfl) (fun _ _ _ h => h) (Or.inl ⟨by rfl, fun w' hS => ?_⟩) hSd ?_
  · skip
    go_simp
  refine wpAnyC_take (i := 9) [10, 11, 12, 15, 16, 19, 20, 22] (v := .pointer (some ⟨T, 0, none⟩)) rfl (by kernel_rfl) (by kernel_rfl) (by kernel_rfl) (by kernel_rfl) (fun _ _ _ h => h) (Or.inl ⟨by rfl, fun w' hS => ?_⟩) hSd ?_
  · skip
    go_simp
  refine wpAnyC_take (i := 10) [11, 12, 15, 16, 19, 20, 22] (v := .pointer (some ⟨T, 0, none⟩)) rfl (by kernel_rfl) (by kernel_rfl) (by kernel_rfl) (by kernel_rfl) (fun _ _ _ h => h) (Or.inl ⟨by rfl, fun w' hS => ?_⟩) hSd ?_
  · skip
    go_simp
  refine wpAnyC_take (i := 11) [12, 15, 16, 19, 20, 22] (v := .pointer (some ⟨T, 4, none⟩)) rfl (by kernel_rfl) (by kernel_rfl) (by kernel_rfl) (by kernel_rfl) (fun _ _ _ h => h) (Or.inl ⟨by rfl, fun w' hS => ?_⟩) hSd ?_
  · skip
    go_simp
  refine wpAnyC_take (i := 12) [15, 16, 19, 20, 22] (v := .slice (some ⟨g, off, none⟩) l.length sc) rfl (by kernel_rfl) (by kernel_rfl) (by kernel_rfl) (by kernel_rfl) (fun _ _ _ h => h) (Or.inl ⟨by rfl, fun w' hS => ?_⟩) hSd ?_
  · have := d4 w' hS
    go_simp
  refine wpAnyC_take (i := 13) [15, 16, 19, 20, 22] (v := .int .i64 f) rfl (by kernel_rfl) (by kernel_rfl) (by kernel_rfl) (by kernel_rfl) (fun _ _ _ h => h) (Or.inl ⟨by rfl, fun w' hS => ?_⟩) hSd ?_
  · skip
    go_simp
  refine wpAnyC_take (i := 14) [15, 16, 19, 20, 22] (v := .int .i64 t) rfl (by kernel_rfl) (by kernel_rfl) (by kernel_rfl) (by kernel_rfl) (fun _ _ _ h => h) (Or.inl ⟨by rfl, fun w' hS => ?_⟩) hSd ?_
  · skip
    go_simp
  refine wpAnyC_take (i := 15) [16, 19, 20, 22] (v := .slice (some ⟨g, off + f * 3, none⟩) (t - f) (sc - f)) rfl (by kernel_rfl) (by kernel_rfl) (by kernel_rfl) (by kernel_rfl) (fun _ _ _ h => h) (Or.inl ⟨by rfl, fun w' hS => ?_⟩) hSd ?_
  · skip
    go_simp
  refine wpAnyC_take (i := 17) [18, 19, 20, 22] (v := .int .i64 f) rfl (by kernel_rfl) (by kernel_rfl) (by kernel_rfl) (by kernel_rfl) (fun _ _ _ h => h) (Or.inl ⟨by rfl, fun w' hS => ?_⟩) hSd ?_
  · skip
    go_simp
  refine wpAnyC_take (i := 18) [19, 20, 22] (v := .bool ((f : Int) == 0)) rfl (by kernel_rfl) (by kernel_rfl) (by kernel_rfl) (by kernel_rfl) (fun _ _ _ h => h) (Or.inl ⟨by rfl, fun w' hS => ?_⟩) hSd ?_
  · skip
    go_simp
  refine wpAnyC_fork (i := 16) (j := 21) (by kernel_rfl) rfl rfl (by rfl) (by rfl) (fun K hK => ?_) (fun K hK => ?_)
  · skip
    go_simp
    refine (hNF _ hSd).mono ?_
    rintro e w5 ⟨v5, rfl, hb5, ho5⟩
    have hB5 : Below W.heap.size W w5 := hSd.trans (hb5.mono hSd.size)
    obtain ⟨q5, c5, hv5, hly5, hn5, ha5⟩ := OwnL.lyp (xs := sub.reverse.map fun x => (x.2, x.1.es)) (by rw [List.map_map]; exact ho5) (fun x hx => by obtain ⟨y, hy, rfl⟩ := List.mem_map.1 hx; exact (hse y (List.mem_reverse.1 hy)).below hB5)
    simp only [List.length_map, List.length_reverse, hsl] at hv5
    subst hv5
    refine hK.out _ _ hB5 ?_
    clear hK
    refine wpAnyC_fork (i := 19) (j := 21) (by kernel_rfl) rfl rfl (by rfl) (by rfl) (fun K hK => ?_) (fun K hK => ?_)
    · skip
      go_simp
      refine (hNd w5 q5 c5 hB5 hly5 hn5 ha5).mono ?_
      rintro e w6 ⟨v6, rfl, hb6, ho6⟩
      have hB6 : Below W.heap.size W w6 := hB5.trans (hb6.mono hB5.size)
      obtain ⟨⟨qe, ne, ce⟩, rfl, hse6, hfe⟩ := ho6.slAt
      obtain rfl : ne = es.length := hse6.len
      rw [show slV (qe, es.length, ce) = Value.slice qe es.length ce from rfl]
      refine hK.out _ _ hB6 ?_
      clear hK
      refine wpAnyC_take (i := 20) [22] (v := .agg #[.int .i64 0, .int .i64 lv, .slice qe es.length ce]) rfl (by kernel_rfl) (by kernel_rfl) (by kernel_rfl) (by kernel_rfl) (fun _ _ _ h => h) (Or.inl ⟨by rfl, fun w' hS => ?_⟩) hB6 ?_
      · skip
        go_simp
      refine wpAnyC_one (i := 21) (by kernel_rfl) rfl (by rfl) (fun K hK => ?_)
      go_simp
      have hB7 := hB6.alloc hB6.size (.cells #[.int .i64 0, .int .i64 0, .slice none 0 0] 114)
      refine hK.out _ _ hB7 ?_
      clear hK
      have hbz := block_new w6 (.cells #[.int .i64 0, .int .i64 0, .slice none 0 0] 114)
      obtain ⟨y0, y1, y2, y3, y4, y5⟩ := cells3 hbz
      refine wpAnyC_past (i := 22) (by kernel_rfl) rfl (by rfl) (by kernel_rfl) (fun K hK => ?_)
      go_simp
      refine hK.out _ _ (wpAnyC_done (by kernel_rfl) ?_ _)
      clear hK
      have hbB := block_new w6 (.cells #[.int .i64 0, .int .i64 lv, .slice qe es.length ce] 114)
      have hBf : Below W.heap.size W (w6.alloc (.cells #[.int .i64 0, .int .i64 lv, .slice qe es.length ce] 114)) := hB6.alloc hB6.size _
      have hseF : SlAt (w6.alloc (.cells #[.int .i64 0, .int .i64 lv, .slice qe es.length ce] 114)) (qe, es.length, ce) es := hse6.below ((Below.refl _ w6).alloc (Nat.le_refl _) _)
      have hfF : ∀ a, qe = some a → w.heap.size ≤ a.block ∧ a.block < (w6.alloc (.cells #[.int .i64 0, .int .i64 lv, .slice qe es.length ce] 114)).heap.size := fun a ha => ⟨Nat.le_trans (Nat.le_trans hbW.size hB5.size) (hfe a ha).1, by have := (hfe a ha).2; rw [World.size_alloc]; omega⟩
      generalize w6.alloc (.cells #[.int .i64 0, .int .i64 lv, .slice qe es.length ce] 114) = Wf at *
      clear hB7 hbz y0 y1 y2 y3 y4 y5
      have hbF : Below w.heap.size w Wf := hbW.trans (hBf.mono hbW.size)
      have e4 := fun w' (h : Below Wf.heap.size Wf w') => cell_below h (cell_below hbF c4')
      have e6 := fun w' (h : Below Wf.heap.size Wf w') => cell_below h (cell_below hbF c6')
      have eB := fun w' (h : Below Wf.heap.size Wf w') => cells3 (block_at2 hbB h)
      have hSf : Below Wf.heap.size Wf Wf.drew := (Below.refl _ Wf).drew
      have hRp := fun w' (h : Below Wf.heap.size Wf w') => replaced_any g off sc l f t (⟨0, lv, es⟩, (qe, es.length, ce)) w' ((hL.tab.below hbF).below h) rfl hesl hff htl (by omega)
      have hCm := merge_fit (T := T) (log := st.log) hbF hL.es hseF hfF hC
      clear hNF hNd hC d4 dlv c4' c6' dl0'
      go_wp2
      refine wp_calm ?_
      refine wp_region_C (fun w' => Below Wf.heap.size Wf w') 14 mixedP ?_
      refine wpAnyC_idle (i := 0) (v := .pointer (some ⟨T, 0, none⟩)) rfl (by decide) (by kernel_rfl) (by kernel_rfl) (by kernel_rfl) (fun _ _ _ h => h) (Or.inl ⟨by rfl, fun w' hS => ?_⟩) hSf ?_
      · go_simp
      refine wpAnyC_take (i := 1) [14] (v := .pointer (some ⟨T, 0, none⟩)) rfl (by kernel_rfl) (by kernel_rfl) (by kernel_rfl) (by kernel_rfl) (fun _ _ _ h => h) (Or.inl ⟨by rfl, fun w' hS => ?_⟩) hSf ?_
      · skip
        go_simp
      refine wpAnyC_take (i := 2) [3, 4, 5, 9, 14] (v := .pointer (some ⟨T, 0, none⟩)) rfl (by kernel_rfl) (by kernel_rfl) (by kernel_rfl) (by kernel_rfl) (fun _ _ _ h => h) (Or.inl ⟨by rfl, fun w' hS => ?_⟩) hSf ?_
      · skip
        go_simp
      refine wpAnyC_take (i := 3) [4, 5, 9, 14] (v := .pointer (some ⟨T, 0, none⟩)) rfl (by kernel_rfl) (by kernel_rfl) (by kernel_rfl) (by kernel_rfl) (fun _ _ _ h => h) (Or.inl ⟨by rfl, fun w' hS => ?_⟩) hSf ?_
      · skip
        go_simp
      refine wpAnyC_take (i := 4) [5, 9, 14] (v := .pointer (some ⟨T, 4, none⟩)) rfl (by kernel_rfl) (by kernel_rfl) (by kernel_rfl) (by kernel_rfl) (fun _ _ _ h => h) (Or.inl ⟨by rfl, fun w' hS => ?_⟩) hSf ?_
      · skip
        go_simp
      refine wpAnyC_take (i := 5) [9, 14] (v := .slice (some ⟨g, off, none⟩) l.length sc) rfl (by kernel_rfl) (by kernel_rfl) (by kernel_rfl) (by kernel_rfl) (fun _ _ _ h => h) (Or.inl ⟨by rfl, fun w' hS => ?_⟩) hSf ?_
      · have := e4 w' hS
        go_simp
      refine wpAnyC_take (i := 6) [9, 14] (v := .int .i64 f) rfl (by kernel_rfl) (by kernel_rfl) (by kernel_rfl) (by kernel_rfl) (fun _ _ _ h => h) (Or.inl ⟨by rfl, fun w' hS => ?_⟩) hSf ?_
      · skip
        go_simp
      refine wpAnyC_take (i := 7) [9, 14] (v := .int .i64 t) rfl (by kernel_rfl) (by kernel_rfl) (by kernel_rfl) (by kernel_rfl) (fun _ _ _ h => h) (Or.inl ⟨by rfl, fun w' hS => ?_⟩) hSf ?_
      · skip
        go_simp
      refine wpAnyC_take (i := 8) [9, 14] (v := .agg #[.int .i64 0, .int .i64 lv, .slice qe es.length ce]) rfl (by kernel_rfl) (by kernel_rfl) (by kernel_rfl) (by kernel_rfl) (fun _ _ _ h => h) (Or.inl ⟨by rfl, fun w' hS => ?_⟩) hSf ?_
      · obtain ⟨u0, u1, u2, _⟩ := eB w' hS
        go_simp
      refine wpAnyC_take (i := 10) [11, 12, 13, 14] (v := .pointer (some ⟨T, 0, none⟩)) rfl (by kernel_rfl) (by kernel_rfl) (by kernel_rfl) (by kernel_rfl) (fun _ _ _ h => h) (Or.inl ⟨by rfl, fun w' hS => ?_⟩) hSf ?_
      · skip
        go_simp
      refine wpAnyC_take (i := 11) [12, 13, 14] (v := .pointer (some ⟨T, 0, none⟩)) rfl (by kernel_rfl) (by kernel_rfl) (by kernel_rfl) (by kernel_rfl) (fun _ _ _ h => h) (Or.inl ⟨by rfl, fun w' hS => ?_⟩) hSf ?_
      · skip
        go_simp
      refine wpAnyC_take (i := 12) [13, 14] (v := .pointer (some ⟨T, 6, none⟩)) rfl (by kernel_rfl) (by kernel_rfl) (by kernel_rfl) (by kernel_rfl) (fun _ _ _ h => h) (Or.inl ⟨by rfl, fun w' hS => ?_⟩) hSf ?_
      · skip
        go_simp
      refine wpAnyC_take (i := 13) [14] (v := .int .i64 st.log) rfl (by kernel_rfl) (by kernel_rfl) (by kernel_rfl) (by kernel_rfl) (fun _ _ _ h => h) (Or.inl ⟨by rfl, fun w' hS => ?_⟩) hSf ?_
      · have := e6 w' hS
        go_simp
      refine wpAnyC_one (i := 9) (by kernel_rfl) rfl (by rfl) (fun K hK => ?_)
      go_simp
      refine (hRp _ hSf).mono ?_
      rintro e w7 ⟨v7, rfl, hb7, ho7⟩
      have hB7' := hSf.trans (hb7.mono hSf.size)
      obtain ⟨⟨q7, n7, c7⟩, rfl, ht7, _⟩ := ho7.trAt
      refine hK.out _ _ hB7' ?_
      clear hK
      have hCm7 := hCm w7 (q7, n7, c7) hB7' ht7
      rw [show slV (q7, n7, c7) = Value.slice q7 n7 c7 from rfl] at hCm7 ⊢
      refine wpAnyC_past (i := 14) (by kernel_rfl) rfl (by rfl) (by kernel_rfl) (fun K hK => ?_)
      go_simp
      refine hCm7.mono ?_
      rintro e w8 ⟨v8, rfl, hO8⟩
      refine hK.out _ _ ?_
      clear hK
      refine wpAnyC_past (i := 15) (by kernel_rfl) rfl (by rfl) (by kernel_rfl) (fun K hK => ?_)
      go_simp
      refine hO8.mono ?_
      rintro e w9 ⟨⟨v9, rfl⟩, hR⟩
      refine hK.out _ _ ?_
      clear hK
      refine wpAnyC_past (i := 16) (by kernel_rfl) rfl (by rfl) (by kernel_rfl) (fun K hK => ?_)
      go_simp
      refine hK.out _ _ (wpAnyC_done (by kernel_rfl) ?_ _)
      clear hK
      go_wp2
      exact hR
    · go_simp
      have hB5a := hB5.alloc hB5.size (.cells #[.int .i64 0, .int .i64 0, .slice none 0 0] 114)
      have hbz0 := block_new w5 (.cells #[.int .i64 0, .int .i64 0, .slice none 0 0] 114)
      have zb5 := hB5.size
      have hly5a := hly5.below ((Below.refl _ w5).alloc (Nat.le_refl _) (.cells #[.int .i64 0, .int .i64 0, .slice none 0 0] 114))
      refine hK.out _ _ hB5a ?_
      clear hK
      refine wpAnyC_one (i := 19) (by kernel_rfl) rfl (by rfl) (fun K hK => ?_)
      go_simp
      refine (hNd (w5.alloc (.cells #[.int .i64 0, .int .i64 0, .slice none 0 0] 114)) q5 c5 hB5a hly5a hn5 ha5).mono ?_
      rintro e w6 ⟨v6, rfl, hb6, ho6⟩
      have hB6 : Below W.heap.size W w6 := hB5a.trans (hb6.mono hB5a.size)
      obtain ⟨⟨qe, ne, ce⟩, rfl, hse6, hfe⟩ := ho6.slAt
      obtain rfl : ne = es.length := hse6.len
      rw [show slV (qe, es.length, ce) = Value.slice qe es.length ce from rfl]
      refine hK.out _ _ hB6 ?_
      clear hK
      refine wpAnyC_take (i := 20) [22] (v := .agg #[.int .i64 0, .int .i64 lv, .slice qe es.length ce]) rfl (by kernel_rfl) (by kernel_rfl) (by kernel_rfl) (by kernel_rfl) (fun _ _ _ h => h) (Or.inl ⟨by rfl, fun w' hS => ?_⟩) hB6 ?_
      · skip
        go_simp
      have hbz := block_at2 hbz0 hb6
      obtain ⟨y0, y1, y2, y3, y4, y5⟩ := cells3 hbz
      refine wpAnyC_past (i := 22) (by kernel_rfl) rfl (by rfl) (by kernel_rfl) (fun K hK => ?_)
      go_simp
      refine hK.out _ _ (wpAnyC_done (by kernel_rfl) ?_ _)
      clear hK
      have hbB : (((w6.setCell ⟨w5.heap.size, 0, none⟩ (.int .i64 0)).setCell ⟨w5.heap.size, 1, none⟩ (.int .i64 lv)).setCell ⟨w5.heap.size, 2, none⟩ (.slice qe es.length ce)).heap[w5.heap.size]? = some (.cells #[.int .i64 0, .int .i64 lv, .slice qe es.length ce] 114) := by
        simpa using block_set (block_set (block_set hbz (.int .i64 0) (j := 0)) (.int .i64 lv) (j := 1)) (.slice qe es.length ce) (j := 2)
      have hbge : W.heap.size ≤ w5.heap.size := by omega
      have hBf : Below W.heap.size W (((w6.setCell ⟨w5.heap.size, 0, none⟩ (.int .i64 0)).setCell ⟨w5.heap.size, 1, none⟩ (.int .i64 lv)).setCell ⟨w5.heap.size, 2, none⟩ (.slice qe es.length ce)) := ((hB6.setCell hbge _).setCell hbge _).setCell hbge _
      have kpB : Kp (fun i => i = w5.heap.size) w6 (((w6.setCell ⟨w5.heap.size, 0, none⟩ (.int .i64 0)).setCell ⟨w5.heap.size, 1, none⟩ (.int .i64 lv)).setCell ⟨w5.heap.size, 2, none⟩ (.slice qe es.length ce)) := ((Kp.set1 w6 w5.heap.size 0 _).trans (Kp.set1 _ w5.heap.size 1 _) (fun _ _ e => e)).trans (Kp.set1 _ w5.heap.size 2 _) (fun _ _ e => e)
      have hseF : SlAt (((w6.setCell ⟨w5.heap.size, 0, none⟩ (.int .i64 0)).setCell ⟨w5.heap.size, 1, none⟩ (.int .i64 lv)).setCell ⟨w5.heap.size, 2, none⟩ (.slice qe es.length ce)) (qe, es.length, ce) es := hse6.kept kpB (fun a ha _ e => by have h9 := (hfe a ha).1; rw [World.size_alloc] at h9; omega)
      have hfF : ∀ a, qe = some a → w.heap.size ≤ a.block ∧ a.block < (((w6.setCell ⟨w5.heap.size, 0, none⟩ (.int .i64 0)).setCell ⟨w5.heap.size, 1, none⟩ (.int .i64 lv)).setCell ⟨w5.heap.size, 2, none⟩ (.slice qe es.length ce)).heap.size := fun a ha => ⟨by have h9 := (hfe a ha).1; have := hbW.size; rw [World.size_alloc] at h9; omega, by have := (hfe a ha).2; simpa [World.setCell] using this⟩
      generalize ((w6.setCell ⟨w5.heap.size, 0, none⟩ (.int .i64 0)).setCell ⟨w5.heap.size, 1, none⟩ (.int .i64 lv)).setCell ⟨w5.heap.size, 2, none⟩ (.slice qe es.length ce) = Wf at *
      clear hbz y0 y1 y2 y3 y4 y5 kpB
      have hbF : Below w.heap.size w Wf := hbW.trans (hBf.mono hbW.size)
      have e4 := fun w' (h : Below Wf.heap.size Wf w') => cell_below h (cell_below hbF c4')
      have e6 := fun w' (h : Below Wf.heap.size Wf w') => cell_below h (cell_below hbF c6')
      have eB := fun w' (h : Below Wf.heap.size Wf w') => cells3 (block_at2 hbB h)
      have hSf : Below Wf.heap.size Wf Wf.drew := (Below.refl _ Wf).drew
      have hRp := fun w' (h : Below Wf.heap.size Wf w') => replaced_any g off sc l f t (⟨0, lv, es⟩, (qe, es.length, ce)) w' ((hL.tab.below hbF).below h) rfl hesl hff htl (by omega)
      have hCm := merge_fit (T := T) (log := st.log) hbF hL.es hseF hfF hC
      clear hNF hNd hC d4 dlv c4' c6' dl0'
      go_wp2
      refine wp_calm ?_
      refine wp_region_C (fun w' => Below Wf.heap.size Wf w') 14 mixedP ?_
      refine wpAnyC_idle (i := 0) (v := .pointer (some ⟨T, 0, none⟩)) rfl (by decide) (by kernel_rfl) (by kernel_rfl) (by kernel_rfl) (fun _ _ _ h => h) (Or.inl ⟨by rfl, fun w' hS => ?_⟩) hSf ?_
      · go_simp
      refine wpAnyC_take (i := 1) [14] (v := .pointer (some ⟨T, 0, none⟩)) rfl (by kernel_rfl) (by kernel_rfl) (by kernel_rfl) (by kernel_rfl) (fun _ _ _ h => h) (Or.inl ⟨by rfl, fun w' hS => ?_⟩) hSf ?_
      · skip
        go_simp
      refine wpAnyC_take (i := 2) [3, 4, 5, 9, 14] (v := .pointer (some ⟨T, 0, none⟩)) rfl (by kernel_rfl) (by kernel_rfl) (by kernel_rfl) (by kernel_rfl) (fun _ _ _ h => h) (Or.inl ⟨by rfl, fun w' hS => ?_⟩) hSf ?_
      · skip
        go_simp
      refine wpAnyC_take (i := 3) [4, 5, 9, 14] (v := .pointer (some ⟨T, 0, none⟩)) rfl (by kernel_rfl) (by kernel_rfl) (by kernel_rfl) (by kernel_rfl) (fun _ _ _ h => h) (Or.inl ⟨by rfl, fun w' hS => ?_⟩) hSf ?_
      · skip
        go_simp
      refine wpAnyC_take (i := 4) [5, 9, 14] (v := .pointer (some ⟨T, 4, none⟩)) rfl (by kernel_rfl) (by kernel_rfl) (by kernel_rfl) (by kernel_rfl) (fun _ _ _ h => h) (Or.inl ⟨by rfl, fun w' hS => ?_⟩) hSf ?_
      · skip
        go_simp
      refine wpAnyC_take (i := 5) [9, 14] (v := .slice (some ⟨g, off, none⟩) l.length sc) rfl (by kernel_rfl) (by kernel_rfl) (by kernel_rfl) (by kernel_rfl) (fun _ _ _ h => h) (Or.inl ⟨by rfl, fun w' hS => ?_⟩) hSf ?_
      · have := e4 w' hS
        go_simp
      refine wpAnyC_take (i := 6) [9, 14] (v := .int .i64 f) rfl (by kernel_rfl) (by kernel_rfl) (by kernel_rfl) (by kernel_rfl) (fun _ _ _ h => h) (Or.inl ⟨by rfl, fun w' hS => ?_⟩) hSf ?_
      · skip
        go_simp
      refine wpAnyC_take (i := 7) [9, 14] (v := .int .i64 t) rfl (by kernel_rfl) (by kernel_rfl) (by kernel_rfl) (by kernel_rfl) (fun _ _ _ h => h) (Or.inl ⟨by rfl, fun w' hS => ?_⟩) hSf ?_
      · skip
        go_simp
      refine wpAnyC_take (i := 8) [9, 14] (v := .agg #[.int .i64 0, .int .i64 lv, .slice qe es.length ce]) rfl (by kernel_rfl) (by kernel_rfl) (by kernel_rfl) (by kernel_rfl) (fun _ _ _ h => h) (Or.inl ⟨by rfl, fun w' hS => ?_⟩) hSf ?_
      · obtain ⟨u0, u1, u2, _⟩ := eB w' hS
        go_simp
      refine wpAnyC_take (i := 10) [11, 12, 13, 14] (v := .pointer (some ⟨T, 0, none⟩)) rfl (by kernel_rfl) (by kernel_rfl) (by kernel_rfl) (by kernel_rfl) (fun _ _ _ h => h) (Or.inl ⟨by rfl, fun w' hS => ?_⟩) hSf ?_
      · skip
        go_simp
      refine wpAnyC_take (i := 11) [12, 13, 14] (v := .pointer (some ⟨T, 0, none⟩)) rfl (by kernel_rfl) (by kernel_rfl) (by kernel_rfl) (by kernel_rfl) (fun _ _ _ h => h) (Or.inl ⟨by rfl, fun w' hS => ?_⟩) hSf ?_
      · skip
        go_simp
      refine wpAnyC_take (i := 12) [13, 14] (v := .pointer (some ⟨T, 6, none⟩)) rfl (by kernel_rfl) (by kernel_rfl) (by kernel_rfl) (by kernel_rfl) (fun _ _ _ h => h) (Or.inl ⟨by rfl, fun w' hS => ?_⟩) hSf ?_
      · skip
        go_simp
      refine wpAnyC_take (i := 13) [14] (v := .int .i64 st.log) rfl (by kernel_rfl) (by kernel_rfl) (by kernel_rfl) (by kernel_rfl) (fun _ _ _ h => h) (Or.inl ⟨by rfl, fun w' hS => ?_⟩) hSf ?_
      · have := e6 w' hS
        go_simp
      refine wpAnyC_one (i := 9) (by kernel_rfl) rfl (by rfl) (fun K hK => ?_)
      go_simp
      refine (hRp _ hSf).mono ?_
      rintro e w7 ⟨v7, rfl, hb7, ho7⟩
      have hB7' := hSf.trans (hb7.mono hSf.size)
      obtain ⟨⟨q7, n7, c7⟩, rfl, ht7, _⟩ := ho7.trAt
      refine hK.out _ _ hB7' ?_
      clear hK
      have hCm7 := hCm w7 (q7, n7, c7) hB7' ht7
      rw [show slV (q7, n7, c7) = Value.slice q7 n7 c7 from rfl] at hCm7 ⊢
      refine wpAnyC_past (i := 14) (by kernel_rfl) rfl (by rfl) (by kernel_rfl) (fun K hK => ?_)
      go_simp
      refine hCm7.mono ?_
      rintro e w8 ⟨v8, rfl, hO8⟩
      refine hK.out _ _ ?_
      clear hK
      refine wpAnyC_past (i := 15) (by kernel_rfl) rfl (by rfl) (by kernel_rfl) (fun K hK => ?_)
      go_simp
      refine hO8.mono ?_
      rintro e w9 ⟨⟨v9, rfl⟩, hR⟩
      refine hK.out _ _ ?_
      clear hK
      refine wpAnyC_past (i := 16) (by kernel_rfl) rfl (by rfl) (by kernel_rfl) (fun K hK => ?_)
      go_simp
      refine hK.out _ _ (wpAnyC_done (by kernel_rfl) ?_ _)
      clear hK
      go_wp2
      exact hR
  · go_simp
    have hBa : Below W.heap.size W (W.alloc (.cells #[.int .i64 0, .int .i64 0, .slice none 0 0] 114)).drew := ((Below.refl _ W).alloc (Nat.le_refl _) _).drew
    have hbz0 : (W.alloc (.cells #[.int .i64 0, .int .i64 0, .slice none 0 0] 114)).drew.heap[W.heap.size]? = some (.cells #[.int .i64 0, .int .i64 0, .slice none 0 0] 114) := block_new W (.cells #[.int .i64 0, .int .i64 0, .slice none 0 0] 114)
    refine hK.out _ _ hBa ?_
    clear hK
    refine wpAnyC_one (i := 16) (by kernel_rfl) rfl (by rfl) (fun K hK => ?_)
    go_simp
    refine (hNF _ hBa).mono ?_
    rintro e w5 ⟨v5, rfl, hb5, ho5⟩
    have hB5 : Below W.heap.size W w5 := hBa.trans (hb5.mono hBa.size)
    obtain ⟨q5, c5, hv5, hly5, hn5, ha5⟩ := OwnL.lyp (xs := sub.reverse.map fun x => (x.2, x.1.es)) (by rw [List.map_map]; exact ho5) (fun x hx => by obtain ⟨y, hy, rfl⟩ := List.mem_map.1 hx; exact (hse y (List.mem_reverse.1 hy)).below hB5)
    simp only [List.length_map, List.length_reverse, hsl] at hv5
    subst hv5
    refine hK.out _ _ hB5 ?_
    clear hK
    refine wpAnyC_one (i := 19) (by kernel_rfl) rfl (by rfl) (fun K hK => ?_)
    go_simp
    refine (hNd w5 q5 c5 hB5 hly5 hn5 ha5).mono ?_
    rintro e w6 ⟨v6, rfl, hb6, ho6⟩
    have hB6 : Below W.heap.size W w6 := hB5.trans (hb6.mono hB5.size)
    obtain ⟨⟨qe, ne, ce⟩, rfl, hse6, hfe⟩ := ho6.slAt
    obtain rfl : ne = es.length := hse6.len
    rw [show slV (qe, es.length, ce) = Value.slice qe es.length ce from rfl]
    refine hK.out _ _ hB6 ?_
    clear hK
    refine wpAnyC_take (i := 20) [22] (v := .agg #[.int .i64 0, .int .i64 lv, .slice qe es.length ce]) rfl (by kernel_rfl) (by kernel_rfl) (by kernel_rfl) (by kernel_rfl) (fun _ _ _ h => h) (Or.inl ⟨by rfl, fun w' hS => ?_⟩) hB6 ?_
    · skip
      go_simp
    have hbz := block_at2 hbz0 (hb5.trans (hb6.mono hb5.size))
    obtain ⟨y0, y1, y2, y3, y4, y5⟩ := cells3 hbz
    refine wpAnyC_past (i := 22) (by kernel_rfl) rfl (by rfl) (by kernel_rfl) (fun K hK => ?_)
    go_simp
    refine hK.out _ _ (wpAnyC_done (by kernel_rfl) ?_ _)
    clear hK
    have hbB : (((w6.setCell ⟨W.heap.size, 0, none⟩ (.int .i64 0)).setCell ⟨W.heap.size, 1, none⟩ (.int .i64 lv)).setCell ⟨W.heap.size, 2, none⟩ (.slice qe es.length ce)).heap[W.heap.size]? = some (.cells #[.int .i64 0, .int .i64 lv, .slice qe es.length ce] 114) := by
      simpa using block_set (block_set (block_set hbz (.int .i64 0) (j := 0)) (.int .i64 lv) (j := 1)) (.slice qe es.length ce) (j := 2)
    have hbge : W.heap.size ≤ W.heap.size := by exact Nat.le_refl _
    have hBf : Below W.heap.size W (((w6.setCell ⟨W.heap.size, 0, none⟩ (.int .i64 0)).setCell ⟨W.heap.size, 1, none⟩ (.int .i64 lv)).setCell ⟨W.heap.size, 2, none⟩ (.slice qe es.length ce)) := ((hB6.setCell hbge _).setCell hbge _).setCell hbge _
    have kpB : Kp (fun i => i = W.heap.size) w6 (((w6.setCell ⟨W.heap.size, 0, none⟩ (.int .i64 0)).setCell ⟨W.heap.size, 1, none⟩ (.int .i64 lv)).setCell ⟨W.heap.size, 2, none⟩ (.slice qe es.length ce)) := ((Kp.set1 w6 W.heap.size 0 _).trans (Kp.set1 _ W.heap.size 1 _) (fun _ _ e => e)).trans (Kp.set1 _ W.heap.size 2 _) (fun _ _ e => e)
    have hseF : SlAt (((w6.setCell ⟨W.heap.size, 0, none⟩ (.int .i64 0)).setCell ⟨W.heap.size, 1, none⟩ (.int .i64 lv)).setCell ⟨W.heap.size, 2, none⟩ (.slice qe es.length ce)) (qe, es.length, ce) es := hse6.kept kpB (fun a ha _ e => by have := (hfe a ha).1; have z5 := hb5.size; simp at z5; omega)
    have hfF : ∀ a, qe = some a → w.heap.size ≤ a.block ∧ a.block < (((w6.setCell ⟨W.heap.size, 0, none⟩ (.int .i64 0)).setCell ⟨W.heap.size, 1, none⟩ (.int .i64 lv)).setCell ⟨W.heap.size, 2, none⟩ (.slice qe es.length ce)).heap.size := fun a ha => ⟨by have := (hfe a ha).1; have := hbW.size; have z5 := hb5.size; simp at z5; omega, by have := (hfe a ha).2; simpa [World.setCell] using this⟩
    generalize ((w6.setCell ⟨W.heap.size, 0, none⟩ (.int .i64 0)).setCell ⟨W.heap.size, 1, none⟩ (.int .i64 lv)).setCell ⟨W.heap.size, 2, none⟩ (.slice qe es.length ce) = Wf at *
    clear hbz y0 y1 y2 y3 y4 y5 kpB
    have hbF : Below w.heap.size w Wf := hbW.trans (hBf.mono hbW.size)
    have e4 := fun w' (h : Below Wf.heap.size Wf w') => cell_below h (cell_below hbF c4')
    have e6 := fun w' (h : Below Wf.heap.size Wf w') => cell_below h (cell_below hbF c6')
    have eB := fun w' (h : Below Wf.heap.size Wf w') => cells3 (block_at2 hbB h)
    have hSf : Below Wf.heap.size Wf Wf.drew := (Below.refl _ Wf).drew
    have hRp := fun w' (h : Below Wf.heap.size Wf w') => replaced_any g off sc l f t (⟨0, lv, es⟩, (qe, es.length, ce)) w' ((hL.tab.below hbF).below h) rfl hesl hff htl (by omega)
    have hCm := merge_fit (T := T) (log := st.log) hbF hL.es hseF hfF hC
    clear hNF hNd hC d4 dlv c4' c6' dl0'
    go_wp2
    refine wp_calm ?_
    refine wp_region_C (fun w' => Below Wf.heap.size Wf w') 14 mixedP ?_
    refine wpAnyC_idle (i := 0) (v := .pointer (some ⟨T, 0, none⟩)) rfl (by decide) (by kernel_rfl) (by kernel_rfl) (by kernel_rfl) (fun _ _ _ h => h) (Or.inl ⟨by rfl, fun w' hS => ?_⟩) hSf ?_
    · go_simp
    refine wpAnyC_take (i := 1) [14] (v := .pointer (some ⟨T, 0, none⟩)) rfl (by kernel_rfl) (by kernel_rfl) (by kernel_rfl) (by kernel_rfl) (fun _ _ _ h => h) (Or.inl ⟨by rfl, fun w' hS => ?_⟩) hSf ?_
    · skip
      go_simp
    refine wpAnyC_take (i := 2) [3, 4, 5, 9, 14] (v := .pointer (some ⟨T, 0, none⟩)) rfl (by kernel_rfl) (by kernel_rfl) (by kernel_rfl) (by kernel_rfl) (fun _ _ _ h => h) (Or.inl ⟨by rfl, fun w' hS => ?_⟩) hSf ?_
    · skip
      go_simp
    refine wpAnyC_take (i := 3) [4, 5, 9, 14] (v := .pointer (some ⟨T, 0, none⟩)) rfl (by kernel_rfl) (by kernel_rfl) (by kernel_rfl) (by kernel_rfl) (fun _ _ _ h => h) (Or.inl ⟨by rfl, fun w' hS => ?_⟩) hSf ?_
    · skip
      go_simp
    refine wpAnyC_take (i := 4) [5, 9, 14] (v := .pointer (some ⟨T, 4, none⟩)) rfl (by kernel_rfl) (by kernel_rfl) (by kernel_rfl) (by kernel_rfl) (fun _ _ _ h => h) (Or.inl ⟨by rfl, fun w' hS => ?_⟩) hSf ?_
    · skip
      go_simp
    refine wpAnyC_take (i := 5) [9, 14] (v := .slice (some ⟨g, off, none⟩) l.length sc) rfl (by kernel_rfl) (by kernel_rfl) (by kernel_rfl) (by kernel_rfl) (fun _ _ _ h => h) (Or.inl ⟨by rfl, fun w' hS => ?_⟩) hSf ?_
    · have := e4 w' hS
      go_simp
    refine wpAnyC_take (i := 6) [9, 14] (v := .int .i64 f) rfl (by kernel_rfl) (by kernel_rfl) (by kernel_rfl) (by kernel_rfl) (fun _ _ _ h => h) (Or.inl ⟨by rfl, fun w' hS => ?_⟩) hSf ?_
    · skip
      go_simp
    refine wpAnyC_take (i := 7) [9, 14] (v := .int .i64 t) rfl (by kernel_rfl) (by kernel_rfl) (by kernel_rfl) (by kernel_rfl) (fun _ _ _ h => h) (Or.inl ⟨by rfl, fun w' hS => ?_⟩) hSf ?_
    · skip
      go_simp
    refine wpAnyC_take (i := 8) [9, 14] (v := .agg #[.int .i64 0, .int .i64 lv, .slice qe es.length ce]) rfl (by kernel_rfl) (by kernel_rfl) (by kernel_rfl) (by kernel_rfl) (fun _ _ _ h => h) (Or.inl ⟨by rfl, fun w' hS => ?_⟩) hSf ?_
    · obtain ⟨u0, u1, u2, _⟩ := eB w' hS
      go_simp
    refine wpAnyC_take (i := 10) [11, 12, 13, 14] (v := .pointer (some ⟨T, 0, none⟩)) rfl (by kernel_rfl) (by kernel_rfl) (by kernel_rfl) (by kernel_rfl) (fun _ _ _ h => h) (Or.inl ⟨by rfl, fun w' hS => ?_⟩) hSf ?_
    · skip
      go_simp
    refine wpAnyC_take (i := 11) [12, 13, 14] (v := .pointer (some ⟨T, 0, none⟩)) rfl (by kernel_rfl) (by kernel_rfl) (by kernel_rfl) (by kernel_rfl) (fun _ _ _ h => h) (Or.inl ⟨by rfl, fun w' hS => ?_⟩) hSf ?_
    · skip
      go_simp
    refine wpAnyC_take (i := 12) [13, 14] (v := .pointer (some ⟨T, 6, none⟩)) rfl (by kernel_rfl) (by kernel_rfl) (by kernel_rfl) (by kernel_rfl) (fun _ _ _ h => h) (Or.inl ⟨by rfl, fun w' hS => ?_⟩) hSf ?_
    · skip
      go_simp
    refine wpAnyC_take (i := 13) [14] (v := .int .i64 st.log) rfl (by kernel_rfl) (by kernel_rfl) (by kernel_rfl) (by kernel_rfl) (fun _ _ _ h => h) (Or.inl ⟨by rfl, fun w' hS => ?_⟩) hSf ?_
    · have := e6 w' hS
      go_simp
    refine wpAnyC_one (i := 9) (by kernel_rfl) rfl (by rfl) (fun K hK => ?_)
    go_simp
    refine (hRp _ hSf).mono ?_
    rintro e w7 ⟨v7, rfl, hb7, ho7⟩
    have hB7' := hSf.trans (hb7.mono hSf.size)
    obtain ⟨⟨q7, n7, c7⟩, rfl, ht7, _⟩ := ho7.trAt
    refine hK.out _ _ hB7' ?_
    clear hK
    have hCm7 := hCm w7 (q7, n7, c7) hB7' ht7
    rw [show slV (q7, n7, c7) = Value.slice q7 n7 c7 from rfl] at hCm7 ⊢
    refine wpAnyC_past (i := 14) (by kernel_rfl) rfl (by rfl) (by kernel_rfl) (fun K hK => ?_)
    go_simp
    refine hCm7.mono ?_
    rintro e w8 ⟨v8, rfl, hO8⟩
    refine hK.out _ _ ?_
    clear hK
    refine wpAnyC_past (i := 15) (by kernel_rfl) rfl (by rfl) (by kernel_rfl) (fun K hK => ?_)
    go_simp
    refine hO8.mono ?_
    rintro e w9 ⟨⟨v9, rfl⟩, hR⟩
    refine hK.out _ _ ?_
    clear hK
    refine wpAnyC_past (i := 16) (by kernel_rfl) rfl (by rfl) (by kernel_rfl) (fun K hK => ?_)
    go_simp
    refine hK.out _ _ (wpAnyC_done (by kernel_rfl) ?_ _)
    clear hK
    go_wp2
    exact hR
end Go.Proofs.YtoabedkcieindabGreatDoor
