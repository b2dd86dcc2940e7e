import Derived.Test.YtoabedkcieindabGreatDoorQkAJ
import Derived.Test.YtoabedkcieindabGreatDoorQkAF
import Derived.Test.YtoabedkcieindabGreatDoorQkAO
import Derived.Test.YtoabedkcieindabGreatDoorQkAM
import Derived.Test.YtoabedkcieindabGreatDoorQkAG
import Derived.Test.YtoabedkcieindabGreatDoorQkAN
import Derived.Test.YtoabedkcieindabGreatDoorQkAD
namespace Go.Proofs.YtoabedkcieindabGreatDoor
theorem mostT_pos (p : Int) (lv hi : Nat) : 1 ≤ mostT p lv hi := by unfold mostT; split; omega; split <;> omega
theorem crowdF_span (p : Int) (lv : List Nat) : ∀ (n t : Nat), t ≤ lv.length → (crowdF p lv n t).2 ≠ 0 → (crowdF p lv n t).1 + 2 ≤ (crowdF p lv n t).2 ∧ (crowdF p lv n t).2 ≤ lv.length
  | 0, t, _, h => by simp [crowdF] at h
  | n + 1, 0, _, h => by simp [crowdF] at h
  | n + 1, t + 1, ht, h => by
    rw [crowdF] at h ⊢
    have hm := mostT_pos p (lv.getD t 0) (lv.getD 0 0)
    by_cases hc : mostT p (lv.getD t 0) (lv.getD 0 0) < t + 1 - lv.idxOf (lv.getD t 0)
    · rw [if_pos hc] at h ⊢
      simp only
      omega
    · rw [if_neg hc] at h ⊢
      by_cases hf : lv.idxOf (lv.getD t 0) ≤ lv.length
      · exact crowdF_span p lv n _ hf h
      · exact absurd (List.idxOf_le_length) hf
theorem crowd_span {p : Int} {lv : List Nat} (h : (crowd p lv).2 ≠ 0) : (crowd p lv).1 + 2 ≤ (crowd p lv).2 ∧ (crowd p lv).2 ≤ lv.length := crowdF_span p lv _ _ (Nat.le_refl _) h
theorem replT_len (ts : List Tb) (f t : Nat) (x : Tb) (h : f + 2 ≤ t) (ht : t ≤ ts.length) : (replT ts f t x).length < ts.length := by
  unfold replT
  simp only [List.length_append, List.length_take, List.length_drop]
  split <;> simp <;> omega
def stepT (p : Int) (bs : List Int) (ts : List Tb) : List Tb :=
  let c := crowd p (ts.map (·.level))
  let es := mergeT bs ts c.1 c.2
  replT ts c.1 c.2 ⟨0, targetT p ((ts.map (·.level)).getD c.1 0) ((ts.map (·.level)).getD 0 0) (sizeL es), es⟩
theorem shapedF_step (p : Int) (bs : List Int) (n : Nat) (ts : List Tb) : shapedF p bs (n + 1) ts = if (crowd p (ts.map (·.level))).2 = 0 then ts else shapedF p bs n (stepT p bs ts) := rfl
theorem stepT_len {p : Int} {bs : List Int} {ts : List Tb} (h : (crowd p (ts.map (·.level))).2 ≠ 0) : (stepT p bs ts).length < ts.length := by
  obtain ⟨h1, h2⟩ := crowd_span h
  rw [List.length_map] at h2
  exact replT_len _ _ _ _ h1 h2
theorem shapedF_fuel (p : Int) (bs : List Int) : ∀ (n m : Nat) (ts : List Tb), ts.length ≤ n → ts.length ≤ m → shapedF p bs n ts = shapedF p bs m ts := by
  intro n
  induction n with
  | zero =>
    intro m ts hn hm
    obtain rfl : ts = [] := List.eq_nil_of_length_eq_zero (by omega)
    cases m with
    | zero => rfl
    | succ m => rw [shapedF_step]; simp [shapedF, crowd, crowdF]
  | succ n ih =>
    intro m ts hn hm
    by_cases hc : (crowd p (ts.map (·.level))).2 = 0
    · cases m with
      | zero =>
        obtain rfl : ts = [] := List.eq_nil_of_length_eq_zero (by omega)
        rw [shapedF_step]; simp [shapedF, crowd, crowdF]
      | succ m => rw [shapedF_step, shapedF_step, if_pos hc, if_pos hc]
    · have hl := stepT_len (bs := bs) hc
      cases m with
      | zero => omega
      | succ m => rw [shapedF_step, shapedF_step, if_neg hc, if_neg hc]; exact ih m _ (by omega) (by omega)
theorem shapedX_end {p : Int} {bs : List Int} {ts : List Tb} (h : (crowd p (ts.map (·.level))).2 = 0) : shapedX p bs ts = ts := by
  unfold shapedX
  rw [shapedF_fuel p bs ts.length (ts.length + 1) ts (Nat.le_refl _) (by omega), shapedF_step, if_pos h]
theorem shapedX_step {p : Int} {bs : List Int} {ts : List Tb} (h : (crowd p (ts.map (·.level))).2 ≠ 0) : shapedX p bs ts = shapedX p bs (stepT p bs ts) := by
  have hl := stepT_len (bs := bs) h
  unfold shapedX
  rw [shapedF_fuel p bs ts.length (ts.length + 1) ts (Nat.le_refl _) (by omega), shapedF_step, if_neg h]
  exact shapedF_fuel p bs _ _ _ (by omega) (Nat.le_refl _)
theorem mergeF_mem : ∀ (n : Nat) (ls : List Ly) (x : En), x ∈ mergeF n ls → x ∈ ls.flatten
  | 0, _, _, h => by simp [mergeF] at h
  | n + 1, ls, x, h => by
    rw [mergeF] at h
    split at h
    · simp at h
    · rename_i i hi
      split at h
      · simp at h
      · rename_i e he
        obtain ⟨t, ht⟩ : ∃ t, ls.getD i [] = e :: t := by
          cases hg : ls.getD i [] with
          | nil => rw [hg] at he; simp at he
          | cons a t => rw [hg] at he; simp at he; subst he; exact ⟨t, rfl⟩
        have hmem : ls.getD i [] ∈ ls := by
          rw [List.getD_eq_getElem?_getD] at ht ⊢
          cases hq : ls[i]? with
          | none => rw [hq] at ht; simp at ht
          | some y => simp only [Option.getD_some]; exact List.mem_of_getElem? hq
        rcases List.mem_cons.1 h with rfl | h
        · exact List.mem_flatten.2 ⟨_, hmem, by rw [ht]; simp⟩
        · have := mergeF_mem n _ x h
          obtain ⟨l, hl, hx⟩ := List.mem_flatten.1 this
          rcases List.mem_or_eq_of_mem_set hl with hl | rfl
          · exact List.mem_flatten.2 ⟨l, hl, hx⟩
          · exact List.mem_flatten.2 ⟨_, hmem, by rw [ht] at hx ⊢; simp at hx; simp [hx]⟩
theorem needF_mem (bs : List Int) (lw : Bool) : ∀ (n : Nat) (l : Ly) (x : En), x ∈ needF bs lw n l → x ∈ l
  | 0, _, _, h => by simp [needF] at h
  | n + 1, [], _, h => by simp [needF] at h
  | n + 1, e :: r, x, h => by
    rw [needF, List.mem_append] at h
    rcases h with h | h
    · rcases List.mem_cons.1 (seenV_mem h) with rfl | h'
      · simp
      · exact List.mem_cons_of_mem _ ((List.takeWhile_sublist _).mem h')
    · exact List.mem_cons_of_mem _ ((List.dropWhile_sublist _).mem (needF_mem bs lw n _ x h))
theorem mergeT_mem {bs : List Int} {ts : List Tb} {f t : Nat} {x : En} (h : x ∈ mergeT bs ts f t) : ∃ y ∈ ts, x ∈ y.es := by
  have h1 := mergeF_mem _ _ x (needF_mem _ _ _ _ x h)
  obtain ⟨l, hl, hx⟩ := List.mem_flatten.1 h1
  unfold newF at hl
  obtain ⟨y, hy, rfl⟩ := List.mem_map.1 hl
  exact ⟨y, List.mem_of_mem_drop (List.mem_of_mem_take (List.mem_reverse.1 hy)), hx⟩
def entsT (ts : List Tb) : Nat := (ts.map fun t => t.es.length).sum
theorem entsT_app (a b : List Tb) : entsT (a ++ b) = entsT a + entsT b := by simp [entsT]
theorem needL_len (bs : List Int) (lw : Bool) (l : Ly) : (needL bs lw l).length ≤ l.length := by
  have h1 := foldN_len bs lw (keepA_len bs) l [] []
  have h2 := foldN_end bs lw l
  have h3 : (seenV bs lw (foldN bs lw l).2).length ≤ (foldN bs lw l).2.length := by
    unfold seenV
    split
    · exact Nat.le_trans (strip_len _) (keepA_len bs _)
    · exact keepA_len bs _
  rw [← h2, List.length_append]
  unfold foldN at *
  simp only [List.length_nil, Nat.zero_add] at h1
  omega
theorem mergeF_len : ∀ (n : Nat) (ls : List Ly), (mergeF n ls).length ≤ n
  | 0, _ => by simp [mergeF]
  | n + 1, ls => by
    rw [mergeF]
    split
    · simp
    · split
      · simp
      · simp only [List.length_cons]
        exact Nat.succ_le_succ (mergeF_len n _)
theorem newF_len (ts : List Tb) : (newF ts).flatten.length = entsT ts := by
  unfold newF entsT
  rw [List.length_flatten, List.map_map, List.map_reverse, List.sum_reverse]
  rfl
theorem entsT_split (ts : List Tb) (f t : Nat) (h : f ≤ t) : entsT ts = entsT (ts.take f) + (entsT ((ts.drop f).take (t - f)) + entsT (ts.drop t)) := by
  rw [← entsT_app, ← entsT_app]
  congr 1
  rw [show ts.drop t = (ts.drop f).drop (t - f) by rw [List.drop_drop]; congr 1; omega, List.take_append_drop, List.take_append_drop]
theorem mergeT_len (bs : List Int) (ts : List Tb) (f t : Nat) : (mergeT bs ts f t).length ≤ entsT ((ts.drop f).take (t - f)) := by
  unfold mergeT
  refine Nat.le_trans (needL_len _ _ _) (Nat.le_trans (mergeF_len _ _) ?_)
  rw [newF_len]
  exact Nat.le_refl _
theorem replT_ents (bs : List Int) (ts : List Tb) (f t n lv : Nat) (h : f ≤ t) : entsT (replT ts f t ⟨n, lv, mergeT bs ts f t⟩) ≤ entsT ts := by
  rw [entsT_split ts f t h]
  have := mergeT_len bs ts f t
  unfold replT
  rw [entsT_app, entsT_app]
  split <;> simp [entsT] at * <;> omega
end Go.Proofs.YtoabedkcieindabGreatDoor

namespace Go.Proofs.YtoabedkcieindabGreatDoor
open Go.RowKit Go.Maps Go.Sort Go.Shelf
structure ShI (w W : World) (s0 : Sl) (l0 : List Tr) (p : Int) (ss : List Int) (M : Nat) (s : Sl) (l : List Tr) : Prop where
  at_ : TrAt W s l
  es : TrEs W l
  bel : Below w.heap.size w W
  len : l.length ≤ 1000
  ents : entsT (l.map (·.1)) ≤ 100000
  ok : ∀ x ∈ l, LyOk x.1.es
  lev : ∀ x ∈ l, x.1.level + l.length ≤ M
  fix : shapedX p ss (l.map (·.1)) = shapedX p ss (l0.map (·.1))
  row : (s = s0 ∧ l = l0) ∨ ∀ a, s.1 = some a → w.heap.size ≤ a.block
  each : ∀ x ∈ l, x ∈ l0 ∨ ∀ a, x.2.1 = some a → w.heap.size ≤ a.block
theorem OwnL.lyp {w : World} {base : Nat} {v : Value} {xs : List (Sl × Ly)} (h : OwnL w base v (xs.map (·.1))) (he : ∀ x ∈ xs, SlAt w x.1 x.2) :
    ∃ q cap, v = .slice q xs.length cap ∧ Lyp w q xs ∧ (q = none → cap = 0 ∧ xs = []) ∧ ∀ a, q = some a → ∃ g off, a = ⟨g, off, none⟩ := by
  obtain ⟨q, cap, hv, hc, hr, hn, hb⟩ := h.rp slC_len
  rw [List.length_map] at hv
  refine ⟨q, cap, hv, ⟨hr, he⟩, fun e => ⟨(hn e).1, List.map_eq_nil_iff.1 (hn e).2⟩, fun a ha => ?_⟩
  rcases World.ownsRow.shapeE h with h' | ⟨g, c, h'⟩
  · rw [hv] at h'; cases (Value.slice.inj h').1; cases ha
  · rw [hv] at h'
    have := (Value.slice.inj h').1
    rw [ha] at this
    cases this
    exact ⟨g, 0, rfl⟩
theorem targetT_le (p : Int) (lv hi b : Nat) : targetT p lv hi b ≤ lv + 1 := by unfold targetT; split <;> omega
theorem ShI.below {w W W' : World} {s0 : Sl} {l0 : List Tr} {p : Int} {ss : List Int} {M : Nat} {s : Sl} {l : List Tr} (h : ShI w W s0 l0 p ss M s l) (k : Below W.heap.size W W') : ShI w W' s0 l0 p ss M s l :=
  ⟨h.at_.below k, h.es.below k, h.bel.trans (k.mono h.bel.size), h.len, h.ents, h.ok, h.lev, h.fix, h.row, h.each⟩
theorem ShI.step {w W W7 W8 : World} {s0 s : Sl} {l0 l : List Tr} {p : Int} {ss : List Int} {M f t : Nat} {b : Tr} {v : Value} (h : ShI w W s0 l0 p ss M s l) (hft : f + 2 ≤ t) (htl : t ≤ l.length) (hb : Below W.heap.size W W7) (hes : SlAt W7 b.2 b.1.es) (hok : LyOk b.1.es) (heq : b.1.es = mergeT ss (l.map (·.1)) f t)
    (hlv : b.1.level ≤ (l[f]'(by omega)).1.level + 1) (hfix : shapedX p ss (l.map (·.1)) = shapedX p ss (replT (l.map (·.1)) f t b.1)) (hba : ∀ a, b.2.1 = some a → w.heap.size ≤ a.block) (hb8 : Below W7.heap.size W7 W8)
    (ho : OwnT W8 W7.heap.size v (l.take f ++ (if b.1.es = [] then [] else [b]) ++ l.drop t)) :
    ∃ s', v = slV s' ∧ ShI w W8 s0 l0 p ss M s' (l.take f ++ (if b.1.es = [] then [] else [b]) ++ l.drop t) ∧ (l.take f ++ (if b.1.es = [] then [] else [b]) ++ l.drop t).length < l.length := by
  have hrep : (l.take f ++ (if b.1.es = [] then [] else [b]) ++ l.drop t).map (·.1) = replT (l.map (·.1)) f t b.1 := by
    unfold replT
    rw [List.map_append, List.map_append, List.map_take, List.map_drop, List.append_assoc]
    congr 2
    cases b.1.es <;> simp
  have hlen : (l.take f ++ (if b.1.es = [] then [] else [b]) ++ l.drop t).length < l.length := by
    have := replT_len (l.map (·.1)) f t b.1 hft (by rw [List.length_map]; exact htl)
    rw [← hrep, List.length_map, List.length_map] at this
    exact this
  have hmem : ∀ x ∈ l.take f ++ (if b.1.es = [] then [] else [b]) ++ l.drop t, x ∈ l ∨ x = b := fun x hx => by
    rcases List.mem_append.1 hx with hx | hx
    · rcases List.mem_append.1 hx with hx | hx
      · exact .inl (List.mem_of_mem_take hx)
      · split at hx
        · simp at hx
        · exact .inr (by simpa using hx)
    · exact .inl (List.mem_of_mem_drop hx)
  obtain ⟨s', hv, hat, hab⟩ := OwnR.trAt ho
  have hz : w.heap.size ≤ W7.heap.size := Nat.le_trans h.bel.size hb.size
  have hbel : Below w.heap.size w W8 := h.bel.trans ((hb.mono h.bel.size).trans (hb8.mono hz))
  refine ⟨s', hv, ⟨hat, fun x hx => ?_, hbel, by have := h.len; omega, ?_, fun x hx => ?_, fun x hx => ?_, ?_, .inr (fun a ha => Nat.le_trans hz (hab a ha).1), fun x hx => ?_⟩, hlen⟩
  · rcases hmem x hx with hx | rfl
    · exact ((h.es x hx).below hb).below hb8
    · exact hes.below hb8
  · rw [hrep]
    have := replT_ents ss (l.map (·.1)) f t b.1.number b.1.level (by omega)
    rw [← heq] at this
    exact Nat.le_trans this h.ents
  · rcases hmem x hx with hx | rfl
    · exact h.ok x hx
    · exact hok
  · rcases hmem x hx with hx | rfl
    · have := h.lev x hx; omega
    · have := h.lev _ (List.getElem_mem (show f < l.length by omega)); omega
  · rw [hrep, ← hfix]; exact h.fix
  · rcases hmem x hx with hx | rfl
    · exact h.each x hx
    · exact .inr hba
set_option maxRecDepth 100000 in
set_option maxHeartbeats 400000 in
theorem shaped_any (T bs : Nat) (sn : SnL) (ss : List Int) (hss : sn.map (·.2) = ss) (p : Int) (M : Nat) (s0 : Sl) (l0 : List Tr) (w : World) (hT2 : w.cell? ⟨T, 2, none⟩ = some (.int .i64 p)) (hc : w.cell? ⟨T, 9, none⟩ = some (.map (some bs))) (hm : SnAt w bs sn) (hsn : sn.length ≤ 1000) (hp : 0 ≤ p ∧ p ≤ 2) (hM : M ≤ 1000000)
    (h0 : ShI w w s0 l0 p ss M s0 l0) :
    Calls Tryz.prog 188 #[.pointer (some ⟨T, 0, none⟩), slV s0] w fun e w' => ∃ s l, e = .returned (slV s) ∧ ShI w w' s0 l0 p ss M s l ∧ l.map (·.1) = shapedX p ss (l0.map (·.1)) := by
  go_enter Tryz.func188, Tryz.ntmps188
  go_wp2
  go_loopw [1] (fun v wr => ∃ s l, v = slV s ∧ ShI w wr s0 l0 p ss M s l) (fun v _ => match v with | .slice _ n _ => n | _ => 0)
  case atStart => exact ⟨s0, l0, rfl, h0⟩
  case round =>
    obtain ⟨⟨sa, sn, sc⟩, l, rfl, hI⟩ := hrel
    obtain rfl : sn = l.length := hI.at_.len
    have hT2r := cell_below hI.bel hT2
    have hLv := fun (W : World) (h : Below wr.heap.size wr W) => levels_any sa sc (l.map (·.1)) W ((hI.at_.tbp hI.es).below h) (by rw [List.length_map]; have := hI.len; omega)
    simp only [List.length_map, List.map_map] at hLv
    have hCr := fun (W : World) (q : Option Addr) (c : Nat) (h : Inp W q (l.map fun x => x.1.level)) => Crowded_any p q c (l.map fun x => x.1.level) W hp h (by rw [List.length_map]; have := hI.len; omega) (fun x hx => by obtain ⟨y, hy, rfl⟩ := List.mem_map.1 hx; have := hI.lev y hy; omega)
    simp only [List.length_map] at hCr
    rw [show slV (sa, l.length, sc) = .slice sa l.length sc from rfl]
    go_wp2
    refine wp_calm ?_
    refine wp_region_E (S := fun w' => w'.cell? ⟨T, 2, none⟩ = some (.int .i64 p)) mixedP ?_
    refine wpAnyE_take (i := 0) (L := 1) (v := .pointer (some ⟨T, 0, none⟩)) rfl rfl (by decide) (by kernel_rfl) (by kernel_rfl) (by kernel_rfl) (by kernel_rfl) (by kernel_rfl) (fun _ _ _ h => h) (Or.inl ⟨by rfl, fun w' hS => ?_⟩) hT2r ?_
    · go_simp
    refine wpAnyE_take (i := 1) (L := 2) (v := .pointer (some ⟨T, 0, none⟩)) rfl rfl (by decide) (by kernel_rfl) (by kernel_rfl) (by kernel_rfl) (by kernel_rfl) (by kernel_rfl) (fun _ _ _ h => h) (Or.inl ⟨by rfl, fun w' hS => ?_⟩) hT2r ?_
    · go_simp
    refine wpAnyE_take (i := 2) (L := 3) (v := .pointer (some ⟨T, 2, none⟩)) rfl rfl (by decide) (by kernel_rfl) (by kernel_rfl) (by kernel_rfl) (by kernel_rfl) (by kernel_rfl) (fun _ _ _ h => h) (Or.inl ⟨by rfl, fun w' hS => ?_⟩) hT2r ?_
    · go_simp
    refine wpAnyE_take (i := 3) (L := 6) (v := .int .i64 p) rfl rfl (by decide) (by kernel_rfl) (by kernel_rfl) (by kernel_rfl) (by kernel_rfl) (by kernel_rfl) (fun _ _ _ h => h) (Or.inl ⟨by rfl, fun w' hS => ?_⟩) hT2r ?_
    · go_simp
    refine wpAnyE_take (i := 4) (L := 5) (v := .slice sa l.length sc) rfl rfl (by decide) (by kernel_rfl) (by kernel_rfl) (by kernel_rfl) (by kernel_rfl) (by kernel_rfl) (fun _ _ _ h => h) (Or.inl ⟨by rfl, fun w' hS => ?_⟩) hT2r ?_
    · go_simp
    refine wpAnyE_one (i := 5) (by kernel_rfl) rfl (by rfl) (fun K hK => ?_)
    go_simp
    refine (hLv _ (Below.refl _ _).drew).mono ?_
    rintro e w1 ⟨v1, rfl, hb1, ho1⟩
    replace ho1 : OwnN w1 _ v1 (l.map fun x => x.1.level) := ho1
    obtain ⟨q1, c1, hv1, hin1⟩ := ho1.inp
    rw [List.length_map] at hv1
    subst hv1
    have hb1' : Below wr.heap.size wr w1 := ((Below.refl _ wr).drew).trans hb1
    have hT2s := cell_below hb1' hT2r
    clear ho1
    refine hK.out _ _ hT2s ?_
    clear hK
    refine wpAnyE_one (i := 6) (by kernel_rfl) rfl (by rfl) (fun K hK => ?_)
    go_simp
    refine (hCr _ q1 c1 hin1).mono ?_
    rintro e w2 ⟨rfl, rfl⟩
    refine hK.out _ _ hT2s ?_
    clear hK
    refine wpAnyE_one (i := 7) (by kernel_rfl) rfl (by rfl) (fun K hK => ?_)
    go_simp
    refine hK.out _ _ hT2s ?_
    clear hK
    refine wpAnyE_take (i := 8) (L := 10) (v := .int .i64 ((crowd p (l.map fun x => x.1.level)).1 : Nat)) rfl rfl (by decide) (by kernel_rfl) (by kernel_rfl) (by kernel_rfl) (by kernel_rfl) (by kernel_rfl) (fun _ _ _ h => h) (Or.inl ⟨by rfl, fun w' hS => ?_⟩) hT2s ?_
    · go_simp
    refine wpAnyE_take (i := 9) (L := 11) (v := .int .i64 ((crowd p (l.map fun x => x.1.level)).2 : Nat)) rfl rfl (by decide) (by kernel_rfl) (by kernel_rfl) (by kernel_rfl) (by kernel_rfl) (by kernel_rfl) (fun _ _ _ h => h) (Or.inl ⟨by rfl, fun w' hS => ?_⟩) hT2s ?_
    · go_simp
    refine wpAnyE_one (i := 10) (by kernel_rfl) rfl (by rfl) (fun K hK => ?_)
    go_simp
    refine hK.out _ _ hT2s ?_
    clear hK
    refine wpAnyE_last (i := 11) (by kernel_rfl) rfl (by rfl) (by kernel_rfl) (by kernel_rfl) (fun K hK => ?_)
    go_simp
    refine hK.out _ _ ?_
    clear hK
    have hI1 := hI.below hb1'
    clear hI hLv hCr hin1 hT2r hb1
    have hsp := fun h => crowd_span (p := p) (lv := l.map fun x => x.1.level) h
    rw [List.length_map] at hsp
    have hend := fun h => shapedX_end (p := p) (bs := ss) (ts := l.map (·.1)) h
    have hstep := fun h => shapedX_step (p := p) (bs := ss) (ts := l.map (·.1)) h
    unfold stepT at hstep
    simp only [List.map_map] at hend hstep
    have hcr : crowd p (List.map ((fun x : Tb => x.level) ∘ fun x : Tr => x.1) l) = crowd p (l.map fun x => x.1.level) := rfl
    rw [hcr] at hend hstep
    clear hcr
    generalize crowd p (l.map fun x => x.1.level) = C at *
    obtain ⟨f, t⟩ := C
    simp only at hend hstep hsp
    by_cases ht : t = 0
    · subst ht
      have HE := hend rfl
      have hfx := hI1.fix
      go_wp2
      go_ret
      exact ⟨_, _, _, rfl, l, hI1, by rw [← HE]; exact hfx⟩
    · have HE : Hid _ := hstep ht
      obtain ⟨hft, htl⟩ := hsp ht
      clear hend hstep hsp
      have hlen := hI1.len
      have hcap : l.length ≤ sc := hI1.at_.cap
      obtain ⟨g, off, hq, d0⟩ := hI1.at_.row 0 (by omega) 1 _ rfl
      obtain ⟨_, _, e1, d1⟩ := hI1.at_.row f (by omega) 1 _ rfl
      simp only at hq e1
      subst hq
      cases e1
      simp only [Nat.zero_mul, Nat.zero_add] at d0
      rw [← Nat.add_assoc] at d1
      have hfl : f < l.length := by omega
      have h0l : 0 < l.length := by omega
      replace d0 := cell_below ((Below.refl _ w2).drew) d0
      replace d1 := cell_below ((Below.refl _ w2).drew) d1
      go_wp2
      refine wp_region_still_lit mixedP (by kernel_rfl) ?_
      (iterate 11 still_step)
      refine wpStill_nil ?_
      change Exit.then _ _ _ _ w2.drew
      have hI4 := hI1.below ((Below.refl _ w2).drew)
      clear hI1 d0 d1 hT2s hb1'
      generalize w2.drew = W4 at *
      have hsl : ((l.drop f).take (t - f)).length = t - f := by rw [List.length_take, List.length_drop]; omega
      have hsub : TrAt W4 (some ⟨g, off + f * 3, none⟩, t - f, sc - f) ((l.drop f).take (t - f)) := by
        have h1 := hI4.at_.drop f (by omega)
        rw [if_neg (by omega)] at h1
        exact h1.take (t - f) (by rw [List.length_drop]; omega)
      have hse : ∀ x ∈ (l.drop f).take (t - f), x ∈ l := fun x hx => List.mem_of_mem_drop (List.mem_of_mem_take hx)
      have hMT : Hid (mergeT ss (l.map (·.1)) f t = needL ss (f == 0) (mergeL ((((l.drop f).take (t - f)).reverse.map fun x => (x.2, x.1.es)).map (·.2)))) := by
        show _ = _
        unfold mergeT newF
        rw [← List.map_drop, ← List.map_take, ← List.map_reverse, List.map_map, List.map_map]
        rfl
      have hen : sumL (((l.drop f).take (t - f)).reverse.map fun x => (x.2, x.1.es)) ≤ 100000 := by
        have h1 := entsT_split (l.map (·.1)) f t (by omega)
        have h2 : sumL (((l.drop f).take (t - f)).reverse.map fun x => (x.2, x.1.es)) = entsT (((l.map (·.1)).drop f).take (t - f)) := by
          unfold sumL entsT
          rw [← List.map_drop, ← List.map_take, List.map_map, List.map_map, List.map_reverse, List.sum_reverse]
          rfl
        have := hI4.ents
        omega
      generalize (l.drop f).take (t - f) = sub at *
      have hNF := newestFirst_any (some ⟨g, off + f * 3, none⟩) (sc - f) sub W4 (by rw [hsl]; exact hsub) (by omega)
      rw [hsl] at hNF
      have hcf : ¬ (sc = f) := by omega
      have hlw : ((f : Int) == 0) = (f == 0) := by cases f <;> rfl
      have hNd := fun (w5 : World) (q5 : Option Addr) (c5 : Nat) (h5 : Below W4.heap.size W4 w5) (hly : Lyp w5 q5 (sub.reverse.map fun x => (x.2, x.1.es))) (hn : q5 = none → c5 = 0 ∧ (sub.reverse.map fun x => (x.2, x.1.es)) = []) (ha : ∀ a, q5 = some a → ∃ g off, a = ⟨g, off, none⟩) =>
        needed_any T bs sn q5 c5 (sub.reverse.map fun x => (x.2, x.1.es)) ((f : Int) == 0) w5 (cell_below (hI4.bel.trans (h5.mono hI4.bel.size)) hc) (hm.block ((hI4.bel.trans (h5.mono hI4.bel.size)).block bs hm.lt)) hsn hly hn ha (by simp only [List.length_map, List.length_reverse, hsl]; omega) hen
      simp only [List.length_map, List.length_reverse, hsl, hss] at hNd
      rw [← hlw] at hMT
      clear hlw
      have hff : f ≤ t := by omega
      have htc : t ≤ sc := by omega
      go_wp2_with (first
        | (go_at_call 70; refine hNF.mono ?_; rintro e w5 ⟨v5, rfl, hb5, ho5⟩; obtain ⟨q5, c5, hv5, hly5, hn5, ha5⟩ := OwnL.lyp (xs := sub.reverse.map fun x => (x.2, x.1.es)) (by rw [List.map_map]; exact ho5) (fun x hx => by obtain ⟨y, hy, rfl⟩ := List.mem_map.1 hx; exact (hI4.es y (hse y (List.mem_reverse.1 hy))).below hb5); simp only [List.length_map, List.length_reverse, hsl] at hv5; subst hv5)
        | (go_at_call 69; refine (hNd w5 q5 c5 hb5 hly5 hn5 ha5).mono ?_; rintro e w6 ⟨v6, rfl, hb6, ho6⟩; rw [← hMT.out] at ho6; obtain ⟨q6, c6, hv6⟩ := ho6.shape; subst hv6))
      have hb46 : Below W4.heap.size W4 w6 := hb5.trans (hb6.mono hb5.size)
      have hs6 := ho6.slAt1
      have hI6 := hI4.below hb46
      have hz6 : w.heap.size ≤ w5.heap.size := Nat.le_trans hI4.bel.size hb5.size
      have hbk6 : ∀ a, q6 = some a → w.heap.size ≤ a.block := fun a ha => by
        obtain ⟨s', e', _, hb'⟩ := ho6.slAt
        obtain ⟨rfl, -, -⟩ := Value.slice.inj e'
        exact Nat.le_trans hz6 (hb' a ha).1
      have hok6 : LyOk (mergeT ss (l.map (·.1)) f t) := fun e he => by
        obtain ⟨y, hy, hx⟩ := mergeT_mem he
        obtain ⟨z, hz, rfl⟩ := List.mem_map.1 hy
        exact hI6.ok z hz e hx
      have hl6 : (mergeT ss (l.map (·.1)) f t).length ≤ 100000 := by
        have h1 := mergeT_len ss (l.map (·.1)) f t
        have h2 := entsT_split (l.map (·.1)) f t (by omega)
        have := hI6.ents
        omega
      clear hNF hNd hly5 hn5 ha5 ho6 hI4 hsub hMT hen hsl hse
      have hT26 := cell_below hI6.bel hT2
      have hg0 : (List.map ((fun x : Tb => x.level) ∘ fun x : Tr => x.1) l).getD 0 0 = l[0].1.level := by rw [List.getD_eq_getElem?_getD, List.getElem?_map, List.getElem?_eq_getElem h0l]; rfl
      have hgf : (List.map ((fun x : Tb => x.level) ∘ fun x : Tr => x.1) l).getD f 0 = l[f].1.level := by rw [List.getD_eq_getElem?_getD, List.getElem?_map, List.getElem?_eq_getElem hfl]; rfl
      rw [hg0, hgf] at HE
      clear hg0 hgf
      generalize hES : mergeT ss (l.map (·.1)) f t = es at *
      have HES : Hid (mergeT ss (l.map (·.1)) f t = es) := hES
      clear hES
      have hSz := fun (W : World) (h : Below w6.heap.size w6 W) => laySize_any q6 c6 es W (hs6.row.below h) hok6 (by omega)
      have hszl := sizeL_le hok6
      have hlv0 := hI6.lev _ (List.getElem_mem h0l)
      have hlvf := hI6.lev _ (List.getElem_mem hfl)
      have hTg := fun (W : World) => Target_any p l[f].1.level l[0].1.level (sizeL es) W (by omega) (by omega) (by omega) hp
      have hTl := targetT_le p l[f].1.level l[0].1.level (sizeL es)
      generalize sizeL es = sz at *
      generalize hTV : targetT p l[f].1.level l[0].1.level sz = tg at *
      clear hTV
      go_wp2
      refine wp_calm ?_
      refine wp_region_E (S := fun w' => w'.cell? ⟨T, 2, none⟩ = some (.int .i64 p)) mixedP ?_
      refine wpAnyE_take (i := 0) (L := 1) (v := .pointer (some ⟨T, 0, none⟩)) rfl rfl (by decide) (by kernel_rfl) (by kernel_rfl) (by kernel_rfl) (by kernel_rfl) (by kernel_rfl) (fun _ _ _ h => h) (Or.inl ⟨by rfl, fun w' hS => ?_⟩) hT26 ?_
      · go_simp
      refine wpAnyE_take (i := 1) (L := 2) (v := .pointer (some ⟨T, 0, none⟩)) rfl rfl (by decide) (by kernel_rfl) (by kernel_rfl) (by kernel_rfl) (by kernel_rfl) (by kernel_rfl) (fun _ _ _ h => h) (Or.inl ⟨by rfl, fun w' hS => ?_⟩) hT26 ?_
      · go_simp
      refine wpAnyE_take (i := 2) (L := 3) (v := .pointer (some ⟨T, 2, none⟩)) rfl rfl (by decide) (by kernel_rfl) (by kernel_rfl) (by kernel_rfl) (by kernel_rfl) (by kernel_rfl) (fun _ _ _ h => h) (Or.inl ⟨by rfl, fun w' hS => ?_⟩) hT26 ?_
      · go_simp
      refine wpAnyE_take (i := 3) (L := 8) (v := .int .i64 p) rfl rfl (by decide) (by kernel_rfl) (by kernel_rfl) (by kernel_rfl) (by kernel_rfl) (by kernel_rfl) (fun _ _ _ h => h) (Or.inl ⟨by rfl, fun w' hS => ?_⟩) hT26 ?_
      · go_simp
      refine wpAnyE_take (i := 4) (L := 8) (v := .int .i64 (l[f].1.level : Nat)) rfl rfl (by decide) (by kernel_rfl) (by kernel_rfl) (by kernel_rfl) (by kernel_rfl) (by kernel_rfl) (fun _ _ _ h => h) (Or.inl ⟨by rfl, fun w' hS => ?_⟩) hT26 ?_
      · go_simp
      refine wpAnyE_take (i := 5) (L := 8) (v := .int .i64 (l[0].1.level : Nat)) rfl rfl (by decide) (by kernel_rfl) (by kernel_rfl) (by kernel_rfl) (by kernel_rfl) (by kernel_rfl) (fun _ _ _ h => h) (Or.inl ⟨by rfl, fun w' hS => ?_⟩) hT26 ?_
      · go_simp
      refine wpAnyE_take (i := 6) (L := 7) (v := .slice q6 es.length c6) rfl rfl (by decide) (by kernel_rfl) (by kernel_rfl) (by kernel_rfl) (by kernel_rfl) (by kernel_rfl) (fun _ _ _ h => h) (Or.inl ⟨by rfl, fun w' hS => ?_⟩) hT26 ?_
      · go_simp
      refine wpAnyE_one (i := 7) (by kernel_rfl) rfl (by rfl) (fun K hK => ?_)
      go_simp
      refine (hSz _ (Below.refl _ _).drew).mono ?_
      rintro e w7 ⟨rfl, hb7⟩
      have hb67 : Below w6.heap.size w6 w7 := ((Below.refl _ w6).drew).trans hb7
      refine hK.out _ _ (cell_below hb67 hT26) ?_
      clear hK
      refine wpAnyE_one (i := 8) (by kernel_rfl) rfl (by rfl) (fun K hK => ?_)
      go_simp
      refine (hTg _).mono ?_
      rintro e w8 ⟨rfl, rfl⟩
      refine hK.out _ _ (cell_below hb67 hT26) ?_
      clear hK
      refine wpAnyE_last (i := 9) (by kernel_rfl) rfl (by rfl) (by kernel_rfl) (by kernel_rfl) (fun K hK => ?_)
      go_simp
      refine hK.out _ _ ?_
      clear hK
      have hRp := replaced_any g off sc l f t (⟨0, tg, es⟩, (q6, es.length, c6)) w8 (hI6.at_.below hb67) rfl (by simp only; omega) (by omega) htl hlen
      simp only at hRp
      clear hSz hTg hT26
      go_wp2_with (go_at_call 72; refine hRp.mono ?_; rintro e w9 ⟨v9, rfl, hb9, ho9⟩)
      obtain ⟨⟨sa', sn', sc'⟩, hv9, hI9, hl9⟩ := hI6.step hft htl hb67 (b := (⟨0, tg, es⟩, (q6, es.length, c6))) (hs6.below hb67) hok6 HES.out.symm hTl HE.out hbk6 hb9 ho9
      subst hv9
      go_roundw
      case rel => exact ⟨_, _, rfl, hI9⟩
      case measure => exact Nat.lt_of_le_of_lt (Nat.le_of_eq hI9.at_.len) hl9
end Go.Proofs.YtoabedkcieindabGreatDoor

namespace Go.Proofs.YtoabedkcieindabGreatDoor
open Go.RowKit Go.Maps Go.Sort Go.Shelf
theorem lwrite_ok {d : Dk} (h : d.Ok) (n : Nm) (c : List UInt8) : (lwrite d n c).2.Ok ∧ (lwrite d n c).2.files.length ≤ d.files.length + 1 := by
  obtain ⟨h1, h2⟩ := write_ok h n c
  unfold lwrite
  simp only
  split
  · exact ⟨h1, h2⟩
  · obtain ⟨h3, h4⟩ := sync_ok h1 n
    exact ⟨h3, by omega⟩
theorem nw_nw {S : Nat → Prop} {w w' : World} (hz : w.heap.size ≤ w'.heap.size) (k : Nat) (_ : k < 0 ∨ True) (h : Nw (Nw S w) w' k) : Nw S w k := by
  rcases h with h | h
  · exact h
  · exact .inr (Nat.le_trans hz h)
set_option maxHeartbeats 400000 in
set_option maxRecDepth 20000 in
theorem swrite_any (T bd : Nat) (d : Dk) (S : Nat → Prop) (n : Nm) (c : List UInt8) (w : World) (h0 : w.cell? ⟨T, 0, none⟩ = some (.pointer (some ⟨bd, 0, none⟩))) (hT : ¬ S T) (hP : ProgAt w S bd d) (hok : d.Ok) (hl : d.files.length ≤ 4194302) (hn : n.length ≤ 1000) (hc : c.length ≤ 1099511627776) :
    Calls Tryz.prog 202 #[.pointer (some ⟨T, 0, none⟩), str n, str c] w fun e w' => e = .returned (.int .i64 (lwrite d n c).1) ∧ ProgAt w' (Nw S w) bd (lwrite d n c).2 ∧ Kp S w w' := by
  have hW := dWrite_any bd d n c S w hP hok hl (by omega) hc
  have hY := fun (w1 : World) (h : ProgAt w1 (Nw S w) bd (d.write n c).2) => dSync_any bd (d.write n c).2 n (Nw S w) w1 h (write_ok hok n c).1 (by unfold maxLen; omega)
  have hTl := World.block_lt_of_cell? w _ h0
  unfold lwrite
  by_cases he : (d.write n c).1 = 0
  · simp only [he, ne_eq, not_true, if_false]
    rw [he] at hW
    go_enter Tryz.func202, Tryz.ntmps202
    go_wp2_with (first
      | (go_at_call 99; refine hW.mono ?_; rintro e w1 ⟨rfl, hP1, k1⟩; have h01 : w1.cell? ⟨T, 0, none⟩ = some (.pointer (some ⟨bd, 0, none⟩)) := (World.cell?_of_block (k1.block T hTl hT)).trans h0)
      | (go_at_call 62; refine (hY _ hP1).mono ?_; rintro e w2 ⟨rfl, hP2, k2⟩))
    go_ret
    refine ⟨rfl, hP2.mono (fun k _ h => nw_nw k1.size k (.inr trivial) h), k1.trans k2 (fun i hi s => ?_)⟩
    rcases s with s | s
    · exact s
    · omega
  · simp only [ne_eq, he, not_false_eq_true, if_true]
    generalize (d.write n c).1 = r at *
    go_enter Tryz.func202, Tryz.ntmps202
    go_wp2_with (go_at_call 99; refine hW.mono ?_; rintro e w1 ⟨rfl, hP1, k1⟩)
    go_ret
    exact ⟨rfl, hP1, k1⟩
set_option maxHeartbeats 400000 in
set_option maxRecDepth 20000 in
theorem replace_any (T bd : Nat) (d : Dk) (S : Nat → Prop) (n : Nm) (c : List UInt8) (w : World) (h0 : w.cell? ⟨T, 0, none⟩ = some (.pointer (some ⟨bd, 0, none⟩))) (hT : ¬ S T) (hP : ProgAt w S bd d) (hok : d.Ok) (hl : d.files.length ≤ 4194301) (hn : n.length ≤ 1000) (hc : c.length ≤ 1099511627776) :
    Calls Tryz.prog 129 #[.pointer (some ⟨T, 0, none⟩), str n, str c] w fun e w' => e = .returned (.int .i64 (lreplace d n c).1) ∧ ProgAt w' (Nw S w) bd (lreplace d n c).2 ∧ Kp S w w' := by
  have hW := swrite_any T bd d S begN c w h0 hT hP hok (by omega) (by decide) hc
  have hbg : str begN = .string ⟨#[98, 101, 103, 117, 110]⟩ := rfl
  rw [hbg] at hW
  have hY := fun (w1 : World) (h : ProgAt w1 (Nw S w) bd (lwrite d begN c).2) => dRename_any bd (lwrite d begN c).2 begN n (Nw S w) w1 h (lwrite_ok hok begN c).1 (by have := (lwrite_ok hok begN c).2; omega) (by decide) (by omega)
  have hbg2 : Value.string ⟨begN.toArray⟩ = .string ⟨#[98, 101, 103, 117, 110]⟩ := rfl
  rw [hbg2] at hY
  clear hbg hbg2
  have hTl := World.block_lt_of_cell? w _ h0
  unfold lreplace
  by_cases he : (lwrite d begN c).1 = 0
  · simp only [he, ne_eq, not_true, if_false]
    rw [he] at hW
    go_enter Tryz.func129, Tryz.ntmps129
    go_wp2_with (first
      | (go_at_call 202; refine hW.mono ?_; rintro e w1 ⟨rfl, hP1, k1⟩; have h01 : w1.cell? ⟨T, 0, none⟩ = some (.pointer (some ⟨bd, 0, none⟩)) := (World.cell?_of_block (k1.block T hTl hT)).trans h0)
      | (go_at_call 138; refine (hY _ hP1).mono ?_; rintro e w2 ⟨rfl, hP2, k2⟩))
    go_ret
    refine ⟨rfl, hP2.mono (fun k _ h => nw_nw k1.size k (.inr trivial) h), k1.trans k2 (fun i hi s => ?_)⟩
    rcases s with s | s
    · exact s
    · omega
  · simp only [ne_eq, he, not_false_eq_true, if_true]
    generalize (lwrite d begN c).1 = r at *
    go_enter Tryz.func129, Tryz.ntmps129
    go_wp2_with (go_at_call 202; refine hW.mono ?_; rintro e w1 ⟨rfl, hP1, k1⟩)
    go_ret
    exact ⟨rfl, hP1, k1⟩
end Go.Proofs.YtoabedkcieindabGreatDoor
