import Derived.Test.YtoabedkcieindabGreatDoorQkAC
import Derived.Test.YtoabedkcieindabGreatDoorQkAA
import Derived.Laws.BitsLemmas
import Derived.Laws.ResultCell
namespace Go.Proofs.YtoabedkcieindabGreatDoor
open Go.RowKit Go.Maps Go.Sort
theorem before_le : ∀ {a b : List UInt8}, bytesBefore a b = true → a ≤ b
  | [], _, _ => by exact List.nil_le _
  | x :: r, [], h => by cases h
  | x :: r, y :: s, h => by
    simp only [bytesBefore, Bool.or_eq_true, Bool.and_eq_true, decide_eq_true_eq, beq_iff_eq] at h
    rw [List.cons_le_cons_iff]
    rcases h with h | ⟨rfl, h⟩
    · exact .inl h
    · exact .inr ⟨rfl, before_le h⟩
theorem keys_dat (ps : PL) : strKeys (datOf ps) = nmsOf ps := by
  show (ps.map ent).map (fun p => strOf p.1) = ps.map (·.1)
  rw [List.map_map]
  rfl
theorem sorted_names {ps : PL} (h : rising ps) {ss : List (List UInt8)} (hp : ss.Perm (nmsOf ps)) : ss.mergeSort (fun x y => decide (x ≤ y)) = nmsOf ps := by
  rw [mergeSort_of_perm hp]
  apply List.mergeSort_of_pairwise
  unfold nmsOf
  rw [List.pairwise_map]
  exact h.imp (fun hab => by simpa using before_le hab)
set_option maxHeartbeats 1000000 in
theorem order_any {w : World} {S : Nat → Prop} {bd bm : Nat} {ps : PL} {room fuse : Int} {dead : Bool} {turn : Int} (h : PrSt w S bd bm ps room fuse dead turn) (hr : rising ps) (hl : ps.length ≤ 4194304) :
    Calls Tryz.prog 58 #[.pointer (some ⟨bd, 0, none⟩)] w fun e w' => ∃ v, e = .returned v ∧ Below w.heap.size w w' ∧ OwnS w' w.heap.size v (nmsOf ps) := by
  have hsz : Maps.size (datOf ps) = ps.length := by simp [datOf, Maps.size]
  have hS := sorted_any bm ps.length (datOf ps) Rf w h.map (by rw [hsz]; unfold maxLen; omega) (by rw [hsz]; omega)
  obtain ⟨c0, c1, c2, c3, c8, f0, f1, f2, f3, f9⟩ := cells5 h.blk
  refine (callsIn_wide (n := 6)).1 ?_
  have hfK : Fence.wide.fn 108 := trivial
  have hfS : Fence.wide.fn 107 := trivial
  refine callsIn_of_wp Tryz.func58 rfl trivial ?_ rfl
  simp only [Tryz.ntmps58, List.size_toArray, List.length_cons, List.length_nil, Nat.reduceAdd, Nat.reduceSub, Array.replicate_succ, Array.replicate_zero, List.push_toArray, List.append_toArray, List.nil_append, List.cons_append]
  gi_wp2_with (first
    | (gi_at_call 108; refine (keys_any _ _).mono ?_; rintro e w' ⟨rfl, rfl⟩)
    | (gi_at_call 107; refine hS.mono ?_; rintro e w' ⟨v, ss, rfl, hP, hrow, hnil, hb⟩))
  go_ret
  refine ⟨v, rfl, ((Below.refl _ w).alloc (Nat.le_refl _) _).trans (hb.mono (by simp)), ?_⟩
  rw [keys_dat] at hP
  rw [sorted_names hr hP, hP.length_eq] at hrow
  exact ownsRow_base hrow (by simp)
theorem ownS_shape {w : World} {base : Nat} {v : Value} {l : List (List UInt8)} (h : OwnS w base v l) : ∃ a cap, v = .slice a l.length cap ∧ ∀ i (_ : i < l.length), ∃ g, a = some ⟨g, 0, none⟩ ∧ base ≤ g ∧ w.cell? ⟨g, i, none⟩ = some (encS l[i]) := by
  rcases h.2 with ⟨hv, hn⟩ | ⟨g, cap, cur, hv, hb, _⟩
  · exact ⟨none, 0, by rw [hv, hn], fun i hi => by omega⟩
  · subst hv
    refine ⟨_, cap, rfl, fun i hi => ⟨g, rfl, hb, ?_⟩⟩
    rw [World.ownsRow.cellAt (size := 1) h i (by omega)]
    simp [hi]
theorem ownsRow_up {w : World} {base base' : Nat} {e : TypeId} {size : Nat} {v : Value} {n : Nat} {xs : List Value} (h : w.ownsRow base e size v n xs) (hb : ∀ g, v.ownBlock = some g → base' ≤ g) : w.ownsRow base' e size v n xs := by
  refine ⟨h.1, ?_⟩
  rcases h.2 with hn | ⟨g, cap, cur, rfl, hbase, rest⟩
  · exact .inl hn
  · exact .inr ⟨g, cap, cur, rfl, hb g rfl, rest⟩
set_option maxHeartbeats 2000000 in
set_option maxRecDepth 20000 in
theorem dNames_any (b : Nat) (d : Dk) (S : Nat → Prop) (w : World) (hP : ProgAt w S b d) (hok : d.Ok) (hl : d.files.length ≤ 4194303) (hd : d.dead = false) :
    Calls Tryz.prog 34 #[.pointer (some ⟨b, 0, none⟩)] w fun e w' => ∃ v, e = .returned (.tuple #[v, .int .i64 0]) ∧ Below w.heap.size w w' ∧ OwnS w' w.heap.size v (nmsOf d.files) := by
  obtain ⟨bm, ps, hst, hfs⟩ := id hP
  rw [hd] at hst
  have hdd := isDead_any hst.blk
  have hri : rising ps := rising_ps (by rw [hfs]; exact hok.rise)
  have hpl : ps.length ≤ 4194303 := by rw [← fs_len, hfs]; exact hl
  have hsz : Maps.size (datOf ps) = ps.length := by simp [datOf, Maps.size]
  have hln := hst.map.len Tryz.underlying115 3
  rw [hsz] at hln
  have HN : Hid (nmsOf d.files = nmsOf ps) := by rw [← hfs]; simp [nmsOf, fsOf, Hid]
  have hnl : ∀ x ∈ nmsOf ps, x.length ≤ 20 := fun x hx => by
    rw [← HN.out] at hx
    obtain ⟨y, hy, rfl⟩ := List.mem_map.1 hx
    exact hok.name y hy
  have hnlen : (nmsOf ps).length = ps.length := by simp [nmsOf]
  obtain ⟨i0, hi, hz0, hz1, hz2⟩ := info_parts Tryz.info9
  obtain ⟨c0, c1, c2, c3, c8, f0, f1, f2, f3, f9⟩ := cells5 hst.blk
  obtain ⟨wA, hmk, hownA, hgrA⟩ := run_make_own (P := Tryz.prog) w w.heap.size 41 9 i0 _ 1 Tryz.underlying41 hi hz0 hz1 .i64 .i64 ps.length (by rw [hz2]; omega) (by unfold maxLen; omega) (Nat.le_refl _)
  have hblA : Below w.heap.size w wA := (Below.refl _ _).grown hgrA (Nat.le_refl _) (fun k hk => by cases hk)
  have hstA := hst.below hblA
  have hord := order_any hstA hri (by omega)
  have HNL : Hid (∀ x ∈ nmsOf ps, x.length ≤ 20) := hnl
  have hszA := hblA.size
  clear hnl hP hst hfs hsz hgrA
  generalize nmsOf ps = N at *
  have HLN : Hid (N.length ≤ 4194303) := by rw [hnlen]; exact hpl
  rw [← hnlen] at hmk hln hownA
  rw [HN.out]
  clear HN hnlen
  go_enter Tryz.func34, Tryz.ntmps34
  go_wp2_with (first
    | (go_at_call 57; refine hdd.mono ?_; rintro e w' ⟨rfl, rfl⟩; clear hdd)
    | (go_at_call 58; refine hord.mono ?_; rintro e wB ⟨vo, rfl, hblB, hoB⟩; clear hord; obtain ⟨ao, co, rfl, hoc⟩ := ownS_shape hoB))
  have hNl : N.length ≤ 4194303 := HLN.out
  have hB0 : Below w'.heap.size w' wB := hblA.trans (hblB.mono hszA)
  have hlo : ∀ g, (Value.slice ao N.length co).ownBlock = some g → wA.heap.size ≤ g := fun g hg => (World.ownsRow.lt hoB g hg).1
  have hA1 : w'.heap.size < wA.heap.size := (World.ownsRow.lt hownA w'.heap.size rfl).2
  go_loopw [4, 18] (fun v i wr => ∃ j : Nat, j ≤ N.length ∧ i = .int .i64 j ∧ Below w'.heap.size w' wr ∧ OwnS wr 0 v (N.take j) ∧ (∀ g, v.ownBlock = some g → w'.heap.size ≤ g ∧ (Value.slice ao N.length co).ownBlock ≠ some g) ∧ OwnS wr 0 (.slice ao N.length co) N) (fun _ i _ => N.length - (intOf i).toNat)
  case atStart =>
    refine ⟨0, Nat.zero_le _, rfl, hB0, ?_, fun g hg => ?_, ownsRow_base hoB (Nat.zero_le _)⟩
    · exact ownsRow_base (ownsRow_of_block hownA (fun g hg => hblB.block g (World.ownsRow.lt hownA g hg).2)) (Nat.zero_le _)
    · simp only [Value.ownBlock, Option.some.injEq] at hg
      subst hg
      exact ⟨Nat.le_refl _, fun e => by have := hlo _ e; omega⟩
  case round =>
    obtain ⟨j, hj, rfl, hbl, hown, hdis, hor⟩ := hrel
    have hsz := hbl.size
    by_cases hlt : j < N.length
    · obtain ⟨a2, c2, e2, hoc2⟩ := ownS_shape hor
      obtain ⟨g, rfl, _, hcell⟩ := hoc2 j hlt
      obtain ⟨rfl, -, rfl⟩ : ao = some ⟨g, 0, none⟩ ∧ True ∧ co = c2 := by simpa using e2
      unfold encS at hcell
      have hnj : N[j].length ≤ 20 := HNL.out _ (List.getElem_mem hlt)
      have HT : Hid (N.take (j + 1) = N.take j ++ [N[j]]) := List.take_succ_eq_append_getElem hlt
      have htl : (N.take j).length ≤ 4194303 := by simp; omega
      generalize hT : N.take j = T at *
      clear hT hoc e2 hoc2
      go_wp2_with (first
        | (go_at_call 59; refine (sClone_any ⟨N[j].toArray⟩ wr (by show N[j].length ≤ _; omega)).mono ?_; rintro e w1 ⟨rfl, hb1⟩; have hown1 := ownsRow_of_block hown (fun q hq => hb1.block q (World.ownsRow.lt hown q hq).2))
        | (at_builtin; refine wpList_app _ rfl (.tmp 22) (.tmp 25) 41 rfl 9 i0 _ 1 16 Tryz.underlying41 hi hz0 hz1 hz2 rfl (by decide) _ _ _ rfl (World.ownsRow.alloc hown1 _) ⟨w1.heap.size, 0, none⟩ 1 1 [encS N[j]] rfl rfl (one_at _ _ _) (by intro u hu; simp at hu; subst hu; rfl) (by unfold maxLen; omega) (by omega) ?_; intro v' w2 hown2 hgrow hfr)
        | go_in)
      have hs1 := hb1.size
      have hB2 : Below w'.heap.size w' w2 := ((hbl.trans (hb1.mono hsz)).alloc (by omega) _).grown hgrow (by simp; omega) (fun q hq => (hdis q hq).1)
      have HB : Hid (Below w'.heap.size w' w2) := hB2
      have HO : Hid (OwnS w2 0 v' (T ++ [N[j]])) := own_snoc1 hown2
      have HR : Hid (OwnS w2 0 (.slice (some ⟨g, 0, none⟩) N.length co) N) := ownsRow_of_block hor (fun q hq => by
        have hq1 := (World.ownsRow.lt hor q hq).2
        have hq2 : (w1.alloc (.cells #[encS N[j]] 9)).heap[q]? = wr.heap[q]? := (Below.heap_alloc _ _ _ (by omega)).trans (hb1.block q hq1)
        exact (hgrow.block q (by simp; omega) (fun e => (hdis q e.symm).2 hq)).trans hq2)
      have HD : Hid (∀ q, v'.ownBlock = some q → w'.heap.size ≤ q ∧ (Value.slice (some ⟨g, 0, none⟩) N.length co).ownBlock ≠ some q) := fun q hq => by
        rcases hfr q hq with h | h
        · exact hdis q h
        · refine ⟨by simp at h; omega, fun e => ?_⟩
          have := (World.ownsRow.lt hor q e).2
          simp at h; omega
      clear hown2 hgrow hfr hown hown1 hdis hor hcell hB2
      go_wp2
      go_roundw
      case rel => exact ⟨j + 1, by omega, by go_num, HB.out, by rw [HT.out]; exact HO.out, HD.out, HR.out⟩
      case measure => simp [intOf]; omega
    · have : j = N.length := by omega
      subst this
      rw [List.take_length] at hown
      clear hoc
      go_wp2
      go_ret2
      refine ⟨_, rfl, hbl, ?_⟩
      exact ownsRow_up hown (fun g hg => (hdis g hg).1)
end Go.Proofs.YtoabedkcieindabGreatDoor



namespace Go.Proofs.YtoabedkcieindabGreatDoor
open Go.RowKit Go.Maps Go.Sort
theorem rising_names {α β : Type} {l : List (Nm × α)} {m : List (Nm × β)} (h : nmsOf l = nmsOf m) (hr : rising m) : rising l := by
  unfold rising at *
  have h1 : (nmsOf m).Pairwise (fun x y => bytesBefore x y = true) := by unfold nmsOf; rw [List.pairwise_map]; exact hr
  rw [← h] at h1
  unfold nmsOf at h1
  rwa [List.pairwise_map] at h1
end Go.Proofs.YtoabedkcieindabGreatDoor

namespace Go.Proofs.YtoabedkcieindabGreatDoor
open Go.RowKit Go.Maps Go.Sort
def XAt (w : World) (S : Nat → Prop) (bx : Nat) (d : Dk) : Prop := ∃ bd, w.heap[bx]? = some (.cells #[.pointer (some ⟨bd, 0, none⟩)] 80) ∧ S bx ∧ ProgAt w (fun k => S k ∧ k ≠ bx) bd d
theorem XAt.mono {w : World} {S T : Nat → Prop} {b : Nat} {d : Dk} (h : XAt w S b d) (hT : ∀ k, k < w.heap.size → S k → T k) : XAt w T b d := by
  obtain ⟨bd, h1, h2, h3⟩ := h
  exact ⟨bd, h1, hT _ (lt_of_block h1) h2, h3.mono (fun k hk s => ⟨hT k hk s.1, s.2⟩)⟩
theorem cells1 {w : World} {b : Nat} {a0 : Value} {t : TypeId} (hb : w.heap[b]? = some (.cells #[a0] t)) : w.cell? ⟨b, 0, none⟩ = some a0 ∧ w.frozen? ⟨b, 0, none⟩ = false := ⟨cell_block hb, frozen_block hb⟩
set_option maxHeartbeats 1000000 in
theorem dNew_ok (q : Int) (w : World) (hq : quotaOk q = true) : Calls Tryz.prog 50 #[.int .i64 q] w fun e w' => ∃ bd, e = .returned (.tuple #[.pointer (some ⟨bd, 0, none⟩), .int .i64 0]) ∧ ProgAt w' (fun k => w.heap.size ≤ k) bd (newDk q) ∧ Below w.heap.size w w' := by
  obtain ⟨h0, h1⟩ : 0 ≤ q ∧ q ≤ 1048576 := by simpa [quotaOk] using hq
  clear hq
  have HQ : Hid (((q.toNat : Nat) : Int) = q) := by simp [Hid]; omega
  have hmk := run_makeMap (P := Tryz.prog) 115 w
  go_enter Tryz.func50, Tryz.ntmps50
  go_wp2
  go_ret2
  have hb2 : ((w.alloc (.map #[] 0)).alloc (.cells #[.map (some w.heap.size), .int .i64 q, .int .i64 (-1), .bool false, .int .i64 0] 117)).heap[w.heap.size + 1]? = some (.cells #[.map (some w.heap.size), .int .i64 q, .int .i64 (-1), .bool false, .int .i64 0] 117) := by
    have := block_new (w.alloc (.map #[] 0)) (.cells #[.map (some w.heap.size), .int .i64 q, .int .i64 (-1), .bool false, .int .i64 0] 117)
    simpa using this
  refine ⟨w.heap.size + 1, rfl, ⟨w.heap.size, [], ⟨?_, ?_, fun x hx => (by cases hx), List.Pairwise.nil, Nat.le_succ _, Nat.le_refl _, fun x hx => (by cases hx)⟩, rfl⟩, ((Below.refl _ _).alloc (Nat.le_refl _) _).alloc (by simp) _⟩
  · rw [hb2]
    simp only [newDk, used, List.map_nil, List.sum_nil]
    have := HQ.out
    simp [this]
  · exact (World.ownsMap_made w Tryz.prog 9 Rf).alloc _
set_option maxHeartbeats 1000000 in
theorem xNew_ok (q : Int) (w : World) (hq : quotaOk q = true) : Calls Tryz.prog 26 #[.int .i64 q] w fun e w' => ∃ bx, e = .returned (.tuple #[.pointer (some ⟨bx, 0, none⟩), .int .i64 0]) ∧ XAt w' (fun k => w.heap.size ≤ k) bx (newDk q) ∧ Below w.heap.size w w' := by
  have hc := dNew_ok q w hq
  go_enter Tryz.func26, Tryz.ntmps26
  go_wp2_with (go_at_call 50; refine hc.mono ?_; rintro e w1 ⟨bd, rfl, hp, hbl⟩; clear hc)
  go_ret2
  have hs := hbl.size
  refine ⟨w1.heap.size, rfl, ⟨bd, block_new _ _, hs, ?_⟩, hbl.alloc hs _⟩
  exact (hp.mono (T := fun k => w.heap.size ≤ k ∧ k ≠ w1.heap.size) (fun k hk s => ⟨s, by omega⟩)).kept (T := fun _ => False) ((Kp.refl _ _).alloc _) (fun _ _ f => f)
end Go.Proofs.YtoabedkcieindabGreatDoor

namespace Go.Proofs.YtoabedkcieindabGreatDoor
open Go.RowKit
theorem nms_upd {α : Type} (n : Nm) (f : α → α) (l : List (Nm × α)) : nmsOf (upd n f l) = nmsOf l := by
  unfold nmsOf upd
  rw [List.map_map]
  apply List.map_congr_left
  intro x _
  simp only [Function.comp_apply]
  split <;> rfl
theorem mem_upd {α : Type} {n : Nm} {f : α → α} {l : List (Nm × α)} {x : Nm × α} (h : x ∈ upd n f l) : ∃ y ∈ l, x.1 = y.1 ∧ (x.2 = f y.2 ∨ x.2 = y.2) := by
  unfold upd at h
  obtain ⟨y, hy, rfl⟩ := List.mem_map.1 h
  refine ⟨y, hy, ?_⟩
  split
  · exact ⟨rfl, .inl rfl⟩
  · exact ⟨rfl, .inr rfl⟩
theorem nameOk_le {n : Nm} (h : nameOk n = true) : n.length ≤ 20 := by
  unfold nameOk at h
  simp only [Bool.and_eq_true, decide_eq_true_eq] at h
  exact h.1.2
theorem Dk.Ok.die {d : Dk} (h : d.Ok) : d.die.Ok := ⟨h.quota, h.used, h.left0, h.left1, h.safe, h.rise, h.name⟩
theorem Dk.Ok.files {d : Dk} (h : d.Ok) {fs : List (Nm × Fl)} (hu : Go.Proofs.YtoabedkcieindabGreatDoor.used fs ≤ d.quota) (hs : ∀ x ∈ fs, x.2.safe ≤ x.2.bytes.length) (hr : rising fs) (hn : ∀ x ∈ fs, x.1.length ≤ 20) : ({ d.burn with files := fs } : Dk).Ok := by
  have h0 := h.left0
  have h1 := h.left1
  exact ⟨h.quota, hu, by show -1 ≤ max (d.left - 1) (-1); omega, by show max (d.left - 1) (-1) ≤ _; omega, hs, hr, hn⟩
theorem newDk_ok {q : Int} (h : quotaOk q = true) : (newDk q).Ok := by
  obtain ⟨h0, h1⟩ : 0 ≤ q ∧ q ≤ 1048576 := by simpa [quotaOk] using h
  exact ⟨by simp only [newDk]; omega, by simp [newDk, used], by simp [newDk], by simp [newDk], by simp [newDk], by simp [newDk, rising], by simp [newDk]⟩
theorem write_ok {d : Dk} (h : d.Ok) (n : Nm) (c : List UInt8) : (d.write n c).2.Ok ∧ (d.write n c).2.files.length ≤ d.files.length + 1 := by
  unfold Dk.write
  split
  · exact ⟨h, Nat.le_succ _⟩
  split
  · exact ⟨h, Nat.le_succ _⟩
  rename_i hk
  split
  · exact ⟨h, Nat.le_succ _⟩
  rename_i hq
  split
  · exact ⟨h.die, Nat.le_succ _⟩
  simp only
  cases hg : getF n d.files with
  | some f =>
    simp only [Option.isSome_some, if_true]
    refine ⟨h.files ?_ (fun x hx => ?_) (rising_names (nms_upd n _ _) h.rise) (fun x hx => ?_), by simp [upd]⟩
    · have := used_upd h.rise hg (addB c)
      simp only [addB, List.length_append] at this
      omega
    · obtain ⟨y, hy, _, e⟩ := mem_upd hx
      have := h.safe y hy
      rcases e with e | e <;> rw [e]
      · simp only [addB, List.length_append]; omega
      · exact this
    · obtain ⟨y, hy, e, _⟩ := mem_upd hx
      rw [e]; exact h.name y hy
  | none =>
    simp only [Option.isSome_none, Bool.false_eq_true, if_false]
    refine ⟨h.files ?_ (fun x hx => ?_) (rising_ins h.rise hg) (fun x hx => ?_), by rw [(ins_perm _ _).length_eq]; simp⟩
    · rw [used_ins]; simp only; omega
    · rcases List.mem_cons.1 ((ins_perm _ _).mem_iff.1 hx) with rfl | hx
      · exact Nat.zero_le _
      · exact h.safe x hx
    · rcases List.mem_cons.1 ((ins_perm _ _).mem_iff.1 hx) with rfl | hx
      · exact nameOk_le (by simpa using hk)
      · exact h.name x hx
theorem sync_ok {d : Dk} (h : d.Ok) (n : Nm) : (d.sync n).2.Ok ∧ (d.sync n).2.files.length ≤ d.files.length := by
  unfold Dk.sync
  split
  · exact ⟨h, Nat.le_refl _⟩
  split
  · exact ⟨h, Nat.le_refl _⟩
  rename_i hn
  split
  · exact ⟨h.die, Nat.le_refl _⟩
  cases hg : getF n d.files with
  | none => rw [hg] at hn; simp at hn
  | some f =>
    refine ⟨h.files ?_ (fun x hx => ?_) (rising_names (nms_upd n _ _) h.rise) (fun x hx => ?_), by simp [upd]⟩
    · have := used_upd h.rise hg allSafe
      have := h.used
      simp only [allSafe] at *
      omega
    · obtain ⟨y, hy, _, e⟩ := mem_upd hx
      have := h.safe y hy
      rcases e with e | e <;> rw [e]
      · exact Nat.le_refl _
      · exact this
    · obtain ⟨y, hy, e, _⟩ := mem_upd hx
      rw [e]; exact h.name y hy
theorem mem_del {α : Type} {n : Nm} {l : List (Nm × α)} {x : Nm × α} (h : x ∈ del n l) : x ∈ l := (List.mem_filter.1 h).1
theorem used_del_le (n : Nm) (fs : List (Nm × Fl)) : used (del n fs) ≤ used fs := by
  induction fs with
  | nil => exact Nat.le_refl _
  | cons x r ih =>
    simp only [del, List.filter_cons] at ih ⊢
    split
    · simp only [used, List.map_cons, List.sum_cons] at ih ⊢; omega
    · simp only [used, List.map_cons, List.sum_cons] at ih ⊢; omega
theorem remove_ok {d : Dk} (h : d.Ok) (n : Nm) : (d.remove n).2.Ok ∧ (d.remove n).2.files.length ≤ d.files.length := by
  unfold Dk.remove
  split
  · exact ⟨h, Nat.le_refl _⟩
  split
  · exact ⟨h, Nat.le_refl _⟩
  split
  · exact ⟨h.die, Nat.le_refl _⟩
  exact ⟨h.files (Nat.le_trans (used_del_le n _) h.used) (fun x hx => h.safe x (mem_del hx)) (rising_del h.rise) (fun x hx => h.name x (mem_del hx)), List.length_filter_le _ _⟩
theorem rename_ok {d : Dk} (h : d.Ok) (n m : Nm) : (d.rename n m).2.Ok ∧ (d.rename n m).2.files.length ≤ d.files.length + 1 := by
  unfold Dk.rename
  split
  · exact ⟨h, Nat.le_succ _⟩
  split
  · exact ⟨h, Nat.le_succ _⟩
  rename_i hk
  cases hg : getF n d.files with
  | none => exact ⟨h, Nat.le_succ _⟩
  | some f =>
    simp only
    split
    · exact ⟨h.die, Nat.le_succ _⟩
    unfold moved
    split
    · exact ⟨h.files h.used h.safe h.rise h.name, Nat.le_succ _⟩
    refine ⟨h.files ?_ (fun x hx => ?_) (rising_ins (rising_del (rising_del h.rise)) (getF_del m _)) (fun x hx => ?_), ?_⟩
    · have h1 := used_del h.rise hg
      have h2 := used_del_le m (del n d.files)
      have h3 := h.used
      rw [used_ins]; simp only; omega
    · rcases List.mem_cons.1 ((ins_perm _ _).mem_iff.1 hx) with rfl | hx
      · have h9 := h.safe _ (getF_mem hg)
        exact h9
      · exact h.safe x (mem_del (mem_del hx))
    · rcases List.mem_cons.1 ((ins_perm _ _).mem_iff.1 hx) with rfl | hx
      · exact nameOk_le (by simpa using hk)
      · exact h.name x (mem_del (mem_del hx))
    · show (ins (m, f) (del m (del n d.files))).length ≤ _
      rw [(ins_perm _ _).length_eq, List.length_cons]
      have h1 := List.length_filter_le (fun x : Nm × Fl => !(x.1 == m)) (del n d.files)
      have h2 := List.length_filter_le (fun x : Nm × Fl => !(x.1 == n)) d.files
      simp only [del] at *
      omega
end Go.Proofs.YtoabedkcieindabGreatDoor

namespace Go.Proofs.YtoabedkcieindabGreatDoor
open Go.RowKit
theorem mem_ins {α : Type} {x y : Nm × α} {l : List (Nm × α)} : y ∈ ins x l ↔ y = x ∨ y ∈ l := by rw [(ins_perm x l).mem_iff, List.mem_cons]
theorem ins_len {α : Type} (x : Nm × α) (l : List (Nm × α)) : (ins x l).length = l.length + 1 := by rw [(ins_perm x l).length_eq]; rfl
theorem del_len {α : Type} (n : Nm) (l : List (Nm × α)) : (del n l).length ≤ l.length := List.length_filter_le _ _
theorem doOp_len (m : Mp) (o : Ox) : (doOp m o).length ≤ m.length + 1 := by
  unfold doOp
  split
  · have := del_len o.key m; omega
  · rw [ins_len]; have := del_len o.key m; omega
theorem doAll_len (m : Mp) (l : List Ox) : (doAll m l).length ≤ m.length + l.length := by
  induction l generalizing m with
  | nil => exact Nat.le_refl _
  | cons o r ih => have := ih (doOp m o); have := doOp_len m o; simp only [doAll, List.foldl_cons, List.length_cons] at *; omega
end Go.Proofs.YtoabedkcieindabGreatDoor

namespace Go.Proofs.YtoabedkcieindabGreatDoor
theorem u32_xor (a b : Nat) (ha : a < 4294967296) (hb : b < 4294967296) : bits .xor .u32 (a : Int) (b : Int) = ((a ^^^ b : Nat) : Int) := by
  show IntKind.u32.wrap ((BitVec.ofInt 32 (a : Int) ^^^ BitVec.ofInt 32 (b : Int)).toNat : Int) = _
  have h1 : (BitVec.ofInt 32 (a : Int)).toNat = a := by rw [BitVec.ofInt_natCast, BitVec.toNat_ofNat]; exact Nat.mod_eq_of_lt (by omega)
  have h2 : (BitVec.ofInt 32 (b : Int)).toNat = b := by rw [BitVec.ofInt_natCast, BitVec.toNat_ofNat]; exact Nat.mod_eq_of_lt (by omega)
  have h3 : a ^^^ b < 2 ^ 32 := Nat.xor_lt_two_pow (by omega) (by omega)
  rw [BitVec.toNat_xor, h1, h2, IntKind.wrap_u32]
  omega
theorem fnvStep_int (n : Nat) (c : UInt8) (hn : n < 4294967296) : bits .xor .u32 (n : Int) ((c.toNat : Int) % 4294967296) * 16777619 % 4294967296 = ((fnvStep n c : Nat) : Int) := by
  have hc : c.toNat < 256 := c.toNat_lt
  have e : ((c.toNat : Int) % 4294967296) = (c.toNat : Int) := by omega
  rw [e, u32_xor n c.toNat hn (by omega)]
  unfold fnvStep
  omega
theorem u8_or_fin : ∀ a : Fin 128, bits .or .u8 (a.val : Int) 128 = (a.val : Int) + 128 := by decide
theorem u8_or (n : Nat) (h : n < 128) : bits .or .u8 (n : Int) 128 = (n : Int) + 128 := u8_or_fin ⟨n, h⟩
end Go.Proofs.YtoabedkcieindabGreatDoor

namespace Go.Proofs.YtoabedkcieindabGreatDoor
open Go.RowKit Go.Maps
abbrev str (n : Nm) : Value := .string ⟨n.toArray⟩
def Opp (w : World) (q : Option Addr) (l : List Ox) : Prop := ∀ i (h : i < l.length), ∃ g off, q = some ⟨g, off, none⟩ ∧ w.cell? ⟨g, off + i * 3, none⟩ = some (str l[i].key) ∧ w.cell? ⟨g, off + i * 3 + 1, none⟩ = some (str l[i].val) ∧ w.cell? ⟨g, off + i * 3 + 2, none⟩ = some (.bool l[i].gone)
def OxLen (l : List Ox) : Prop := ∀ o ∈ l, o.key.length ≤ 1099511627776 ∧ o.val.length ≤ 1099511627776
theorem cell_below {w w' : World} {a : Addr} {v : Value} (hb : Below w.heap.size w w') (h : w.cell? a = some v) : w'.cell? a = some v :=
  (hb.cell (World.block_lt_of_cell? w a h)).trans h
theorem Opp.below {w w' : World} {q : Option Addr} {l : List Ox} (h : Opp w q l) (hb : Below w.heap.size w w') : Opp w' q l := fun i hi => by
  obtain ⟨g, off, e, h1, h2, h3⟩ := h i hi
  exact ⟨g, off, e, cell_below hb h1, cell_below hb h2, cell_below hb h3⟩
set_option maxHeartbeats 400000 in
theorem isKey_any (n : Nm) (w : World) (hn : n.length ≤ 1099511627776) :
    Calls Tryz.prog 164 #[str n] w fun e w' => e = .returned (.bool (keyOk n)) ∧ w' = w := by
  have hs : (⟨n.toArray⟩ : ByteArray).size = n.length := rfl
  have H : Hid (keyOk n = (decide (1 ≤ n.length) && decide (n.length ≤ 16))) := rfl
  go_enter Tryz.func164, Tryz.ntmps164
  go_wp2
  all_goals go_ret
  all_goals (refine ⟨ret_bool ?_, rfl⟩; rw [H.out, Bool.eq_iff_iff]; simp at *; try omega)
theorem take_snoc_all {l : List Ox} {k : Nat} (h : k < l.length) (hr : (l.take k).all opOk = true) : (l.take (k + 1)).all opOk = opOk l[k] := by
  rw [List.take_succ_eq_append_getElem h, List.all_append, hr]; simp
theorem batchOk_bad {l : List Ox} {k : Nat} (h : k < l.length) (hb : opOk l[k] = false) : batchOk l = false := by
  rw [Bool.eq_false_iff, Ne, batchOk_iff]
  intro hh
  have := hh.2 _ (List.getElem_mem h)
  rw [hb] at this
  cases this
set_option maxHeartbeats 1000000 in
theorem isBatch_any (q : Option Addr) (qc : Nat) (l : List Ox) (w : World) (hl : l.length ≤ 1099511627776) (hk : OxLen l) (hp : Opp w q l) :
    Calls Tryz.prog 97 #[.slice q l.length qc] w fun e w' => e = .returned (.bool (batchOk l)) ∧ Below w.heap.size w w' := by
  by_cases h18 : 1 ≤ l.length ∧ l.length ≤ 8
  · obtain ⟨h1, h8⟩ := h18
    go_enter Tryz.func97, Tryz.ntmps97
    go_wp2
    go_loopw [15] (fun i wr => ∃ k : Nat, k ≤ l.length ∧ i = .int .i64 k ∧ Below w.heap.size w wr ∧ (l.take k).all opOk = true) (fun i _ => l.length - (intOf i).toNat)
    case atStart => exact ⟨0, Nat.zero_le _, rfl, Below.refl _ _, rfl⟩
    case round =>
      obtain ⟨k, hk', rfl, hb, hr⟩ := hrel
      have HR : Hid ((l.take k).all opOk = true) := hr
      clear hr
      by_cases hlt : k < l.length
      · obtain ⟨g, off, rfl, c0, c1, c2⟩ := hp.below hb k hlt
        have hkl := hk l[k] (List.getElem_mem hlt)
        have h1' := hkl.1
        have h2' := hkl.2
        have hv : ByteArray.size { data := l[k].val.toArray } = l[k].val.length := rfl
        clear hkl
        go_wp2_with (go_at_call 164; refine (isKey_any _ _ h1').mono ?_; rintro e w' ⟨rfl, rfl⟩)
        · go_roundw
          case rel => exact ⟨k + 1, by omega, by go_num, hb.alloc hb.size _, by rw [take_snoc_all hlt HR.out]; simp [opOk, *]⟩
          case measure => simp [intOf]; omega
        · go_ret
          exact ⟨ret_bool (batchOk_bad hlt (by simp [opOk, *]; omega)).symm, hb.alloc hb.size _⟩
        · go_roundw
          case rel => exact ⟨k + 1, by omega, by go_num, hb.alloc hb.size _, by rw [take_snoc_all hlt HR.out]; simp [opOk, *]; omega⟩
          case measure => simp [intOf]; omega
        · go_ret
          exact ⟨ret_bool (batchOk_bad hlt (by simp [opOk, *])).symm, hb.alloc hb.size _⟩
      · have E : Hid (batchOk l = true) := by
          have := HR.out
          rw [List.take_of_length_le (by omega)] at this
          show batchOk l = true
          rw [batchOk_iff]
          exact ⟨⟨h1, h8⟩, List.all_eq_true.1 this⟩
        go_wp2
        go_ret
        exact ⟨ret_bool E.out.symm, hb⟩
  · have E : Hid (batchOk l = false) := by
      show batchOk l = false
      rw [Bool.eq_false_iff, Ne, batchOk_iff]
      exact fun h => h18 h.1
    have h0 : l.length < 1 ∨ 8 < l.length := by omega
    clear h18
    rcases h0 with h0 | h0
    all_goals
      go_enter Tryz.func97, Tryz.ntmps97
      go_wp2
      go_ret
      exact ⟨ret_bool E.out.symm, Below.refl _ _⟩
set_option maxHeartbeats 1000000 in
theorem sum_any (s : List UInt8) (w : World) (hs : s.length ≤ 1099511627776) :
    Calls Tryz.prog 234 #[str s] w fun e w' => e = .returned (.int .u32 (fnv s)) ∧ w' = w := by
  have hz : (⟨s.toArray⟩ : ByteArray).size = s.length := rfl
  go_enter Tryz.func234, Tryz.ntmps234
  go_wp2
  go_loop [3, 7] (fun n i => ∃ k : Nat, k ≤ s.length ∧ i = .int .i64 k ∧ n = .int .u32 (fnv (s.take k))) (fun _ i => s.length - (intOf i).toNat)
  case atStart => exact ⟨0, Nat.zero_le _, rfl, rfl⟩
  case round =>
    obtain ⟨k, hk', rfl, rfl⟩ := hrel
    by_cases hlt : k < s.length
    · have hn := fnv_lt (s.take k)
      generalize hN : fnv (s.take k) = N at *
      go_wp2
      go_round
      case rel =>
        refine ⟨k + 1, by omega, by go_num, ?_⟩
        rw [List.take_succ_eq_append_getElem hlt, fnv_snoc, hN, ← fnvStep_int N s[k] hn]
        rfl
      case measure => simp [intOf]; omega
    · have E : Hid (s.take k = s) := List.take_of_length_le (by omega)
      go_wp2
      go_ret
      rw [E.out]
      exact ⟨rfl, rfl⟩
abbrev aggOp (o : Ox) : Value := .agg #[str o.key, str o.val, .bool o.gone]
theorem wpList_appB (w : World) {ops : Array Oper} {rest : List Oper} {o : Oper} {ac : Act} {Q : Exit → Act → World → Prop} (hgd : o.guard = none) (s x : Operand)
    (ho : o.op = .call { callee := .builtin .append, args := #[s, x], argTypes := #[123, 123] })
    (n0 : Nat) (v : Value) (l c : List UInt8) (g cp : Nat) (hs : ac.eval s = v) (hx : ac.eval x = .slice (some ⟨g, 0, none⟩) c.length cp) (hn0 : n0 ≤ w.heap.size) (hown : OwnB w n0 v l) (hc : ∀ i (h : i < c.length), w.cell? ⟨g, i, none⟩ = some (encB c[i])) (hlc : l.length + c.length ≤ 4194304)
    (h : ∀ v' w', OwnB w' n0 v' (l ++ c) → Kp (fun i => v.ownBlock = some i) w w' → wpList Tryz.prog ops Q rest (ac.put o.dst v') w') : wpList Tryz.prog ops Q (o :: rest) ac w := by
  obtain ⟨i0, hi, hz0, hz1, hz2⟩ := info_parts Tryz.info5
  refine wpList_append_own _ hgd s x 123 ho n0 5 i0 _ 1 1 Tryz.underlying123 hi hz0 hz1 hz2 rfl (by decide) v l.length (l.map encB) hs hown ⟨g, 0, none⟩ c.length cp (c.map encB) hx (by simp) ?_ (by intro u hu; obtain ⟨c, _, rfl⟩ := List.mem_map.1 hu; rfl) (by unfold maxLen; omega) (by omega) hn0 ?_
  · intro j u hu
    have hj : j < c.length := by simpa using (List.getElem?_eq_some_iff.1 hu).1
    rw [Addr.add_lit, Nat.zero_add, hc j hj]
    rw [List.getElem?_eq_getElem (by simpa using hj)] at hu
    simpa using hu
  · intro v' w' ho' hg' _
    refine h v' w' ?_ ((Kp.refl _ _).grown hg' (fun k hk _ => hk))
    unfold OwnB
    rw [List.length_append, List.map_append]
    exact ho'
theorem wpList_appS (w : World) {ops : Array Oper} {rest : List Oper} {o : Oper} {ac : Act} {Q : Exit → Act → World → Prop} (hgd : o.guard = none) (s x : Operand)
    (ho : o.op = .call { callee := .builtin .append, args := #[s, x], argTypes := #[123, 9] })
    (n0 : Nat) (v : Value) (l c : List UInt8) (hs : ac.eval s = v) (hx : ac.eval x = str c) (hn0 : n0 ≤ w.heap.size) (hown : OwnB w n0 v l) (hlc : l.length + c.length ≤ 4194304)
    (h : ∀ v' w', OwnB w' n0 v' (l ++ c) → Kp (fun i => v.ownBlock = some i) w w' → wpList Tryz.prog ops Q rest (ac.put o.dst v') w') : wpList Tryz.prog ops Q (o :: rest) ac w := by
  refine wpList_plain hgd fun K hK => ?_
  obtain ⟨i, hi, hz, h1, h2⟩ := info_parts Tryz.info5
  have hsz : (⟨c.toArray⟩ : ByteArray).size = c.length := rfl
  have hsc : Lib.strCells ⟨c.toArray⟩ = c.map encB := rfl
  obtain ⟨v', w', hr, ho', hg, _⟩ := Lib.run_append_own_string (P := Tryz.prog) w n0 123 9 o.type 5 i Tryz.underlying123 Tryz.underlying9 hi hz h1 h2 v l.length (l.map encB) hown ⟨c.toArray⟩ (by rw [hsz]; unfold maxLen; omega) (by rw [hsz]; omega) hn0
  unfold Oper.wp execOp
  simp only [ho, resolve, invoke, builtin, Sem.run_bind, Sem.run_pure, Result.andThen_ok, List.map_toArray, List.map_cons, List.map_nil, hs, hx, hr]
  refine hK _ _ (h v' w' ?_ ((Kp.refl _ _).grown hg (fun k hk _ => hk)))
  unfold OwnB
  rw [hsz, hsc] at ho'
  rw [List.length_append, List.map_append]
  exact ho'
theorem OwnB.kept {w w' : World} {base : Nat} {v : Value} {l : List UInt8} {S : Nat → Prop} (h : OwnB w base v l) (k : Kp S w w') (hs : ∀ g, v.ownBlock = some g → ¬ S g) : OwnB w' base v l := k.row h hs
theorem OwnB.alloc {w : World} {base : Nat} {v : Value} {l : List UInt8} (h : OwnB w base v l) (o : Obj) : OwnB (w.alloc o) base v l := h.kept (S := fun _ => False) ((Kp.refl _ _).alloc o) (fun _ _ f => f)
theorem ownB_some {w : World} {base : Nat} {v : Value} {l : List UInt8} (h : OwnB w base v l) : ∃ a n cap, v = .slice a n cap := by
  obtain ⟨a, cap, e⟩ := ownB_shape h; exact ⟨a, _, cap, e⟩
theorem newB (W : World) (b : Nat) (hb : b = W.heap.size) (xs : List Int) (c : List UInt8) (e : xs = c.map fun c => (c.toNat : Int)) (cs : Array Value) (hcs : cs = (xs.map (Value.int .u8)).toArray) (t : TypeId) :
    ∀ i (h : i < c.length), (W.alloc (.cells cs t)).cell? ⟨b, i, none⟩ = some (encB c[i]) := by
  intro i hi
  subst hb
  rw [cell_block (block_new W _), hcs, e]
  simp [encB, hi]
theorem below_own {w w' : World} {v : Value} {l : List UInt8} {n0 : Nat} (hn0 : n0 ≤ w.heap.size) (ho : OwnB w n0 v l) (k : Kp (fun i => v.ownBlock = some i) w w') : Below n0 w w' :=
  ⟨k.os, k.tape, k.output, k.size, fun i hi => k.block i (by omega) (fun e => by have := (ho.lt i e).1; omega)⟩
set_option maxHeartbeats 1000000 in
set_option maxRecDepth 20000 in
theorem appendOp_any (v : Value) (l : List UInt8) (o : Ox) (w : World) (n0 : Nat) (hn0 : n0 ≤ w.heap.size) (hown : OwnB w n0 v l) (ho : opOk o = true) (hl : l.length ≤ 65536) :
    Calls Tryz.prog 165 #[v, aggOp o] w fun e w' => ∃ v', e = .returned v' ∧ OwnB w' n0 v' (l ++ encOp o) ∧ Below n0 w w' := by
  obtain ⟨k1, k2⟩ := opOk_key ho
  have hz1 : (⟨o.key.toArray⟩ : ByteArray).size = o.key.length := rfl
  have hz2 : (⟨o.val.toArray⟩ : ByteArray).size = o.val.length := rfl
  obtain ⟨a, cap, rfl⟩ := ownB_shape hown
  have hgl : ∀ g, (Value.slice a l.length cap).ownBlock = some g → g < w.heap.size := fun g hg => (hown.lt g hg).2
  cases hg : o.gone
  · have hv := opOk_val ho hg
    have E : Hid (encOp o = UInt8.ofNat o.key.length :: UInt8.ofNat o.val.length :: (o.key ++ o.val)) := by show encOp o = _; simp [encOp, hg]
    have hB : Hid ([(o.key.length : Int), (o.val.length : Int)] = [UInt8.ofNat o.key.length, UInt8.ofNat o.val.length].map fun c => (c.toNat : Int)) := by
      show _ = _
      simp only [List.map_cons, List.map_nil, byte_nat (show o.key.length < 256 by omega), byte_nat (show o.val.length < 256 by omega)]
    go_enter Tryz.func165, Tryz.ntmps165
    go_wp2_with (first
      | (at_builtin; refine wpList_appB _ rfl (.tmp 19) (.tmp 28) rfl n0 (.slice a l.length cap) l [UInt8.ofNat o.key.length, UInt8.ofNat o.val.length] (w.heap.size + 1) 2 rfl rfl (by simp; omega) ((hown.alloc _).alloc _) (newB _ _ (by simp) _ _ hB.out _ rfl _) (by simp; omega) ?_; intro v1 w1 hown1 kp1; have hbx := kp1.at (b := w.heap.size) (block_alloc (block_new w _)) (fun e => Nat.lt_irrefl _ (hgl _ e)); have hb1 := below_own (by simp; omega) ((hown.alloc _).alloc _) kp1; obtain ⟨q0, q1, q2, _⟩ := cells3 hbx; obtain ⟨a1, m1, cap1, rfl⟩ := ownB_some hown1; have hs1 := kp1.size; simp only [World.size_alloc] at hs1)
      | (at_builtin; refine wpList_appS w1 rfl (.tmp 30) (.tmp 32) rfl n0 _ _ o.key rfl rfl (by omega) hown1 (by simp; omega) ?_; intro v2 w2 hown2 kp2; have hgl1 : ∀ g, (Value.slice a1 m1 cap1).ownBlock = some g → g ≠ w.heap.size := fun g hg e => row_ne hbx hown1 hg (by decide) e; have hb2 := below_own (by omega) hown1 kp2; have hbx2 := kp2.at hbx (fun e => hgl1 _ e rfl); clear q0 q1 q2; obtain ⟨q0, q1, q2, _⟩ := cells3 hbx2; obtain ⟨a2, m2, cap2, rfl⟩ := ownB_some hown2; have hs2 := kp2.size)
      | (at_builtin; refine wpList_appS w2 rfl (.tmp 34) (.tmp 36) rfl n0 _ _ o.val rfl rfl (by omega) hown2 (by simp; omega) ?_; intro v3 w3 hown3 kp3; have hb3 := below_own (by omega) hown2 kp3; obtain ⟨a3, m3, cap3, rfl⟩ := ownB_some hown3)
      | go_in)
    go_ret
    refine ⟨_, rfl, ?_, (((((Below.refl _ w).alloc hn0 _).alloc (by simp; omega) _).trans hb1).trans hb2).trans hb3⟩
    rw [E.out]
    simpa using hown3
  · have E : Hid (encOp o = UInt8.ofNat (o.key.length + 128) :: o.key) := by show encOp o = _; simp [encOp, hg]
    have hB : Hid ([bits BinOp.or IntKind.u8 (o.key.length : Int) 128] = [UInt8.ofNat (o.key.length + 128)].map fun c => (c.toNat : Int)) := by
      show _ = _
      rw [u8_or _ (by omega), List.map_cons, byte_nat (by omega)]; rfl
    go_enter Tryz.func165, Tryz.ntmps165
    go_wp2_with (first
      | (at_builtin; refine wpList_appB _ rfl (.tmp 7) (.tmp 13) rfl n0 (.slice a l.length cap) l [UInt8.ofNat (o.key.length + 128)] (w.heap.size + 1) 1 rfl rfl (by simp; omega) ((hown.alloc _).alloc _) (newB _ _ (by simp) _ _ hB.out _ rfl _) (by simp; omega) ?_; intro v1 w1 hown1 kp1; have hbx := kp1.at (b := w.heap.size) (block_alloc (block_new w _)) (fun e => Nat.lt_irrefl _ (hgl _ e)); have hb1 := below_own (by simp; omega) ((hown.alloc _).alloc _) kp1; obtain ⟨q0, q1, q2, _⟩ := cells3 hbx; obtain ⟨a1, m1, cap1, rfl⟩ := ownB_some hown1; have hs1 := kp1.size; simp only [World.size_alloc] at hs1)
      | (at_builtin; refine wpList_appS w1 rfl (.tmp 15) (.tmp 17) rfl n0 _ _ o.key rfl rfl (by omega) hown1 (by simp; omega) ?_; intro v2 w2 hown2 kp2; have hb2 := below_own (by omega) hown1 kp2; obtain ⟨a2, m2, cap2, rfl⟩ := ownB_some hown2)
      | go_in)
    go_ret
    refine ⟨_, rfl, ?_, ((((Below.refl _ w).alloc hn0 _).alloc (by simp; omega) _).trans hb1).trans hb2⟩
    rw [E.out]
    simpa using hown2
theorem encBody_snoc {l : List Ox} {k : Nat} (h : k < l.length) : encBody (l.take (k + 1)) = encBody (l.take k) ++ encOp l[k] := by
  unfold encBody; rw [List.take_succ_eq_append_getElem h, List.flatMap_append, List.flatMap_singleton]
theorem kp_from {n : Nat} {w w' : World} (h : Below n w w') : Kp (fun k => n ≤ k) w w' := ⟨h.os, h.tape, h.output, h.size, fun k _ hn => h.block k (by omega)⟩
theorem OwnB.from {w w' : World} {n base : Nat} {v : Value} {l : List UInt8} (h : OwnB w base v l) (k : Below n w w') (hs : ∀ g, v.ownBlock = some g → g < n) : OwnB w' base v l := h.kept (kp_from k) (fun g hg e => by have := hs g hg; omega)
end Go.Proofs.YtoabedkcieindabGreatDoor

namespace Go.Proofs.YtoabedkcieindabGreatDoor
open Go.RowKit Go.Maps Go.Sort
theorem ext_bytes (l : List UInt8) (i j : Nat) : (⟨l.toArray⟩ : ByteArray).extract i j = ⟨((l.drop i).take (j - i)).toArray⟩ := by
  apply ByteArray.ext
  simp
end Go.Proofs.YtoabedkcieindabGreatDoor


