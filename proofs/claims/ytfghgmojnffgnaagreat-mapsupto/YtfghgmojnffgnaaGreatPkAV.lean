import Derived.Test.YtfghgmojnffgnaaGreatPkAU
import Derived.Test.YtfghgmojnffgnaaGreatPkAK
set_option maxHeartbeats 4000000
set_option maxRecDepth 20000
namespace Go.Proofs.YtfghgmojnffgnaaGreat
open Go.RowKit Go.Maps Go.Sort
def ydL (o : Ox) : Bool -> List (Nm × Nm) -> List (Nm × Nm)
 | p, [] => if p then [] else [(o.key, o.val)]
 | p, x :: r => (if !p && !bytesBefore x.1 o.key then [(o.key, o.val)] else []) ++ ((if x.1 = o.key then [] else [x]) ++ ydL o (p || !bytesBefore x.1 o.key) r)
theorem ydL_true (o : Ox) : ∀ l : List (Nm × Nm), ydL o true l = del o.key l
 | [] => rfl
 | x :: r => by
   simp only [ydL, Bool.not_true, Bool.false_and, Bool.false_eq_true, if_false, Bool.true_or, List.nil_append, ydL_true o r]
   by_cases e : x.1 = o.key
   . simp [del, e]
   . simp [del, e]
theorem ins_front {α : Type} (x : Nm × α) : ∀ (l : List (Nm × α)), (∀ z ∈ l, bytesBefore x.1 z.1 = true) -> ins x l = x :: l
 | [], _ => rfl
 | y :: r, h => by simp only [ins]; rw [if_pos (h y (by simp))]
theorem before_not {a b : Nm} (h : bytesBefore a b = true) : bytesBefore b a = false := by
 cases e : bytesBefore b a
 . rfl
 . have := before_trans h e; rw [WideAt.bytes_irrefl] at this; cases this
theorem ydL_false (o : Ox) : ∀ l : List (Nm × Nm), rising l -> ydL o false l = ins (o.key, o.val) (del o.key l)
 | [], _ => rfl
 | y :: r, h => by
   have hy := List.pairwise_cons.1 h
   cases hb : bytesBefore y.1 o.key
   . by_cases e : y.1 = o.key
     . have hd : del o.key (y :: r) = del o.key r := by simp [del, e]
       rw [hd, ins_front _ _ (fun z hz => by have := hy.1 z (mem_del hz); rw [e] at this; exact this)]
       simp [ydL, e, WideAt.bytes_irrefl, ydL_true]
     . have hlt : bytesBefore o.key y.1 = true := by
         rcases WideAt.bytes_total o.key y.1 (fun e' => e e'.symm) with c | c
         . exact c
         . rw [hb] at c; cases c
       have hd : del o.key (y :: r) = y :: del o.key r := by simp [del, e]
       rw [hd]
       simp [ydL, hb, e, ydL_true, ins, hlt]
   . have e : ¬ y.1 = o.key := fun e => by rw [e, WideAt.bytes_irrefl] at hb; cases hb
     have hd : del o.key (y :: r) = y :: del o.key r := by simp [del, e]
     rw [hd]
     simp only [ydL, hb, e, ins, before_not hb]
     simp [ydL_false o r hy.2]
theorem ydL_doOp (o : Ox) {l : List (Nm × Nm)} (h : rising l) : ydL o o.gone l = doOp l o := by
 unfold doOp
 cases o.gone
 . simp [ydL_false o l h]
 . simp [ydL_true o l]
theorem ydL_at (o : Ox) (p : Bool) (l : List (Nm × Nm)) (k : Nat) (h : k < l.length) : ydL o p (l.drop k) = (if !p && !bytesBefore l[k].1 o.key then [(o.key, o.val)] else []) ++ ((if l[k].1 = o.key then [] else [l[k]]) ++ ydL o (p || !bytesBefore l[k].1 o.key) (l.drop (k + 1))) := by
 rw [List.drop_eq_getElem_cons h]; rfl
theorem yDone_any (q : Option Addr) (qc : Nat) (l : List (Nm × Nm)) (o : Ox) (w : World) (hp : Pairp w q l) (hl : l.length <= 4194000) :
   Calls Tryz.prog 172 #[.slice q l.length qc, aggOp o] w fun e w' => ∃ v, e = .returned v /\ Below w.heap.size w w' /\ OwnP w' w.heap.size v (ydL o o.gone l) := by
 obtain ⟨i0, hi0, hz0, hz1, hz2⟩ := info_parts Tryz.info87
 go_enter Tryz.func172, Tryz.ntmps172
 have hbx0 := block_new w (.cells #[str o.key, str o.val, .bool o.gone] 121)
 obtain ⟨x00, x01, x02, _⟩ := cells3 hbx0
 go_wp2
 go_loopw [5, 6, 7] (fun v p i wr => ∃ (k : Nat) (b : Bool) (P : List (Nm × Nm)), k <= l.length /\ i = .int .i64 k /\ p = .bool b /\ P ++ ydL o b (l.drop k) = ydL o o.gone l /\ P.length <= k + b.toNat /\ OwnP wr w.heap.size v P /\ Below w.heap.size w wr /\ wr.heap[w.heap.size]? = some (.cells #[str o.key, str o.val, .bool o.gone] 121)) (fun _ _ i _ => l.length - (intOf i).toNat)
 case atStart => exact ⟨0, o.gone, [], Nat.zero_le _, rfl, rfl, rfl, by simp, World.ownsRow_nil _ _ _ _, (Below.refl _ _).alloc (Nat.le_refl _) _, hbx0⟩
 case round =>
   clear x00 x01 x02 hbx0
   obtain ⟨k, b, P, hk, rfl, rfl, hP, hPl, hown, hB, hbx⟩ := hrel
   have HP : Hid (P ++ ydL o b (l.drop k) = ydL o o.gone l) := hP
   clear hP
   obtain ⟨x0, x1, x2, _⟩ := cells3 hbx
   have hs := hB.size
   have hgr : ∀ (W W2 : World) (v v' : Value) (M : List (Nm × Nm)), OwnP W w.heap.size v M -> Below w.heap.size w W -> W.heap[w.heap.size]? = some (.cells #[str o.key, str o.val, .bool o.gone] 121) -> ∀ x : Nm × Nm, (W.alloc (.cells #[str x.1, str x.2] 87)).grownBy W2 v.ownBlock -> W2.ownsRow w.heap.size 87 2 v' (M.length + 1) (flatP M ++ [str x.1, str x.2]) ->
       Below w.heap.size w W2 /\ OwnP W2 w.heap.size v' (M ++ [x]) /\ W2.heap[w.heap.size]? = some (.cells #[str o.key, str o.val, .bool o.gone] 121) := fun W W2 v v' M h1 h2 h3 x h4 h5 => by
     have hsW := h2.size
     have hltW := lt_of_block h3
     refine ⟨(h2.alloc (by omega) _).grown h4 (by simp; omega) (fun k hk => (World.ownsRow.lt h1 k hk).1), ?_, ?_⟩
     . unfold OwnP
       rw [flatP_snoc, List.length_append]
       exact h5
     . refine (h4.block w.heap.size (by simp; omega) (fun e => ?_)).trans (block_alloc h3)
       exact row_ne h3 h1 e.symm (by decide) rfl
   by_cases hlt : k < l.length
   . obtain ⟨g, off, rfl, c0, c1⟩ := (hp.below hB) k hlt
     have hat := ydL_at o b l k hlt
     rw [<- HP.out, hat]
     clear hat HP
     have ht : (bytesBefore l[k].1 o.key = true /\ l[k].1 ≠ o.key) \/ l[k].1 = o.key \/ (bytesBefore o.key l[k].1 = true /\ l[k].1 ≠ o.key) := by
       by_cases e : l[k].1 = o.key
       . exact .inr (.inl e)
       . rcases WideAt.bytes_total l[k].1 o.key e with c | c
         . exact .inl ⟨c, e⟩
         . exact .inr (.inr ⟨c, e⟩)
     cases b <;> simp only [Bool.toNat_false, Bool.toNat_true, Nat.add_zero] at hPl
     . rcases ht with ⟨ht, hne⟩ | heq | ⟨ht, hne⟩
       . have f1 : Op.bytesLess o.key l[k].1 = false := by rw [less_before]; exact before_not ht
         have f2 : (o.key == l[k].1) = false := by simpa using fun e => hne e.symm
         have f3 : (l[k].1 == o.key) = false := by simpa using hne
         have HE : Hid ((if !false && !bytesBefore l[k].1 o.key then [(o.key, o.val)] else []) ++ ((if l[k].1 = o.key then [] else [l[k]]) ++ ydL o (false || !bytesBefore l[k].1 o.key) (l.drop (k + 1))) = [l[k]] ++ ydL o false (l.drop (k + 1))) := by show _ = _; simp [ht, hne]
         rw [HE.out]
         clear HE ht hne
         go_wp2
         go_region
         go_wp2
         go_region
         go_wp2_with (first
           | (at_builtin; refine wpList_append_own _ rfl (.tmp 44) (.tmp 49) 33 rfl w.heap.size 87 i0 _ 2 32 Tryz.underlying33 hi0 hz0 hz1 hz2 rfl (by decide) _ _ _ rfl (World.ownsRow.alloc (w := wr.drew.drew) hown _) ⟨wr.drew.drew.heap.size, 0, none⟩ 1 1 [str l[k].1, str l[k].2] rfl rfl (fun j u hu => by rw [Addr.add_lit, Nat.zero_add]; have h2 : (wr.drew.drew.alloc (.cells #[str l[k].1, str l[k].2] 87)).heap[wr.drew.drew.heap.size]? = some (.cells #[str l[k].1, str l[k].2] 87) := block_new wr.drew.drew _; exact (cell_block h2).trans (by simpa using hu)) (by simp [Value.oneCell']) (by unfold maxLen; omega) (by omega) (by simp; omega) ?_; intro v' w2 hown' hgrow _)
           | go_in)
         obtain ⟨a1, a2, a3⟩ := hgr wr.drew.drew w2 _ v' P hown hB.drew.drew hbx l[k] hgrow hown'
         go_roundw
         case rel => exact ⟨k + 1, false, P ++ [l[k]], by omega, by go_num, rfl, by rw [List.append_assoc], by simp; omega, a2, a1, a3⟩
         case measure => simp [intOf]; omega
       . have f1 : Op.bytesLess o.key l[k].1 = false := by rw [less_before, heq]; exact WideAt.bytes_irrefl _
         have f2 : (o.key == l[k].1) = true := by simpa using heq.symm
         have f3 : (l[k].1 == o.key) = true := by simpa using heq
         have HE : Hid ((if !false && !bytesBefore l[k].1 o.key then [(o.key, o.val)] else []) ++ ((if l[k].1 = o.key then [] else [l[k]]) ++ ydL o (false || !bytesBefore l[k].1 o.key) (l.drop (k + 1))) = [(o.key, o.val)] ++ ydL o true (l.drop (k + 1))) := by show _ = _; simp [heq, WideAt.bytes_irrefl]
         rw [HE.out]
         have HQ : Hid (l[k].1 = o.key) := heq
         clear HE heq
         go_wp2
         go_region
         go_wp2_with (first
           | (at_builtin; refine wpList_append_own _ rfl (.tmp 28) (.tmp 34) 33 rfl w.heap.size 87 i0 _ 2 32 Tryz.underlying33 hi0 hz0 hz1 hz2 rfl (by decide) _ _ _ rfl (World.ownsRow.alloc (w := wr.drew) hown _) ⟨wr.drew.heap.size, 0, none⟩ 1 1 [str o.key, str o.val] rfl rfl (fun j u hu => by rw [Addr.add_lit, Nat.zero_add]; have h2 : (wr.drew.alloc (.cells #[str o.key, str o.val] 87)).heap[wr.drew.heap.size]? = some (.cells #[str o.key, str o.val] 87) := block_new wr.drew _; exact (cell_block h2).trans (by simpa using hu)) (by simp [Value.oneCell']) (by unfold maxLen; omega) (by omega) (by simp; omega) ?_; intro v' w2 hown' hgrow _)
           | go_in)
         obtain ⟨a1, a2, a3⟩ := hgr wr.drew w2 _ v' P hown hB.drew hbx (o.key, o.val) hgrow hown'
         obtain ⟨y0, y1, y2, _⟩ := cells3 a3
         obtain ⟨g', off', hq', d0, d1⟩ := (hp.below a1) k hlt
         cases hq'
         clear c0 c1 x0 x1 x2
         go_wp2
         go_region
         go_wp2
         go_roundw
         case rel => exact ⟨k + 1, true, P ++ [(o.key, o.val)], by omega, by go_num, rfl, by rw [List.append_assoc], by simp; omega, a2, a1.drew, a3⟩
         case measure => simp [intOf]; omega
       . have f1 : Op.bytesLess o.key l[k].1 = true := by rw [less_before]; exact ht
         have f2 : (o.key == l[k].1) = false := by simpa using fun e => hne e.symm
         have f3 : (l[k].1 == o.key) = false := by simpa using hne
         have HE : Hid ((if !false && !bytesBefore l[k].1 o.key then [(o.key, o.val)] else []) ++ ((if l[k].1 = o.key then [] else [l[k]]) ++ ydL o (false || !bytesBefore l[k].1 o.key) (l.drop (k + 1))) = [(o.key, o.val), l[k]] ++ ydL o true (l.drop (k + 1))) := by show _ = _; simp [before_not ht, hne]
         rw [HE.out]
         clear HE ht hne
         go_wp2
         go_region
         go_wp2_with (first
           | (at_builtin; refine wpList_append_own _ rfl (.tmp 28) (.tmp 34) 33 rfl w.heap.size 87 i0 _ 2 32 Tryz.underlying33 hi0 hz0 hz1 hz2 rfl (by decide) _ _ _ rfl (World.ownsRow.alloc (w := wr.drew) hown _) ⟨wr.drew.heap.size, 0, none⟩ 1 1 [str o.key, str o.val] rfl rfl (fun j u hu => by rw [Addr.add_lit, Nat.zero_add]; have h2 : (wr.drew.alloc (.cells #[str o.key, str o.val] 87)).heap[wr.drew.heap.size]? = some (.cells #[str o.key, str o.val] 87) := block_new wr.drew _; exact (cell_block h2).trans (by simpa using hu)) (by simp [Value.oneCell']) (by unfold maxLen; omega) (by omega) (by simp; omega) ?_; intro v' w2 hown' hgrow _)
           | go_in)
         obtain ⟨a1, a2, a3⟩ := hgr wr.drew w2 _ v' P hown hB.drew hbx (o.key, o.val) hgrow hown'
         obtain ⟨y0, y1, y2, _⟩ := cells3 a3
         obtain ⟨g', off', hq', d0, d1⟩ := (hp.below a1) k hlt
         cases hq'
         have hs2 := a1.size
         have hPl2 : (P ++ [(o.key, o.val)]).length <= k + 1 := by simp; omega
         generalize hM : P ++ [(o.key, o.val)] = M at a2 hPl2
         clear c0 c1 x0 x1 x2
         go_wp2
         go_region
         go_wp2_with (first
           | (at_builtin; refine wpList_append_own _ rfl (.tmp 44) (.tmp 49) 33 rfl w.heap.size 87 i0 _ 2 32 Tryz.underlying33 hi0 hz0 hz1 hz2 rfl (by decide) _ _ _ rfl (World.ownsRow.alloc (w := w2.drew) a2 _) ⟨w2.drew.heap.size, 0, none⟩ 1 1 [str l[k].1, str l[k].2] rfl rfl (fun j u hu => by rw [Addr.add_lit, Nat.zero_add]; have h2 : (w2.drew.alloc (.cells #[str l[k].1, str l[k].2] 87)).heap[w2.drew.heap.size]? = some (.cells #[str l[k].1, str l[k].2] 87) := block_new w2.drew _; exact (cell_block h2).trans (by simpa using hu)) (by simp [Value.oneCell']) (by unfold maxLen; omega) (by omega) (by simp; omega) ?_; intro v'' w3 hown'' hgrow2 _)
           | go_in)
         obtain ⟨b1, b2, b3⟩ := hgr w2.drew w3 _ v'' M a2 a1.drew a3 l[k] hgrow2 hown''
         go_roundw
         case rel => exact ⟨k + 1, true, M ++ [l[k]], by omega, by go_num, rfl, by rw [<- hM]; simp, by simp; omega, b2, b1, b3⟩
         case measure => simp [intOf]; omega
     . by_cases heq : l[k].1 = o.key
       . have f3 : (l[k].1 == o.key) = true := by simpa using heq
         have HE : Hid ((if !true && !bytesBefore l[k].1 o.key then [(o.key, o.val)] else []) ++ ((if l[k].1 = o.key then [] else [l[k]]) ++ ydL o (true || !bytesBefore l[k].1 o.key) (l.drop (k + 1))) = ydL o true (l.drop (k + 1))) := by show _ = _; simp [heq]
         rw [HE.out]
         clear HE ht heq
         go_wp2
         go_region
         go_wp2
         go_region
         go_wp2
         go_roundw
         case rel => exact ⟨k + 1, true, P, by omega, by go_num, rfl, rfl, by omega, hown, hB.drew.drew, hbx⟩
         case measure => simp [intOf]; omega
       . have f3 : (l[k].1 == o.key) = false := by simpa using heq
         have HE : Hid ((if !true && !bytesBefore l[k].1 o.key then [(o.key, o.val)] else []) ++ ((if l[k].1 = o.key then [] else [l[k]]) ++ ydL o (true || !bytesBefore l[k].1 o.key) (l.drop (k + 1))) = [l[k]] ++ ydL o true (l.drop (k + 1))) := by show _ = _; simp [heq]
         rw [HE.out]
         clear HE ht heq
         go_wp2
         go_region
         go_wp2
         go_region
         go_wp2_with (first
           | (at_builtin; refine wpList_append_own _ rfl (.tmp 44) (.tmp 49) 33 rfl w.heap.size 87 i0 _ 2 32 Tryz.underlying33 hi0 hz0 hz1 hz2 rfl (by decide) _ _ _ rfl (World.ownsRow.alloc (w := wr.drew.drew) hown _) ⟨wr.drew.drew.heap.size, 0, none⟩ 1 1 [str l[k].1, str l[k].2] rfl rfl (fun j u hu => by rw [Addr.add_lit, Nat.zero_add]; have h2 : (wr.drew.drew.alloc (.cells #[str l[k].1, str l[k].2] 87)).heap[wr.drew.drew.heap.size]? = some (.cells #[str l[k].1, str l[k].2] 87) := block_new wr.drew.drew _; exact (cell_block h2).trans (by simpa using hu)) (by simp [Value.oneCell']) (by unfold maxLen; omega) (by omega) (by simp; omega) ?_; intro v' w2 hown' hgrow _)
           | go_in)
         obtain ⟨a1, a2, a3⟩ := hgr wr.drew.drew w2 _ v' P hown hB.drew.drew hbx l[k] hgrow hown'
         go_roundw
         case rel => exact ⟨k + 1, true, P ++ [l[k]], by omega, by go_num, rfl, by rw [List.append_assoc], by simp; omega, a2, a1, a3⟩
         case measure => simp [intOf]; omega
   . have hd : l.drop k = [] := List.drop_eq_nil_of_le (by omega)
     have HE : Hid (ydL o o.gone l = P ++ ydL o b []) := by show _ = _; rw [<- HP.out, hd]
     clear HP
     cases b <;> simp only [Bool.toNat_false, Bool.toNat_true, Nat.add_zero] at hPl
     . go_wp2_with (first
         | (at_builtin; refine wpList_append_own _ rfl (.tmp 53) (.tmp 59) 33 rfl w.heap.size 87 i0 _ 2 32 Tryz.underlying33 hi0 hz0 hz1 hz2 rfl (by decide) _ _ _ rfl (World.ownsRow.alloc (w := wr) hown _) ⟨wr.heap.size, 0, none⟩ 1 1 [str o.key, str o.val] rfl rfl (fun j u hu => by rw [Addr.add_lit, Nat.zero_add]; have h2 : (wr.alloc (.cells #[str o.key, str o.val] 87)).heap[wr.heap.size]? = some (.cells #[str o.key, str o.val] 87) := block_new wr _; exact (cell_block h2).trans (by simpa using hu)) (by simp [Value.oneCell']) (by unfold maxLen; omega) (by omega) (by simp; omega) ?_; intro v' w2 hown' hgrow _)
         | go_in)
       obtain ⟨a1, a2, a3⟩ := hgr wr w2 _ v' P hown hB hbx (o.key, o.val) hgrow hown'
       go_ret
       exact ⟨_, rfl, a1, by rw [HE.out]; exact a2⟩
     . go_wp2
       go_ret
       refine ⟨_, rfl, hB, ?_⟩
       rw [HE.out]
       simpa [ydL] using hown
theorem samePairs_any (q1 q2 : Option Addr) (c1 c2 : Nat) (a b : List (Nm × Nm)) (w : World) (h1 : Pairp w q1 a) (h2 : Pairp w q2 b) (hla : a.length <= 4194304) (hlb : b.length <= 4194304) :
   Calls Tryz.prog 135 #[.slice q1 a.length c1, .slice q2 b.length c2] w fun e w' => e = .returned (.bool (decide (a = b))) /\ ∃ n, w' = w.drewN n := by
 by_cases hl : a.length = b.length
 . rw [<- hl]
   go_enter Tryz.func135, Tryz.ntmps135
   go_wp2
   go_loopw [5] (fun i wr => ∃ k n : Nat, k <= a.length /\ i = .int .i64 k /\ a.take k = b.take k /\ wr = w.drewN n) (fun i _ => a.length - (intOf i).toNat)
   case atStart => exact ⟨0, 0, Nat.zero_le _, rfl, rfl, rfl⟩
   case round =>
     obtain ⟨k, n, hk, rfl, hr, rfl⟩ := hrel
     have HR : Hid (a.take k = b.take k) := hr
     clear hr
     by_cases hlt : k < a.length
     . have hlt2 : k < b.length := by omega
       obtain ⟨g1, o1, rfl, x0, x1⟩ := h1 k hlt
       obtain ⟨g2, o2, rfl, y0, y1⟩ := h2 k hlt2
       have HL : Hid (a.length = b.length) := hl
       clear h1 h2 hl
       by_cases e1 : a[k].1 = b[k].1
       . by_cases e2 : a[k].2 = b[k].2
         . have e : a[k] = b[k] := Prod.ext e1 e2
           rw [<- e1] at y0
           rw [<- e2] at y1
           go_wp2
           go_quiet (fail)
           go_wp2
           go_roundw
           case rel => exact ⟨k + 1, _, by omega, by go_num, sameP_take hlt hlt2 HR.out e, rfl⟩
           case measure => simp [intOf]; omega
         . have HE : Hid (a = b -> False) := fun h => e2 (by subst h; rfl)
           rw [<- e1] at y0
           have e2' : (a[k].2 == b[k].2) = false := by simpa using e2
           go_wp2
           go_quiet (fail)
           go_wp2
           go_ret
           exact ⟨ret_bool (by simp; exact HE.out), drewN_two _ _ _⟩
       . have HE : Hid (a = b -> False) := fun h => e1 (by subst h; rfl)
         have e1' : (a[k].1 == b[k].1) = false := by simpa using e1
         go_wp2
         go_quiet (fail)
         go_wp2
         go_ret
         exact ⟨ret_bool (by simp; exact HE.out), drewN_two _ _ _⟩
     . have HE : Hid (a = b) := by
         have := HR.out
         rw [List.take_of_length_le (by omega), List.take_of_length_le (by omega)] at this
         exact this
       clear hl
       go_wp2
       go_ret
       exact ⟨ret_bool (by simp; exact HE.out), _, rfl⟩
 . have HE : Hid (a = b -> False) := fun h => hl (by rw [h])
   have hl' : ((a.length : Int) != (b.length : Int)) = true := by simp; omega
   go_enter Tryz.func135, Tryz.ntmps135
   go_wp2
   go_ret
   exact ⟨ret_bool (by simp; exact HE.out), 0, rfl⟩
theorem yKey_any (n : Nm) (w : World) (hn : n.length <= 1099511627776) :
   Calls Tryz.prog 174 #[str n] w fun e w' => e = .returned (.bool (keyOk n)) /\ w = w' := by
 have hs : (⟨n.toArray⟩ : ByteArray).size = n.length := rfl
 have H : Hid (keyOk n = (decide (1 <= n.length) && decide (n.length <= 16))) := rfl
 go_enter Tryz.func174, Tryz.ntmps174
 go_wp2
 all_goals go_ret
 all_goals (refine ⟨ret_bool ?_, rfl⟩; rw [H.out, Bool.eq_iff_iff]; simp at *; try omega)
theorem yValue_any (n : Nm) (w : World) (hn : n.length <= 1099511627776) :
   Calls Tryz.prog 175 #[str n] w fun e w' => e = .returned (.bool (decide (n.length <= 64))) /\ w = w' := by
 have hs : (⟨n.toArray⟩ : ByteArray).size = n.length := rfl
 go_enter Tryz.func175, Tryz.ntmps175
 go_wp2
 go_ret
 refine ⟨ret_bool ?_, rfl⟩
 rw [Bool.eq_iff_iff]; simp; try omega
theorem yBatch_any (q : Option Addr) (qc : Nat) (l : List Ox) (w : World) (hl : l.length <= 1099511627776) (hk : OxLen l) (hp : Opp w q l) :
   Calls Tryz.prog 140 #[.slice q l.length qc] w fun e w' => e = .returned (.bool (batchOk l)) /\ w = w' := by
 go_enter Tryz.func140, Tryz.ntmps140
 go_wp2
 go_loopw [3, 4, 5] (fun i _ _ wr => ∃ k : Nat, k <= l.length /\ k <= 9 /\ i = .int .i64 k /\ w = wr /\ (l.take k).all opOk = true) (fun i _ _ _ => l.length - (intOf i).toNat)
 case atStart => exact ⟨0, Nat.zero_le _, by omega, rfl, rfl, rfl⟩
 case round =>
   obtain ⟨k, hk', hk9, rfl, rfl, hr⟩ := hrel
   have HR : Hid ((l.take k).all opOk = true) := hr
   clear hr
   by_cases hlt : k < l.length /\ k <= 8
   . obtain ⟨hlt, h8⟩ := hlt
     obtain ⟨g, off, rfl, c0, c1, c2⟩ := hp k hlt
     have hkl := hk l[k] (List.getElem_mem hlt)
     have h1' := hkl.1
     have h2' := hkl.2
     clear hkl
     have HO : Hid (opOk l[k] = (keyOk l[k].key && (l[k].gone || decide (l[k].val.length <= 64)))) := rfl
     have HB : Hid (opOk l[k] = false -> batchOk l = false) := fun h => batchOk_bad hlt h
     have HT : Hid ((l.take (k + 1)).all opOk = opOk l[k]) := take_snoc_all hlt HR.out
     generalize hKK : keyOk l[k].key = kk at *
     generalize hVV : decide (l[k].val.length <= 64) = vv at *
     generalize hGG : l[k].gone = gg at *
     have hK := yKey_any l[k].key w h1'
     have hV := yValue_any l[k].val w h2'
     rw [hKK] at hK
     rw [hVV] at hV
     clear hKK hVV hGG HR
     cases kk <;> cases vv <;> cases gg
     all_goals
       go_wp2_with (first
         | (go_at_call 174; refine hK.mono ?_; rintro e w9 ⟨rfl, rfl⟩)
         | (go_at_call 175; refine hV.mono ?_; rintro e w9 ⟨rfl, rfl⟩))
       first
         | (go_ret; exact ⟨ret_bool (HB.out HO.out).symm, rfl⟩)
         | (go_roundw
            case rel => exact ⟨k + 1, by omega, by omega, by go_num, by first | rfl | trivial, HT.out.trans HO.out⟩
            case measure => simp [intOf]; omega)
   . have E : Hid (batchOk l = (decide (1 <= l.length) && decide (l.length <= 8))) := by
       show _ = _
       by_cases h8 : l.length <= 8
       . have := HR.out
         rw [List.take_of_length_le (by omega)] at this
         simp [batchOk, this]
       . simp [batchOk, h8]
     by_cases hlt2 : k < l.length
     . have hk8 : ¬ k <= 8 := fun h => hlt ⟨hlt2, h⟩
       clear hlt
       go_wp2
       go_ret
       refine ⟨ret_bool ?_, rfl⟩
       rw [E.out, Bool.eq_iff_iff]; simp; omega
     . clear hlt
       go_wp2
       all_goals go_ret
       all_goals (refine ⟨ret_bool ?_, rfl⟩; rw [E.out, Bool.eq_iff_iff]; simp at *; try omega)
theorem yBehind_any (q0 : Option Addr) (c0 : Nat) (l : List (Nm × Nm)) (qo : Option Addr) (oc : Nat) (ops : List Ox) (w : World) (hq : Pairp w q0 l) (hr : rising l) (ho : Opp w qo ops) (hl : l.length + ops.length <= 4190000) (h0 : 0 < ops.length) :
   Calls Tryz.prog 134 #[.slice q0 l.length c0, .slice qo ops.length oc] w fun e w' => ∃ v, e = .returned v /\ Below w.heap.size w w' /\ OwnP w' w.heap.size v (doAll l ops) := by
 go_enter Tryz.func134, Tryz.ntmps134
 go_wp2
 go_loopw [0, 5] (fun v i wr => ∃ k : Nat, k <= ops.length /\ i = .int .i64 k /\ (∃ q c, v = .slice q (doAll l (ops.take k)).length c /\ Pairp wr q (doAll l (ops.take k))) /\ (0 < k -> OwnP wr w.heap.size v (doAll l (ops.take k))) /\ Below w.heap.size w wr) (fun _ i _ => ops.length - (intOf i).toNat)
 case atStart => exact ⟨0, Nat.zero_le _, rfl, ⟨q0, c0, rfl, hq⟩, fun h => by omega, Below.refl _ _⟩
 case round =>
   obtain ⟨k, hk, rfl, ⟨q, c, rfl, hp⟩, hown0, hB⟩ := hrel
   have hs := hB.size
   by_cases hlt : k < ops.length
   . obtain ⟨g, off, rfl, c0, c1, c2⟩ := (ho.below hB) k hlt
     have hml := doAll_len l (ops.take k)
     rw [List.length_take] at hml
     have HS : Hid (doAll l (ops.take (k + 1)) = ydL ops[k] ops[k].gone (doAll l (ops.take k))) := by show _ = _; rw [doAll_snoc l hlt, ydL_doOp _ (rising_doAll _ hr)]
     clear hown0
     generalize doAll l (ops.take k) = M at *
     go_wp2_with (go_at_call 172; refine (yDone_any q c M ops[k] _ hp (by omega)).mono ?_; rintro e w1 ⟨v, rfl, hb, hown⟩)
     have hb1 := hb.size
     go_roundw
     case rel =>
       refine ⟨k + 1, by omega, by go_num, ?_, fun _ => ?_, hB.trans (hb.mono hs)⟩
       . rw [HS.out]
         obtain ⟨q', c', e', hp', hn'⟩ := hown.pairp
         exact ⟨q', c', e', hp'⟩
       . rw [HS.out]
         exact ownsRow_base hown hs
     case measure => simp [intOf]; omega
   . have hke : k = ops.length := by omega
     have how := hown0 (by omega)
     rw [List.take_of_length_le (by omega)] at how
     clear hown0
     rw [List.take_of_length_le (by omega)] at hp
     go_wp2
     go_ret
     exact ⟨_, rfl, hB, by first | exact how | (rw [List.take_of_length_le (by omega)]; exact how)⟩
end Go.Proofs.YtfghgmojnffgnaaGreat
