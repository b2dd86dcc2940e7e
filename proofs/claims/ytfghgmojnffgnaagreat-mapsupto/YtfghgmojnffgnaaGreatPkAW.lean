import Derived.Test.YtfghgmojnffgnaaGreatPkAV
import Derived.Test.YtfghgmojnffgnaaGreatPkAD
import Derived.Deep.RegionLaw
import Derived.Test.YtfghgmojnffgnaaGreatPkAU
set_option maxHeartbeats 4000000
set_option maxRecDepth 20000
namespace Go.Proofs.YtfghgmojnffgnaaGreat
open Go.RowKit Go.Maps Go.Sort
def Hpp (w : World) (q : Option Addr) (hs : List (List Ox)) : Prop := ∀ i (h : i < hs.length), ∃ g off qi ci, q = some ⟨g, off, none⟩ /\ w.cell? ⟨g, off + i, none⟩ = some (.slice qi hs[i].length ci) /\ Opp w qi hs[i]
theorem Hpp.below {w w' : World} {q : Option Addr} {hs : List (List Ox)} (h : Hpp w q hs) (hb : Below w.heap.size w w') : Hpp w' q hs := fun i hi => by
 obtain ⟨g, off, qi, ci, e, h1, h2⟩ := h i hi
 exact ⟨g, off, qi, ci, e, cell_below hb h1, h2.below hb⟩
theorem HRow.hpp {w : World} {C : Nat -> Prop} {vh : Value} {hs : List (List Ox)} (h : HRow w C vh hs) : ∃ q cap, vh = .slice q hs.length cap /\ Hpp w q hs /\ hs.length <= cap := by
 obtain ⟨vals, h1, h2⟩ := h.ex
 rcases h1.2 with ⟨hv, hn⟩ | ⟨g, cap, cur, hv, hb, hgg, hle, _⟩
 . exact ⟨none, 0, by rw [hv, hn], fun i hi => by omega, by omega⟩
 . refine ⟨_, cap, hv, fun i hi => ?_, hle⟩
   obtain ⟨v, e, h3, _⟩ := h2 i hi
   obtain ⟨qi, ci, rfl, ho, _⟩ := h3.opp
   have hc := World.ownsRow.cells h1 (g := g) (by rw [hv]; rfl) _ _ e
   rw [Addr.add_lit] at hc
   exact ⟨g, 0, qi, ci, rfl, hc, ho⟩
theorem yAll_any (q : Option Addr) (qc : Nat) (hs : List (List Ox)) (w : World) (hp : Hpp w q hs) (h0 : ∀ b ∈ hs, 0 < b.length) (hl : hs.flatten.length <= 4190000) (hhl : hs.length <= 4194304) :
   Calls Tryz.prog 99 #[.slice q hs.length qc] w fun e w' => ∃ v, e = .returned v /\ Below w.heap.size w w' /\ OwnP w' w.heap.size v (doAll [] hs.flatten) := by
 go_enter Tryz.func99, Tryz.ntmps99
 go_wp2
 go_loopw [3, 4] (fun v i wr => ∃ k : Nat, k <= hs.length /\ i = .int .i64 k /\ OwnP wr w.heap.size v (doAll [] (hs.take k).flatten) /\ Below w.heap.size w wr) (fun _ i _ => hs.length - (intOf i).toNat)
 case atStart => exact ⟨0, Nat.zero_le _, rfl, World.ownsRow_nil _ _ _ _, Below.refl _ _⟩
 case round =>
   obtain ⟨k, hk, rfl, hown, hB⟩ := hrel
   have hsz := hB.size
   by_cases hlt : k < hs.length
   . obtain ⟨g, off, qi, ci, rfl, c0, ho⟩ := (hp.below hB) k hlt
     have hE : (hs.take (k + 1)).flatten = (hs.take k).flatten ++ hs[k] := by rw [List.take_succ_eq_append_getElem hlt, List.flatten_append, List.flatten_cons, List.flatten_nil, List.append_nil]
     have hle : ((hs.take k).flatten ++ hs[k]).length <= hs.flatten.length := by
       rw [<- hE]
       conv => rhs; rw [<- List.take_append_drop (k + 1) hs]
       rw [List.flatten_append, List.length_append]
       exact Nat.le_add_right _ _
     rw [List.length_append] at hle
     have hml := doAll_len [] (hs.take k).flatten
     simp only [List.length_nil, Nat.zero_add] at hml
     have HS : Hid (doAll [] (hs.take (k + 1)).flatten = doAll (doAll [] (hs.take k).flatten) hs[k]) := by show _ = _; rw [hE, doAll_append]
     have hri : rising (doAll [] (hs.take k).flatten) := rising_doAll _ List.Pairwise.nil
     have h0k := h0 _ (List.getElem_mem hlt)
     obtain ⟨qm, cm, rfl, hpm, _⟩ := hown.pairp
     clear hown hE
     generalize doAll [] (hs.take k).flatten = M at *
     have hBe := yBehind_any qm cm M qi ci hs[k] wr hpm hri ho (by omega) h0k
     generalize hs[k] = bk at *
     go_wp2_with (go_at_call 134; refine hBe.mono ?_; rintro e w1 ⟨v, rfl, hb, hown⟩; clear hBe)
     go_roundw
     case rel =>
       refine ⟨k + 1, by omega, by go_num, ?_, hB.trans (hb.mono hsz)⟩
       rw [HS.out]
       exact ownsRow_base hown hsz
     case measure => simp [intOf]; omega
   . rw [List.take_of_length_le (by omega)] at hown
     go_wp2
     go_ret
     exact ⟨_, rfl, hB, hown⟩
theorem getF_take_drop {n : Nm} {l : List (Nm × Nm)} : ∀ {k : Nat}, getF n (l.take k) = none -> getF n l = getF n (l.drop k) := by
 intro k
 induction l generalizing k with
 | nil => intro _; simp
 | cons x r ih =>
   cases k with
   | zero => intro _; rfl
   | succ k =>
     intro h
     simp only [List.take_succ_cons, getF] at h
     split at h
     . cases h
     . rename_i e
       simp only [List.drop_succ_cons, getF]
       rw [if_neg e]
       exact ih h
theorem getF_take_snoc {n : Nm} {l : List (Nm × Nm)} {k : Nat} (h : k < l.length) (hn : getF n (l.take k) = none) (e : l[k].1 ≠ n) : getF n (l.take (k + 1)) = none := by
 induction l generalizing k with
 | nil => simp at h
 | cons x r ih =>
   cases k with
   | zero => simp only [List.getElem_cons_zero] at e; simp [getF, e]
   | succ k =>
     simp only [List.take_succ_cons, getF] at hn ⊢
     split at hn
     . cases hn
     . rename_i e'
       rw [if_neg e']
       exact ih (by simpa using h) hn (by simpa using e)
def getY (l : Mp) (n : Nm) : Nm × Bool × Int := if keyOk n = false then ([], false, 1) else ((getF n l).getD [], (getF n l).isSome, 0)
theorem yGet_any (q : Option Addr) (qc : Nat) (l : List (Nm × Nm)) (n : Nm) (w : World) (hp : Pairp w q l) (hl : l.length <= 4194304) (hn : n.length <= 1099511627776) :
   Calls Tryz.prog 141 #[.slice q l.length qc, str n] w fun e w' => e = .returned (.tuple #[str (getY l n).1, .bool (getY l n).2.1, .int .i64 (getY l n).2.2]) /\ w = w' := by
 have hK := yKey_any n w hn
 cases hk : keyOk n
 . have HX : Hid (getY l n = ([], false, 1)) := by simp [Hid, getY, hk]
   rw [HX.out]
   rw [hk] at hK
   go_enter Tryz.func141, Tryz.ntmps141
   go_wp2_with (go_at_call 174; refine hK.mono ?_; rintro e w1 ⟨rfl, rfl⟩; clear hK)
   go_ret3
   exact ⟨rfl, rfl⟩
 . have HX : Hid (getY l n = ((getF n l).getD [], (getF n l).isSome, 0)) := by simp [Hid, getY, hk]
   rw [HX.out]
   rw [hk] at hK
   clear HX
   go_enter Tryz.func141, Tryz.ntmps141
   go_wp2_with (go_at_call 174; refine hK.mono ?_; rintro e w1 ⟨rfl, rfl⟩; clear hK)
   go_loopw [8] (fun i wr => ∃ k : Nat, k <= l.length /\ i = .int .i64 k /\ getF n (l.take k) = none /\ w = wr) (fun i _ => l.length - (intOf i).toNat)
   case atStart => exact ⟨0, Nat.zero_le _, rfl, rfl, rfl⟩
   case round =>
     obtain ⟨k, hk', rfl, hr, rfl⟩ := hrel
     have HR : Hid (getF n (l.take k) = none) := hr
     clear hr
     by_cases hlt : k < l.length
     . obtain ⟨g, off, rfl, c0, c1⟩ := hp k hlt
       by_cases e : l[k].1 = n
       . have f1 : (l[k].1 == n) = true := by simpa using e
         have HG : Hid (getF n l = some l[k].2) := by
           show _ = _
           rw [getF_take_drop HR.out, List.drop_eq_getElem_cons hlt]
           simp [getF, e]
         clear HR e
         go_wp2
         go_ret3
         rw [HG.out]
         exact ⟨rfl, rfl⟩
       . have f1 : (l[k].1 == n) = false := by simpa using e
         have HE : Hid (l[k].1 ≠ n) := e
         clear e
         go_wp2
         go_roundw
         case rel => exact ⟨k + 1, by omega, by go_num, getF_take_snoc hlt HR.out HE.out, by first | rfl | trivial⟩
         case measure => simp [intOf]; omega
     . have HG : Hid (getF n l = none) := by
         have := HR.out
         rw [List.take_of_length_le (by omega)] at this
         exact this
       clear HR
       go_wp2
       go_ret3
       rw [HG.out]
       exact ⟨rfl, rfl⟩
def scanY (l : Mp) (lo hi : Nm) (lim : Int) : Mp := (rangeM lo hi l).take lim.toNat
theorem range_snoc (lo hi : Nm) {l : Mp} {k : Nat} (h : k < l.length) : rangeM lo hi (l.take (k + 1)) = rangeM lo hi (l.take k) ++ (if okB lo hi l[k].1 then [l[k]] else []) := by
 unfold rangeM
 rw [List.take_succ_eq_append_getElem h, List.filter_append]
 congr 1
 rw [List.filter_cons]
 split <;> simp
theorem scanY_end {lo hi : Nm} {l : Mp} {k : Nat} {lim : Int} (hle : (rangeM lo hi (l.take k)).length <= lim.toNat) (h : l.length <= k \/ (rangeM lo hi (l.take k)).length = lim.toNat) : scanY l lo hi lim = rangeM lo hi (l.take k) := by
 unfold scanY
 rcases h with h | h
 . rw [List.take_of_length_le (l := l) h] at hle ⊢
   rw [List.take_of_length_le hle]
 . have e : rangeM lo hi l = rangeM lo hi (l.take k) ++ rangeM lo hi (l.drop k) := by
     unfold rangeM
     rw [<- List.filter_append, List.take_append_drop]
   rw [e, <- h, List.take_left]
theorem yScan_arg (q : Option Addr) (n qc : Nat) (lo hi : Nm) (lim : Int) (w : World) (h : lim < 0) :
   Calls Tryz.prog 142 #[.slice q n qc, str lo, str hi, .int .i64 lim] w fun e w' => e = .returned (.tuple #[.slice none 0 0, .int .i64 1]) /\ w = w' := by
 go_enter Tryz.func142, Tryz.ntmps142
 go_wp2
 go_ret2
 exact ⟨rfl, rfl⟩
theorem yScan_any (q : Option Addr) (qc : Nat) (l : List (Nm × Nm)) (lo hi : Nm) (lim : Int) (w : World) (hp : Pairp w q l) (hl : l.length <= 4194000) (h0 : 0 <= lim) (h1 : lim <= 9223372036854775807) :
   Calls Tryz.prog 142 #[.slice q l.length qc, str lo, str hi, .int .i64 lim] w fun e w' => ∃ v, e = .returned (.tuple #[v, .int .i64 0]) /\ Below w.heap.size w w' /\ OwnP w' w.heap.size v (scanY l lo hi lim) := by
 obtain ⟨i0, hi0, hz0, hz1, hz2⟩ := info_parts Tryz.info87
 go_enter Tryz.func142, Tryz.ntmps142
 go_wp2
 go_loopw [10, 11] (fun v i wr => ∃ k : Nat, k <= l.length /\ i = .int .i64 k /\ OwnP wr w.heap.size v (rangeM lo hi (l.take k)) /\ (rangeM lo hi (l.take k)).length <= lim.toNat /\ Below w.heap.size w wr) (fun _ i _ => l.length - (intOf i).toNat)
 case atStart => exact ⟨0, Nat.zero_le _, rfl, World.ownsRow_nil _ _ _ _, by simp [rangeM], Below.refl _ _⟩
 case round =>
   obtain ⟨k, hk, rfl, hown, hle, hB⟩ := hrel
   have hs := hB.size
   have hPl : (rangeM lo hi (l.take k)).length <= k := by
     have h2 : (rangeM lo hi (l.take k)).length <= (l.take k).length := List.length_filter_le _ _
     rw [List.length_take] at h2
     omega
   obtain ⟨qv, cv, rfl, hpv, _⟩ := hown.pairp
   by_cases hlt : k < l.length
   . by_cases hfull : (rangeM lo hi (l.take k)).length < lim.toNat
     . obtain ⟨g, off, rfl, c0, c1⟩ := (hp.below hB) k hlt
       have hsn := range_snoc lo hi hlt
       have hok : okB lo hi l[k].1 = (!Op.bytesLess l[k].1 lo && (hi == [] || Op.bytesLess l[k].1 hi)) := by simp only [okB, less_before]
       have HN : Hid (rangeM lo hi (l.take (k + 1)) = rangeM lo hi (l.take k) ++ (if okB lo hi l[k].1 then [l[k]] else [])) := hsn
       have HO : Hid (okB lo hi l[k].1 = (!Op.bytesLess l[k].1 lo && (hi == [] || Op.bytesLess l[k].1 hi))) := hok
       have hfl : (((rangeM lo hi (l.take k)).length : Nat) : Int) < lim := by omega
       clear hsn hok hpv
       generalize rangeM lo hi (l.take k) = P at *
       have HY : Hid (okB lo hi l[k].1 = true -> rangeM lo hi (l.take (k + 1)) = P ++ [l[k]]) := fun h => by rw [HN.out, h]; rfl
       have HZ : Hid (okB lo hi l[k].1 = false -> rangeM lo hi (l.take (k + 1)) = P) := fun h => by rw [HN.out, h]; simp
       clear HN
       cases f1 : Op.bytesLess l[k].1 lo
       . cases hi with
         | nil =>
           have HT : Hid (okB lo [] l[k].1 = true) := by show _ = _; rw [HO.out, f1]; rfl
           have HQ := HY.out HT.out
           clear HO HY HZ HT
           have HQ' : Hid (rangeM lo [] (l.take (k + 1)) = P ++ [l[k]]) := HQ
           clear HQ
           go_wp2_with (first
             | (at_builtin; refine wpList_append_own _ rfl (.tmp 46) (.tmp 51) 33 rfl w.heap.size 87 i0 _ 2 32 Tryz.underlying33 hi0 hz0 hz1 hz2 rfl (by decide) _ _ _ rfl (World.ownsRow.alloc (w := wr) hown _) ⟨wr.heap.size, 0, none⟩ 1 1 [str l[k].1, str l[k].2] rfl rfl (fun j u hu => by rw [Addr.add_lit, Nat.zero_add]; have h2 : (wr.alloc (.cells #[str l[k].1, str l[k].2] 87)).heap[wr.heap.size]? = some (.cells #[str l[k].1, str l[k].2] 87) := block_new wr _; exact (cell_block h2).trans (by simpa using hu)) (by simp [Value.oneCell']) (by unfold maxLen; omega) (by omega) (by simp; omega) ?_; intro v' w2 hown' hgrow _)
             | go_in)
           go_roundw
           case rel =>
             refine ⟨k + 1, by omega, by go_num, ?_, ?_, ((hB.alloc hs _).grown hgrow (by simp; omega) (fun k hk => (World.ownsRow.lt hown k hk).1))⟩
             . rw [HQ'.out]; unfold OwnP; rw [flatP_snoc, List.length_append]; exact hown'
             . rw [HQ'.out]; simp; omega
           case measure => simp [intOf]; omega
         | cons a r =>
           cases f2 : Op.bytesLess l[k].1 (a :: r)
           . have HT : Hid (okB lo (a :: r) l[k].1 = false) := by show _ = _; rw [HO.out, f1, f2]; rfl
             have HQ' : Hid (rangeM lo (a :: r) (l.take (k + 1)) = P) := HZ.out HT.out
             clear HO HY HZ HT
             go_wp2
             go_roundw
             case rel => exact ⟨k + 1, by omega, by go_num, by rw [HQ'.out]; exact hown, by rw [HQ'.out]; exact hle, hB⟩
             case measure => simp [intOf]; omega
           . have HT : Hid (okB lo (a :: r) l[k].1 = true) := by show _ = _; rw [HO.out, f1, f2]; rfl
             have HQ' : Hid (rangeM lo (a :: r) (l.take (k + 1)) = P ++ [l[k]]) := HY.out HT.out
             clear HO HY HZ HT
             go_wp2_with (first
               | (at_builtin; refine wpList_append_own _ rfl (.tmp 46) (.tmp 51) 33 rfl w.heap.size 87 i0 _ 2 32 Tryz.underlying33 hi0 hz0 hz1 hz2 rfl (by decide) _ _ _ rfl (World.ownsRow.alloc (w := wr) hown _) ⟨wr.heap.size, 0, none⟩ 1 1 [str l[k].1, str l[k].2] rfl rfl (fun j u hu => by rw [Addr.add_lit, Nat.zero_add]; have h2 : (wr.alloc (.cells #[str l[k].1, str l[k].2] 87)).heap[wr.heap.size]? = some (.cells #[str l[k].1, str l[k].2] 87) := block_new wr _; exact (cell_block h2).trans (by simpa using hu)) (by simp [Value.oneCell']) (by unfold maxLen; omega) (by omega) (by simp; omega) ?_; intro v' w2 hown' hgrow _)
               | go_in)
             go_roundw
             case rel =>
               refine ⟨k + 1, by omega, by go_num, ?_, ?_, ((hB.alloc hs _).grown hgrow (by simp; omega) (fun k hk => (World.ownsRow.lt hown k hk).1))⟩
               . rw [HQ'.out]; unfold OwnP; rw [flatP_snoc, List.length_append]; exact hown'
               . rw [HQ'.out]; simp; omega
             case measure => simp [intOf]; omega
       . have HT : Hid (okB lo hi l[k].1 = false) := by show _ = _; rw [HO.out, f1]; rfl
         have HQ' : Hid (rangeM lo hi (l.take (k + 1)) = P) := HZ.out HT.out
         clear HO HY HZ HT
         go_wp2
         go_roundw
         case rel => exact ⟨k + 1, by omega, by go_num, by rw [HQ'.out]; exact hown, by rw [HQ'.out]; exact hle, hB⟩
         case measure => simp [intOf]; omega
     . have HE : Hid (scanY l lo hi lim = rangeM lo hi (l.take k)) := scanY_end hle (.inr (by omega))
       have hnf : ¬ (((rangeM lo hi (l.take k)).length : Nat) : Int) < lim := by omega
       clear hfull hpv
       generalize rangeM lo hi (l.take k) = P at *
       go_wp2
       go_ret2
       exact ⟨_, rfl, hB, by rw [HE.out]; exact hown⟩
   . have HE : Hid (scanY l lo hi lim = rangeM lo hi (l.take k)) := scanY_end hle (.inl (by omega))
     clear hpv
     generalize rangeM lo hi (l.take k) = P at *
     go_wp2
     go_ret2
     exact ⟨_, rfl, hB, by rw [HE.out]; exact hown⟩
end Go.Proofs.YtfghgmojnffgnaaGreat
namespace Go.Proofs.YtfghgmojnffgnaaGreat
open Go.RowKit Go.Maps
structure AppR (w w' : World) (e : TypeId) (size : Nat) (v : Value) (n : Nat) (xs : List Value) (v' : Value) (n' : Nat) (xs' : List Value) : Prop where
 new : w'.ownsRow 0 e size v' n' xs'
 old : w'.ownsRow 0 e size v n xs
 how : (v'.ownBlock = v.ownBlock /\ Kp (fun i => v.ownBlock = some i) w w') \/ (Below w.heap.size w w' /\ ∀ g, v'.ownBlock = some g -> w.heap.size <= g)
theorem app_row2 {P : Program} (w : World) (t ty e : TypeId) (i : TypeInfo) (z : Value) (size bytes : Nat) (ht : P.underlying t = some (.slice e)) (hi : P.info? e = some i) (hz : i.zero = some z)
   (hsize : i.size = size) (hby : i.bytes = bytes) (hzs : z.cells.size = size) (hsz : 0 < size)
   (v : Value) (n : Nat) (xs : List Value) (hown : w.ownsRow 0 e size v n xs)
   (a : Addr) (m c : Nat) (news : List Value) (hl : news.length = m * size) (hnews : ∀ j u, news[j]? = some u -> w.cell? (a.add j) = some u) (h1 : ∀ u ∈ news, u.oneCell' = true)
   (h63 : n + m <= maxLen) (hbytes : (n + m) * bytes <= 140737488355328) :
   ∃ v' w', (Builtin.append_ #[t, t] ty #[v, .slice (some a) m c]).run P w = .ok v' w' /\ AppR w w' e size v n xs v' (n + m) (xs ++ news) := by
 obtain ⟨v', w', hr, ho, hg, _⟩ := run_append_own (P := P) w 0 t ty e i z size bytes ht hi hz hsize hby hzs hsz v n xs hown a m c news hl hnews h1 h63 hbytes (Nat.zero_le _)
 refine ⟨v', w', hr, ?_⟩
 have hsmall : n + m <= 9223372036854775807 := by simp only [maxLen] at h63; omega
 subst hsize
 subst hby
 rcases hown.2 with ⟨hv, hn⟩ | ⟨g, cap, cur, hv, hbg, hgg, hnc, hcm, hcs, htake⟩
 . subst hv; subst hn
   have hx : xs = [] := List.eq_nil_of_length_eq_zero (by simpa using hown.1)
   subst hx
   obtain ⟨v2, w2, hr2, ho2, _, _⟩ := run_append_own (P := P) w w.heap.size t ty e i z i.size i.bytes ht hi hz rfl rfl hzs hsz (.slice none 0 0) 0 [] (World.ownsRow_nil _ _ _ _) a m c news hl hnews h1 h63 hbytes (Nat.le_refl _)
   rw [hr] at hr2
   simp only [Result.ok.injEq] at hr2
   obtain ⟨rfl, rfl⟩ := hr2
   exact ⟨ho, World.ownsRow_nil _ _ _ _, .inr ⟨(Below.refl _ _).grown hg (Nat.le_refl _) (fun k hk => by cases hk), fun g hg => (ho2.lt g hg).1⟩⟩
 . subst hv
   by_cases hroom : n + m <= cap
   . have hfit : n * i.size + news.length <= cur.size := by rw [hl, hcs, <- Nat.add_mul]; exact Nat.mul_le_mul_right _ hroom
     have hr2 := run_append_room (P := P) w t ty e i ht hi g n cap cur hgg a m c news hl hnews h1 hroom hfit
     rw [hr] at hr2
     simp only [Result.ok.injEq] at hr2
     obtain ⟨rfl, rfl⟩ := hr2
     refine ⟨ho, ⟨hown.1, .inr ⟨g, cap, _, rfl, hbg, setRow_heap w g cur _ e _ hgg, hnc, hcm, ?_, ?_⟩⟩, .inl ⟨rfl, (Kp.refl _ _).grown hg (fun k hk _ => hk)⟩⟩
     . simp only [List.size_toArray, List.length_append, List.length_take, List.length_drop, Array.length_toList]
       omega
     . rw [htake, List.append_assoc]
       rw [List.take_append_of_le_length (by rw [hown.1]; exact Nat.le_refl _)]
       rw [List.take_of_length_le (by rw [hown.1]; exact Nat.le_refl _)]
   . have holds : ∀ j u, xs[j]? = some u -> w.cell? ((⟨g, 0, none⟩ : Addr).add j) = some u := hown.cells (g := g) rfl
     have hr2 := run_append_grow (P := P) w t ty e i z ht hi hz ⟨g, 0, none⟩ n cap xs hown.1 holds a m c news hl hnews (by omega) (by omega) (growslice_fits (by omega) hbytes)
     rw [hr] at hr2
     simp only [Result.ok.injEq] at hr2
     obtain ⟨rfl, rfl⟩ := hr2
     have hb : Below w.heap.size w (w.drew.alloc (.cells (xs.toArray ++ news.toArray ++ Builtin.zeroCells z.cells (grownCap w (n + m) cap e - (n + m))) e)) := ((Below.refl _ w).drew).alloc (Nat.le_refl _) _
     exact ⟨ho, ownsRow_of_block hown (fun g' hg' => hb.block g' (hown.lt g' hg').2), .inr ⟨hb, fun g hg => by simp only [Value.ownBlock, Option.some.injEq] at hg; omega⟩⟩
theorem wpList_app2 {P : Program} (w : World) {ops : Array Oper} {rest : List Oper} {o : Oper} {ac : Act} {Q : Exit -> Act -> World -> Prop} (hgd : o.guard = none) (s x : Operand) (t : TypeId)
   (ho : o.op = .call { callee := .builtin .append, args := #[s, x], argTypes := #[t, t] })
   (e : TypeId) (i : TypeInfo) (z : Value) (size bytes : Nat) (ht : P.underlying t = some (.slice e)) (hi : P.info? e = some i) (hz : i.zero = some z)
   (hsize : i.size = size) (hby : i.bytes = bytes) (hzs : z.cells.size = size) (hsz : 0 < size)
   (v : Value) (n : Nat) (xs : List Value) (hs : ac.eval s = v) (hown : w.ownsRow 0 e size v n xs)
   (ad : Addr) (m c : Nat) (news : List Value) (hx : ac.eval x = .slice (some ad) m c) (hl : news.length = m * size) (hnews : ∀ j u, news[j]? = some u -> w.cell? (ad.add j) = some u) (h1 : ∀ u ∈ news, u.oneCell' = true)
   (h63 : n + m <= maxLen) (hbytes : (n + m) * bytes <= 140737488355328)
   (h : ∀ v' w', AppR w w' e size v n xs v' (n + m) (xs ++ news) -> wpList P ops Q rest (ac.put o.dst v') w') : wpList P ops Q (o :: rest) ac w := by
 refine wpList_plain hgd fun K hK => ?_
 obtain ⟨v', w', hr, h2⟩ := app_row2 (P := P) w t o.type e i z size bytes ht hi hz hsize hby hzs hsz v n xs hown ad m c news hl hnews h1 h63 hbytes
 unfold Oper.wp execOp
 simp only [ho, resolve, invoke, builtin, Sem.run_bind, Sem.run_pure, Result.andThen_ok, List.map_toArray, List.map_cons, List.map_nil, hs, hx, hr]
 exact hK _ _ (h v' w' h2)
theorem step_app2 {P : Program} {ops : Array Oper} {o : Oper} {ac : Act} {w : World} {K : Act -> World -> Prop} {Q : Exit -> Act -> World -> Prop} {E : Prop}
   (hgd : o.guard = none) (s x : Operand) (t : TypeId) (ho : o.op = Op.call { callee := Callee.builtin Builtin.append, args := #[s, x], argTypes := #[t, t] })
   (e : TypeId) (i : TypeInfo) (z : Value) (size bytes : Nat) (ht : P.underlying t = some (.slice e)) (hi : P.info? e = some i) (hz : i.zero = some z)
   (hsize : i.size = size) (hby : i.bytes = bytes) (hzs : z.cells.size = size) (hsz : 0 < size)
   (v : Value) (n : Nat) (xs : List Value) (hs : ac.eval s = v) (hown : w.ownsRow 0 e size v n xs)
   (ad : Addr) (m c : Nat) (news : List Value) (hx : ac.eval x = .slice (some ad) m c) (hl : news.length = m * size) (hnews : ∀ j u, news[j]? = some u -> w.cell? (ad.add j) = some u) (h1 : ∀ u ∈ news, u.oneCell' = true)
   (h63 : n + m <= maxLen) (hbytes : (n + m) * bytes <= 140737488355328)
   (h : ∀ v' w', AppR w w' e size v n xs v' (n + m) (xs ++ news) -> K (ac.put o.dst v') w') : if Region.wanted o (yielded ops ac.tmps) = true then Oper.wp P o ac w K Q else E := by
 have hw : Region.wanted o (yielded ops ac.tmps) = true := by simp [Region.wanted, hgd]
 rw [if_pos hw]
 obtain ⟨v', w', hr, h2⟩ := app_row2 (P := P) w t o.type e i z size bytes ht hi hz hsize hby hzs hsz v n xs hown ad m c news hl hnews h1 h63 hbytes
 unfold Oper.wp execOp
 simp only [ho, resolve, invoke, builtin, Sem.run_bind, Sem.run_pure, Result.andThen_ok, List.map_toArray, List.map_cons, List.map_nil, hs, hx, hr]
 exact h v' w' h2
def AllP (w : World) (v : Value) (n : Nat) (p : List UInt8) : Prop := ∃ a cap, v = .slice a n cap /\ ∀ i, i < n -> ∃ g, a = some ⟨g, 0, none⟩ /\ w.cell? ⟨g, i, none⟩ = some (encS p) /\ ∃ cs z, w.heap[g]? = some (.cells cs 9 z)
theorem allP_of {w : World} {v : Value} {n : Nat} {p : List UInt8} (h : w.ownsRow 0 9 1 v n (List.replicate n (encS p))) : AllP w v n p := by
 rcases h.2 with ⟨hv, hn⟩ | ⟨g, cap, cur, hv, _, hb, h1, h2, _⟩
 . exact ⟨none, 0, by rw [hv, hn], fun i hi => by omega⟩
 . subst hv
   refine ⟨_, cap, rfl, fun i hi => ⟨g, rfl, ?_, _, _, hb⟩⟩
   rw [h.cellAt i (by omega), List.getElem?_replicate, if_pos hi]
theorem AllP.kept {S : Nat -> Prop} {w w' : World} {u : Value} {nu : Nat} {p : List UInt8} (h : AllP w u nu p) (kp : Kp S w w') (hs : ∀ g, u.ownBlock = some g -> ¬ S g) : AllP w' u nu p := by
 obtain ⟨a, cap, hv, hc⟩ := h
 refine ⟨a, cap, hv, fun i hi => ?_⟩
 obtain ⟨g, rfl, hg, cs, z, hb⟩ := hc i hi
 have hk := kp.block g (lt_of_block hb) (hs g (by rw [hv]; rfl))
 exact ⟨g, rfl, (World.cell?_of_block hk).trans hg, cs, z, hk.trans hb⟩
theorem AllP.ty {S : Nat -> Prop} {w w' : World} {u : Value} {nu : Nat} {p : List UInt8} (h : AllP w u nu p) (kp : Kp S w w') (hs : ∀ g cs z, w.heap[g]? = some (.cells cs 9 z) -> ¬ S g) : AllP w' u nu p := by
 obtain ⟨a, cap, hv, hc⟩ := h
 refine ⟨a, cap, hv, fun i hi => ?_⟩
 obtain ⟨g, rfl, hg, cs, z, hb⟩ := hc i hi
 have hk := kp.block g (lt_of_block hb) (hs g cs z hb)
 exact ⟨g, rfl, (World.cell?_of_block hk).trans hg, cs, z, hk.trans hb⟩
theorem AllP.new {w : World} {u : Value} {nu : Nat} {p : List UInt8} (h : AllP w u nu p) (o : Obj) : AllP (w.alloc o) u nu p := h.kept (S := fun _ => False) ((Kp.refl _ _).alloc _) (fun _ _ f => f)
theorem AllP.app {w w' : World} {v v' u : Value} {n m nu : Nat} {p : List UInt8} (h : AllP w u nu p) (ha : AppR w w' 9 1 v n (List.replicate n (encS p)) v' (n + m) (List.replicate (n + m) (encS p))) (hle : nu <= n + m) : AllP w' u nu p := by
 obtain ⟨a, cap, hv, hc⟩ := h
 refine ⟨a, cap, hv, fun i hi => ?_⟩
 obtain ⟨g, rfl, hg, cs, z, hb⟩ := hc i hi
 refine ⟨g, rfl, ?_⟩
 have hlt := lt_of_block hb
 rcases ha.how with ⟨h1, h2⟩ | ⟨h1, h2⟩
 . by_cases e : v.ownBlock = some g
   . obtain ⟨a2, cap2, hv2, hc2⟩ := allP_of ha.new
     obtain ⟨g2, e2, hg2⟩ := hc2 i (by omega)
     rw [hv2, e2] at h1
     rw [e] at h1
     simp only [Value.ownBlock, Option.some.injEq] at h1
     subst h1
     exact hg2
   . have hk := h2.block g hlt e
     exact ⟨(World.cell?_of_block hk).trans hg, cs, z, hk.trans hb⟩
 . have hk := h1.block g hlt
   exact ⟨(World.cell?_of_block hk).trans hg, cs, z, hk.trans hb⟩
theorem AppR.fresh {w w' : World} {e : TypeId} {size n n' : Nat} {v v' : Value} {xs xs' : List Value} (h : AppR w w' e size v n xs v' n' xs') : ∀ g, v'.ownBlock = some g -> v.ownBlock = some g \/ w.heap.size <= g := fun g hg => by
 rcases h.how with ⟨h1, _⟩ | ⟨_, h2⟩
 . exact .inl (h1 ▸ hg)
 . exact .inr (h2 g hg)
theorem AppR.kp {w w' : World} {e : TypeId} {size n n' : Nat} {v v' : Value} {xs xs' : List Value} (h : AppR w w' e size v n xs v' n' xs') : Kp (fun i => v.ownBlock = some i) w w' := by
 rcases h.how with ⟨_, h2⟩ | ⟨h1, _⟩
 . exact h2
 . exact Kp.of_below h1
theorem rep_one (n : Nat) (x : Value) : List.replicate n x ++ [x] = List.replicate (n + 1) x := by rw [show [x] = List.replicate 1 x from rfl, List.replicate_append_replicate]
theorem rep_two (n : Nat) (x : Value) : List.replicate n x ++ [x, x] = List.replicate (n + 2) x := by rw [show [x, x] = List.replicate 2 x from rfl, List.replicate_append_replicate]
theorem rep_three (n : Nat) (x : Value) : List.replicate n x ++ [x, x, x] = List.replicate (n + 3) x := by rw [show [x, x, x] = List.replicate 3 x from rfl, List.replicate_append_replicate]
end Go.Proofs.YtfghgmojnffgnaaGreat
namespace Go.Proofs.YtfghgmojnffgnaaGreat
open Go.RowKit Go.Maps Go.Sort
theorem cells8 {w : World} {b : Nat} {a0 a1 a2 a3 a4 a5 a6 a7 : Value} {t : TypeId} (hb : w.heap[b]? = some (.cells #[a0, a1, a2, a3, a4, a5, a6, a7] t)) :
   w.cell? ⟨b, 0, none⟩ = some a0 /\ w.cell? ⟨b, 1, none⟩ = some a1 /\ w.cell? ⟨b, 2, none⟩ = some a2 /\ w.cell? ⟨b, 3, none⟩ = some a3 /\ w.cell? ⟨b, 4, none⟩ = some a4 /\ w.cell? ⟨b, 5, none⟩ = some a5 /\ w.cell? ⟨b, 6, none⟩ = some a6 /\ w.cell? ⟨b, 7, none⟩ = some a7 /\ ∀ o, w.frozen? ⟨b, o, none⟩ = false :=
 ⟨cell_block hb, cell_block hb, cell_block hb, cell_block hb, cell_block hb, cell_block hb, cell_block hb, cell_block hb, fun _ => frozen_block hb⟩
theorem row1 {w : World} {e : TypeId} {v : Value} {n : Nat} {xs : List Value} (h : w.ownsRow 0 e 1 v n xs) : ∃ a cap, v = .slice a n cap /\ n = xs.length /\ n <= cap /\ cap <= maxLen /\ ∀ i (_ : i < xs.length), ∃ g, a = some ⟨g, 0, none⟩ /\ g < w.heap.size /\ w.cell? ⟨g, i, none⟩ = some xs[i] := by
 have hl : xs.length = n := by simpa using h.1
 rcases h.2 with ⟨hv, hn⟩ | ⟨g, cap, cur, hv, _, hb, h1, h2, _⟩
 . exact ⟨none, 0, by rw [hv, hn], hl.symm, by omega, by unfold maxLen; omega, fun i hi => by omega⟩
 . subst hv
   refine ⟨_, cap, rfl, hl.symm, h1, h2, fun i hi => ⟨g, rfl, lt_of_block hb, ?_⟩⟩
   rw [h.cellAt i (by omega)]
   exact List.getElem?_eq_getElem hi
theorem Tryz.info106 : (Tryz.prog.info? 106).map (fun i => (i.zero, i.size, i.bytes)) = some (some (.slice none 0 0), 1, 24) := by kernel_rfl
def ownT (own : Nat -> Nat) (w : World) (vl vt' vm' : Value) (k : Nat) : Nat :=
 if k < w.heap.size then (if vl.ownBlock = some k then 2 else own k) else if vt'.ownBlock = some k \/ vm'.ownBlock = some k then 1 else 2
theorem TextAt.kept' {w w' : World} {C C' : Nat -> Prop} {S : Nat -> Prop} {t : TX} (h : TextAt w C t) (kp : Kp S w w') (hS : ∀ g, g < w.heap.size -> C g -> ¬ S g /\ C' g) : TextAt w' C' t := by
 obtain ⟨a, n, cap, h1, h2, h3⟩ := h
 refine ⟨a, n, cap, h1, h2, fun i hi => ?_⟩
 obtain ⟨g, rfl, hg, hc⟩ := h3 i hi
 have hlt := World.block_lt_of_cell? w ⟨g, i, none⟩ hc
 exact ⟨g, rfl, (hS g hlt hg).2, (World.cell?_of_block (kp.block g hlt (hS g hlt hg).1)).trans hc⟩
theorem rows_ne {w : World} {base base' size size' n n' g : Nat} {t t' : TypeId} {v v' : Value} {xs xs' : List Value} (h : w.ownsRow base t size v n xs) (h' : w.ownsRow base' t' size' v' n' xs') (hg : v.ownBlock = some g) (hg' : v'.ownBlock = some g) (ht : t ≠ t') : False := by
 rcases h.2 with ⟨rfl, _⟩ | ⟨g2, cap, cur, rfl, _, hb, _⟩
 . simp [Value.ownBlock] at hg
 . simp only [Value.ownBlock, Option.some.injEq] at hg
   subst hg
   exact row_ne hb h' hg' ht rfl
def overS (p : List UInt8) (l : List (List UInt8)) (j : Nat) : List Value := List.replicate j (encS p) ++ (l.drop j).map encS
theorem overS_len (p : List UInt8) (l : List (List UInt8)) (j : Nat) (h : j <= l.length) : (overS p l j).length = l.length := by simp [overS]; omega
theorem overS_succ (p : List UInt8) (l : List (List UInt8)) (j : Nat) (h : j < l.length) : (overS p l j).set j (encS p) = overS p l (j + 1) := by
 unfold overS
 rw [List.set_append_right _ _ (by simp), List.length_replicate, Nat.sub_self, List.drop_eq_getElem_cons h, List.map_cons, List.set_cons_zero, List.replicate_succ', List.append_assoc]
 rfl
theorem overS_end (p : List UInt8) (l : List (List UInt8)) : overS p l l.length = List.replicate l.length (encS p) := by simp [overS]
theorem two_at (w : World) (x y : Value) (t : TypeId) : ∀ i u, [x, y][i]? = some u -> (w.alloc (.cells #[x, y] t)).cell? ((⟨w.heap.size, 0, none⟩ : Addr).add i) = some u := by
 intro i u hu
 match i, hu with
 | 0, hu => simp at hu; subst hu; simp [Addr.add]
 | 1, hu => simp at hu; subst hu; simp [Addr.add]
theorem four_at (w : World) (x y z a : Value) (t : TypeId) : ∀ i u, [x, y, z, a][i]? = some u -> (w.alloc (.cells #[x, y, z, a] t)).cell? ((⟨w.heap.size, 0, none⟩ : Addr).add i) = some u := by
 intro i u hu
 match i, hu with
 | 0, hu => simp at hu; subst hu; simp [Addr.add]
 | 1, hu => simp at hu; subst hu; simp [Addr.add]
 | 2, hu => simp at hu; subst hu; simp [Addr.add]
 | 3, hu => simp at hu; subst hu; simp [Addr.add]
end Go.Proofs.YtfghgmojnffgnaaGreat
