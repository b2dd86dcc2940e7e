import Derived.Test.YtfghgmojnffgnaaGreatPkAG
import Derived.Maps.RangeWalk
import Derived.Sort.KeysCollected
import Derived.Sort.OwnSorted
import Derived.Maps.AppendAt
import Derived.RangeFuncBox
import Derived.RangeFuncNested
import Derived.RangeFuncBound
import Derived.RangeFuncCalls
import Derived.RangeFuncLeaves
import Derived.Shelf.Abstract
import Derived.Shelf.RegionOpen
import Derived.OwnWalkIn
import Derived.TacticsInMore
import Derived.LoopNIn
import Derived.LoopIn
import Derived.Test.YtfghgmojnffgnaaGreatPkAB
import Derived.Deep.RegionHeld3
import Derived.Deep.DrawnRows
set_option maxHeartbeats 4000000
set_option maxRecDepth 20000
namespace Go.Proofs.YtfghgmojnffgnaaGreat
open Go.RowKit Go.Maps
def Rv : Value -> Option (DataW Unit × List MemPlace)
 | .agg a => match a.toList with
   | [.string s] => some (.lit (.string s.data.toList), [])
   | _ => none
 | _ => none
abbrev ver (v : Nm) : Value := .agg #[str v]
theorem Rv_ver (v : Nm) : Rv (ver v) = some (.lit (.string v), []) := rfl
theorem Rv_inv {u : Value} {v : Nm} {z : List MemPlace} (h : Rv u = some (.lit (.string v), z)) : u = ver v := by
 unfold Rv at h
 split at h
 . rename_i a
   split at h
   . rename_i s hs
     simp only [Option.some.injEq, Prod.mk.injEq, DataW.lit.injEq, Lit.string.injEq] at h
     have : a = #[.string s] := by rw [<- Array.toList_inj, hs]
     rw [this, <- h.1]
   . cases h
 . cases h
def entM (x : Nm × Nm) : Lit × DataW Unit := (.string x.1, .lit (.string x.2))
def datM (m : Mp) : DataW Unit := .map (m.map entM)
def MAt (w : World) (bm : Nat) (m : Mp) : Prop := w.ownsMap Tryz.prog 9 Rv bm m.length (datM m)
theorem at_datM (n : Nm) (z : DataW Unit) : ∀ m : Mp, (datM m).atKey (.string n) z = match getF n m with | none => z | some v => .lit (.string v)
 | [] => rfl
 | x :: r => by
   have ih := at_datM n z r
   simp only [datM, DataW.atKey, List.map_cons, List.find?_cons] at ih ⊢
   rw [getF]
   by_cases e : x.1 = n
   . simp [entM, same_str, e]
   . have : (Lit.string x.1).sameKey (.string n) = false := by rw [same_str]; simpa using e
     simp only [entM, this, if_neg e]
     exact ih
theorem del_datM (n : Nm) (m : Mp) : (datM m).del (.string n) = datM (del n m) := by
 simp only [datM, DataW.del, del, List.filter_map]
 congr 2
theorem ins_datM (x : Nm × Nm) : ∀ m : Mp, DataW.insert (entM x) (m.map entM) = (ins x m).map entM
 | [] => rfl
 | y :: r => by
   rw [List.map_cons, DataW.insert, ins]
   show (if bytesBefore x.1 y.1 then _ else _) = _
   split
   . rfl
   . rw [List.map_cons, ins_datM x r]
theorem put_datM (n v : Nm) (m : Mp) : (datM m).put (.string n) (.lit (.string v)) = datM (ins (n, v) (del n m)) := by
 have h1 := del_datM n m
 simp only [datM, DataW.del, DataW.map.injEq] at h1
 simp only [datM, DataW.put]
 rw [h1]
 exact congrArg _ (ins_datM (n, v) (del n m))
theorem MAt.tight {w : World} {bm k : Nat} {m : Mp} (h : w.ownsMap Tryz.prog 9 Rv bm k (datM m)) : MAt w bm m := by
 obtain ⟨es, c, h1, F, h3, h4⟩ := h
 refine ⟨es, c, h1, F, ?_, h4⟩
 have := congrArg Maps.size h4
 simp only [datM, Maps.size, List.length_map, length_sorted, Array.length_toList] at this
 omega
theorem MAt.kept {w w' : World} {bm : Nat} {m : Mp} {S : Nat -> Prop} (h : MAt w bm m) (k : Kp S w w') (hs : ¬ S bm) : MAt w' bm m := ownsMap_of_block h (k.block bm h.lt hs)
theorem MAt.below {w w' : World} {bm : Nat} {m : Mp} (h : MAt w bm m) (k : Below w.heap.size w w') : MAt w' bm m := h.kept (S := fun _ => False) (Kp.of_below k) (fun f => f)
theorem MAt.alloc {w : World} {bm : Nat} {m : Mp} (h : MAt w bm m) (o : Obj) : MAt (w.alloc o) bm m := h.below ((Below.refl _ _).alloc (Nat.le_refl _) _)
theorem MAt.ne {w : World} {bm b : Nat} {m : Mp} {cs : Array Value} {t : TypeId} {z : Nat × Nat} (h : MAt w bm m) (hb : w.heap[b]? = some (.cells cs t z)) : b ≠ bm := by
 rintro rfl
 obtain ⟨es, c, h1, _⟩ := h
 rw [h1] at hb; cases hb
theorem MAt.put {w : World} {bm : Nat} {m : Mp} (h : MAt w bm m) (n v : Nm) (hn : n.length <= maxLen) (hl : m.length < maxLen) :
   ∃ w', (Instr.mapUpdate 124 (.map (some bm)) (str n) (ver v)).run Tryz.prog w = .ok () w' /\ MAt w' bm (ins (n, v) (del n m)) /\ Kp (fun i => i = bm) w w' := by
 obtain ⟨w', h1, h2, h3⟩ := World.ownsMap.update h keyedS Tryz.underlying124 hl (keyS hn) (d := .lit (.string v)) (ps := []) (val := ver v) (Rv_ver v)
 rw [put_datM n v m] at h2
 exact ⟨w', h1, MAt.tight h2, (Kp.refl _ _).grown h3 (fun k hk _ => by cases hk; rfl)⟩
theorem MAt.drop {w : World} {bm : Nat} {m : Mp} (h : MAt w bm m) (n : Nm) (hn : n.length <= maxLen) (ty : TypeId) :
   ∃ w', (Builtin.delete_ #[124, 9] ty #[.map (some bm), str n]).run Tryz.prog w = .ok (.tuple #[]) w' /\ MAt w' bm (del n m) /\ Kp (fun i => i = bm) w w' := by
 obtain ⟨w', h1, h2, h3⟩ := World.ownsMap.drop h keyedS Tryz.underlying124 (keyS hn) ty
 rw [del_datM] at h2
 exact ⟨w', h1, MAt.tight h2, (Kp.refl _ _).grown h3.grown (fun k hk _ => by cases hk; rfl)⟩
theorem MAt.look {w : World} {bm : Nat} {m : Mp} (h : MAt w bm m) (n : Nm) (hn : n.length <= maxLen) :
   (Instr.lookup 124 (.map (some bm)) (str n) false).run Tryz.prog w = .ok (ver ((getF n m).getD [])) w := by
 obtain ⟨v, z, hrun, hv⟩ := World.ownsMap.lookup h keyedS Tryz.underlying124 (Tryz.zeroValue135 w) (zd := .lit (.string [])) (zp := []) rfl (keyS hn)
 rw [hrun]
 rw [at_datM] at hv
 cases hg : getF n m with
 | none => rw [hg] at hv; rw [Rv_inv hv]; rfl
 | some p => rw [hg] at hv; rw [Rv_inv hv]; rfl
theorem sCl {n : Nm} (h : n.length <= 281474976710656) (w : World) : Calls Tryz.prog 76 #[str n] w fun e w' => e = .returned (str n) /\ Below w.heap.size w w' := sClone_any ⟨n.toArray⟩ w h
theorem doAll_snoc {l : List Ox} {k : Nat} (m : Mp) (h : k < l.length) : doAll m (l.take (k + 1)) = doOp (doAll m (l.take k)) l[k] := by
 rw [List.take_succ_eq_append_getElem h, doAll_append]; rfl
structure Dg (w W : World) (bx bm : Nat) (m : Mp) (o : Ox) : Prop where
 box : W.heap[bx]? = some (.cells #[str o.key, str o.val, .bool o.gone] 121)
 map : MAt W bm m
 kp : Kp (fun i => i = bm) w W
theorem Dg.below {w W W' : World} {bx bm : Nat} {m : Mp} {o : Ox} (h : Dg w W bx bm m o) (k : Below W.heap.size W W') : Dg w W' bx bm m o :=
 ⟨block_at2 h.box k, h.map.below k, h.kp.trans (T := fun _ => False) (Kp.of_below k) (fun _ _ f => f.elim)⟩
theorem Dg.drew {w W : World} {bx bm : Nat} {m : Mp} {o : Ox} (h : Dg w W bx bm m o) : Dg w W.drew bx bm m o := ⟨h.box, h.map, h.kp.drew⟩
theorem do_any (bm : Nat) (m : Mp) (q : Option Addr) (qc : Nat) (l : List Ox) (w : World) (hm : MAt w bm m) (hml : m.length <= 4194304) (hl : l.length <= 1048576) (hop : ∀ o ∈ l, opOk o = true) (hp : Opp w q l) :
   Calls Tryz.prog 115 #[.map (some bm), .slice q l.length qc] w fun e w' => e = .returned (.tuple #[]) /\ MAt w' bm (doAll m l) /\ Kp (fun i => i = bm) w w' := by
 go_enter Tryz.func115, Tryz.ntmps115
 go_wp2
 go_loopw [8] (fun i wr => ∃ k : Nat, k <= l.length /\ i = .int .i64 k /\ MAt wr bm (doAll m (l.take k)) /\ Kp (fun i => i = bm) w wr) (fun i _ => l.length - (intOf i).toNat)
 case atStart => exact ⟨0, Nat.zero_le _, rfl, hm, Kp.refl _ _⟩
 case round =>
   obtain ⟨k, hk, rfl, hmr, hkp⟩ := hrel
   by_cases hlt : k < l.length
   . obtain ⟨g, off, hq, c0, c1, c2⟩ := hp k hlt
     have hgm : g ≠ bm := by
       rintro rfl
       obtain ⟨es, c, h1, _⟩ := hm
       simp [World.cell?, h1] at c0
     have hgl := World.block_lt_of_cell? w ⟨g, off + k * 3, none⟩ c0
     have ce : ∀ a : Addr, a.block = g -> wr.cell? a = w.cell? a := fun a ha => by
       have := hkp.block g hgl hgm
       simp only [World.cell?, ha, this]
     subst hq
     have k0 := (ce ⟨g, off + k * 3, none⟩ rfl).trans c0
     have k1 := (ce ⟨g, off + k * 3 + 1, none⟩ rfl).trans c1
     have k2 := (ce ⟨g, off + k * 3 + 2, none⟩ rfl).trans c2
     clear c0 c1 c2 ce
     have ho := hop l[k] (List.getElem_mem hlt)
     obtain ⟨y1, y2⟩ := opOk_key ho
     have hml2 := doAll_len m (l.take k)
     rw [List.length_take] at hml2
     have HS : Hid (doAll m (l.take (k + 1)) = doOp (doAll m (l.take k)) l[k]) := doAll_snoc m hlt
     generalize doAll m (l.take k) = M at *
     cases hg : l[k].gone
     . have hv := opOk_val ho hg
       have HD : Hid (doOp M l[k] = ins (l[k].key, l[k].val) (del l[k].key M)) := by show doOp _ _ = _; simp [doOp, hg]
       rw [hg] at k2
       have hF : Dg w (wr.alloc (.cells #[str l[k].key, str l[k].val, .bool false] 121)) wr.heap.size bm M l[k] := ⟨by rw [hg]; exact block_new _ _, hmr.alloc _, hkp.alloc _⟩
       have hck : l[k].key.length <= 281474976710656 := by omega
       have hcv : l[k].val.length <= 281474976710656 := by omega
       go_wp2
       replace hF := hF.drew
       go_region_with (go_at_call 76; (first | refine (sCl hck _).mono ?_ | refine (sCl hcv _).mono ?_); rintro e w1 ⟨rfl, hb⟩; replace hF := hF.below hb; have hF' := hF.box; obtain ⟨q0, q1, q2, _⟩ := cells3 hF'; obtain ⟨w2, hrun, hm2, kp2⟩ := hF.map.put l[k].key l[k].val (by unfold maxLen; omega) (by unfold maxLen; omega))
       all_goals go_wp2
       all_goals
         go_roundw
         case rel => exact ⟨k + 1, by omega, by go_num, by rw [HS.out, HD.out]; exact hm2, hF.kp.trans kp2 (fun _ _ e => e)⟩
         case measure => simp [intOf]; omega
     . have HD : Hid (doOp M l[k] = del l[k].key M) := by show doOp _ _ = _; simp [doOp, hg]
       rw [hg] at k2
       obtain ⟨w2, hrun, hm2, kp2⟩ := (hmr.alloc (.cells #[str l[k].key, str l[k].val, .bool true] 121)).drop l[k].key (by unfold maxLen; omega) 0
       go_wp2
       go_roundw
       case rel => exact ⟨k + 1, by omega, by go_num, by rw [HS.out, HD.out]; exact hm2, (hkp.alloc _).trans kp2 (fun _ _ e => e)⟩
       case measure => simp [intOf]; omega
   . rw [List.take_of_length_le (by omega)] at hmr
     go_wp2
     go_end0
     exact ⟨rfl, hmr, hkp⟩
end Go.Proofs.YtfghgmojnffgnaaGreat
namespace Go.Proofs.YtfghgmojnffgnaaGreat
open Go.RowKit Go.Maps Go.Sort
def okB (lo hi n : Nm) : Bool := !bytesBefore n lo && (hi == [] || bytesBefore n hi)
def keysB (lo hi : Nm) (m : Mp) : List Nm := (nmsOf m).filter (okB lo hi)
theorem keys_datM (m : Mp) : strKeys (datM m) = nmsOf m := by
 show (m.map entM).map (fun p => strOf p.1) = m.map (·.1)
 rw [List.map_map]
 rfl
theorem sorted_keysB {m : Mp} (h : rising m) {ss : List (List UInt8)} (hp : ss.Perm (nmsOf m)) (lo hi : Nm) : (ss.filter (okB lo hi)).mergeSort (fun x y => decide (x <= y)) = keysB lo hi m := by
 rw [mergeSort_of_perm (hp.filter (okB lo hi))]
 apply List.mergeSort_of_pairwise
 refine List.Pairwise.filter _ ?_
 unfold nmsOf
 rw [List.pairwise_map]
 exact h.imp (fun hab => by simpa using before_le hab)
theorem sizeM (m : Mp) : Maps.size (datM m) = m.length := by simp [datM, Maps.size]
theorem invS (key : Value) (kl : Lit) (h : keyOf Tryz.prog 9 key = some kl) : ∃ x, key = encStr x := by
 obtain ⟨x, hx, _⟩ := Maps.keyOf_str Tryz.underlying9 h; exact ⟨x, hx⟩
theorem invV (v : Value) (y : DataW Unit × List MemPlace) (h : Rv v = some y) : ∃ c : Nm, v = ver c := by
 unfold Rv at h
 split at h
 . rename_i a
   split at h
   . rename_i s hs
     have : a = #[.string s] := by rw [<- Array.toList_inj, hs]
     exact ⟨s.data.toList, by rw [this]⟩
   . cases h
 . cases h
theorem filt_no {lo hi x : Nm} (h : okB lo hi x = false) (ss : List (List UInt8)) : (ss ++ [x]).filter (okB lo hi) = ss.filter (okB lo hi) := by simp [List.filter_append, h]
theorem filt_yes {lo hi x : Nm} (h : okB lo hi x = true) (ss : List (List UInt8)) : (ss ++ [x]).filter (okB lo hi) = ss.filter (okB lo hi) ++ [x] := by simp [List.filter_append, h]
theorem between_any (bm : Nat) (m : Mp) (lo hi : Nm) (w : World) (hm : MAt w bm m) (hr : rising m) (hml : m.length <= 4194304) :
   Calls Tryz.prog 166 #[.map (some bm), str lo, str hi] w fun e w' => ∃ v, e = .returned v /\ Below w.heap.size w w' /\ OwnS w' w.heap.size v (keysB lo hi m) := by
 obtain ⟨i0, hi0, hz0, hz1, hz2⟩ := info_parts Tryz.info9
 have hbl := hm.lt
 go_enter Tryz.func166, Tryz.ntmps166
 go_wp2_with (first
   | (at_range; refine wpList_range_own _ rfl _ 124 rfl 9 135 keyedS Tryz.underlying124 _ bm m.length _ rfl hm ?_; intro w0 hrg0 hg0 hs0)
   | go_in)
 go_frame
 go_loopw [7] (fun v wr => ∃ (left : Lit -> Bool) (cnt : Nat) (ss : List (List UInt8)), wr.ranges Tryz.prog 9 Rv bm w.heap.size m.length (datM m) left cnt /\ ss.length + cnt <= m.length /\
     wr.ownsRow w.heap.size 9 1 v (ss.filter (okB lo hi)).length ((ss.filter (okB lo hi)).map encStr) /\ Collected (datM m) left ss /\ Below w.heap.size w wr)
   (fun _ wr => wr.rangeLeft bm w.heap.size)
 case atStart =>
   exact ⟨_, _, [], hrg0, by simp [sizeM], World.ownsRow_nil _ _ _ _, Collected.start _, (Below.refl _ _).grown hg0 (Nat.le_refl _) (fun j hj => by cases hj)⟩
 case round =>
   obtain ⟨left, cnt, ss, hrg, hcs, hrow, hC, hnx⟩ := hrel
   go_wp2_with (first
     | (at_next; refine wpList_next_ranges _ rfl _ rfl 9 keyedS Rv encStr ver invS invV bm w.heap.size m.length _ _ _ rfl hrg ?_ ?_)
     | go_in)
   . intro hc0 hl0
     have hS := sorted_keysB hr ((hC.perm hm keyedS Tryz.underlying9 hl0).trans (by rw [keys_datM])) lo hi
     have hlen : (ss.filter (okB lo hi)).length <= ss.length := List.length_filter_le _ _
     rcases hrow.2 with ⟨rfl, hn⟩ | ⟨g, cap, cur, rfl, hbase, hb, h1, h2, h3, h4⟩
     . have hnil : ss.filter (okB lo hi) = [] := List.eq_nil_of_length_eq_zero hn
       rw [hnil, List.mergeSort_nil] at hS
       have hc := AnyM.slices_Sort_string_none Tryz.sort163 none 0 wr
       go_wp2_with (go_at_call 163; refine hc.mono ?_; rintro e w' ⟨rfl, rfl⟩)
       go_ret
       exact ⟨_, rfl, hnx, by rw [<- hS]; exact World.ownsRow_nil _ _ _ _⟩
     . have hH : Holds encStr wr g 0 (ss.filter (okB lo hi)).toArray := holds_of_block hb (by simpa using h4)
       have hgl : g < wr.heap.size := (Array.getElem?_eq_some_iff.1 hb).1
       have hc := AnyM.slices_Sort_string Tryz.sort163 g 0 cap (ss.filter (okB lo hi)) wr hH hgl (by omega)
       go_wp2_with (go_at_call 163; refine hc.mono ?_; rintro e w' ⟨rfl, nn, os, rfl⟩)
       go_ret
       refine ⟨_, rfl, hnx.grown (grownBy_sorted _) hnx.size (fun j hj => by cases hj; exact hbase), ?_⟩
       have := ownsRow_sorted (n := nn) (os := os) (ss := ss.filter (okB lo hi)) (ts := (ss.filter (okB lo hi)).mergeSort (fun x y => decide (x <= y))) (by simp) hbase hb h1 h2 h3
       rw [hS] at this
       have hl2 : (keysB lo hi m).length = (ss.filter (okB lo hi)).length := by rw [<- hS]; simp
       unfold OwnS
       rw [hl2]
       exact this
   . intro x c kl yd yp w2 cnt2 hkey hlk hv hat hrg2 hlt hg2 hs2 hen
     obtain ⟨x', ex, rfl, _⟩ := Maps.keyOf_str Tryz.underlying9 hkey
     obtain rfl : x = x' := encStr_inj ex
     have hrow2 := hrow.kept hg2 (Or.inr (row_ne_iter hrow hrg).symm)
     clear hs2
     go_wp2_with (first
       | (at_builtin; refine wpList_append_own _ rfl (.tmp 27) (.tmp 29) 106 rfl w.heap.size 9 i0 _ 1 16 Tryz.underlying106 hi0 hz0 hz1 hz2 rfl (by decide) _ _ _ rfl (hrow2.alloc _) ⟨w2.heap.size, 0, none⟩ 1 1 [encStr x] rfl rfl (cell_one_new _ _ _) (by simp [Value.oneCell', encStr]) (by unfold maxLen at *; have := List.length_filter_le (okB lo hi) ss; omega) (by have := List.length_filter_le (okB lo hi) ss; omega) (by have := hnx.size; have := hg2.size; simp; omega) ?_; intro v' w3 hown' hg3 hnil3; go_frame)
       | go_in)
     . have hk : okB lo hi x = false := by simp [okB, <- less_before, *]
       go_roundw
       case rel => exact ⟨_, cnt2, ss ++ [x], hrg2, by simp; omega, by rw [filt_no hk]; exact hrow2, hC.step hlk hat, hnx.grown hg2 hnx.size (fun j hj => by cases hj; exact Nat.le_refl _)⟩
       case measure => rw [hrg2.left_eq, hrg.left_eq]; exact hlt
     . have hk : okB lo hi x = true := by simp [okB, <- less_before, *]
       have hrg3 := (hrg2.alloc _).kept hg3 (row_ne_low hrow2 hbl) (row_ne_iter hrow2 hrg2)
       go_roundw
       case rel =>
         have hh : hi = [] := by assumption
         rw [<- hh]
         refine ⟨_, cnt2, hrg3, ss ++ [x], by simp; omega, by rw [filt_yes hk]; simpa using hown', hC.step hlk hat, ?_⟩
         exact ((hnx.grown hg2 hnx.size (fun j hj => by cases hj; exact Nat.le_refl _)).alloc (by have := hnx.size; have := hg2.size; omega) _).grown hg3 (by have := hnx.size; have := hg2.size; simp; omega) (fun j hj => (hrow2.lt j hj).1)
       case measure => rw [hrg3.left_eq, hrg.left_eq]; exact hlt
     . have hk : okB lo hi x = true := by
         have h1 : ¬ Op.bytesLess x lo = true := by assumption
         have h2 : List.isEmpty hi = true \/ Op.bytesLess x hi = true := by assumption
         simp only [okB, <- less_before]
         rcases h2 with h2 | h2
         . have : hi = [] := by simpa using h2
           simp [this, h1]
         . simp [h1, h2]
       have hrg3 := (hrg2.alloc _).kept hg3 (row_ne_low hrow2 hbl) (row_ne_iter hrow2 hrg2)
       go_roundw
       case rel =>
         refine ⟨_, cnt2, ss ++ [x], hrg3, by simp; omega, by rw [filt_yes hk]; simpa using hown', hC.step hlk hat, ?_⟩
         exact ((hnx.grown hg2 hnx.size (fun j hj => by cases hj; exact Nat.le_refl _)).alloc (by have := hnx.size; have := hg2.size; omega) _).grown hg3 (by have := hnx.size; have := hg2.size; simp; omega) (fun j hj => (hrow2.lt j hj).1)
       case measure => rw [hrg3.left_eq, hrg.left_eq]; exact hlt
     . have hk : okB lo hi x = false := by
         have h1 : ¬ Op.bytesLess x lo = true := by assumption
         have h2 : List.isEmpty hi = false /\ Op.bytesLess x hi = false := by assumption
         have h3 : ¬ hi = [] := by assumption
         simp [okB, <- less_before, h2.2, h3]
       go_roundw
       case rel => exact ⟨_, cnt2, ss ++ [x], hrg2, by simp; omega, by rw [filt_no hk]; exact hrow2, hC.step hlk hat, hnx.grown hg2 hnx.size (fun j hj => by cases hj; exact Nat.le_refl _)⟩
       case measure => rw [hrg2.left_eq, hrg.left_eq]; exact hlt
end Go.Proofs.YtfghgmojnffgnaaGreat
namespace Go.Proofs.YtfghgmojnffgnaaGreat
open Go.RowKit Go.Maps Go.Sort Go.Shelf
attribute [local go_sem] Oper.semAt_some
structure Kq (n0 : Nat) (W W' : World) : Prop where
 cells : ∀ (k : Nat) (cs : Array Value) (t : TypeId) (z : Nat × Nat), W.heap[k]? = some (Obj.cells cs t z) -> (t = 9 \/ t = 124) -> W'.heap[k]? = some (Obj.cells cs t z)
 maps : ∀ (k : Nat) (es : Array MapEntry) (c : Nat), k < n0 -> W.heap[k]? = some (Obj.map es c) -> W'.heap[k]? = some (Obj.map es c)
theorem Kq.refl (n0 : Nat) (W : World) : Kq n0 W W := ⟨fun _ _ _ _ h _ => h, fun _ _ _ _ h => h⟩
theorem Kq.trans {n0 : Nat} {A B C : World} (h : Kq n0 A B) (k : Kq n0 B C) : Kq n0 A C :=
 ⟨fun i cs t z hi ht => k.cells i cs t z (h.cells i cs t z hi ht) ht, fun i es c hn hi => k.maps i es c hn (h.maps i es c hn hi)⟩
theorem Kq.put {n0 : Nat} {w : World} (hn : n0 <= w.heap.size) (W : World) (l : Nat) (o o' : Obj) (hl : w.heap.size <= l) (ho : W.heap[l]? = some o) (hc : o.isCells = false) (_ : o.isWalk = false) : Kq n0 W (W.putObj l o') := by
 refine ⟨fun k cs t z hk _ => ?_, fun k es c hk hkk => ?_⟩
 . have : k ≠ l := by rintro rfl; rw [ho] at hk; cases hk; cases hc
   rw [World.putObj_heap_other this]; exact hk
 . rw [World.putObj_heap_other (by omega)]; exact hkk
theorem Kq.of_kp {n0 : Nat} {S : Nat -> Prop} {W W' : World} (k : Kp S W W') (hs : ∀ i, S i -> ∃ (cs : Array Value) (t : TypeId) (z : Nat × Nat), W.heap[i]? = some (Obj.cells cs t z) /\ t ≠ 9 /\ t ≠ 124) : Kq n0 W W' := by
 refine ⟨fun i cs t z hi ht => k.at hi (fun s => ?_), fun i es c _ hi => k.at hi (fun s => ?_)⟩
 . obtain ⟨cs', t', z', h1, h2, h3⟩ := hs i s
   rw [hi] at h1
   cases h1
   exact ht.elim h2 h3
 . obtain ⟨cs', t', z', h1, h2, h3⟩ := hs i s
   rw [hi] at h1
   cases h1
theorem Kq.row {n0 : Nat} {W W' : World} (h : Kq n0 W W') {base : Nat} {v : Value} {l : List Nm} (ho : OwnS W base v l) : OwnS W' base v l := by
 refine ⟨ho.1, ?_⟩
 rcases ho.2 with hn | ⟨g, cap, cur, hv, hb, hg, rest⟩
 . exact .inl hn
 . exact .inr ⟨g, cap, cur, hv, hb, h.cells _ _ _ _ hg (.inl rfl), rest⟩
theorem Kq.map {n0 bm : Nat} {W W' : World} (h : Kq n0 W W') {m : Mp} (hm : MAt W bm m) (hn : bm < n0) : MAt W' bm m := by
 obtain ⟨es, c, h1, r⟩ := hm
 exact ⟨es, c, h.maps _ _ _ hn h1, r⟩
theorem Kq.box {n0 B : Nat} {W W' : World} (h : Kq n0 W W') {t : TypeId} {v : Value} (hb : Boxed W B t v) (ht : t = 9 \/ t = 124) : Boxed W' B t v := h.cells _ _ _ _ hb ht
def rangeM (lo hi : Nm) (m : Mp) : Mp := m.filter fun x => okB lo hi x.1
theorem keys_range (lo hi : Nm) (m : Mp) : keysB lo hi m = nmsOf (rangeM lo hi m) := by
 simp only [keysB, rangeM, nmsOf, List.filter_map]
 rfl
theorem getF_mem_rise {m : Mp} (hr : rising m) {x : Nm × Nm} (hx : x ∈ m) : getF x.1 m = some x.2 := by
 obtain ⟨k, hk, rfl⟩ := List.getElem_of_mem hx
 exact getF_at hk rfl (fun j hj e => by have := rising_at hr (i := j) (j := k) (by omega) hk e; omega)
theorem below_grown {w w' : World} (h : Below w.heap.size w w') : w.grownBy w' none := ⟨h.os, h.tape, h.output, h.size, fun k hk _ => h.block k hk⟩
theorem field_ver (s : ByteArray) (w : World) : (Instr.field 135 (.agg #[.string s]) 0).run Tryz.prog w = .ok (.string s) w := by
 simp [Instr.field, go_sem, asAgg]
abbrev PX := { x : Nm × Nm // x.1.length <= 1099511627776 /\ x.2.length <= 1099511627776 }
abbrev encP (x : PX) : Array Value := #[.agg #[str x.1.1, str x.1.2]]
theorem scan1_in (l Bm Bl Bh bm n0 : Nat) (m : Mp) (lo hi : Nm) (xs : List PX) (hxs : xs.map (·.1) = rangeM lo hi m) (J Jx : List PX -> World -> Prop) (W : World) (hJ : AbidesFrom W.heap.size J)
   (hY : ∀ pre x W1, J pre W1 -> pre.length < xs.length -> YieldAt Fence.wide 4 Tryz.prog l (encP x) W1 fun e W' =>
     (e = .returned (.bool true) /\ J (pre ++ [x]) W' /\ Kq n0 W1 W') \/ (e = .returned (.bool false) /\ Jx (pre ++ [x]) W'))
   (b1 : Boxed W Bm 124 (.map (some bm))) (b2 : Boxed W Bl 9 (str lo)) (b3 : Boxed W Bh 9 (str hi)) (hm : MAt W bm m) (hbm : bm < n0) (hr : rising m) (hkl : ∀ x ∈ m, x.1.length <= 1099511627776) (hml : m.length <= 4194304) (h0 : J [] W) :
   CallsIn Fence.wide 5 Tryz.prog 165 #[.func (.yield l) #[] #[], .pointer (some ⟨Bm, 0, none⟩), .pointer (some ⟨Bl, 0, none⟩), .pointer (some ⟨Bh, 0, none⟩)] W fun e W' => (∃ v, e = .returned v) /\
     ((∃ ys, ys = xs /\ J ys W') \/ (∃ pre, pre <+: xs /\ Jx pre W')) := by
 have hlen : xs.length <= m.length := by
   have : (rangeM lo hi m).length <= m.length := List.length_filter_le _ _
   rw [<- hxs, List.length_map] at this; exact this
 have hsub : ∀ x ∈ xs, x.1 ∈ m := fun x hx => (List.mem_filter.1 (show x.1 ∈ rangeM lo hi m by rw [<- hxs]; exact List.mem_map_of_mem hx)).1
 have hk := keys_range lo hi m
 rw [<- hxs] at hk
 have hbt : CallsIn Fence.wide 4 Tryz.prog 166 #[.map (some bm), str lo, str hi] W fun e w' => ∃ v, e = .returned v /\ Below W.heap.size W w' /\ OwnS w' W.heap.size v (keysB lo hi m) := callsIn_wide.2 (between_any bm m lo hi W hm hr hml)
 rw [hk] at hbt
 clear hxs
 have c1 := b1.cell
 have c2 := b2.cell
 have c3 := b3.cell
 have hfb : Fence.wide.fn 166 := trivial
 have HN : Hid ((nmsOf (xs.map (·.1))).length = xs.length) := by show _ = _; rw [nms_len, List.length_map]
 refine callsIn_of_wp Tryz.func165 rfl trivial ?_ rfl
 simp only [Tryz.ntmps165, List.size_toArray, List.length_cons, List.length_nil, Nat.reduceAdd, Nat.reduceSub, Array.replicate_succ, Array.replicate_zero, List.push_toArray, List.append_toArray, List.nil_append, List.cons_append]
 gi_wp2_with (gi_at_call 166; refine hbt.mono ?_; rintro e w1 ⟨v, rfl, hbl, hown⟩; obtain ⟨ao, co, hv, hoc⟩ := ownS_shape hown; rw [HN.out] at hv; subst hv)
 have hJ1 := hJ [] W w1 none h0 (below_grown hbl) (fun r e => by cases e)
 have q0 : Kq n0 W w1 := Kq.of_kp (Kp.of_below (S := fun _ => False) hbl) (fun _ f => f.elim)
 have hown0 := hown
 have b1' := q0.box b1 (.inr rfl)
 have hm' := q0.map hm hbm
 clear hown hoc c1 c2 c3 hbt q0 b1 b2 b3 hm h0 hk
 gi_loopw [12] (fun i wr => ∃ k : Nat, k <= xs.length /\ i = .int .i64 k /\ J (xs.take k) wr /\ Kq n0 w1 wr) (fun i _ => xs.length - (intOf i).toNat)
 case atStart => exact ⟨0, Nat.zero_le _, rfl, hJ1, Kq.refl _ _⟩
 case round =>
   obtain ⟨k, hk, rfl, hJk, hq⟩ := hrel
   by_cases hlt : k < xs.length
   . have hx := hsub _ (List.getElem_mem hlt)
     have hor := hq.row hown0
     obtain ⟨a2, c2, e2, hoc2⟩ := ownS_shape hor
     obtain ⟨g, rfl, _, hcell⟩ := hoc2 k (by rw [HN.out]; exact hlt)
     rw [nms_at _ k (by rw [List.length_map]; exact hlt), List.getElem_map] at hcell
     rw [HN.out] at e2
     obtain ⟨rfl, rfl⟩ : ao = some ⟨g, 0, none⟩ /\ co = c2 := by simpa using e2
     unfold encS at hcell
     have hkx := hkl _ hx
     have hlk := (hq.map hm' hbm).look xs[k].1.1 (by unfold maxLen; omega)
     rw [getF_mem_rise hr hx, Option.getD_some] at hlk
     replace hlk : (Instr.lookup 124 (.map (some bm)) (str xs[k].1.1) false).run Tryz.prog wr = .ok (.agg #[str xs[k].1.2]) wr := hlk
     have c1 := (hq.box b1' (.inr rfl)).cell
     have hfv := field_ver ⟨xs[k].1.2.toArray⟩ wr
     obtain ⟨fn, tmps, assign, body, hy, hR⟩ := hY (xs.take k) xs[k] wr hJk (by rw [List.length_take]; omega)
     clear hor hoc2 e2 hY
     gi_wp2
     refine hR.mono ?_
     rintro e W3 (⟨rfl, hJ3, hk3⟩ | ⟨rfl, hJx3⟩)
     . gi_wp2
       go_roundw
       case rel => exact ⟨k + 1, by omega, by go_num, by rw [List.take_succ_eq_append_getElem hlt]; exact hJ3, hq.trans hk3⟩
       case measure => simp [intOf]; omega
     . gi_wp2
       refine bodyPost_ret (results_none rfl _ _ _) rfl ?_
       exact ⟨⟨_, rfl⟩, .inr ⟨_, ⟨xs.drop (k + 1), by rw [<- List.take_succ_eq_append_getElem hlt, List.take_append_drop]⟩, hJx3⟩⟩
   . rw [List.take_of_length_le (by omega)] at hJk
     gi_wp2
     go_end0
     exact ⟨⟨_, rfl⟩, .inl ⟨_, rfl, hJk⟩⟩
theorem scan_in (bm : Nat) (lo hi : Nm) (w : World) :
   CallsIn Fence.wide 5 Tryz.prog 123 #[.map (some bm), str lo, str hi] w fun e w' => e = .returned (.func (.func 165) #[] #[.pointer (some ⟨w.heap.size, 0, none⟩), .pointer (some ⟨w.heap.size + 1, 0, none⟩), .pointer (some ⟨w.heap.size + 2, 0, none⟩)]) /\ w' = ((w.alloc (.cells #[.map (some bm)] 124)).alloc (.cells #[str lo] 9)).alloc (.cells #[str hi] 9) := by
 refine callsIn_of_wp Tryz.func123 rfl trivial ?_ rfl
 simp only [Tryz.ntmps123, List.size_toArray, List.length_cons, List.length_nil, Nat.reduceAdd, Nat.reduceSub, Array.replicate_succ, Array.replicate_zero, List.push_toArray, List.append_toArray, List.nil_append, List.cons_append]
 gi_wp2
 go_ret
 exact ⟨rfl, rfl⟩
theorem scan_stops (bm n0 : Nat) (m : Mp) (lo hi : Nm) (xs : List PX) (hxs : xs.map (·.1) = rangeM lo hi m) (Bm Bl Bh : Nat) (w : World) (b1 : Boxed w Bm 124 (.map (some bm))) (b2 : Boxed w Bl 9 (str lo)) (b3 : Boxed w Bh 9 (str hi)) (hm : MAt w bm m) (hbm : bm < n0) (hr : rising m) (hkl : ∀ x ∈ m, x.1.length <= 1099511627776) (hml : m.length <= 4194304) :
   SeqStopsK Fence.wide 5 Tryz.prog 165 #[.pointer (some ⟨Bm, 0, none⟩), .pointer (some ⟨Bl, 0, none⟩), .pointer (some ⟨Bh, 0, none⟩)] encP (Kq n0) (fun ys => ys = xs) (fun pre => pre <+: xs) xs.length w := fun l J Jx W hW hJ _ hY h0 => by
 have q : Kq n0 w W := Kq.of_kp (Kp.of_below (S := fun _ => False) hW) (fun _ f => f.elim)
 exact scan1_in l Bm Bl Bh bm n0 m lo hi xs hxs J Jx W hJ hY (q.box b1 (.inr rfl)) (q.box b2 (.inl rfl)) (q.box b3 (.inl rfl)) (q.map hm hbm) hbm hr hkl hml h0
end Go.Proofs.YtfghgmojnffgnaaGreat
namespace Go.Proofs.YtfghgmojnffgnaaGreat
open Go.RowKit
def Sm (w w' : World) : Prop := Kp (fun _ => False) w w' /\ w'.heap.size = w.heap.size
@[simp] theorem Sm.rfl' (w : World) : Sm w w := ⟨Kp.refl _ _, rfl⟩
@[simp] theorem Sm.drew' (w w' : World) : Sm w w'.drew ↔ Sm w w' := ⟨fun h => ⟨⟨h.1.os, h.1.tape, h.1.output, h.1.size, h.1.block⟩, h.2⟩, fun h => ⟨h.1.drew, h.2⟩⟩
end Go.Proofs.YtfghgmojnffgnaaGreat
namespace Go.Proofs.YtfghgmojnffgnaaGreat
open Go.RowKit Go.Maps Go.Sort
attribute [local go_sem ↓] Go.wp_at_zero Go.wp_at_succ
structure St where
 turn : Int
 m : Mp
 loose : Bool
 stuck : Bool
def stCells (bd bm : Nat) (st : St) : Obj := .cells #[.pointer (some ⟨bd, 0, none⟩), .int .i64 st.turn, .map (some bm), .bool st.loose, .bool st.stuck] 126
structure StAt (w : World) (T : Nat -> Prop) (bs bd bm : Nat) (st : St) : Prop where
 blk : w.heap[bs]? = some (stCells bd bm st)
 map : MAt w bm st.m
 ts : T bs
 tm : T bm
theorem StAt.kept {w w' : World} {S T : Nat -> Prop} {bs bd bm : Nat} {st : St} (h : StAt w T bs bd bm st) (k : Kp S w w') (hs : ∀ i, T i -> ¬ S i) : StAt w' T bs bd bm st :=
 ⟨k.at h.blk (hs _ h.ts), h.map.kept k (hs _ h.tm), h.ts, h.tm⟩
theorem StAt.below {w w' : World} {T : Nat -> Prop} {bs bd bm : Nat} {st : St} (h : StAt w T bs bd bm st) (k : Below w.heap.size w w') : StAt w' T bs bd bm st := h.kept (S := fun _ => False) (Kp.of_below k) (fun _ _ f => f)
theorem StAt.mono {w : World} {S T : Nat -> Prop} {bs bd bm : Nat} {st : St} (h : StAt w T bs bd bm st) (hT : ∀ k, k < w.heap.size -> T k -> S k) : StAt w S bs bd bm st :=
 ⟨h.blk, h.map, hT _ (lt_of_block h.blk) h.ts, hT _ h.map.lt h.tm⟩
theorem StAt.raw {w : World} {T : Nat -> Prop} {bs bd bm : Nat} {st : St} (h : StAt w T bs bd bm st) : w.heap[bs]? = some (.cells #[.pointer (some ⟨bd, 0, none⟩), .int .i64 st.turn, .map (some bm), .bool st.loose, .bool st.stuck] 126) := h.blk
theorem dTurn_any {w : World} {b : Nat} {m r f dd : Value} {t : Int} (hb : w.heap[b]? = some (.cells #[m, r, f, dd, .int .i64 t] 129)) :
   Calls Tryz.prog 121 #[.pointer (some ⟨b, 0, none⟩)] w fun e w' => e = .returned (.int .i64 t) /\ w' = w := by
 obtain ⟨c0, c1, c2, c3, c4, f0, f1, f2, f3, f4⟩ := cells5 hb
 clear hb
 go_enter Tryz.func121, Tryz.ntmps121
 go_wp2
 go_ret
 exact ⟨rfl, rfl⟩
theorem dTake_any (b : Nat) (d : Dk) (S : Nat -> Prop) (w : World) (hP : ProgAt w S b d) (h0 : 0 <= d.turn) (h1 : d.turn <= 4611686018427387904) :
   Calls Tryz.prog 78 #[.pointer (some ⟨b, 0, none⟩)] w fun e w' => e = .returned (.int .i64 (d.turn + 1)) /\ ProgAt w' S b { d with turn := d.turn + 1 } /\ Kp (fun i => i = b) w w' := by
 obtain ⟨bm, ps, hst, hfs⟩ := hP
 obtain ⟨c0, c1, c2, c3, c4, f0, f1, f2, f3, f4⟩ := cells5 hst.blk
 have hst2 := hst.fields (Kp.set1 w b 4 (.int .i64 (d.turn + 1))) ((block_set hst.blk _).trans rfl)
 have ht := dTurn_any hst2.blk
 go_enter Tryz.func78, Tryz.ntmps78
 go_wp2_with (go_at_call 121; refine ht.mono ?_; rintro e w' ⟨rfl, rfl⟩)
 go_ret
 exact ⟨rfl, ⟨bm, ps, hst2, hfs⟩, Kp.set1 _ _ _ _⟩
def ready (dt : Int) (dead : Bool) (st : St) : Int := if st.turn ≠ dt then 6 else if dead then 4 else 0
def writable (dt : Int) (dead : Bool) (st : St) : Int := if ready dt dead st ≠ 0 then ready dt dead st else if st.stuck then 7 else 0
theorem Ready_any {w : World} {T : Nat -> Prop} {bs bd bm : Nat} {st : St} (h : StAt w T bs bd bm st) {m r f : Value} {dead : Bool} {t : Int} (hd : w.heap[bd]? = some (.cells #[m, r, f, .bool dead, .int .i64 t] 129)) :
   Calls Tryz.prog 74 #[.pointer (some ⟨bs, 0, none⟩)] w fun e w' => e = .returned (.int .i64 (ready t dead st)) /\ Below w.heap.size w w' := by
 obtain ⟨c0, c1, c2, c3, c4, f0, f1, f2, f3, f4⟩ := cells5 h.raw
 have ht : ∀ w', Sm w w' -> _ := fun w' e => dTurn_any (w := w') (e.1.at hd (fun f => f))
 have hdd : ∀ w', Sm w w' -> _ := fun w' e => isDead_any (w := w') (e.1.at hd (fun f => f))
 clear h hd
 by_cases e : st.turn = t
 . have HX : Hid (ready t dead st = if dead then 4 else 0) := by simp [Hid, ready, e]
   rw [e] at c1
   go_enter Tryz.func74, Tryz.ntmps74
   go_wp2
   go_region_held3 (fun w' => w'.cell? ⟨bs, 0, none⟩ = some (.pointer (some ⟨bd, 0, none⟩)) /\ w'.cell? ⟨bs, 1, none⟩ = some (.int .i64 t) /\ Sm w w') (go_keep)
     (first | (go_at_call 121; refine (ht _ ?_).mono ?_; (simp [*]); rintro e w' ⟨rfl, rfl⟩))
   cases dead
   all_goals
     go_wp2_with (go_at_call 71; refine (hdd _ ?_).mono ?_; (simp); rintro e w' ⟨rfl, rfl⟩)
     go_ret
     rw [HX.out]
     exact ⟨rfl, (Below.refl _ _).drew⟩
 . have HX : Hid (ready t dead st = 6) := by simp [Hid, ready, e]
   go_enter Tryz.func74, Tryz.ntmps74
   go_wp2
   go_region_held3 (fun w' => w'.cell? ⟨bs, 0, none⟩ = some (.pointer (some ⟨bd, 0, none⟩)) /\ w'.cell? ⟨bs, 1, none⟩ = some (.int .i64 st.turn) /\ Sm w w') (go_keep)
     (first | (go_at_call 121; refine (ht _ ?_).mono ?_; (simp [*]); rintro e w' ⟨rfl, rfl⟩))
   go_wp2
   go_ret
   rw [HX.out]
   exact ⟨rfl, (Below.refl _ _).drew⟩
theorem Writable_any {w : World} {T : Nat -> Prop} {bs bd bm : Nat} {st : St} (h : StAt w T bs bd bm st) {m r f : Value} {dead : Bool} {t : Int} (hd : w.heap[bd]? = some (.cells #[m, r, f, .bool dead, .int .i64 t] 129)) :
   Calls Tryz.prog 69 #[.pointer (some ⟨bs, 0, none⟩)] w fun e w' => e = .returned (.int .i64 (writable t dead st)) /\ Below w.heap.size w w' := by
 have hr := Ready_any h hd
 by_cases e : ready t dead st = 0
 . have HX : Hid (writable t dead st = if st.stuck then 7 else 0) := by simp [Hid, writable, e]
   rw [e] at hr
   cases hs : st.stuck
   all_goals
     rw [hs] at HX
     go_enter Tryz.func69, Tryz.ntmps69
     go_wp2_with (go_at_call 74; refine hr.mono ?_; rintro e w1 ⟨rfl, hb⟩; have h1 := h.below hb; obtain ⟨c0, c1, c2, c3, c4, f0, f1, f2, f3, f4⟩ := cells5 h1.raw; rw [hs] at c4)
     go_ret
     rw [HX.out]
     exact ⟨rfl, hb⟩
 . have HX : Hid (writable t dead st = ready t dead st) := by simp [Hid, writable, e]
   have HE : ¬ ready t dead st = 0 := e
   clear e
   generalize ready t dead st = R at *
   go_enter Tryz.func69, Tryz.ntmps69
   go_wp2_with (go_at_call 74; refine hr.mono ?_; rintro e w1 ⟨rfl, hb⟩)
   go_ret
   rw [HX.out]
   exact ⟨rfl, hb⟩
theorem sinner_any {w : World} {bx bs : Nat} (h1 : w.heap[bx]? = some (.cells #[.pointer (some ⟨bs, 0, none⟩)] 93)) :
   Calls Tryz.prog 32 #[.pointer (some ⟨bx, 0, none⟩)] w fun e w' => e = .returned (.pointer (some ⟨bs, 0, none⟩)) /\ w' = w := by
 obtain ⟨c0, z0⟩ := cells1 h1
 clear h1
 go_enter Tryz.func32, Tryz.ntmps32
 go_wp2
 go_ret
 exact ⟨rfl, rfl⟩
end Go.Proofs.YtfghgmojnffgnaaGreat
