import Derived.Test.YtfghgmojnffgnaaGreatPkAB
import Derived.Deep.QuietTactic
import Derived.BigQuiet
set_option maxHeartbeats 4000000
set_option maxRecDepth 20000
namespace Go.Proofs.YtfghgmojnffgnaaGreat
open Go.RowKit
theorem named_any (s : ByteArray) (w : World) (hs : s.size <= maxLen) :
   Calls Tryz.prog 81 #[.string s] w fun e w' => e = .returned (.bool (nameOk s.data.toList)) /\ w' = w := by
 unfold maxLen at hs
 go_enter Tryz.func81, Tryz.ntmps81
 go_wp2
 go_loop [3] (fun i => ∃ k : Nat, k <= s.size /\ k <= 21 /\ i = .int .i64 k /\ (s.data.toList.take k).all nameByte = true) (fun i => s.size - (intOf i).toNat)
 case atStart => exact ⟨0, Nat.zero_le _, Nat.zero_le _, rfl, rfl⟩
 case round =>
   obtain ⟨k, hk, hk2, rfl, hr⟩ := hrel
   have HR : Hid ((s.data.toList.take k).all nameByte = true) := hr
   clear hr
   by_cases hlt : k < s.size /\ k <= 20
   . obtain ⟨hlt, hlt2⟩ := hlt
     have hb := nameByte_iff s[k]
     have hm : (0 : Int) <= (s[k].toNat : Int) := by omega
     rcases (by omega : (97 <= (s[k].toNat : Int) /\ (s[k].toNat : Int) <= 122) \/ (48 <= (s[k].toNat : Int) /\ (s[k].toNat : Int) <= 57) \/ ((s[k].toNat : Int) = 46) \/ ((s[k].toNat : Int) < 46) \/ ((s[k].toNat : Int) = 47) \/ (58 <= (s[k].toNat : Int) /\ (s[k].toNat : Int) <= 96) \/ 123 <= (s[k].toNat : Int)) with ⟨c1, c2⟩ | ⟨c1, c2⟩ | c1 | c1 | c1 | ⟨c1, c2⟩ | c1
     iterate 3
       . have H : Hid (nameByte s[k] = true) := hb.2 (by omega)
         clear hb
         go_wp2
         all_goals
           go_round
           case rel => exact ⟨k + 1, by omega, by omega, by go_num, by rw [take_snocB s k hlt, List.all_append, HR.out]; simpa using H.out⟩
           case measure => simp [intOf]; omega
     iterate 4
       . have H : Hid (nameByte s[k] = false) := Bool.eq_false_iff.2 (fun h => by have := hb.1 h; omega)
         clear hb
         have c3 : ((s[k].toNat : Int) != 46) = true := by simp; omega
         try have c4 : decide ((s[k].toNat : Int) <= 57) = false := by simp; omega
         try have c5 : decide ((s[k].toNat : Int) <= 122) = false := by simp; omega
         go_wp2
         all_goals go_ret
         all_goals exact ⟨ret_bool (nameOk_bad (l := s.data.toList) (k := k) (by simpa using hlt) H.out).symm, rfl⟩
   . by_cases h1 : 1 <= s.size /\ s.size <= 20
     . obtain ⟨h1, h2⟩ := h1
       have hlt' : ¬ k < s.size := by omega
       have E' : Hid (nameOk s.data.toList = true) := nameOk_all (by simpa using h1) (by simpa using h2) (by have := HR.out; rwa [List.take_of_length_le (by simp; omega)] at this)
       clear hlt
       go_wp2
       go_ret
       exact ⟨ret_bool (by first | (rw [E'.out]; done) | (rw [E'.out]; simp; done) | (rw [E'.out]; simp; omega)), rfl⟩
     . have E' : Hid (nameOk s.data.toList = false) := nameOk_len (l := s.data.toList) (by simpa using h1)
       by_cases hl : k < s.size
       all_goals
         by_cases h0 : 1 <= s.size
         all_goals
           go_wp2
           all_goals go_ret
           all_goals exact ⟨ret_bool (by first | (rw [E'.out]; done) | (rw [E'.out]; simp; done) | (rw [E'.out]; simp; omega)), rfl⟩
theorem Tryz.info145 : (Tryz.prog.info? 145).map (fun i => (i.zero, i.size, i.bytes)) = some (some (.agg #[.string ByteArray.empty, .string ByteArray.empty, .int .i64 0]), 3, 40) := by kernel_rfl
theorem without_any (p : Option Addr) (cap : Nat) (fs : List (Nm × Fl)) (k : Nat) (w : World) (hn : fs.length <= 4194304) (hk : k < fs.length) (hp : Rowp w p fs) :
   Calls Tryz.prog 87 #[.slice p fs.length cap, .int .i64 k] w fun e w' => ∃ v, e = .returned v /\ Below w.heap.size w w' /\ w'.ownsRow w.heap.size 145 3 v (fs.eraseIdx k).length ((fs.eraseIdx k).flatMap fcells) := by
 obtain ⟨i0, hi, hz0, hz1, hz2⟩ := info_parts Tryz.info145
 go_enter Tryz.func87, Tryz.ntmps87
 go_wp2
 go_loopw [5, 6] (fun v i wr => ∃ j : Nat, j <= fs.length /\ i = .int .i64 j /\ Below w.heap.size w wr /\ wr.ownsRow w.heap.size 145 3 v ((fs.take j).eraseIdx k).length (((fs.take j).eraseIdx k).flatMap fcells)) (fun _ i _ => fs.length - (intOf i).toNat)
 case atStart => exact ⟨0, Nat.zero_le _, rfl, Below.refl _ _, by simpa using World.ownsRow_nil _ _ _ _⟩
 case round =>
   obtain ⟨j, hj, rfl, hbl, hown⟩ := hrel
   have hll : ((fs.take j).eraseIdx k).length <= 4194304 := Nat.le_trans (List.length_eraseIdx_le _ _) (by simp; omega)
   by_cases hlt : j < fs.length
   . obtain ⟨g, rfl, d0, d1, d2⟩ := hp j hlt
     have hg : g < w.heap.size := World.block_lt_of_cell? w ⟨g, j * 3, none⟩ d0
     have e0 := (hbl.cell (p := ⟨g, j * 3, none⟩) hg).trans d0
     have e1 := (hbl.cell (p := ⟨g, j * 3 + 1, none⟩) hg).trans d1
     have e2 := (hbl.cell (p := ⟨g, j * 3 + 2, none⟩) hg).trans d2
     have hsz := hbl.size
     clear d0 d1 d2 hp
     by_cases hjk : j = k
     . go_wp2
       go_roundw
       case rel => exact ⟨j + 1, by omega, by go_num, hbl, by rw [erase_snoc fs j k hlt, if_pos hjk]; exact hown⟩
       case measure => simp [intOf]; omega
     . go_wp2_with (first
         | (at_builtin; refine wpList_append_own _ rfl (.tmp 16) (.tmp 21) 139 rfl w.heap.size 145 i0 _ 3 40 Tryz.underlying139 hi hz0 hz1 hz2 rfl (by decide) _ _ _ rfl (hown.alloc _) ⟨wr.heap.size, 0, none⟩ 1 1 (fcells fs[j]) rfl rfl (by intro i u hu; match i, hu with | 0, hu => simp [fcells] at hu; subst hu; simp [Addr.add] | 1, hu => simp [fcells] at hu; subst hu; simp [Addr.add] | 2, hu => simp [fcells] at hu; subst hu; simp [Addr.add]) (by intro u hu; simp [fcells] at hu; rcases hu with rfl | rfl | rfl <;> rfl) (by unfold maxLen; omega) (by omega) (by simp; omega) ?_; intro v' w1 hown' hgrow _)
         | go_in)
       have HO : Hid (w1.ownsRow w.heap.size 145 3 v' (((List.take (j + 1) fs).eraseIdx k).length) ((((List.take (j + 1) fs).eraseIdx k)).flatMap fcells)) := by
         rw [erase_snoc fs j k hlt, if_neg hjk]; simpa [List.flatMap_append, Hid] using hown'
       have HB : Hid (Below w.heap.size w w1) := (hbl.alloc hsz _).grown hgrow (by simp; omega) (fun q hq => (hown.lt q hq).1)
       clear hown' hgrow hown e0 e1 e2
       go_wp2
       go_roundw
       case rel => exact ⟨j + 1, by omega, by go_num, HB.out, HO.out⟩
       case measure => simp [intOf]; omega
   . have : j = fs.length := by omega
     subst this
     rw [List.take_length] at hown
     go_wp2
     go_ret
     exact ⟨_, rfl, hbl, hown⟩
theorem burnt_any (b : Nat) (q v : Value) (left : Int) (w : World) (h0 : -1 <= left) (h1 : left <= 9223372036854775807) (hb : w.heap[b]? = some (.cells #[q, v, .int .i64 left, .bool false] 141)) :
   Calls Tryz.prog 83 #[.pointer (some ⟨b, 0, none⟩)] w fun e w' => e = .returned (.bool (isNil left)) /\ Kp (fun i => i = b) w w' /\
     w'.heap[b]? = some (.cells (burntCells q v left) 141) := by
 obtain ⟨c0, c1, c2, c3, f0, f1, f2, f3⟩ := cells4 hb
 have HB : Hid (w.heap[b]? = some (.cells #[q, v, .int .i64 left, .bool false] 141)) := hb
 clear hb
 rcases (by omega : left = 0 \/ 0 < left \/ left = -1) with hl | hl | hl
 . subst hl
   go_enter Tryz.func83, Tryz.ntmps83
   go_wp2
   go_ret
   exact ⟨rfl, Kp.set1 _ _ _ _, by rw [block_set HB.out]; rfl⟩
 . go_enter Tryz.func83, Tryz.ntmps83
   go_wp2
   go_ret
   refine ⟨ret_bool (decide_eq_false (by omega)).symm, Kp.set1 _ _ _ _, ?_⟩
   rw [block_set HB.out, burntCells, if_neg (by omega), Int.max_eq_left (by omega)]; rfl
 . subst hl
   go_enter Tryz.func83, Tryz.ntmps83
   go_wp2
   go_ret
   exact ⟨rfl, Kp.refl _ _, by rw [HB.out]; rfl⟩
theorem used_any (b cap : Nat) (p : Option Addr) (q l d : Value) (fs : List (Nm × Fl)) (w : World) (hn : fs.length <= 4194304) (hu : used fs <= 1048576) (hb : w.heap[b]? = some (.cells #[q, .slice p fs.length cap, l, d] 141)) (hp : Rowp w p fs) :
   Calls Tryz.prog 82 #[.pointer (some ⟨b, 0, none⟩)] w fun e w' => e = .returned (.int .i64 (used fs)) /\ w' = w := by
 obtain ⟨c0, c1, c2, c3, f0, f1, f2, f3⟩ := cells4 hb
 clear hb
 go_enter Tryz.func82, Tryz.ntmps82
 go_wp2
 go_loop [3, 4] (fun n i => ∃ k : Nat, k <= fs.length /\ i = .int .i64 k /\ n = .int .i64 (used (fs.take k))) (fun _ i => fs.length - (intOf i).toNat)
 case atStart => exact ⟨0, Nat.zero_le _, rfl, rfl⟩
 case round =>
   obtain ⟨k, hk, rfl, rfl⟩ := hrel
   have h1 := used_take fs k
   by_cases hlt : k < fs.length
   . obtain ⟨g, rfl, d0, d1, d2⟩ := hp k hlt
     have HS : Hid (used (fs.take (k + 1)) = used (fs.take k) + fs[k].2.bytes.length) := used_snoc fs k hlt
     have h2 : used (fs.take k) + fs[k].2.bytes.length <= 1048576 := by have := used_take fs (k + 1); have := HS.out; omega
     clear hp
     go_wp2
     go_round
     case rel => exact ⟨k + 1, by omega, by go_num, by rw [HS.out]; go_num⟩
     case measure => simp [intOf]; omega
   . have : k = fs.length := by omega
     subst this
     go_wp2
     go_ret
     exact ⟨rfl, rfl⟩
theorem yfind_any (b cap : Nat) (p : Option Addr) (q l d : Value) (fs : List (Nm × Fl)) (n : Nm) (w : World) (hn : fs.length <= 4194304) (hb : w.heap[b]? = some (.cells #[q, .slice p fs.length cap, l, d] 141)) (hp : Rowp w p fs) :
   Calls Tryz.prog 84 #[.pointer (some ⟨b, 0, none⟩), .string ⟨n.toArray⟩] w fun e w' => ∃ r : Int, e = .returned (.int .i64 r) /\ w' = w /\ Found fs n r := by
 obtain ⟨c0, c1, c2, c3, f0, f1, f2, f3⟩ := cells4 hb
 clear hb
 go_enter Tryz.func84, Tryz.ntmps84
 go_wp2
 go_loop [5] (fun i => ∃ k : Nat, k <= fs.length /\ i = .int .i64 k /\ ∀ j (h : j < k) (h' : j < fs.length), fs[j].1 ≠ n) (fun i => fs.length - (intOf i).toNat)
 case atStart => exact ⟨0, Nat.zero_le _, rfl, fun j h => by omega⟩
 case round =>
   obtain ⟨k, hk, rfl, hne⟩ := hrel
   have HN : Hid (∀ j (h : j < k) (h' : j < fs.length), fs[j].1 ≠ n) := hne
   clear hne
   by_cases hlt : k < fs.length
   . obtain ⟨g, rfl, d0, d1, d2⟩ := hp k hlt
     clear hp
     go_wp2
     . have he : (fs[k].1 == n) = true := by assumption
       go_ret
       have he' : fs[k].1 = n := by simpa using he
       exact ⟨k, rfl, rfl, .inr ⟨k, hlt, rfl, he', getF_at hlt he' (fun j hj => HN.out j hj (by omega))⟩⟩
     . have he : (fs[k].1 == n) = false := by assumption
       go_round
       case rel => exact ⟨k + 1, by omega, by go_num, fun j h h' => by
         by_cases e : j = k
         . subst e; simpa using he
         . exact HN.out j (by omega) h'⟩
       case measure => simp [intOf]; omega
   . go_wp2
     go_ret
     exact ⟨-1, rfl, rfl, .inl ⟨rfl, getF_none (fun j hj => HN.out j (by omega) hj)⟩⟩
def PutW (w : World) (x : Nm × Fl) (wr : World) : Prop := Below (w.heap.size + 1) (w.alloc (.cells #[.string ⟨x.1.toArray⟩, .string ⟨x.2.bytes.toArray⟩, .int .i64 x.2.safe] 145)) wr
theorem PutW.below {w wr : World} {x : Nm × Fl} (h : PutW w x wr) : Below w.heap.size w wr := ((Below.refl _ w).alloc (Nat.le_refl _) _).trans (Below.mono h (by omega))
theorem PutW.cells {w wr : World} {x : Nm × Fl} (h : PutW w x wr) : wr.cell? ⟨w.heap.size, 0, none⟩ = some (.string ⟨x.1.toArray⟩) /\ wr.cell? ⟨w.heap.size, 1, none⟩ = some (.string ⟨x.2.bytes.toArray⟩) /\ wr.cell? ⟨w.heap.size, 2, none⟩ = some (.int .i64 x.2.safe) :=
 ⟨(Below.cell h (p := ⟨w.heap.size, 0, none⟩) (by simp)).trans (by simp), (Below.cell h (p := ⟨w.heap.size, 1, none⟩) (by simp)).trans (by simp), (Below.cell h (p := ⟨w.heap.size, 2, none⟩) (by simp)).trans (by simp)⟩
theorem PutW.size {w wr : World} {x : Nm × Fl} (h : PutW w x wr) : w.heap.size + 1 <= wr.heap.size := by have := Below.size h; simpa using this
theorem PutW.app {w wr w1 : World} {x : Nm × Fl} {o : Obj} {v : Value} {t : TypeId} {n : Nat} {xs : List Value} (h : PutW w x wr) (ho : wr.ownsRow (w.heap.size + 1) t 3 v n xs) (hg : (wr.alloc o).grownBy w1 v.ownBlock) : PutW w x w1 :=
 (Below.alloc h h.size _).grown hg (by have := h.size; simp; omega) (fun q hq => (ho.lt q hq).1)
theorem PutW.drewN {w wr : World} {x : Nm × Fl} (h : PutW w x wr) (n : Nat) : PutW w x (wr.drewN n) := Below.trans h ⟨rfl, rfl, rfl, Nat.le_refl _, fun _ _ => rfl⟩
theorem put_any (p : Option Addr) (cap : Nat) (fs : List (Nm × Fl)) (x : Nm × Fl) (w : World) (hn : fs.length <= 4194303) (hp : Rowp w p fs) :
   Calls Tryz.prog 85 #[.slice p fs.length cap, .agg #[.string ⟨x.1.toArray⟩, .string ⟨x.2.bytes.toArray⟩, .int .i64 x.2.safe]] w fun e w' => ∃ v, e = .returned v /\ Below w.heap.size w w' /\ w'.ownsRow w.heap.size 145 3 v (ins x fs).length ((ins x fs).flatMap fcells) := by
 obtain ⟨i0, hi, hz0, hz1, hz2⟩ := info_parts Tryz.info145
 go_enter Tryz.func85, Tryz.ntmps85
 go_wp2
 go_loopw [5, 6, 7] (fun v dn i wr => ∃ j : Nat, ∃ st : Bool × List (Nm × Fl), j <= fs.length /\ i = .int .i64 j /\ dn = .bool st.1 /\ PutW w x wr /\ wr.ownsRow (w.heap.size + 1) 145 3 v st.2.length (st.2.flatMap fcells) /\ st = putK x fs j) (fun _ _ i _ => fs.length - (intOf i).toNat)
 case atStart => exact ⟨0, (false, []), Nat.zero_le _, rfl, rfl, Below.refl _ _, World.ownsRow_nil _ _ _ _, rfl⟩
 case round =>
   obtain ⟨j, ⟨dn, acc⟩, hj, rfl, rfl, hput, hown, hst⟩ := hrel
   have HST : Hid ((dn, acc) = putK x fs j) := hst
   have hll := putK_len x fs j hj
   rw [<- hst] at hll
   simp only at hll hown
   clear hst
   have hsz := hput.size
   obtain ⟨x0, x1, x2⟩ := hput.cells
   have HP : Hid (Rowp w p fs) := hp
   by_cases hlt : j < fs.length
   . obtain ⟨g, rfl, e0, e1, e2⟩ := (HP.out.below hput.below) j hlt
     have HS := putK_succ x fs j hlt
     rw [<- HST.out] at HS
     have HX : Hid (putK x fs (j + 1) = stepPut x (dn, acc) fs[j]) := HS
     clear HS hp
     cases dn
     . simp only [Bool.false_eq_true, if_false] at hll
       by_cases hbf : bytesBefore x.1 fs[j].1 = true
       . have hbf' : Op.bytesLess x.1 fs[j].1 = true := by rw [less_before]; exact hbf
         have HX2 : Hid (putK x fs (j + 1) = (true, acc ++ [x] ++ [fs[j]])) := by have := HX.out; rw [stepPut_hit _ hbf] at this; simpa [Hid] using this
         go_wp2
         go_quiet (fail)
         generalize hw2 : wr.drewN nq = w2
         have hown2 : w2.ownsRow (w.heap.size + 1) 145 3 u5 acc.length (acc.flatMap fcells) := by subst hw2; exact hown
         have hput2 : PutW w x w2 := by subst hw2; exact hput.drewN nq
         have hsz2 := hput2.size
         obtain ⟨y0, y1, y2⟩ := hput2.cells
         obtain ⟨g2, hg2, f0, f1, f2⟩ := (HP.out.below hput2.below) j hlt
         obtain rfl : g = g2 := by simpa using hg2
         clear x0 x1 x2 e0 e1 e2 hown hput hsz hw2 hg2
         go_wp2_with (first
           | (at_builtin; refine wpList_append_own _ rfl (.tmp 26) (.tmp 28) 139 rfl (w.heap.size + 1) 145 i0 _ 3 40 Tryz.underlying139 hi hz0 hz1 hz2 rfl (by decide) _ _ _ rfl (hown2.alloc _) ⟨w2.heap.size, 0, none⟩ 1 1 (fcells x) rfl rfl (fcells_at _ _ _) (fcells_one _) (by unfold maxLen; omega) (by omega) (by simp; omega) ?_; intro v1 w1 hown1 hgrow1 _; have hput1 : PutW w x w1 := hput2.app hown2 hgrow1; have hsz1 := hput1.size; obtain ⟨g3, hg3, k0, k1, k2⟩ := (HP.out.below hput1.below) j hlt; obtain rfl : g = g3 := (by simpa using hg3); have hown1' := own_snoc hown1; have hl2 : (acc ++ [x]).length <= 4194304 := (by simp only [List.length_append, List.length_singleton]; omega); clear y0 y1 y2 f0 f1 f2 hown1 hgrow1 hown2 hput2 hsz2 hg3)
           | (at_builtin; refine wpList_append_own _ rfl (.tmp 30) (.tmp 35) 139 rfl (w.heap.size + 1) 145 i0 _ 3 40 Tryz.underlying139 hi hz0 hz1 hz2 rfl (by decide) _ _ _ rfl (hown1'.alloc _) ⟨w1.heap.size, 0, none⟩ 1 1 (fcells fs[j]) rfl rfl (fcells_at _ _ _) (fcells_one _) (by unfold maxLen; omega) (by omega) (by simp; omega) ?_; intro v3 w3 hown3 hgrow3 _)
           | go_in)
         have hput3 : PutW w x w3 := hput1.app hown1' hgrow3
         have HO3 : Hid (w3.ownsRow (w.heap.size + 1) 145 3 v3 (acc ++ [x] ++ [fs[j]]).length ((acc ++ [x] ++ [fs[j]]).flatMap fcells)) := own_snoc hown3
         clear hown3 hgrow3 hown1' hput1 hsz1 k0 k1 k2
         go_wp2
         go_roundw
         case rel => exact ⟨j + 1, _, by omega, by go_num, rfl, hput3, HO3.out, HX2.out.symm⟩
         case measure => simp [intOf]; omega
       . have hbf' : Op.bytesLess x.1 fs[j].1 = false := by rw [less_before]; simpa using hbf
         have HX2 : Hid (putK x fs (j + 1) = (false, acc ++ [fs[j]])) := by have := HX.out; rw [stepPut_miss _ hbf] at this; exact this
         go_wp2
         go_quiet (fail)
         generalize hw2 : wr.drewN nq = w2
         have hown2 : w2.ownsRow (w.heap.size + 1) 145 3 u5 acc.length (acc.flatMap fcells) := by subst hw2; exact hown
         have hput2 : PutW w x w2 := by subst hw2; exact hput.drewN nq
         have hsz2 := hput2.size
         obtain ⟨y0, y1, y2⟩ := hput2.cells
         obtain ⟨g2, hg2, f0, f1, f2⟩ := (HP.out.below hput2.below) j hlt
         obtain rfl : g = g2 := by simpa using hg2
         clear x0 x1 x2 e0 e1 e2 hown hput hsz hw2 hg2
         go_wp2_with (first
           | (at_builtin; refine wpList_append_own _ rfl (.tmp 30) (.tmp 35) 139 rfl (w.heap.size + 1) 145 i0 _ 3 40 Tryz.underlying139 hi hz0 hz1 hz2 rfl (by decide) _ _ _ rfl (hown2.alloc _) ⟨w2.heap.size, 0, none⟩ 1 1 (fcells fs[j]) rfl rfl (fcells_at _ _ _) (fcells_one _) (by unfold maxLen; omega) (by omega) (by simp; omega) ?_; intro v3 w3 hown3 hgrow3 _)
           | go_in)
         have hput3 : PutW w x w3 := hput2.app hown2 hgrow3
         have HO3 : Hid (w3.ownsRow (w.heap.size + 1) 145 3 v3 (acc ++ [fs[j]]).length ((acc ++ [fs[j]]).flatMap fcells)) := own_snoc hown3
         clear hown3 hgrow3 hown2 hput2 hsz2 y0 y1 y2 f0 f1 f2
         go_wp2
         go_roundw
         case rel => exact ⟨j + 1, _, by omega, by go_num, rfl, hput3, HO3.out, HX2.out.symm⟩
         case measure => simp [intOf]; omega
     . simp only [if_true] at hll
       . have HX2 : Hid (putK x fs (j + 1) = (true, acc ++ [fs[j]])) := by have := HX.out; rw [stepPut_true] at this; exact this
         go_wp2
         go_quiet (fail)
         generalize hw2 : wr.drewN nq = w2
         have hown2 : w2.ownsRow (w.heap.size + 1) 145 3 u5 acc.length (acc.flatMap fcells) := by subst hw2; exact hown
         have hput2 : PutW w x w2 := by subst hw2; exact hput.drewN nq
         have hsz2 := hput2.size
         obtain ⟨y0, y1, y2⟩ := hput2.cells
         obtain ⟨g2, hg2, f0, f1, f2⟩ := (HP.out.below hput2.below) j hlt
         obtain rfl : g = g2 := by simpa using hg2
         clear x0 x1 x2 e0 e1 e2 hown hput hsz hw2 hg2
         go_wp2_with (first
           | (at_builtin; refine wpList_append_own _ rfl (.tmp 30) (.tmp 35) 139 rfl (w.heap.size + 1) 145 i0 _ 3 40 Tryz.underlying139 hi hz0 hz1 hz2 rfl (by decide) _ _ _ rfl (hown2.alloc _) ⟨w2.heap.size, 0, none⟩ 1 1 (fcells fs[j]) rfl rfl (fcells_at _ _ _) (fcells_one _) (by unfold maxLen; omega) (by omega) (by simp; omega) ?_; intro v3 w3 hown3 hgrow3 _)
           | go_in)
         have hput3 : PutW w x w3 := hput2.app hown2 hgrow3
         have HO3 : Hid (w3.ownsRow (w.heap.size + 1) 145 3 v3 (acc ++ [fs[j]]).length ((acc ++ [fs[j]]).flatMap fcells)) := own_snoc hown3
         clear hown3 hgrow3 hown2 hput2 hsz2 y0 y1 y2 f0 f1 f2
         go_wp2
         go_roundw
         case rel => exact ⟨j + 1, _, by omega, by go_num, rfl, hput3, HO3.out, HX2.out.symm⟩
         case measure => simp [intOf]; omega
   . have hje : j = fs.length := by omega
     have HE : Hid (finPut x (dn, acc) = ins x fs) := by have := putK_end x fs; rw [<- hje, <- HST.out] at this; exact this
     clear HP hp HST
     cases dn
     . simp only [Bool.false_eq_true, if_false] at hll
       go_wp2_with (first
         | (at_builtin; refine wpList_append_own _ rfl (.tmp 39) (.tmp 41) 139 rfl (w.heap.size + 1) 145 i0 _ 3 40 Tryz.underlying139 hi hz0 hz1 hz2 rfl (by decide) _ _ _ rfl (hown.alloc _) ⟨wr.heap.size, 0, none⟩ 1 1 (fcells x) rfl rfl (fcells_at _ _ _) (fcells_one _) (by unfold maxLen; omega) (by omega) (by simp; omega) ?_; intro v3 w3 hown3 hgrow3 _)
         | go_in)
       have hput3 : PutW w x w3 := hput.app hown hgrow3
       have HO3 : Hid (w3.ownsRow (w.heap.size + 1) 145 3 v3 (acc ++ [x]).length ((acc ++ [x]).flatMap fcells)) := own_snoc hown3
       clear hown3 hgrow3 hown hput hsz x0 x1 x2
       go_wp2
       go_ret
       exact ⟨_, rfl, hput3.below, by rw [<- HE.out]; exact ownsRow_base HO3.out (by omega)⟩
     . go_wp2
       go_ret
       exact ⟨_, rfl, hput.below, by rw [<- HE.out]; exact ownsRow_base hown (by omega)⟩
end Go.Proofs.YtfghgmojnffgnaaGreat
