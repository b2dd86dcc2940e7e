import Derived.Test.YtfghgmojnffgnaaGreatPkAJ
set_option maxHeartbeats 4000000
set_option maxRecDepth 20000
namespace Go.Proofs.YtfghgmojnffgnaaGreat
open Go.RowKit Go.Maps Go.Sort
theorem Tryz.info121 : (Tryz.prog.info? 121).map (fun i => (i.zero, i.size, i.bytes)) = some (some (.agg #[.string ByteArray.empty, .string ByteArray.empty, .bool false]), 3, 40) := by kernel_rfl
def flatO (l : List Ox) : List Value := l.flatMap fun o => [str o.key, str o.val, .bool o.gone]
def OwnO (w : World) (base : Nat) (v : Value) (l : List Ox) : Prop := w.ownsRow base 121 3 v l.length (flatO l)
theorem flatO_snoc (l : List Ox) (o : Ox) : flatO (l ++ [o]) = flatO l ++ [str o.key, str o.val, .bool o.gone] := by simp [flatO]
theorem flatO_len (l : List Ox) : (flatO l).length = l.length * 3 := by
 induction l with
 | nil => rfl
 | cons x r ih => show (str x.key :: str x.val :: .bool x.gone :: flatO r).length = _; simp [ih]; omega
theorem flatO_at : ∀ (l : List Ox) (i : Nat) (h : i < l.length), (flatO l)[i * 3]? = some (str l[i].key) /\ (flatO l)[i * 3 + 1]? = some (str l[i].val) /\ (flatO l)[i * 3 + 2]? = some (.bool l[i].gone)
 | x :: r, 0, _ => ⟨rfl, rfl, rfl⟩
 | x :: r, i + 1, h => by
   have ih := flatO_at r i (by simpa using h)
   show (str x.key :: str x.val :: .bool x.gone :: flatO r)[(i + 1) * 3]? = _ /\ (str x.key :: str x.val :: .bool x.gone :: flatO r)[(i + 1) * 3 + 1]? = _ /\ (str x.key :: str x.val :: .bool x.gone :: flatO r)[(i + 1) * 3 + 2]? = _
   rw [show (i + 1) * 3 = i * 3 + 1 + 1 + 1 by omega]
   simpa using ih
theorem OwnO.opp {w : World} {base : Nat} {v : Value} {l : List Ox} (h : OwnO w base v l) : ∃ q cap, v = .slice q l.length cap /\ Opp w q l /\ ∀ a, q = some a -> base <= a.block /\ a.block < w.heap.size := by
 rcases h.2 with ⟨hv, hn⟩ | ⟨g, cap, cur, hv, hb, hgg, _⟩
 . exact ⟨none, 0, by rw [hv, hn], fun i hi => by omega, fun a ha => by cases ha⟩
 . refine ⟨_, cap, hv, fun i hi => ?_, fun a ha => by cases ha; exact ⟨hb, lt_of_block hgg⟩⟩
   have hc := World.ownsRow.cells h (g := g) (by rw [hv]; rfl)
   obtain ⟨k0, k1, k2⟩ := flatO_at l i hi
   refine ⟨g, 0, rfl, ?_, ?_, ?_⟩
   . have := hc _ _ k0; rwa [Addr.add_lit] at this
   . have := hc _ _ k1; rwa [Addr.add_lit, <- Nat.add_assoc] at this
   . have := hc _ _ k2; rwa [Addr.add_lit, <- Nat.add_assoc] at this
def DecO (w : World) (base : Nat) (v : Value) : Option (List Ox) -> Prop
 | none => v = .slice none 0 0
 | some ops => OwnO w base v ops
def strLen : Value -> Nat
 | .string s => s.size
 | _ => 0
theorem decOps_step {k : Nat} {c : UInt8} {r : List UInt8} {o : Ox} {n : Nat} (h : decOp (c :: r) = some (o, n)) : decOps (k + 1) (c :: r) = (decOps k ((c :: r).drop n)).map (o :: ·) := by
 rw [decOps, h]
theorem decOps_no {k : Nat} {c : UInt8} {r : List UInt8} (h : decOp (c :: r) = none) : decOps k (c :: r) = none := by
 cases k with
 | zero => rfl
 | succ k => rw [decOps, h]
theorem decodeOps_any (b : List UInt8) (w : World) (hl : b.length <= 1048576) :
   Calls Tryz.prog 181 #[str b] w fun e w' => ∃ v, e = .returned v /\ Below w.heap.size w w' /\ DecO w' w.heap.size v (decOps 8 b) := by
 obtain ⟨i0, hi0, hz0, hz1, hz2⟩ := info_parts Tryz.info121
 go_enter Tryz.func181, Tryz.ntmps181
 go_wp2
 go_loopw [0, 3] (fun x v wr => ∃ (b' : List UInt8) (ops : List Ox), x = str b' /\ b'.length <= b.length /\ ops.length <= 8 /\ OwnO wr w.heap.size v ops /\ Below w.heap.size w wr /\ (decOps (8 - ops.length) b').map (ops ++ ·) = decOps 8 b) (fun x _ _ => strLen x)
 case atStart => exact ⟨b, [], rfl, Nat.le_refl _, by simp, World.ownsRow_nil _ _ _ _, Below.refl _ _, by simp⟩
 case round =>
   obtain ⟨b', ops, rfl, hbl, ho8, hown, hB, hE⟩ := hrel
   have hs := hB.size
   cases b' with
   | nil =>
     have hE' : decOps 8 b = some ops := by rw [<- hE]; simp [decOps]
     have HE : Hid (decOps 8 b = some ops) := hE'
     clear hE hE'
     go_wp2
     go_ret
     refine ⟨_, rfl, hB, ?_⟩
     rw [HE.out]
     exact hown
   | cons c r =>
     have hz : (⟨(c :: r).toArray⟩ : ByteArray).size = r.length + 1 := rfl
     have hlr : r.length <= 1048576 := by simp at hbl; omega
     have hd := decodeOp_any c r wr hlr
     obtain ⟨q, cap, rfl, hopp, hqb⟩ := hown.opp
     cases hdo : decOp (c :: r) with
     | none =>
       have HE : Hid (decOps 8 b = none) := by show _ = _; rw [<- hE, decOps_no hdo]; rfl
       have hV : decOpV (c :: r) = (opZ, 0) := by simp [decOpV, hdo]
       rw [hV] at hd
       clear hE
       go_wp2_with (go_at_call 195; refine hd.mono ?_; rintro e w1 ⟨rfl, hb1⟩)
       go_ret
       refine ⟨_, rfl, (hB.trans (hb1.mono hs)).alloc (by have := hb1.size; omega) _, ?_⟩
       rw [HE.out]
       rfl
     | some x =>
       obtain ⟨o, n⟩ := x
       obtain ⟨k1, k2, k3⟩ := decOp_ok hdo
       have hV : decOpV (c :: r) = (o, n) := by simp [decOpV, hdo]
       rw [hV] at hd
       have hn3 : n <= r.length + 1 := by simpa using k3
       by_cases h8 : ops.length = 8
       . have HE : Hid (decOps 8 b = none) := by show _ = _; rw [<- hE, h8]; rfl
         clear hE
         go_wp2_with (go_at_call 195; refine hd.mono ?_; rintro e w1 ⟨rfl, hb1⟩)
         go_ret
         refine ⟨_, rfl, (hB.trans (hb1.mono hs)).alloc (by have := hb1.size; omega) _, ?_⟩
         rw [HE.out]
         rfl
       . have HE : Hid ((decOps (8 - (ops ++ [o]).length) ((c :: r).drop n)).map ((ops ++ [o]) ++ ·) = decOps 8 b) := by
           show _ = _
           rw [<- hE]
           obtain ⟨j, hj⟩ : ∃ j, 8 - ops.length = j + 1 := ⟨7 - ops.length, by omega⟩
           rw [hj, decOps_step hdo, List.length_append, List.length_singleton, show 8 - (ops.length + 1) = j by omega, Option.map_map]
           congr 1
           funext l
           simp
         have hex : Hid ((⟨(c :: r).toArray⟩ : ByteArray).extract n (r.length + 1) = ⟨((c :: r).drop n).toArray⟩) := by
           show _ = _
           rw [ext_bytes, List.take_of_length_le (by simp)]
         clear hE
         have n0 : ((n : Int) == 0) = false := by simp; omega
         have n8 : ((ops.length : Int) == 8) = false := by simp; omega
         go_wp2_with (first
           | (go_at_call 195; refine hd.mono ?_; rintro e w1 ⟨rfl, hb1⟩; have hs1 := hb1.size)
           | (at_builtin; refine wpList_append_own _ rfl (.tmp 20) (.tmp 22) 65 rfl w.heap.size 121 i0 _ 3 40 Tryz.underlying65 hi0 hz0 hz1 hz2 rfl (by decide) _ ops.length (flatO ops) rfl ((World.ownsRow.alloc (World.ownsRow.alloc (ownsRow_of_block hown (fun g hg => hb1.block g (World.ownsRow.lt hown g hg).2)) _) _)) ⟨w1.heap.size + 1, 0, none⟩ 1 1 [str o.key, str o.val, .bool o.gone] rfl rfl ?_ (by simp [Value.oneCell']) (by unfold maxLen; omega) (by omega) (by simp; omega) ?_; rotate_left; intro v' w2 hown' hgrow _)
           | go_in)
         . have hb2 : Below w.heap.size w w2 := (((hB.trans (hb1.mono hs)).alloc (by omega) _).alloc (by simp; omega) _).grown hgrow (by simp; omega) (fun k hk => (hown.lt k hk).1)
           have hsz : ((c :: r).drop n).length = r.length + 1 - n := by simp
           go_roundw
           case rel =>
             rw [hex.out]
             refine ⟨_, ops ++ [o], rfl, ?_, by simp; omega, ?_, hb2, HE.out⟩
             . rw [hsz]; simp at hbl; omega
             . unfold OwnO
               rw [flatO_snoc, List.length_append]
               exact hown'
           case measure =>
             rw [hex.out]
             show ((c :: r).drop n).length < (c :: r).length
             rw [hsz]
             simp
             omega
         . intro j u hu
           rw [Addr.add_lit, Nat.zero_add]
           have := block_new (w1.alloc (.cells #[str o.key, str o.val, .bool o.gone] 121)) (.cells #[str o.key, str o.val, .bool o.gone] 121)
           rw [World.size_alloc] at this
           rw [cell_block this]
           simpa using hu
def decR (t : List UInt8) : Option (List Ox) × Nat × Int :=
 match decode t with
 | none => (none, 0, 5)
 | some none => (none, 0, 0)
 | some (some (ops, n)) => (some ops, n, 0)
theorem Decode_any (t : List UInt8) (w : World) (hl : t.length <= 1048576) :
   Calls Tryz.prog 168 #[str t] w fun e w' => ∃ v, e = .returned (.tuple #[v, .int .i64 (decR t).2.1, .int .i64 (decR t).2.2]) /\ Below w.heap.size w w' /\ DecO w' w.heap.size v (decR t).1 := by
 have hz : (⟨t.toArray⟩ : ByteArray).size = t.length := rfl
 by_cases h2 : t.length < 2
 . have HX : Hid (decR t = (none, 0, 0)) := by simp [Hid, decR, decode, h2]
   go_enter Tryz.func168, Tryz.ntmps168
   go_wp2
   go_ret3
   rw [HX.out]
   exact ⟨_, rfl, Below.refl _ _, rfl⟩
 . obtain ⟨a, b, r, rfl⟩ : ∃ a b r, t = a :: b :: r := by
     match t, h2 with
     | a :: b :: r, _ => exact ⟨a, b, r, rfl⟩
     | [a], h => exact absurd (by simp) h
     | [], h => exact absurd (by simp) h
   have hc0 : (⟨(a :: b :: r).toArray⟩ : ByteArray)[0]'(by rw [hz]; simp) = a := rfl
   have hc1 : (⟨(a :: b :: r).toArray⟩ : ByteArray)[1]'(by rw [hz]; simp) = b := rfl
   have ha : a.toNat < 256 := a.toNat_lt
   have hb : b.toNat < 256 := b.toNat_lt
   have HO : bits BinOp.or IntKind.i64 ((a.toNat : Int) * 256) (b.toNat : Int) = ((a.toNat * 256 + b.toNat : Nat) : Int) := by
     rw [i64_or8 _ _ (by omega) (by omega) (by omega) (by omega) (by omega)]; omega
   have e0 : byteAt (a :: b :: r) 0 = a.toNat := rfl
   have e1 : byteAt (a :: b :: r) 1 = b.toNat := rfl
   have hlen : (a :: b :: r).length = r.length + 2 := rfl
   rw [hlen] at hz hl
   generalize hn : a.toNat * 256 + b.toNat = n at *
   have hdec : decode (a :: b :: r) = if n < 2 \/ 656 < n then none else if r.length + 2 < 6 + n then some none else match decOps 8 (((a :: b :: r).drop 6).take n) with | none => none | some ops => if fnv (((a :: b :: r).drop 6).take n) = be4N ((a :: b :: r).drop 2) then some (some (ops, 6 + n)) else none := by
     unfold decode
     rw [if_neg h2]
     simp only [e0, e1, hn]
     rfl
   by_cases hbad : n < 2 \/ 656 < n
   . have HX : Hid (decR (a :: b :: r) = (none, 0, 5)) := by simp only [Hid, decR, hdec, if_pos hbad]
     clear hdec
     rcases hbad with hb1 | hb1
     all_goals
       go_enter Tryz.func168, Tryz.ntmps168
       go_wp2
       go_region
       go_wp2
       go_ret3
       rw [HX.out]
       exact ⟨_, rfl, (Below.refl _ _).drew, rfl⟩
   . have hn2 : 2 <= n := by omega
     have hn6 : n <= 656 := by omega
     by_cases hcut : r.length + 2 < 6 + n
     . have HX : Hid (decR (a :: b :: r) = (none, 0, 0)) := by simp only [Hid, decR, hdec, if_neg hbad, if_pos hcut]
       clear hdec hbad
       go_enter Tryz.func168, Tryz.ntmps168
       go_wp2
       go_region
       go_wp2
       go_ret3
       rw [HX.out]
       exact ⟨_, rfl, (Below.refl _ _).drew, rfl⟩
     . rw [if_neg hbad, if_neg hcut] at hdec
       have hex : Hid ((⟨(a :: b :: r).toArray⟩ : ByteArray).extract 6 (6 + n) = ⟨(((a :: b :: r).drop 6).take n).toArray⟩) := by show _ = _; rw [ext_bytes, show 6 + n - 6 = n by omega]
       have hex2 : Hid ((⟨(a :: b :: r).toArray⟩ : ByteArray).extract 2 6 = ⟨(((a :: b :: r).drop 2).take 4).toArray⟩) := by show _ = _; rw [ext_bytes]
       have hl4 : (((a :: b :: r).drop 2).take 4).length = 4 := by simp; omega
       have hbe : be4N (((a :: b :: r).drop 2).take 4) = be4N ((a :: b :: r).drop 2) := by simp only [be4N, byteAt_take (show 0 < 4 by omega), byteAt_take (show 1 < 4 by omega), byteAt_take (show 2 < 4 by omega), byteAt_take (show 3 < 4 by omega)]
       have hbl : (((a :: b :: r).drop 6).take n).length = n := by simp; omega
       have hne : ((a :: b :: r).drop 6).take n ≠ [] := by intro e; rw [e] at hbl; simp at hbl; omega
       generalize hB : ((a :: b :: r).drop 6).take n = B at *
       generalize ((a :: b :: r).drop 2).take 4 = C4 at *
       generalize be4N ((a :: b :: r).drop 2) = N4 at *
       have hdo := fun w => decodeOps_any B w (by omega)
       have hsu := fun w => sum_any B w (by omega)
       have hst := fun w => storedSum_any C4 w hl4
       rw [hbe] at hst
       have q0 : ∀ (w : World) (a : Option Addr) (n c n' c' : Nat), (binOp .eql 65 (.slice a n c) (.slice none n' c')).run Tryz.prog w = .ok (.bool a.isNone) w := fun w a n c n' c' => Lib.run_eql_slice_nil w _ _ a n c n' c' Tryz.underlying65
       cases hO : decOps 8 B with
       | none =>
         have HX : Hid (decR (a :: b :: r) = (none, 0, 5)) := by simp only [Hid, decR, hdec, hO]
         clear hdec
         go_enter Tryz.func168, Tryz.ntmps168
         go_wp2
         go_region
         go_wp2_with (go_at_call 181; rw [hex.out]; refine (hdo _).mono ?_; rintro e w1 ⟨v, rfl, hb1, hd⟩; rw [hO] at hd; obtain rfl : v = .slice none 0 0 := hd)
         go_region
         go_wp2
         go_ret3
         rw [HX.out]
         exact ⟨_, rfl, (((Below.refl _ w).drew).trans (hb1.mono (Nat.le_refl _))).drew, rfl⟩
       | some ops =>
         have hon : ops ≠ [] := (decOps_ok 8 B ops hO).2.2 hne
         by_cases hs : fnv B = N4
         . have HX : Hid (decR (a :: b :: r) = (some ops, 6 + n, 0)) := by simp only [Hid, decR, hdec, hO, if_pos hs]
           clear hdec
           go_enter Tryz.func168, Tryz.ntmps168
           go_wp2
           go_region
           go_wp2_with (go_at_call 181; rw [hex.out]; refine (hdo _).mono ?_; rintro e w1 ⟨v, rfl, hb1, hd⟩; rw [hO] at hd; obtain ⟨q, cap, rfl, hopp, hqb⟩ := OwnO.opp hd; obtain ⟨g, off, rfl, _⟩ := hopp 0 (List.length_pos_iff.2 hon))
           go_region_with (first
             | (go_at_call 161; refine (hsu _).mono ?_; rintro e w2 ⟨rfl, rfl⟩)
             | (go_at_call 182; rw [hex2.out]; refine (hst _).mono ?_; rintro e w3 ⟨rfl, hb3⟩))
           all_goals go_wp2
           all_goals go_ret3
           all_goals rw [HX.out]
           all_goals
             have hs3 := hb3.size
             exact ⟨_, rfl, ((((Below.refl _ w).drew).trans (hb1.mono (Nat.le_refl _))).drew).trans (hb3.mono (by have := hb1.size; simp only [World.size_drew] at *; omega)), ownsRow_of_block hd (fun g hg => hb3.block g (World.ownsRow.lt hd g hg).2)⟩
         . have HX : Hid (decR (a :: b :: r) = (none, 0, 5)) := by simp only [Hid, decR, hdec, hO, if_neg hs]
           have hs' : ((fnv B : Int) != (N4 : Int)) = true := by simp; omega
           clear hdec
           go_enter Tryz.func168, Tryz.ntmps168
           go_wp2
           go_region
           go_wp2_with (go_at_call 181; rw [hex.out]; refine (hdo _).mono ?_; rintro e w1 ⟨v, rfl, hb1, hd⟩; rw [hO] at hd; obtain ⟨q, cap, rfl, hopp, hqb⟩ := OwnO.opp hd; obtain ⟨g, off, rfl, _⟩ := hopp 0 (List.length_pos_iff.2 hon))
           go_region_with (first
             | (go_at_call 161; refine (hsu _).mono ?_; rintro e w2 ⟨rfl, rfl⟩)
             | (go_at_call 182; rw [hex2.out]; refine (hst _).mono ?_; rintro e w3 ⟨rfl, hb3⟩))
           all_goals go_wp2
           all_goals go_ret3
           all_goals rw [HX.out]
           all_goals
             have hs3 := hb3.size
             exact ⟨_, rfl, ((((Below.refl _ w).drew).trans (hb1.mono (Nat.le_refl _))).drew).trans (hb3.mono (by have := hb1.size; simp only [World.size_drew] at *; omega)), rfl⟩
theorem replay_fuel : ∀ (f g : Nat) (t : List UInt8) (m : Mp), t.length <= f -> t.length <= g -> replay f t m = replay g t m
 | 0, 0, _, _, _, _ => rfl
 | 0, g + 1, t, m, h, _ => by rw [replay, replay, if_pos (by omega)]
 | f + 1, 0, t, m, _, h => by rw [replay, replay, if_pos (by omega)]
 | f + 1, g + 1, t, m, h1, h2 => by
   rw [replay, replay]
   split
   . rfl
   . split
     . rfl
     . rfl
     . rename_i hd
       obtain ⟨_, k2, _, _⟩ := decode_ok hd
       rw [replay_fuel f g _ _ (by simp; omega) (by simp; omega)]
def rep (t : List UInt8) (m : Mp) : Option (Mp × Nat) := replay t.length t m
theorem rep_step {t : List UInt8} {m : Mp} {ops : List Ox} {n : Nat} (hd : decode t = some (some (ops, n))) (h0 : t.length ≠ 0) : rep t m = (rep (t.drop n) (doAll m ops)).map fun x => (x.1, n + x.2) := by
 obtain ⟨_, k2, _, _⟩ := decode_ok hd
 unfold rep
 obtain ⟨f, hf⟩ : ∃ f, t.length = f + 1 := ⟨t.length - 1, by omega⟩
 rw [hf, replay, if_neg (by omega), hd]
 simp only
 rw [replay_fuel f (t.drop n).length _ _ (by simp; omega) (Nat.le_refl _)]
theorem rep_cut {t : List UInt8} {m : Mp} (hd : decode t = some none) : rep t m = some (m, 0) := by
 unfold rep
 cases h : t.length with
 | zero => rfl
 | succ f => rw [replay, if_neg (by omega), hd]
theorem rep_bad {t : List UInt8} {m : Mp} (hd : decode t = none) (h0 : t.length ≠ 0) : rep t m = none := by
 unfold rep
 obtain ⟨f, hf⟩ : ∃ f, t.length = f + 1 := ⟨t.length - 1, by omega⟩
 rw [hf, replay, if_neg (by omega), hd]
theorem replay_any (bs bd bm : Nat) (st : St) (T : Nat -> Prop) (t : List UInt8) (w : World) (hT : StAt w T bs bd bm st) (hm0 : MOk st.m) (hl : t.length <= 1048576) (hml : st.m.length = 0) :
   Calls Tryz.prog 126 #[.pointer (some ⟨bs, 0, none⟩), str t] w fun e w' => ∃ m', StAt w' T bs bd bm { st with m := m' } /\ Kp (fun i => i = bm) w w' /\
     ((∃ n, rep t st.m = some (m', n) /\ e = .returned (.tuple #[.int .i64 n, .int .i64 0])) \/ (rep t st.m = none /\ e = .returned (.tuple #[.int .i64 0, .int .i64 5]))) := by
 have hz : (⟨t.toArray⟩ : ByteArray).size = t.length := rfl
 go_enter Tryz.func126, Tryz.ntmps126
 go_wp2
 go_loopw [6] (fun i wr => ∃ (k : Nat) (m : Mp), k <= t.length /\ i = .int .i64 k /\ StAt wr T bs bd bm { st with m := m } /\ Kp (fun i => i = bm) w wr /\ MOk m /\ 2 * m.length <= k /\ rep t st.m = (rep (t.drop k) m).map fun x => (x.1, k + x.2)) (fun i _ => t.length - (intOf i).toNat)
 case atStart =>
   refine ⟨0, st.m, Nat.zero_le _, rfl, hT, Kp.refl _ _, hm0, by omega, ?_⟩
   simp
 case round =>
   obtain ⟨k, m, hk, rfl, hTr, kp, hmo, hmk, hE⟩ := hrel
   by_cases hlt : k < t.length
   . have hex : Hid ((⟨t.toArray⟩ : ByteArray).extract k t.length = ⟨(t.drop k).toArray⟩) := by show _ = _; rw [ext_bytes, List.take_of_length_le (by simp)]
     have hdl : (t.drop k).length = t.length - k := by simp
     have hD := fun w => Decode_any (t.drop k) w (by omega)
     cases hd : decode (t.drop k) with
     | none =>
       have HE : Hid (rep t st.m = none) := by show _ = _; rw [hE, rep_bad hd (by omega)]; rfl
       have hR : decR (t.drop k) = (none, 0, 5) := by simp [decR, hd]
       rw [hR] at hD
       clear hE
       go_wp2_with (go_at_call 168; rw [hex.out]; refine (hD _).mono ?_; rintro e w1 ⟨v, rfl, hb1, hv⟩; obtain rfl : v = .slice none 0 0 := hv)
       go_ret2
       exact ⟨m, hTr.below hb1, kp_below kp hb1, .inr ⟨HE.out, rfl⟩⟩
     | some x =>
       cases x with
       | none =>
         have HE : Hid (rep t st.m = some (m, k)) := by show _ = _; rw [hE, rep_cut hd]; rfl
         have hR : decR (t.drop k) = (none, 0, 0) := by simp [decR, hd]
         rw [hR] at hD
         clear hE
         go_wp2_with (go_at_call 168; rw [hex.out]; refine (hD _).mono ?_; rintro e w1 ⟨v, rfl, hb1, hv⟩; obtain rfl : v = .slice none 0 0 := hv)
         go_ret2
         exact ⟨m, hTr.below hb1, kp_below kp hb1, .inl ⟨k, HE.out, rfl⟩⟩
       | some y =>
         obtain ⟨ops, n⟩ := y
         obtain ⟨k1, k2, k3, k4⟩ := decode_ok hd
         rw [hdl] at k3
         have hR : decR (t.drop k) = (some ops, n, 0) := by simp [decR, hd]
         rw [hR] at hD
         have HE : Hid (rep t st.m = (rep (t.drop (k + n)) (doAll m ops)).map fun x => (x.1, k + n + x.2)) := by
           show _ = _
           rw [hE, rep_step hd (by omega), List.drop_drop, Option.map_map]
           congr 1
           funext x
           simp [Nat.add_assoc]
         have hlen := doAll_len m ops
         have n0 : ((n : Int) == 0) = false := by simp; omega
         clear hE
         go_wp2_with (first
           | (go_at_call 168; rw [hex.out]; refine (hD _).mono ?_; rintro e w1 ⟨v, rfl, hb1, hv⟩; have hT1 := hTr.below hb1; obtain ⟨c0, c1, c2, c3, c4, _⟩ := cells5 hT1.raw; obtain ⟨q, cap, rfl, hopp, hqb⟩ := OwnO.opp hv)
           | (go_at_call 115; refine (do_any bm m q cap ops w1 hT1.map (by omega) (by omega) k1 hopp).mono ?_; rintro e w2 ⟨rfl, hm2, kp2⟩))
         go_roundw
         case rel =>
           refine ⟨k + n, doAll m ops, by omega, by go_num, ⟨kp2.at hT1.raw (fun e => hT1.map.ne hT1.raw e), hm2, hTr.ts, hTr.tm⟩, (kp_below kp hb1).trans kp2 (fun _ _ e => e), hmo.doAll k1, by omega, HE.out⟩
         case measure => simp [intOf]; omega
   . have HE : Hid (rep t st.m = some (m, k)) := by
       show _ = _
       rw [hE, List.drop_of_length_le (by omega)]
       rfl
     clear hE
     go_wp2
     go_ret2
     exact ⟨m, hTr, kp, .inl ⟨k, HE.out, rfl⟩⟩
def oursB (n : Nm) : Bool := (n == logN) || (n == newN)
theorem areOurs_any (v : Value) (l : List Nm) (base : Nat) (w : World) (ho : OwnS w base v l) (hl : l.length <= 4194304) :
   Calls Tryz.prog 124 #[v] w fun e w' => e = .returned (.bool (l.all oursB)) /\ w' = w := by
 obtain ⟨a, cap, rfl, hc⟩ := ownS_shape ho
 go_enter Tryz.func124, Tryz.ntmps124
 go_wp2
 go_loop [7] (fun i => ∃ k : Nat, k <= l.length /\ i = .int .i64 k /\ (l.take k).all oursB = true) (fun i => l.length - (intOf i).toNat)
 case atStart => exact ⟨0, Nat.zero_le _, rfl, rfl⟩
 case round =>
   obtain ⟨k, hk, rfl, hr⟩ := hrel
   have HR : Hid ((l.take k).all oursB = true) := hr
   clear hr
   by_cases hlt : k < l.length
   . obtain ⟨g, rfl, _, hcell⟩ := hc k hlt
     unfold encS at hcell
     clear hc
     go_wp2
     . have hk1 : oursB l[k] = true := by simp [oursB, logN, *]
       go_round
       case rel => exact ⟨k + 1, by omega, by go_num, by rw [List.take_succ_eq_append_getElem hlt, List.all_append, HR.out]; simpa using hk1⟩
       case measure => simp [intOf]; omega
     . have hk0 : oursB l[k] = false := by
         have h2 : (!l[k] == [108, 111, 103]) = true /\ (!l[k] == [108, 111, 103, 46, 110, 101, 119]) = true := by assumption
         simp only [Bool.not_eq_true'] at h2
         simp only [oursB, logN, newN, h2.1, h2.2, Bool.or_self]
       go_ret
       refine ⟨ret_bool ?_, rfl⟩
       symm
       rw [List.all_eq_false]
       exact ⟨l[k], List.getElem_mem hlt, by simp [hk0]⟩
     . have hk1 : oursB l[k] = true := by
         have h2 : (!l[k] == [108, 111, 103]) = false \/ (!l[k] == [108, 111, 103, 46, 110, 101, 119]) = false := by assumption
         simp only [Bool.not_eq_false'] at h2
         rcases h2 with h2 | h2
         . simp only [oursB, logN, h2, Bool.true_or]
         . simp only [oursB, newN, h2, Bool.or_true]
       go_round
       case rel => exact ⟨k + 1, by omega, by go_num, by rw [List.take_succ_eq_append_getElem hlt, List.all_append, HR.out]; simpa using hk1⟩
       case measure => simp [intOf]; omega
   . have HE : Hid (l.all oursB = true) := by have := HR.out; rwa [List.take_of_length_le (by omega)] at this
     go_wp2
     go_ret
     exact ⟨ret_bool HE.out.symm, rfl⟩
theorem index_any (v : Value) (l : List Nm) (n : Nm) (base : Nat) (w : World) (ho : OwnS w base v l) (hl : l.length <= 4194304) :
   Calls Tryz.prog 167 #[v, str n] w fun e w' => ∃ i : Int, e = .returned (.int .i64 i) /\ w' = w /\ (0 <= i ↔ n ∈ l) := by
 obtain ⟨a, cap, rfl, hc⟩ := ownS_shape ho
 go_enter Tryz.func167, Tryz.ntmps167
 go_wp2
 go_loop [8] (fun i => ∃ k : Nat, k <= l.length /\ i = .int .i64 k /\ n ∉ l.take k) (fun i => l.length - (intOf i).toNat)
 case atStart => exact ⟨0, Nat.zero_le _, rfl, by simp⟩
 case round =>
   obtain ⟨k, hk, rfl, hr⟩ := hrel
   have HR : Hid (n ∉ l.take k) := hr
   clear hr
   by_cases hlt : k < l.length
   . obtain ⟨g, rfl, _, hcell⟩ := hc k hlt
     unfold encS at hcell
     clear hc
     go_wp2
     . have he : n = l[k] := by have h : (n == l[k]) = true := by assumption
                                simpa using h
       go_ret
       exact ⟨k, rfl, rfl, fun _ => by rw [he]; exact List.getElem_mem hlt, fun _ => by omega⟩
     . have he : ¬ n = l[k] := by have h : (n == l[k]) = false := by assumption
                                  simpa using h
       go_round
       case rel =>
         refine ⟨k + 1, by omega, by go_num, ?_⟩
         rw [List.take_succ_eq_append_getElem hlt, List.mem_append]
         rintro (h | h)
         . exact HR.out h
         . exact he (by simpa using h)
       case measure => simp [intOf]; omega
   . have HE : Hid (n ∉ l) := by have := HR.out; rwa [List.take_of_length_le (by omega)] at this
     go_wp2
     go_ret
     exact ⟨_, rfl, rfl, fun h => absurd h (by decide), fun h => absurd h HE.out⟩
theorem contains_any (v : Value) (l : List Nm) (n : Nm) (base : Nat) (w : World) (ho : OwnS w base v l) (hl : l.length <= 4194304) :
   Calls Tryz.prog 125 #[v, str n] w fun e w' => e = .returned (.bool (decide (n ∈ l))) /\ w' = w := by
 have hi := index_any v l n base w ho hl
 obtain ⟨a, cap, rfl, hc⟩ := ownS_shape ho
 go_enter Tryz.func125, Tryz.ntmps125
 go_wp2_with (go_at_call 167; refine hi.mono ?_; rintro e w1 ⟨i, rfl, rfl, hin⟩)
 go_ret
 exact ⟨ret_bool (by simp), rfl⟩
theorem load_none (bd bs : Nat) (d : Dk) (st : St) (U : Nat -> Prop) (w : World) (hS : Sys w U bd bs d st) (hok : d.Ok) (hfl : d.files.length <= 4194302) (hal : d.dead = false) (hour : (nmsOf d.files).all oursB = true) (hno : logN ∉ nmsOf d.files) :
   Calls Tryz.prog 79 #[.pointer (some ⟨bs, 0, none⟩)] w fun e w' => e = .returned (.int .i64 0) /\ Below w.heap.size w w' := by
 obtain ⟨S, T, bm, u1, u2, u3, hP, hT⟩ := hS.ex
 have hnl : (nmsOf d.files).length = d.files.length := nms_len d.files
 have hN := dNames_any bd d S w hP hok (by omega) hal
 obtain ⟨c0, c1, c2, c3, c4, f0, f1, f2, f3, f4⟩ := cells5 hT.raw
 generalize nmsOf d.files = NL at *
 have hour' : Hid (NL.all oursB = true) := hour
 have hno' : Hid (decide (logN ∈ NL) = false) := by simpa [Hid] using hno
 clear hour hno
 go_enter Tryz.func79, Tryz.ntmps79
 go_wp2_with (first
   | (go_at_call 91; refine hN.mono ?_; rintro e w1 ⟨v, rfl, hb1, ho1⟩; clear hN)
   | (go_at_call 124; refine (areOurs_any v NL _ w1 ho1 (by omega)).mono ?_; rintro e w2 ⟨he, rfl⟩; rw [hour'.out] at he; subst he)
   | (go_at_call 125; refine (contains_any v NL logN _ _ ho1 (by omega)).mono ?_; rintro e w3 ⟨he, rfl⟩; rw [hno'.out] at he; subst he))
 go_ret
 exact ⟨rfl, hb1⟩
theorem load_log (bd bs : Nat) (d : Dk) (st : St) (U : Nat -> Prop) (w : World) (hS : Sys w U bd bs d st) (hok : d.Ok) (hfl : d.files.length <= 4194302) (hal : d.dead = false) (hour : (nmsOf d.files).all oursB = true) (f : Fl) (hf : getF logN d.files = some f) (hst : st.m = []) (m' : Mp) (hrep : rep f.bytes [] = some (m', f.bytes.length)) :
   Calls Tryz.prog 79 #[.pointer (some ⟨bs, 0, none⟩)] w fun e w' => e = .returned (.int .i64 (secureX d { st with m := m' } f.bytes.length).1) /\ Sys w' (Nw U w) bd bs (secureX d { st with m := m' } f.bytes.length).2.1 (secureX d { st with m := m' } f.bytes.length).2.2 /\ Kp U w w' := by
 obtain ⟨S, T, bm, u1, u2, u3, hP, hT⟩ := hS.ex
 have hnl : (nmsOf d.files).length = d.files.length := nms_len d.files
 have hN := dNames_any bd d S w hP hok (by omega) hal
 have hbl := bytes_le hok hf
 have hmem : logN ∈ nmsOf d.files := by
   have := getF_mem hf
   exact List.mem_map.2 ⟨_, this, rfl⟩
 have hUm := u2 _ hT.tm
 obtain ⟨c0, c1, c2, c3, c4, f0, f1, f2, f3, f4⟩ := cells5 hT.raw
 generalize nmsOf d.files = NL at *
 have hour' : Hid (NL.all oursB = true) := hour
 have hno' : Hid (decide (logN ∈ NL) = true) := by simpa [Hid] using hmem
 have hrd : d.read logN = (f.bytes, 0) := by simp [Dk.read, hal, hf]
 have hmok : MOk st.m := by rw [hst]; exact MOk.nil
 have hrp : ∀ w1, StAt w1 T bs bd bm st -> Calls Tryz.prog 126 #[.pointer (some ⟨bs, 0, none⟩), str f.bytes] w1 fun e w' => e = .returned (.tuple #[.int .i64 f.bytes.length, .int .i64 0]) /\ StAt w' T bs bd bm { st with m := m' } /\ Kp (fun i => i = bm) w1 w' := fun w1 hT1 =>
   (replay_any bs bd bm st T f.bytes w1 hT1 hmok hbl (by rw [hst]; rfl)).mono (by
     rintro e w5 ⟨m5, hT5, k5, (⟨n5, hr5, rfl⟩ | ⟨hr5, _⟩)⟩
     . rw [hst, hrep] at hr5
       obtain ⟨rfl, rfl⟩ : m' = m5 /\ f.bytes.length = n5 := by simpa using hr5
       exact ⟨rfl, hT5, k5⟩
     . rw [hst, hrep] at hr5; cases hr5)
 clear hour hmem
 go_enter Tryz.func79, Tryz.ntmps79
 go_wp2_with (first
   | (go_at_call 91; refine hN.mono ?_; rintro e w1 ⟨v, rfl, hb1, ho1⟩; clear hN; have hP1 := hP.below hb1; have hT1 := hT.below hb1; have hRd := dRead_any bd d logN S w1 hP1 (by decide); rw [hrd] at hRd; obtain ⟨g0, g1, g2, g3, g4, _⟩ := cells5 hT1.raw)
   | (go_at_call 124; refine (areOurs_any v NL _ w1 ho1 (by omega)).mono ?_; rintro e w2 ⟨he, rfl⟩; rw [hour'.out] at he; subst he)
   | (go_at_call 125; refine (contains_any v NL logN _ _ ho1 (by omega)).mono ?_; rintro e w3 ⟨he, rfl⟩; rw [hno'.out] at he; subst he)
   | (go_at_call 89; refine hRd.mono ?_; rintro e w4 ⟨rfl, rfl⟩; clear hRd)
   | (go_at_call 126; refine (hrp _ hT1).mono ?_; rintro e w5 ⟨rfl, hT5, k5⟩; have hS5 : Sys w5 U bd bs d { st with m := m' } := Sys.of u1 u2 u3 (hP1.kept k5 (fun i s e => by rw [e] at s; exact u3 _ s hT1.tm)) hT5)
   | (go_at_call 128; refine (secure_any bd bs d { st with m := m' } U f.bytes.length w5 hS5 hok).mono ?_; rintro e w6 ⟨rfl, hS6, k6⟩))
 go_ret
 refine ⟨rfl, hS6.mono (fun _ _ s => s.imp id (fun h => Nat.le_trans (Nat.le_trans hb1.size k5.size) h)), ((kp_below (Kp.refl U w) hb1).trans k5 (fun i _ e => by rw [e]; exact hUm)).trans k6 (fun _ _ s => s)⟩
def newSt (t : Int) : St := ⟨t, [], false, false⟩
abbrev opened (w1 : World) (bd : Nat) (t : Int) : World := (w1.alloc (.map #[] 0)).alloc (.cells #[.pointer (some ⟨bd, 0, none⟩), .int .i64 t, .map (some w1.heap.size), .bool false, .bool false] 126)
theorem sys_new {w1 : World} {S : Nat -> Prop} {bd : Nat} {d : Dk} {t : Int} (hP : ProgAt w1 S bd d) : Sys (opened w1 bd t) (Nw S w1) bd (w1.heap.size + 1) d (newSt t) := by
 have hb : Below w1.heap.size w1 (opened w1 bd t) := ((Below.refl _ w1).alloc (Nat.le_refl _) _).alloc (by simp) _
 refine Sys.of (S := fun k => S k /\ k < w1.heap.size) (T := fun k => w1.heap.size <= k) (bm := w1.heap.size) (fun k s => .inl s.1) (fun k s => .inr s) (fun k s t => by have := s.2; omega) ?_ ⟨?_, ?_, by simp, by simp⟩
 . exact (hP.mono (fun k hk s => ⟨s, hk⟩)).below hb
 . have := block_new (w1.alloc (.map #[] 0)) (.cells #[.pointer (some ⟨bd, 0, none⟩), .int .i64 t, .map (some w1.heap.size), .bool false, .bool false] 126)
   rw [World.size_alloc] at this
   exact this
 . exact (World.ownsMap_made w1 Tryz.prog 9 Rv).alloc _
theorem Sys.disk {w : World} {U : Nat -> Prop} {bd bs : Nat} {d : Dk} {st : St} (h : Sys w U bd bs d st) : ∃ m r f : Value, w.heap[bd]? = some (.cells #[m, r, f, .bool d.dead, .int .i64 d.turn] 129) := by
 obtain ⟨S, T, bm, _, _, _, hP, _⟩ := h.ex
 obtain ⟨m, r, f, h, _⟩ := hP.raw
 exact ⟨m, r, f, h⟩
def Pairp (w : World) (q : Option Addr) (l : List (Nm × Nm)) : Prop := ∀ i (h : i < l.length), ∃ g off, q = some ⟨g, off, none⟩ /\ w.cell? ⟨g, off + i * 2, none⟩ = some (str l[i].1) /\ w.cell? ⟨g, off + i * 2 + 1, none⟩ = some (str l[i].2)
theorem Pairp.below {w w' : World} {q : Option Addr} {l : List (Nm × Nm)} (h : Pairp w q l) (hb : Below w.heap.size w w') : Pairp w' q l := fun i hi => by
 obtain ⟨g, off, e, h1, h2⟩ := h i hi
 exact ⟨g, off, e, cell_below hb h1, cell_below hb h2⟩
theorem flatP_at : ∀ (l : List (Nm × Nm)) (i : Nat) (h : i < l.length), (flatP l)[i * 2]? = some (str l[i].1) /\ (flatP l)[i * 2 + 1]? = some (str l[i].2)
 | x :: r, 0, _ => ⟨rfl, rfl⟩
 | x :: r, i + 1, h => by
   have ih := flatP_at r i (by simpa using h)
   show (str x.1 :: str x.2 :: flatP r)[(i + 1) * 2]? = _ /\ (str x.1 :: str x.2 :: flatP r)[(i + 1) * 2 + 1]? = _
   rw [show (i + 1) * 2 = i * 2 + 1 + 1 by omega]
   simpa using ih
theorem OwnP.pairp {w : World} {base : Nat} {v : Value} {l : List (Nm × Nm)} (h : OwnP w base v l) : ∃ q cap, v = .slice q l.length cap /\ Pairp w q l /\ ∀ a, q = some a -> base <= a.block /\ a.block < w.heap.size := by
 rcases h.2 with ⟨hv, hn⟩ | ⟨g, cap, cur, hv, hb, hgg, _⟩
 . exact ⟨none, 0, by rw [hv, hn], fun i hi => by omega, fun a ha => by cases ha⟩
 . refine ⟨_, cap, hv, fun i hi => ?_, fun a ha => by cases ha; exact ⟨hb, lt_of_block hgg⟩⟩
   have hc := World.ownsRow.cells h (g := g) (by rw [hv]; rfl)
   obtain ⟨k0, k1⟩ := flatP_at l i hi
   refine ⟨g, 0, rfl, ?_, ?_⟩
   . have := hc _ _ k0; rwa [Addr.add_lit] at this
   . have := hc _ _ k1; rwa [Addr.add_lit, <- Nat.add_assoc] at this
theorem drewN_two (w : World) (n m : Nat) : ∃ k, (w.drewN n).drewN m = w.drewN k := ⟨n + m, by simp [World.drewN, Nat.add_assoc]⟩
theorem sameP_take {a b : List (Nm × Nm)} {k : Nat} (ha : k < a.length) (hb : k < b.length) (h : a.take k = b.take k) (e : a[k] = b[k]) : a.take (k + 1) = b.take (k + 1) := by
 rw [List.take_succ_eq_append_getElem ha, List.take_succ_eq_append_getElem hb, h, e]
end Go.Proofs.YtfghgmojnffgnaaGreat
namespace Go.Proofs.YtfghgmojnffgnaaGreat
open Go.RowKit Go.Maps Go.Sort
theorem rising_doOp {l : List (Nm × Nm)} (o : Ox) (h : rising l) : rising (doOp l o) := by
 unfold doOp
 split
 . exact rising_del h
 . exact rising_ins (rising_del h) (getF_del _ _)
theorem rising_doAll {l : List (Nm × Nm)} (ops : List Ox) (h : rising l) : rising (doAll l ops) := by
 induction ops generalizing l with
 | nil => exact h
 | cons o r ih => exact ih (rising_doOp o h)
end Go.Proofs.YtfghgmojnffgnaaGreat
namespace Go.Proofs.YtfghgmojnffgnaaGreat
open Go.RowKit Go.Maps Go.Sort
theorem op_new {W : World} {n : Nat} (h : W.heap.size = n) {a b c : Value} : ∀ j u, [a, b, c][j]? = some u -> (W.alloc (.cells #[a, b, c] 121)).cell? ((⟨n, 0, none⟩ : Addr).add j) = some u := by
 intro j u hu
 subst h
 rw [Addr.add_lit, Nat.zero_add, cell_block (block_new W _)]
 simpa using hu
end Go.Proofs.YtfghgmojnffgnaaGreat
