/- The program's journal: decodeOps, Decode. -/
import Derived.Test.YtfghgmojnffgnaaGreatCodeU
namespace Go.Proofs.YtfghgmojnffgnaaGreat
open Go.RowKit Go.Maps Go.Sort

theorem Tryz.info121 : (Tryz.prog.info? 121).map (fun i => (i.zero, i.size, i.bytes)) = some (some (.agg #[.string ByteArray.empty, .string ByteArray.empty, .bool false]), 3, 40) := by kernel_rfl

def flatO (l : List Ox) : List Value := l.flatMap fun o => [str o.key, str o.val, .bool o.gone]
/-- A row of ops. -/
def OwnO (w : World) (base : Nat) (v : Value) (l : List Ox) : Prop := w.ownsRow base 121 3 v l.length (flatO l)
theorem flatO_snoc (l : List Ox) (o : Ox) : flatO (l ++ [o]) = flatO l ++ [str o.key, str o.val, .bool o.gone] := by simp [flatO]
theorem flatO_len (l : List Ox) : (flatO l).length = l.length * 3 := by
  induction l with
  | nil => rfl
  | cons x r ih => show (str x.key :: str x.val :: .bool x.gone :: flatO r).length = _; simp [ih]; omega
theorem flatO_at : ∀ (l : List Ox) (i : Nat) (h : i < l.length), (flatO l)[i * 3]? = some (str l[i].key) ∧ (flatO l)[i * 3 + 1]? = some (str l[i].val) ∧ (flatO l)[i * 3 + 2]? = some (.bool l[i].gone)
  | x :: r, 0, _ => ⟨rfl, rfl, rfl⟩
  | x :: r, i + 1, h => by
    have ih := flatO_at r i (by simpa using h)
    show (str x.key :: str x.val :: .bool x.gone :: flatO r)[(i + 1) * 3]? = _ ∧ (str x.key :: str x.val :: .bool x.gone :: flatO r)[(i + 1) * 3 + 1]? = _ ∧ (str x.key :: str x.val :: .bool x.gone :: flatO r)[(i + 1) * 3 + 2]? = _
    rw [show (i + 1) * 3 = i * 3 + 1 + 1 + 1 by omega]
    simpa using ih
theorem OwnO.opp {w : World} {base : Nat} {v : Value} {l : List Ox} (h : OwnO w base v l) : ∃ q cap, v = .slice q l.length cap ∧ Opp w q l ∧ ∀ a, q = some a → base ≤ a.block ∧ a.block < w.heap.size := by
  rcases h.2 with ⟨hv, hn⟩ | ⟨g, cap, cur, hv, hb, hgg, _⟩
  · exact ⟨none, 0, by rw [hv, hn], fun i hi => by omega, fun a ha => by cases ha⟩
  · refine ⟨_, cap, hv, fun i hi => ?_, fun a ha => by cases ha; exact ⟨hb, lt_of_block hgg⟩⟩
    have hc := World.ownsRow.cells h (g := g) (by rw [hv]; rfl)
    obtain ⟨k0, k1, k2⟩ := flatO_at l i hi
    refine ⟨g, 0, rfl, ?_, ?_, ?_⟩
    · have := hc _ _ k0; rwa [Addr.add_lit] at this
    · have := hc _ _ k1; rwa [Addr.add_lit, ← Nat.add_assoc] at this
    · have := hc _ _ k2; rwa [Addr.add_lit, ← Nat.add_assoc] at this

def DecO (w : World) (base : Nat) (v : Value) : Option (List Ox) → Prop
  | none => v = .slice none 0 0
  | some ops => OwnO w base v ops

def strLen : Value → Nat
  | .string s => s.size
  | _ => 0

theorem decOps_step {k : Nat} {c : UInt8} {r : List UInt8} {o : Ox} {n : Nat} (h : decOp (c :: r) = some (o, n)) : decOps (k + 1) (c :: r) = (decOps k ((c :: r).drop n)).map (o :: ·) := by
  rw [decOps, h]
theorem decOps_no {k : Nat} {c : UInt8} {r : List UInt8} (h : decOp (c :: r) = none) : decOps k (c :: r) = none := by
  cases k with
  | zero => rfl
  | succ k => rw [decOps, h]

set_option maxHeartbeats 2000000 in
set_option maxRecDepth 20000 in
theorem decodeOps_any (b : List UInt8) (w : World) (hl : b.length ≤ 1048576) :
    Calls Tryz.prog 181 #[str b] w fun e w' => ∃ v, e = .returned v ∧ Below w.heap.size w w' ∧ DecO w' w.heap.size v (decOps 8 b) := by
  obtain ⟨i0, hi0, hz0, hz1, hz2⟩ := info_parts Tryz.info121
  go_enter Tryz.func181, Tryz.ntmps181
  go_wp2
  go_loopw [0, 3] (fun x v wr => ∃ (b' : List UInt8) (ops : List Ox), x = str b' ∧ b'.length ≤ b.length ∧ ops.length ≤ 8 ∧ OwnO wr w.heap.size v ops ∧ Below w.heap.size w wr ∧ (decOps (8 - ops.length) b').map (ops ++ ·) = decOps 8 b) (fun x _ _ => strLen x)
  case atStart => exact ⟨b, [], rfl, Nat.le_refl _, by simp, World.ownsRow_nil _ _ _ _, Below.refl _ _, by simp⟩
  case round =>
    obtain ⟨b', ops, rfl, hbl, ho8, hown, hB, hE⟩ := hrel
    have hs := hB.size
    cases b' with
    | nil =>
      have hE' : decOps 8 b = some ops := by rw [← hE]; simp [decOps]
      have HE : Hid (decOps 8 b = some ops) := hE'
      clear hE hE'
      go_wp2
      go_ret
      refine ⟨_, rfl, hB, ?_⟩
      rw [HE.out]
      exact hown
    | cons c r =>
      have hz : (⟨(c :: r).toArray⟩ : ByteArray).size = r.length + 1 := rfl
      have hlr : r.length ≤ 1048576 := by simp at hbl; omega
      have hd := decodeOp_any c r wr hlr
      obtain ⟨q, cap, rfl, hopp, hqb⟩ := hown.opp
      cases hdo : decOp (c :: r) with
      | none =>
        have HE : Hid (decOps 8 b = none) := by show _ = _; rw [← hE, decOps_no hdo]; rfl
        have hV : decOpV (c :: r) = (opZ, 0) := by simp [decOpV, hdo]
        rw [hV] at hd
        clear hE
        go_wp2_with (go_at_call 195; refine hd.mono ?_; rintro e w1 ⟨rfl, hb1⟩)
        go_ret
        refine ⟨_, rfl, (hB.trans (hb1.mono hs)).alloc (by have := hb1.size; omega) _, ?_⟩
        rw [HE.out]
        rfl
      | some x =>
        obtain ⟨o, n⟩ := x
        obtain ⟨k1, k2, k3⟩ := decOp_ok hdo
        have hV : decOpV (c :: r) = (o, n) := by simp [decOpV, hdo]
        rw [hV] at hd
        have hn3 : n ≤ r.length + 1 := by simpa using k3
        by_cases h8 : ops.length = 8
        · have HE : Hid (decOps 8 b = none) := by show _ = _; rw [← hE, h8]; rfl
          clear hE
          go_wp2_with (go_at_call 195; refine hd.mono ?_; rintro e w1 ⟨rfl, hb1⟩)
          go_ret
          refine ⟨_, rfl, (hB.trans (hb1.mono hs)).alloc (by have := hb1.size; omega) _, ?_⟩
          rw [HE.out]
          rfl
        · have HE : Hid ((decOps (8 - (ops ++ [o]).length) ((c :: r).drop n)).map ((ops ++ [o]) ++ ·) = decOps 8 b) := by
            show _ = _
            rw [← hE]
            obtain ⟨j, hj⟩ : ∃ j, 8 - ops.length = j + 1 := ⟨7 - ops.length, by omega⟩
            rw [hj, decOps_step hdo, List.length_append, List.length_singleton, show 8 - (ops.length + 1) = j by omega, Option.map_map]
            congr 1
            funext l
            simp
          have hex : Hid ((⟨(c :: r).toArray⟩ : ByteArray).extract n (r.length + 1) = ⟨((c :: r).drop n).toArray⟩) := by
            show _ = _
            rw [ext_bytes, List.take_of_length_le (by simp)]
          clear hE
          have n0 : ((n : Int) == 0) = false := by simp; omega
          have n8 : ((ops.length : Int) == 8) = false := by simp; omega
          go_wp2_with (first
            | (go_at_call 195; refine hd.mono ?_; rintro e w1 ⟨rfl, hb1⟩; have hs1 := hb1.size)
            | (at_builtin; refine wpList_append_own _ rfl (.tmp 20) (.tmp 22) 65 rfl w.heap.size 121 i0 _ 3 40 Tryz.underlying65 hi0 hz0 hz1 hz2 rfl (by decide) _ ops.length (flatO ops) rfl ((World.ownsRow.alloc (World.ownsRow.alloc (ownsRow_of_block hown (fun g hg => hb1.block g (World.ownsRow.lt hown g hg).2)) _) _)) ⟨w1.heap.size + 1, 0, none⟩ 1 1 [str o.key, str o.val, .bool o.gone] rfl rfl ?_ (by simp [Value.oneCell']) (by unfold maxLen; omega) (by omega) (by simp; omega) ?_; rotate_left; intro v' w2 hown' hgrow _)
            | go_in)
          · have hb2 : Below w.heap.size w w2 := (((hB.trans (hb1.mono hs)).alloc (by omega) _).alloc (by simp; omega) _).grown hgrow (by simp; omega) (fun k hk => (hown.lt k hk).1)
            have hsz : ((c :: r).drop n).length = r.length + 1 - n := by simp
            go_roundw
            case rel =>
              rw [hex.out]
              refine ⟨_, ops ++ [o], rfl, ?_, by simp; omega, ?_, hb2, HE.out⟩
              · rw [hsz]; simp at hbl; omega
              · unfold OwnO
                rw [flatO_snoc, List.length_append]
                exact hown'
            case measure =>
              rw [hex.out]
              show ((c :: r).drop n).length < (c :: r).length
              rw [hsz]
              simp
              omega
          · intro j u hu
            rw [Addr.add_lit, Nat.zero_add]
            have := block_new (w1.alloc (.cells #[str o.key, str o.val, .bool o.gone] 121)) (.cells #[str o.key, str o.val, .bool o.gone] 121)
            rw [World.size_alloc] at this
            rw [cell_block this]
            simpa using hu

/-- What Decode answers: the row of ops, how many bytes, the error. -/
def decR (t : List UInt8) : Option (List Ox) × Nat × Int :=
  match decode t with
  | none => (none, 0, 5)
  | some none => (none, 0, 0)
  | some (some (ops, n)) => (some ops, n, 0)

set_option maxHeartbeats 2000000 in
set_option maxRecDepth 20000 in
theorem Decode_any (t : List UInt8) (w : World) (hl : t.length ≤ 1048576) :
    Calls Tryz.prog 168 #[str t] w fun e w' => ∃ v, e = .returned (.tuple #[v, .int .i64 (decR t).2.1, .int .i64 (decR t).2.2]) ∧ Below w.heap.size w w' ∧ DecO w' w.heap.size v (decR t).1 := by
  have hz : (⟨t.toArray⟩ : ByteArray).size = t.length := rfl
  by_cases h2 : t.length < 2
  · have HX : Hid (decR t = (none, 0, 0)) := by simp [Hid, decR, decode, h2]
    go_enter Tryz.func168, Tryz.ntmps168
    go_wp2
    go_ret3
    rw [HX.out]
    exact ⟨_, rfl, Below.refl _ _, rfl⟩
  · obtain ⟨a, b, r, rfl⟩ : ∃ a b r, t = a :: b :: r := by
      match t, h2 with
      | a :: b :: r, _ => exact ⟨a, b, r, rfl⟩
      | [a], h => exact absurd (by simp) h
      | [], h => exact absurd (by simp) h
    have hc0 : (⟨(a :: b :: r).toArray⟩ : ByteArray)[0]'(by rw [hz]; simp) = a := rfl
    have hc1 : (⟨(a :: b :: r).toArray⟩ : ByteArray)[1]'(by rw [hz]; simp) = b := rfl
    have ha : a.toNat < 256 := a.toNat_lt
    have hb : b.toNat < 256 := b.toNat_lt
    have HO : bits BinOp.or IntKind.i64 ((a.toNat : Int) * 256) (b.toNat : Int) = ((a.toNat * 256 + b.toNat : Nat) : Int) := by
      rw [i64_or8 _ _ (by omega) (by omega) (by omega) (by omega) (by omega)]; omega
    have e0 : byteAt (a :: b :: r) 0 = a.toNat := rfl
    have e1 : byteAt (a :: b :: r) 1 = b.toNat := rfl
    have hlen : (a :: b :: r).length = r.length + 2 := rfl
    rw [hlen] at hz hl
    generalize hn : a.toNat * 256 + b.toNat = n at *
    have hdec : decode (a :: b :: r) = if n < 2 ∨ 656 < n then none else if r.length + 2 < 6 + n then some none else match decOps 8 (((a :: b :: r).drop 6).take n) with | none => none | some ops => if fnv (((a :: b :: r).drop 6).take n) = be4N ((a :: b :: r).drop 2) then some (some (ops, 6 + n)) else none := by
      unfold decode
      rw [if_neg h2]
      simp only [e0, e1, hn]
      rfl
    by_cases hbad : n < 2 ∨ 656 < n
    · have HX : Hid (decR (a :: b :: r) = (none, 0, 5)) := by simp only [Hid, decR, hdec, if_pos hbad]
      clear hdec
      rcases hbad with hb1 | hb1
      all_goals
        go_enter Tryz.func168, Tryz.ntmps168
        go_wp2
        go_region
        go_wp2
        go_ret3
        rw [HX.out]
        exact ⟨_, rfl, (Below.refl _ _).drew, rfl⟩
    · have hn2 : 2 ≤ n := by omega
      have hn6 : n ≤ 656 := by omega
      by_cases hcut : r.length + 2 < 6 + n
      · have HX : Hid (decR (a :: b :: r) = (none, 0, 0)) := by simp only [Hid, decR, hdec, if_neg hbad, if_pos hcut]
        clear hdec hbad
        go_enter Tryz.func168, Tryz.ntmps168
        go_wp2
        go_region
        go_wp2
        go_ret3
        rw [HX.out]
        exact ⟨_, rfl, (Below.refl _ _).drew, rfl⟩
      · rw [if_neg hbad, if_neg hcut] at hdec
        have hex : Hid ((⟨(a :: b :: r).toArray⟩ : ByteArray).extract 6 (6 + n) = ⟨(((a :: b :: r).drop 6).take n).toArray⟩) := by show _ = _; rw [ext_bytes, show 6 + n - 6 = n by omega]
        have hex2 : Hid ((⟨(a :: b :: r).toArray⟩ : ByteArray).extract 2 6 = ⟨(((a :: b :: r).drop 2).take 4).toArray⟩) := by show _ = _; rw [ext_bytes]
        have hl4 : (((a :: b :: r).drop 2).take 4).length = 4 := by simp; omega
        have hbe : be4N (((a :: b :: r).drop 2).take 4) = be4N ((a :: b :: r).drop 2) := by simp only [be4N, byteAt_take (show 0 < 4 by omega), byteAt_take (show 1 < 4 by omega), byteAt_take (show 2 < 4 by omega), byteAt_take (show 3 < 4 by omega)]
        have hbl : (((a :: b :: r).drop 6).take n).length = n := by simp; omega
        have hne : ((a :: b :: r).drop 6).take n ≠ [] := by intro e; rw [e] at hbl; simp at hbl; omega
        generalize hB : ((a :: b :: r).drop 6).take n = B at *
        generalize ((a :: b :: r).drop 2).take 4 = C4 at *
        generalize be4N ((a :: b :: r).drop 2) = N4 at *
        have hdo := fun w => decodeOps_any B w (by omega)
        have hsu := fun w => sum_any B w (by omega)
        have hst := fun w => storedSum_any C4 w hl4
        rw [hbe] at hst
        have q0 : ∀ (w : World) (a : Option Addr) (n c n' c' : Nat), (binOp .eql 65 (.slice a n c) (.slice none n' c')).run Tryz.prog w = .ok (.bool a.isNone) w := fun w a n c n' c' => Lib.run_eql_slice_nil w _ _ a n c n' c' Tryz.underlying65
        cases hO : decOps 8 B with
        | none =>
          have HX : Hid (decR (a :: b :: r) = (none, 0, 5)) := by simp only [Hid, decR, hdec, hO]
          clear hdec
          go_enter Tryz.func168, Tryz.ntmps168
          go_wp2
          go_region
          go_wp2_with (go_at_call 181; rw [hex.out]; refine (hdo _).mono ?_; rintro e w1 ⟨v, rfl, hb1, hd⟩; rw [hO] at hd; obtain rfl : v = .slice none 0 0 := hd)
          go_region
          go_wp2
          go_ret3
          rw [HX.out]
          exact ⟨_, rfl, (((Below.refl _ w).drew).trans (hb1.mono (Nat.le_refl _))).drew, rfl⟩
        | some ops =>
          have hon : ops ≠ [] := (decOps_ok 8 B ops hO).2.2 hne
          by_cases hs : fnv B = N4
          · have HX : Hid (decR (a :: b :: r) = (some ops, 6 + n, 0)) := by simp only [Hid, decR, hdec, hO, if_pos hs]
            clear hdec
            go_enter Tryz.func168, Tryz.ntmps168
            go_wp2
            go_region
            go_wp2_with (go_at_call 181; rw [hex.out]; refine (hdo _).mono ?_; rintro e w1 ⟨v, rfl, hb1, hd⟩; rw [hO] at hd; obtain ⟨q, cap, rfl, hopp, hqb⟩ := OwnO.opp hd; obtain ⟨g, off, rfl, _⟩ := hopp 0 (List.length_pos_iff.2 hon))
            go_region_with (first
              | (go_at_call 161; refine (hsu _).mono ?_; rintro e w2 ⟨rfl, rfl⟩)
              | (go_at_call 182; rw [hex2.out]; refine (hst _).mono ?_; rintro e w3 ⟨rfl, hb3⟩))
            all_goals go_wp2
            all_goals go_ret3
            all_goals rw [HX.out]
            all_goals
              have hs3 := hb3.size
              exact ⟨_, rfl, ((((Below.refl _ w).drew).trans (hb1.mono (Nat.le_refl _))).drew).trans (hb3.mono (by have := hb1.size; simp only [World.size_drew] at *; omega)), ownsRow_of_block hd (fun g hg => hb3.block g (World.ownsRow.lt hd g hg).2)⟩
          · have HX : Hid (decR (a :: b :: r) = (none, 0, 5)) := by simp only [Hid, decR, hdec, hO, if_neg hs]
            have hs' : ((fnv B : Int) != (N4 : Int)) = true := by simp; omega
            clear hdec
            go_enter Tryz.func168, Tryz.ntmps168
            go_wp2
            go_region
            go_wp2_with (go_at_call 181; rw [hex.out]; refine (hdo _).mono ?_; rintro e w1 ⟨v, rfl, hb1, hd⟩; rw [hO] at hd; obtain ⟨q, cap, rfl, hopp, hqb⟩ := OwnO.opp hd; obtain ⟨g, off, rfl, _⟩ := hopp 0 (List.length_pos_iff.2 hon))
            go_region_with (first
              | (go_at_call 161; refine (hsu _).mono ?_; rintro e w2 ⟨rfl, rfl⟩)
              | (go_at_call 182; rw [hex2.out]; refine (hst _).mono ?_; rintro e w3 ⟨rfl, hb3⟩))
            all_goals go_wp2
            all_goals go_ret3
            all_goals rw [HX.out]
            all_goals
              have hs3 := hb3.size
              exact ⟨_, rfl, ((((Below.refl _ w).drew).trans (hb1.mono (Nat.le_refl _))).drew).trans (hb3.mono (by have := hb1.size; simp only [World.size_drew] at *; omega)), rfl⟩

end Go.Proofs.YtfghgmojnffgnaaGreat
