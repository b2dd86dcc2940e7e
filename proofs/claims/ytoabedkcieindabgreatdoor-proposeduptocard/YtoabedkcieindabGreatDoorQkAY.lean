import Derived.Test.YtoabedkcieindabGreatDoorQkAX
namespace Go.Proofs.YtoabedkcieindabGreatDoor
open Go.RowKit Go.Maps Go.Sort Go.Shelf
theorem manOk_new : manOk (manOf 1 0 []) := by refine ⟨?_, ?_, ?_, ?_, ?_⟩ <;> simp [manOf, plsOk]
theorem Lst.empty {d : Dk} (hf : d.files = []) (hok : d.Ok) (hs : Stl d) (hq : d.quota = 1048576) {policy : Int} (hp : 0 ≤ policy ∧ policy ≤ 2) : Lst d (newLs d.turn policy) [] 0 := by
  have hn : ∀ k, getF k d.files = none := fun k => by rw [hf]; rfl
  have hL : Lin d (newLs d.turn policy) [] 0 := by
    refine ⟨⟨⟨.inl ⟨hn _, rfl⟩, manOk_new, rfl, fun i h => ?_, .inl ⟨hn _, rfl, rfl⟩, fun b hb => (by cases hb), .inl rfl, fun x hx => ?_⟩, fun f h => ?_, fun q hq => ?_, Nat.le_refl _, fun f h => ?_⟩, fun _ x hx => ?_, ?_⟩
    · simp [newLs, manOf] at h
    · rw [hf] at hx; cases hx
    · rw [hn] at h; cases h
    · simp [newLs, manOf] at hq
    · rw [hn] at h; cases h
    · rw [hf] at hx; cases hx
    · rw [hf]; exact List.Pairwise.nil
  refine ⟨⟨[], 0, hL, rfl, by simp⟩, hok, hs, hq, rfl, hp, rfl, rfl, ⟨List.Pairwise.nil, fun x hx => (by cases hx)⟩, fun e he => (by simp [newLs, flatM] at he), ⟨Int.le_refl _, Int.le_refl _⟩, List.Pairwise.nil, fun k => ?_, fun x hx => (by cases hx), fun x hx => (by cases hx), fun x hx => (by cases hx), List.Pairwise.nil, rfl, by simp [newLs, entsT, flatM], fun x hx => (by cases hx), by simp [newLs, mz], by simp [newLs, mz], by simp [newLs]⟩
  simp [newLs, Ls.layers, flatM, newF, viewE, atK, pickE, liveE, getF]
set_option maxHeartbeats 400000 in
set_option maxRecDepth 20000 in
theorem load_nil (T bd bm bsn : Nat) (s : Sl) (d : Dk) (st : Ls) (S E : Nat → Prop) (w : World) (h : Lsy w S E T bd bm bsn s [] d st) (hf : d.files = []) (hok : d.Ok) (hda : d.dead = false) (ht : st.turn = d.turn) (hst : st.stuck = false) (hlo : st.loose = false) (hlg : st.log = 0) :
    Calls Tryz.prog 66 #[.pointer (some ⟨T, 0, none⟩)] w fun e w' => e = .returned (.int .i64 0) ∧ CmPost w w' S E T bd bm bsn (0, d, st) ∧ Kp S w w' := by
  have hP0 : ProgAt w (fun k => S k ∧ k < w.heap.size) bd d := h.prog.mono (fun k hk s => ⟨s, hk⟩)
  have hN := dNames_any bd d _ w hP0 hok (by rw [hf]; simp) hda
  rw [hf] at hN
  have hNil : nmsOf ([] : List (Nm × Fl)) = [] := rfl
  rw [hNil] at hN
  have hTl := lt_of_block h.at_.blk
  have hml := h.at_.mem.lt
  have hnl := h.at_.snp.lt
  have hlT := fun (a : Option Addr) (c : Nat) (w1 : World) => loadTables_nil T a c w1
  have hmH := fun (a : Option Addr) (c : Nat) (w1 : World) => mayHave_nil T a c w1
  have hlL := fun (a : Option Addr) (c : Nat) (w1 : World) (hb : Below w.heap.size w w1) => loadLog_nil T a c st.log w1 (cell_below hb (h.at_.cell 6)) (by omega)
  have hSw : ∀ w4, Below w.heap.size w w4 → Calls Tryz.prog 116 #[.pointer (some ⟨T, 0, none⟩)] w4 fun e w' => e = .returned (.int .i64 0) ∧ ProgAt w' (Nw (fun k => S k ∧ k < w.heap.size) w4) bd d ∧ Kp (fun k => S k ∧ k < w.heap.size) w4 w' := fun w4 hb => by
    have := sweep_any T bd st.log s [] d (fun k => S k ∧ k < w.heap.size) w4 (cell_below hb (h.at_.cell 0)) (cell_below hb (h.at_.cell 4)) (cell_below hb (h.at_.cell 6)) (fun x => h.nT x.1) (h.at_.tab.below hb) (fun a _ h0 => by simp at h0) (progBelow hP0 hb) hok (by rw [hf]; simp) hda (by rw [hf]; intro n hn; cases hn) (by rw [hf]; intro n hn; cases hn) (by omega) (fun x hx => by cases hx) (by simp)
    rw [hf, hNil] at this
    exact this
  have hlw : lwritable d.turn d.dead st = 0 := by unfold lwritable lready; simp [ht, hda, hst]
  have c0 := h.at_.cell 0
  go_enter Tryz.func66, Tryz.ntmps66
  go_wp2_with (first
    | (go_at_call 34; refine hN.mono ?_; rintro e w1 ⟨v1, rfl, hb1, ho1⟩; obtain ⟨a1, c1, rfl, _⟩ := ownS_shape ho1; have hlT1 := hlT a1 c1 w1; clear hN hlT)
    | (go_at_call 113; refine hlT1.mono ?_; rintro e w2 ⟨rfl, hb2⟩; have hB2 : Below w.heap.size w w2 := hb1.trans (hb2.mono hb1.size); have hmH1 := hmH a1 c1 w2; have hlL1 := hlL a1 c1 w2 hB2; clear hlT1 hmH hlL)
    | (go_at_call 114; refine hmH1.mono ?_; rintro e w3 ⟨rfl, rfl⟩; clear hmH1)
    | (go_at_call 115; refine hlL1.mono ?_; rintro e w4 ⟨rfl, hb4⟩; have hB4 : Below w.heap.size w w4 := hB2.trans (hb4.mono hB2.size); have hSw1 := hSw w4 hB4; clear hlL1 hSw)
    | (go_at_call 116; refine hSw1.mono ?_; rintro e w5 ⟨rfl, hP5, k5⟩; have hL5 : LsAt w5 E T bd bm bsn s [] st := (h.at_.below hB4).kept k5 (fun x => h.nT x.1) (fun x => h.nm x.1) (fun x => h.nn x.1) (fun k hk x => h.dj k hk x.1); obtain ⟨m5, r5, f5, hd5, _⟩ := hP5.raw; have hSy5 := sSync_tight T bd bm bsn s [] st E w5 hL5 hd5 hlw hlo; clear hSw1 hd5)
    | (go_at_call 37; refine hSy5.mono ?_; rintro e w6 ⟨rfl, hb6⟩))
  go_ret
  have z4 := hB4.size
  refine ⟨rfl, ⟨fun k => Nw (fun k => S k ∧ k < w.heap.size) w4 k ∧ k < w5.heap.size, E, s, [], fun k hk => ?_, fun k hk => .inl hk, fun k hk hs => ?_, fun hs => ?_, fun hs => ?_, fun hs => ?_, progBelow (hP5.mono (fun k hk x => ⟨x, hk⟩)) hb6, hL5.below hb6⟩, ?_⟩
  · rcases hk.1 with x | x
    · exact .inl x.1
    · exact .inr (by omega)
  · rcases hs.1 with x | x
    · exact h.dj k hk x.1
    · have := h.at_.bnd k hk; omega
  · rcases hs.1 with x | x
    · exact h.nT x.1
    · omega
  · rcases hs.1 with x | x
    · exact h.nm x.1
    · omega
  · rcases hs.1 with x | x
    · exact h.nn x.1
    · omega
  · exact ((Kp.of_below (S := S) hB4).trans k5 (fun i _ x => x.1)).trans (T := fun _ => False) (Kp.of_below hb6) (fun _ _ f => f.elim)
end Go.Proofs.YtoabedkcieindabGreatDoor

namespace Go.Proofs.YtoabedkcieindabGreatDoor
open Go.RowKit Go.Maps Go.Sort Go.Shelf
def OpPost (w w' : World) (S : Nat → Prop) (T bd : Nat) (d : Dk) (st : Ls) : Prop :=
  ∃ bm bsn S' E' s l, w.heap.size ≤ T ∧ w.heap.size ≤ bm ∧ w.heap.size ≤ bsn ∧ (∀ k, S' k → Nw S w k) ∧ (∀ k, E' k → w.heap.size ≤ k) ∧ Lsy w' S' E' T bd bm bsn s l d st
def newC (bd b : Nat) (turn policy : Int) : Obj := .cells #[.pointer (some ⟨bd, 0, none⟩), .int .i64 turn, .int .i64 policy, .map (some b), .slice none 0 0, .int .i64 1, .int .i64 0, .int .i64 0, .int .i64 0, .map (some (b + 1)), .int .i64 0, .bool false, .bool false] 111
theorem open_mid {w1 : World} {S : Nat → Prop} {bd : Nat} {d : Dk} {turn policy : Int} (hP : ProgAt w1 S bd d) (hS : ∀ k, S k → k < w1.heap.size) :
    Lsy (((w1.alloc (.map #[] 0)).alloc (.map #[] 0)).alloc (newC bd w1.heap.size turn policy)) S (fun _ => False) (w1.heap.size + 1 + 1) bd w1.heap.size (w1.heap.size + 1) (none, 0, 0) [] d (newLs turn policy) := by
  have hB : Below w1.heap.size w1 (((w1.alloc (.map #[] 0)).alloc (.map #[] 0)).alloc (newC bd w1.heap.size turn policy)) := (((Below.refl _ w1).alloc (Nat.le_refl _) _).alloc (by simp) _).alloc (by simp; omega) _
  have b1 := block_alloc (p := newC bd w1.heap.size turn policy) (block_alloc (p := .map #[] 0) (block_new w1 (.map #[] 0)))
  have b2 := block_alloc (p := newC bd w1.heap.size turn policy) (block_new (w1.alloc (.map #[] 0)) (.map #[] 0))
  have b3 := block_new ((w1.alloc (.map #[] 0)).alloc (.map #[] 0)) (newC bd w1.heap.size turn policy)
  simp only [World.size_alloc] at b2 b3
  refine ⟨progBelow hP hB, ⟨?_, ⟨[], rfl, ⟨#[], 0, b1, ⟨by simp, Go.MapKept.stamped_empty 0, by simp⟩, Nat.le_refl _, rfl⟩, fun x hx => (by cases hx)⟩, SnAt.nil b2, (by show ([] : SnL).length ≤ 1000; decide), ⟨rfl, Nat.le_refl _, fun _ => ⟨rfl, rfl⟩, fun a ha => (by cases ha), fun i hi => (by simp at hi)⟩, fun x hx => (by cases hx), rfl, fun a ha => (by cases ha), fun x hx => (by cases hx), by omega, ⟨fun f => f, fun f => f, fun f => f⟩, fun k hk => hk.elim⟩, fun k hk => hk.elim, fun h => ?_, fun h => ?_, fun h => ?_⟩
  · rw [b3]; simp [newC, lsC, newLs]
  · have := hS _ h; omega
  · have := hS _ h; omega
  · have := hS _ h; omega
set_option maxHeartbeats 400000 in
set_option maxRecDepth 20000 in
theorem sOpen_nil (bd : Nat) (d : Dk) (S : Nat → Prop) (policy : Int) (w : World) (hP : ProgAt w S bd d) (hf : d.files = []) (hok : d.Ok) (hda : d.dead = false) (h0 : 0 ≤ d.turn) (h1 : d.turn ≤ 4611686018427387904) (hp : 0 ≤ policy ∧ policy ≤ 2) :
    Calls Tryz.prog 39 #[.pointer (some ⟨bd, 0, none⟩), .int .i64 policy] w fun e w' => ∃ T, e = .returned (.tuple #[.pointer (some ⟨T, 0, none⟩), .int .i64 0]) ∧ OpPost w w' S T bd { d with turn := d.turn + 1 } (newLs (d.turn + 1) policy) ∧ Kp S w w' := by
  have hP0 : ProgAt w (fun k => S k ∧ k < w.heap.size) bd d := hP.mono (fun k hk s => ⟨s, hk⟩)
  obtain ⟨_, _, _, hbd, hSb⟩ := hP.raw
  have hbl := lt_of_block hbd
  have hT := dTake_any bd d (fun k => S k ∧ k < w.heap.size) w hP0 h0 h1
  obtain ⟨p0, p2⟩ := hp
  clear hbd
  have hmm := @run_makeMap Tryz.prog
  go_enter Tryz.func39, Tryz.ntmps39
  go_wp2_with (first
    | (go_at_call 65; refine hT.mono ?_; rintro e w1 ⟨rfl, hP1, k1⟩; have z1 := k1.size; have hLd := load_nil _ _ _ _ _ { d with turn := d.turn + 1 } _ _ _ _ (open_mid (turn := d.turn + 1) (policy := policy) hP1 (fun k hk => Nat.lt_of_lt_of_le hk.2 z1)) hf ⟨hok.quota, hok.used, hok.left0, hok.left1, hok.safe, hok.rise, hok.name⟩ hda rfl rfl rfl rfl; unfold newC at hLd; clear hT)
    | (go_at_call 66; refine hLd.mono ?_; rintro e w5 ⟨rfl, hc5, k5⟩; clear hLd))
  go_ret2
  obtain ⟨S', E', s', l', h1', h2', h3', h4', h5', h6', hP5, hL5⟩ := hc5
  have z5 : w1.heap.size ≤ (((w1.alloc (.map #[] 0)).alloc (.map #[] 0)).alloc (newC bd w1.heap.size (d.turn + 1) policy)).heap.size := by simp; omega
  refine ⟨_, rfl, ⟨_, _, S', E', s', l', by omega, by omega, by omega, fun k hk => ?_, fun k hk => ?_, ⟨hP5, hL5, h3', h4', h5', h6'⟩⟩, ?_⟩
  · rcases h1' k hk with x | x
    · exact .inl x.1
    · exact .inr (Nat.le_trans z1 (Nat.le_trans z5 x))
  · rcases h2' k hk with x | x
    · exact x.elim
    · exact Nat.le_trans z1 (Nat.le_trans z5 x)
  · have a1 : Kp S w w1 := k1.mono (fun i e => by subst e; exact hSb)
    have a2 : Kp S w (((w1.alloc (.map #[] 0)).alloc (.map #[] 0)).alloc (newC bd w1.heap.size (d.turn + 1) policy)) := ((a1.alloc _).alloc _).alloc _
    exact a2.trans k5 (fun i _ x => x.1)
end Go.Proofs.YtoabedkcieindabGreatDoor

namespace Go.Proofs.YtoabedkcieindabGreatDoor
open Go.RowKit Go.Maps Go.Sort
def flatP (l : List (Nm × Nm)) : List Value := l.flatMap fun x => [str x.1, str x.2]
def OwnP (w : World) (base : Nat) (v : Value) (l : List (Nm × Nm)) : Prop := w.ownsRow base 49 2 v l.length (flatP l)
theorem flatP_snoc (l : List (Nm × Nm)) (x : Nm × Nm) : flatP (l ++ [x]) = flatP l ++ [str x.1, str x.2] := by simp [flatP]
def Pairp (w : World) (q : Option Addr) (l : List (Nm × Nm)) : Prop := ∀ i (h : i < l.length), ∃ g off, q = some ⟨g, off, none⟩ ∧ w.cell? ⟨g, off + i * 2, none⟩ = some (str l[i].1) ∧ w.cell? ⟨g, off + i * 2 + 1, none⟩ = some (str l[i].2)
theorem Pairp.below {w w' : World} {q : Option Addr} {l : List (Nm × Nm)} (h : Pairp w q l) (hb : Below w.heap.size w w') : Pairp w' q l := fun i hi => by
  obtain ⟨g, off, e, h1, h2⟩ := h i hi
  exact ⟨g, off, e, cell_below hb h1, cell_below hb h2⟩
theorem flatP_at : ∀ (l : List (Nm × Nm)) (i : Nat) (h : i < l.length), (flatP l)[i * 2]? = some (str l[i].1) ∧ (flatP l)[i * 2 + 1]? = some (str l[i].2)
  | x :: r, 0, _ => ⟨rfl, rfl⟩
  | x :: r, i + 1, h => by
    have ih := flatP_at r i (by simpa using h)
    show (str x.1 :: str x.2 :: flatP r)[(i + 1) * 2]? = _ ∧ (str x.1 :: str x.2 :: flatP r)[(i + 1) * 2 + 1]? = _
    rw [show (i + 1) * 2 = i * 2 + 1 + 1 by omega]
    simpa using ih
theorem OwnP.pairp {w : World} {base : Nat} {v : Value} {l : List (Nm × Nm)} (h : OwnP w base v l) : ∃ q cap, v = .slice q l.length cap ∧ Pairp w q l ∧ ∀ a, q = some a → base ≤ a.block ∧ a.block < w.heap.size := by
  rcases h.2 with ⟨hv, hn⟩ | ⟨g, cap, cur, hv, hb, hgg, _⟩
  · exact ⟨none, 0, by rw [hv, hn], fun i hi => by omega, fun a ha => by cases ha⟩
  · refine ⟨_, cap, hv, fun i hi => ?_, fun a ha => by cases ha; exact ⟨hb, lt_of_block hgg⟩⟩
    have hc := World.ownsRow.cells h (g := g) (by rw [hv]; rfl)
    obtain ⟨k0, k1⟩ := flatP_at l i hi
    refine ⟨g, 0, rfl, ?_, ?_⟩
    · have := hc _ _ k0; rwa [Addr.add_lit] at this
    · have := hc _ _ k1; rwa [Addr.add_lit, ← Nat.add_assoc] at this
theorem drewN_two (w : World) (n m : Nat) : ∃ k, (w.drewN n).drewN m = w.drewN k := ⟨n + m, by simp [World.drewN, Nat.add_assoc]⟩
theorem sameP_take {a b : List (Nm × Nm)} {k : Nat} (ha : k < a.length) (hb : k < b.length) (h : a.take k = b.take k) (e : a[k] = b[k]) : a.take (k + 1) = b.take (k + 1) := by
  rw [List.take_succ_eq_append_getElem ha, List.take_succ_eq_append_getElem hb, h, e]
set_option maxHeartbeats 2000000 in
set_option maxRecDepth 20000 in
theorem ksame_any (q1 q2 : Option Addr) (c1 c2 : Nat) (a b : List (Nm × Nm)) (w : World) (h1 : Pairp w q1 a) (h2 : Pairp w q2 b) (hla : a.length ≤ 4194304) (hlb : b.length ≤ 4194304) :
    Calls Tryz.prog 23 #[.slice q1 a.length c1, .slice q2 b.length c2] w fun e w' => e = .returned (.bool (decide (a = b))) ∧ ∃ n, w' = w.drewN n := by
  by_cases hl : a.length = b.length
  · rw [← hl]
    go_enter Tryz.func23, Tryz.ntmps23
    go_wp2
    go_loopw [5] (fun i wr => ∃ k n : Nat, k ≤ a.length ∧ i = .int .i64 k ∧ a.take k = b.take k ∧ wr = w.drewN n) (fun i _ => a.length - (intOf i).toNat)
    case atStart => exact ⟨0, 0, Nat.zero_le _, rfl, rfl, rfl⟩
    case round =>
      obtain ⟨k, n, hk, rfl, hr, rfl⟩ := hrel
      have HR : Hid (a.take k = b.take k) := hr
      clear hr
      by_cases hlt : k < a.length
      · have hlt2 : k < b.length := by omega
        obtain ⟨g1, o1, rfl, x0, x1⟩ := h1 k hlt
        obtain ⟨g2, o2, rfl, y0, y1⟩ := h2 k hlt2
        have HL : Hid (a.length = b.length) := hl
        clear h1 h2 hl
        by_cases e1 : a[k].1 = b[k].1
        · by_cases e2 : a[k].2 = b[k].2
          · have e : a[k] = b[k] := Prod.ext e1 e2
            rw [← e1] at y0
            rw [← e2] at y1
            go_wp2
            go_quiet (fail)
            go_wp2
            go_roundw
            case rel => exact ⟨k + 1, _, by omega, by go_num, sameP_take hlt hlt2 HR.out e, rfl⟩
            case measure => simp [intOf]; omega
          · have HE : Hid (a = b → False) := fun h => e2 (by subst h; rfl)
            rw [← e1] at y0
            have e2' : (a[k].2 == b[k].2) = false := by simpa using e2
            go_wp2
            go_quiet (fail)
            go_wp2
            go_ret
            exact ⟨ret_bool (by simp; exact HE.out), drewN_two _ _ _⟩
        · have HE : Hid (a = b → False) := fun h => e1 (by subst h; rfl)
          have e1' : (a[k].1 == b[k].1) = false := by simpa using e1
          go_wp2
          go_quiet (fail)
          go_wp2
          go_ret
          exact ⟨ret_bool (by simp; exact HE.out), drewN_two _ _ _⟩
      · have HE : Hid (a = b) := by
          have := HR.out
          rw [List.take_of_length_le (by omega), List.take_of_length_le (by omega)] at this
          exact this
        clear hl
        go_wp2
        go_ret
        exact ⟨ret_bool (by simp; exact HE.out), _, rfl⟩
  · have HE : Hid (a = b → False) := fun h => hl (by rw [h])
    have hl' : ((a.length : Int) != (b.length : Int)) = true := by simp; omega
    go_enter Tryz.func23, Tryz.ntmps23
    go_wp2
    go_ret
    exact ⟨ret_bool (by simp; exact HE.out), 0, rfl⟩
set_option maxHeartbeats 1000000 in
theorem kpick_any (c n : Int) (w : World) (hc0 : -9223372036854775808 ≤ c) (hc1 : c ≤ 9223372036854775807) (hn : 0 < n) (hn2 : n ≤ 4194304) :
    Calls Tryz.prog 7 #[.int .i64 c, .int .i64 n] w fun e w' => ∃ r : Int, e = .returned (.int .i64 r) ∧ 0 ≤ r ∧ r < n ∧ w' = w := by
  by_cases h : c < 0
  · have HM : Hid (-(c + 1).tmod n = (-(c + 1)) % n) := by
      show _ = _
      rw [← Int.neg_tmod, Int.tmod_eq_emod_of_nonneg (by omega)]
    go_enter Tryz.func7, Tryz.ntmps7
    go_wp2
    go_ret
    exact ⟨_, rfl, by rw [HM.out]; exact Int.emod_nonneg _ (by omega), by rw [HM.out]; exact Int.emod_lt_of_pos _ hn, rfl⟩
  · go_enter Tryz.func7, Tryz.ntmps7
    go_wp2
    go_ret
    exact ⟨_, rfl, Int.emod_nonneg _ (by omega), Int.emod_lt_of_pos _ hn, rfl⟩
def kdoneL (l : List (Nm × Nm)) (o : Ox) : List (Nm × Nm) := (l.takeWhile fun x => bytesBefore x.1 o.key) ++ (if o.gone then [] else [(o.key, o.val)]) ++ l.filter fun x => bytesBefore o.key x.1
theorem takeWhile_take {l : List (Nm × Nm)} {p : Nm × Nm → Bool} {k : Nat} (h : k < l.length) (ht : (l.take k).all p = true) : (p l[k] = true → (l.take (k + 1)).all p = true) ∧ (p l[k] = false → l.takeWhile p = l.take k) := by
  constructor
  · intro hp
    rw [List.take_succ_eq_append_getElem h, List.all_append, ht]
    simp [hp]
  · intro hp
    induction l generalizing k with
    | nil => simp at h
    | cons x r ih =>
      cases k with
      | zero => simp only [List.getElem_cons_zero] at hp; simp [List.takeWhile, hp]
      | succ k =>
        simp only [List.take_succ_cons, List.all_cons, Bool.and_eq_true] at ht
        simp only [List.getElem_cons_succ] at hp
        rw [List.takeWhile_cons_of_pos ht.1, List.take_succ_cons, ih (by simpa using h) ht.2 hp]
theorem takeWhile_whole {l : List (Nm × Nm)} {p : Nm × Nm → Bool} (ht : l.all p = true) : l.takeWhile p = l := by
  induction l with
  | nil => rfl
  | cons x r ih => simp only [List.all_cons, Bool.and_eq_true] at ht; rw [List.takeWhile_cons_of_pos ht.1, ih ht.2]
end Go.Proofs.YtoabedkcieindabGreatDoor
