import Derived.Test.YtoabedkcieindabGreatDoorQkAF
import Derived.Test.YtoabedkcieindabGreatDoorQkAG
namespace Go.Proofs.YtoabedkcieindabGreatDoor
open Go.RowKit Go.Maps Go.Sort
set_option maxHeartbeats 400000 in
theorem most_any (p : Int) (lv hi : Nat) (w : World) (hlv : lv ≤ 4611686018427387904) (_ : hi ≤ 4611686018427387904) (hp : 0 ≤ p ∧ p ≤ 2) :
    Calls Tryz.prog 329 #[.int .i64 p, .int .i64 lv, .int .i64 hi] w fun e w' => e = .returned (.int .i64 (mostT p lv hi)) ∧ w' = w := by
  obtain ⟨hp0, hp2⟩ := hp
  have H : Hid (mostT p lv hi = if lv = 0 ∨ p = 0 then 4 else if p = 2 ∧ lv < hi then 4 else 1) := rfl
  by_cases h1 : lv = 0
  · subst h1
    have H1 : Hid (mostT p 0 hi = 4) := by show _ = _; rw [H.out]; simp
    go_enter Tryz.func329, Tryz.ntmps329
    go_wp2
    go_ret
    exact ⟨ret_int (by rw [H1.out]; rfl), rfl⟩
  · have n1 : ((lv : Int) == 0) = false := by simp; omega
    by_cases h2 : p = 0
    · subst h2
      have H1 : Hid (mostT 0 lv hi = 4) := by show _ = _; rw [H.out]; simp
      go_enter Tryz.func329, Tryz.ntmps329
      go_wp2
      go_ret
      exact ⟨ret_int (by rw [H1.out]; rfl), rfl⟩
    · have n2 : (p == 0) = false := by simp; omega
      by_cases h3 : p = 2
      · subst h3
        by_cases h4 : lv < hi
        · have H1 : Hid (mostT 2 lv hi = 4) := by show _ = _; rw [H.out, if_neg (by omega), if_pos ⟨rfl, h4⟩]
          go_enter Tryz.func329, Tryz.ntmps329
          go_wp2
          go_ret
          exact ⟨ret_int (by rw [H1.out]; rfl), rfl⟩
        · have H1 : Hid (mostT 2 lv hi = 1) := by show _ = _; rw [H.out, if_neg (by omega), if_neg (by omega)]
          go_enter Tryz.func329, Tryz.ntmps329
          go_wp2
          go_ret
          exact ⟨ret_int (by rw [H1.out]; rfl), rfl⟩
      · have H1 : Hid (mostT p lv hi = 1) := by show _ = _; rw [H.out, if_neg (by omega), if_neg (by omega)]
        have n3 : (p == 2) = false := by simp; omega
        go_enter Tryz.func329, Tryz.ntmps329
        go_wp2
        go_ret
        exact ⟨ret_int (by rw [H1.out]; rfl), rfl⟩
theorem pow4_le {k : Nat} (h : k ≤ 20) : 4096 * 4 ^ k ≤ 4503599627370496 := by
  have : 4 ^ k ≤ 4 ^ 20 := Nat.pow_le_pow_right (by omega) h
  have e : (4 : Nat) ^ 20 = 1099511627776 := by decide
  omega
set_option maxHeartbeats 400000 in
theorem room_any (lv : Nat) (w : World) (hlv : lv ≤ 4611686018427387904) :
    Calls Tryz.prog 330 #[.int .i64 lv] w fun e w' => e = .returned (.int .i64 (roomT lv)) ∧ w' = w := by
  have HM : Hid ((min (lv : Int) 20) = ((min lv 20 : Nat) : Int)) := by show _ = _; omega
  generalize hM : min lv 20 = M at *
  have hM20 : M ≤ 20 := by omega
  have H : Hid (roomT lv = 4096 * 4 ^ M) := by show _ = _; rw [← hM]; rfl
  go_enter Tryz.func330, Tryz.ntmps330
  go_wp2
  rw [HM.out]
  go_loop [3, 6] (fun n i => ∃ k : Nat, k ≤ M ∧ i = .int .i64 k ∧ n = .int .i64 ((4096 * 4 ^ k : Nat) : Int)) (fun _ i => M - (intOf i).toNat)
  case atStart => exact ⟨0, Nat.zero_le _, rfl, rfl⟩
  case round =>
    obtain ⟨k, hk, rfl, rfl⟩ := hrel
    by_cases hlt : k < M
    · have hb := pow4_le (k := k) (by omega)
      have HS : Hid (4096 * 4 ^ (k + 1) = 4096 * 4 ^ k * 4) := by show _ = _; rw [Nat.pow_succ]; omega
      generalize hN : 4096 * 4 ^ k = N at *
      go_wp2
      go_round
      case rel => exact ⟨k + 1, by omega, by go_num, by rw [HS.out]; go_num⟩
      case measure => simp [intOf]; omega
    · have E : Hid (k = M) := by show _ = _; omega
      go_wp2
      go_ret
      rw [E.out, H.out]
      exact ⟨rfl, rfl⟩
theorem roomT_le (lv : Nat) : roomT lv ≤ 4503599627370496 := pow4_le (by omega)
set_option maxHeartbeats 400000 in
theorem Target_any (p : Int) (lv hi bytes : Nat) (w : World) (hlv : lv ≤ 4611686018427387902) (hhi : hi ≤ 4611686018427387904) (_ : bytes ≤ 4611686018427387904) (hp : 0 ≤ p ∧ p ≤ 2) :
    Calls Tryz.prog 271 #[.int .i64 p, .int .i64 lv, .int .i64 hi, .int .i64 bytes] w fun e w' => e = .returned (.int .i64 (targetT p lv hi bytes)) ∧ w' = w := by
  have hm := fun w => most_any p lv hi w (by omega) hhi hp
  have hr := fun w => room_any lv w (by omega)
  have hR := roomT_le lv
  have H : Hid (targetT p lv hi bytes = if mostT p lv hi = 1 ∧ bytes ≤ roomT lv then lv else lv + 1) := rfl
  have hml : mostT p lv hi ≤ 4 := by unfold mostT; split <;> (try split) <;> omega
  generalize hM : mostT p lv hi = M at *
  generalize hRR : roomT lv = R at *
  by_cases h1 : M = 1
  · subst h1
    by_cases h2 : bytes ≤ R
    · have H1 : Hid (targetT p lv hi bytes = lv) := by show _ = _; rw [H.out, if_pos ⟨rfl, h2⟩]
      go_enter Tryz.func271, Tryz.ntmps271
      go_wp2_with (first
        | (go_at_call 329; refine (hm _).mono ?_; rintro e w1 ⟨rfl, rfl⟩)
        | (go_at_call 330; refine (hr _).mono ?_; rintro e w1 ⟨rfl, rfl⟩))
      go_ret
      rw [H1.out]
      exact ⟨rfl, rfl⟩
    · have H1 : Hid (targetT p lv hi bytes = lv + 1) := by show _ = _; rw [H.out, if_neg (by omega)]
      go_enter Tryz.func271, Tryz.ntmps271
      go_wp2_with (first
        | (go_at_call 329; refine (hm _).mono ?_; rintro e w1 ⟨rfl, rfl⟩)
        | (go_at_call 330; refine (hr _).mono ?_; rintro e w1 ⟨rfl, rfl⟩))
      go_ret
      exact ⟨ret_int (by rw [H1.out]; go_num), rfl⟩
  · have H1 : Hid (targetT p lv hi bytes = lv + 1) := by show _ = _; rw [H.out, if_neg (by omega)]
    have n1 : ((M : Int) == 1) = false := by simp; omega
    go_enter Tryz.func271, Tryz.ntmps271
    go_wp2_with (first
      | (go_at_call 329; refine (hm _).mono ?_; rintro e w1 ⟨rfl, rfl⟩)
      | (go_at_call 330; refine (hr _).mono ?_; rintro e w1 ⟨rfl, rfl⟩))
    go_ret
    exact ⟨ret_int (by rw [H1.out]; go_num), rfl⟩
def Inp (w : World) (q : Option Addr) (l : List Nat) : Prop := ∀ i (h : i < l.length), ∃ g off, q = some ⟨g, off, none⟩ ∧ w.cell? ⟨g, off + i, none⟩ = some (.int .i64 l[i])
theorem Inp.below {w w' : World} {q : Option Addr} {l : List Nat} (h : Inp w q l) (hb : Below w.heap.size w w') : Inp w' q l := fun i hi => by
  obtain ⟨g, off, e, h1⟩ := h i hi
  exact ⟨g, off, e, cell_below hb h1⟩
theorem idxOf_at {l : List Nat} {x k : Nat} (h : k < l.length) (he : l[k] = x) (hn : ∀ j (hj : j < k), (l[j]'(by omega)) ≠ x) : l.idxOf x = k := by
  induction l generalizing k with
  | nil => simp at h
  | cons y r ih =>
    match k, h with
    | 0, _ => simp at he; subst he; simp
    | k + 1, h =>
      have h0 := hn 0 (by omega)
      simp only [List.getElem_cons_zero] at h0
      have hb : (y == x) = false := by simpa using h0
      rw [List.idxOf_cons, ih (by simpa using h) (by simpa using he) (fun j hj => by have := hn (j + 1) (by omega); simpa using this), hb]
      rfl
set_option maxHeartbeats 400000 in
theorem indexI_any (q : Option Addr) (qc : Nat) (l : List Nat) (x : Nat) (w : World) (hp : Inp w q l) (hx : x ∈ l) (hl : l.length ≤ 4194304) :
    Calls Tryz.prog 328 #[.slice q l.length qc, .int .i64 x] w fun e w' => e = .returned (.int .i64 (l.idxOf x)) ∧ w' = w := by
  go_enter Tryz.func328, Tryz.ntmps328
  go_wp2
  go_loop [8] (fun i => ∃ k : Nat, k ≤ l.length ∧ i = .int .i64 k ∧ ∀ j (hj : j < k) (hjl : j < l.length), l[j] ≠ x) (fun i => l.length - (intOf i).toNat)
  case atStart => exact ⟨0, Nat.zero_le _, rfl, fun j hj => by omega⟩
  case round =>
    obtain ⟨k, hk, rfl, hn⟩ := hrel
    have HN : Hid (∀ j (hj : j < k) (hjl : j < l.length), l[j] ≠ x) := hn
    clear hn
    by_cases hlt : k < l.length
    · obtain ⟨g, off, rfl, c0⟩ := hp k hlt
      by_cases he : l[k] = x
      · have e0 : ((x : Int) == (l[k] : Int)) = true := by simp [he]
        have E : Hid (l.idxOf x = k) := idxOf_at hlt he (fun j hj => HN.out j hj (by omega))
        go_wp2
        go_ret
        rw [E.out]
        exact ⟨rfl, rfl⟩
      · have e0 : ((x : Int) == (l[k] : Int)) = false := by simp; omega
        go_wp2
        go_round
        case rel => exact ⟨k + 1, by omega, by go_num, fun j hj hjl => by
          rcases Nat.lt_or_ge j k with h | h
          · exact HN.out j h hjl
          · obtain rfl : j = k := by omega
            exact he⟩
        case measure => simp [intOf]; omega
    · exfalso
      obtain ⟨j, hj, hjx⟩ := List.getElem_of_mem hx
      exact HN.out j (by omega) hj hjx
theorem idxOf_le {l : List Nat} {k : Nat} (h : k < l.length) : l.idxOf l[k] ≤ k := by
  induction l generalizing k with
  | nil => simp at h
  | cons y r ih =>
    match k, h with
    | 0, _ => simp
    | k + 1, h =>
      rw [List.idxOf_cons, List.getElem_cons_succ]
      have := ih (k := k) (by simpa using h)
      cases (y == r[k]'(by simpa using h)) <;> simp <;> omega
set_option maxHeartbeats 1000000 in
theorem Crowded_any (p : Int) (q : Option Addr) (qc : Nat) (lv : List Nat) (w : World) (hp : 0 ≤ p ∧ p ≤ 2) (hq : Inp w q lv) (hl : lv.length ≤ 4194304) (hv : ∀ x ∈ lv, x ≤ 4611686018427387904) :
    Calls Tryz.prog 269 #[.int .i64 p, .slice q lv.length qc] w fun e w' => e = .returned (.tuple #[.int .i64 (crowd p lv).1, .int .i64 (crowd p lv).2]) ∧ w' = w := by
  go_enter Tryz.func269, Tryz.ntmps269
  go_wp2
  go_loop [5] (fun i => ∃ n t : Nat, t ≤ n ∧ t ≤ lv.length ∧ i = .int .i64 t ∧ crowdF p lv n t = crowd p lv) (fun i => (intOf i).toNat)
  case atStart => exact ⟨lv.length, lv.length, Nat.le_refl _, Nat.le_refl _, rfl, rfl⟩
  case round =>
    obtain ⟨n, t, h1, h2, rfl, hE⟩ := hrel
    have HE : Hid (crowdF p lv n t = crowd p lv) := hE
    clear hE
    cases t with
    | zero =>
      have E : Hid (crowd p lv = (0, 0)) := by show _ = _; rw [← HE.out]; cases n <;> rfl
      go_wp2
      go_ret2
      rw [E.out]
      exact ⟨rfl, rfl⟩
    | succ t =>
      obtain ⟨n, rfl⟩ : ∃ m, n = m + 1 := ⟨n - 1, by omega⟩
      have ht : t < lv.length := by omega
      have h0 : 0 < lv.length := by omega
      obtain ⟨g, off, rfl, c0⟩ := hq t ht
      obtain ⟨g', off', e', c1⟩ := hq 0 h0
      simp only [Option.some.injEq, Addr.mk.injEq] at e'
      obtain ⟨rfl, rfl, _⟩ := e'
      rw [Nat.add_zero] at c1
      have hx := fun w' (hw : Inp w' _ lv) => indexI_any (some ⟨g, off, none⟩) qc lv lv[t] w' hw (List.getElem_mem ht) hl
      have hm := fun w' => most_any p lv[t] lv[0] w' (hv _ (List.getElem_mem ht)) (hv _ (List.getElem_mem h0)) hp
      have hle := idxOf_le ht
      have hml : mostT p lv[t] lv[0] ≤ 4 := by unfold mostT; split <;> (try split) <;> omega
      have hS : crowdF p lv (n + 1) (t + 1) = if mostT p lv[t] lv[0] < t + 1 - lv.idxOf lv[t] then (lv.idxOf lv[t], t + 1) else crowdF p lv n (lv.idxOf lv[t]) := by
        conv => lhs; unfold crowdF
        have e1 : lv.getD t 0 = lv[t] := by simp [List.getD, ht]
        have e2 : lv.getD 0 0 = lv[0] := by simp [List.getD, h0]
        simp only [e1, e2]
      rw [HE.out] at hS
      have HS : Hid (crowd p lv = if mostT p lv[t] lv[0] < t + 1 - lv.idxOf lv[t] then (lv.idxOf lv[t], t + 1) else crowdF p lv n (lv.idxOf lv[t])) := hS
      clear hS HE
      have HI : Hid (Inp w (some ⟨g, off, none⟩) lv) := hq
      generalize hX : lv.idxOf lv[t] = X at *
      generalize hM : mostT p lv[t] lv[0] = M at *
      have ec : ((t + 1 : Nat) : Int) - 1 = t := by omega
      by_cases hgt : M < t + 1 - X
      · have E : Hid (crowd p lv = (X, t + 1)) := by show _ = _; rw [HS.out, if_pos hgt]
        clear HS
        go_wp2_with (first
          | (go_at_call 328; refine (hx _ HI.out).mono ?_; rintro e w1 ⟨rfl, rfl⟩)
          | (go_at_call 329; refine (hm _).mono ?_; rintro e w1 ⟨rfl, rfl⟩))
        go_ret2
        rw [E.out]
        exact ⟨rfl, rfl⟩
      · have E : Hid (crowdF p lv n X = crowd p lv) := by show _ = _; rw [HS.out, if_neg hgt]
        clear HS
        go_wp2_with (first
          | (go_at_call 328; refine (hx _ HI.out).mono ?_; rintro e w1 ⟨rfl, rfl⟩)
          | (go_at_call 329; refine (hm _).mono ?_; rintro e w1 ⟨rfl, rfl⟩))
        go_round
        case rel => exact ⟨n, X, by omega, by omega, rfl, E.out⟩
        case measure => simp [intOf]; omega
end Go.Proofs.YtoabedkcieindabGreatDoor

namespace Go.Proofs.YtoabedkcieindabGreatDoor
open Go.RowKit Go.Maps Go.Sort
theorem Tryz.infoN : (Tryz.prog.info? 3).map (fun i => (i.zero, i.size, i.bytes)) = some (some (.int .i64 0), 1, 8) := by kernel_rfl
theorem Tryz.infoPl : (Tryz.prog.info? 245).map (fun i => (i.zero, i.size, i.bytes)) = some (some (.agg #[.int .i64 0, .int .i64 0]), 2, 16) := by kernel_rfl
abbrev encN (n : Nat) : Value := .int .i64 n
def OwnN (w : World) (base : Nat) (v : Value) (l : List Nat) : Prop := w.ownsRow base 3 1 v l.length (l.map encN)
theorem OwnN.inp {w : World} {base : Nat} {v : Value} {l : List Nat} (h : OwnN w base v l) : ∃ q cap, v = .slice q l.length cap ∧ Inp w q l := by
  rcases h.2 with ⟨hv, hn⟩ | ⟨g, cap, cur, hv, hb, hgg, _⟩
  · exact ⟨none, 0, by rw [hv, hn], fun i hi => by omega⟩
  · refine ⟨_, cap, hv, fun i hi => ⟨g, 0, rfl, ?_⟩⟩
    have hc := World.ownsRow.cells h (g := g) (by rw [hv]; rfl) i (encN l[i]) (by simp [hi])
    rwa [Addr.add_lit] at hc
set_option maxHeartbeats 1000000 in
set_option maxRecDepth 20000 in
theorem levels_any (q : Option Addr) (qc : Nat) (ts : List Tb) (w : World) (hp : Tbp w q ts) (hl : ts.length ≤ 1048576) :
    Calls Tryz.prog 270 #[.slice q ts.length qc] w fun e w' => ∃ v, e = .returned v ∧ Below w.heap.size w w' ∧ OwnN w' w.heap.size v (ts.map (·.level)) := by
  obtain ⟨i0, hi0, hz0, hz1, hz2⟩ := info_parts Tryz.infoN
  go_enter Tryz.func270, Tryz.ntmps270
  go_wp2
  go_loopw [3, 8] (fun v i wr => ∃ k : Nat, k ≤ ts.length ∧ i = .int .i64 k ∧ OwnN wr w.heap.size v ((ts.take k).map (·.level)) ∧ Below w.heap.size w wr) (fun _ i _ => ts.length - (intOf i).toNat)
  case atStart => exact ⟨0, Nat.zero_le _, rfl, World.ownsRow_nil _ _ _ _, Below.refl _ _⟩
  case round =>
    obtain ⟨k, hk, rfl, hown, hb⟩ := hrel
    have hs := hb.size
    by_cases hlt : k < ts.length
    · obtain ⟨g, off, p, cap, rfl, c0, c1, c2, hc, he⟩ := hp.below hb k hlt
      have HT : Hid ((ts.take (k + 1)).map (·.level) = (ts.take k).map (·.level) ++ [ts[k].level]) := by show _ = _; rw [List.take_succ_eq_append_getElem hlt, List.map_append]; rfl
      have hlk : ((ts.take k).map (·.level)).length = k := by simp; omega
      generalize (ts.take k).map (·.level) = L at *
      subst hlk
      go_wp2_with (first
        | (at_builtin; refine wpList_append_own _ rfl (.tmp 12) (.tmp 15) 58 rfl w.heap.size 3 i0 _ 1 8 Tryz.underlying58 hi0 hz0 hz1 hz2 rfl (by decide) _ L.length (L.map encN) rfl (World.ownsRow.alloc (World.ownsRow.alloc hown _) _) ⟨wr.heap.size + 1, 0, none⟩ 1 1 [encN ts[L.length].level] rfl rfl ?_ (by simp [Value.oneCell']) (by unfold maxLen; omega) (by omega) (by simp; omega) ?_; rotate_left; intro v' w2 hown' hgrow _)
        | go_in)
      · go_roundw
        case rel => exact ⟨L.length + 1, by omega, by go_num, by rw [HT.out]; unfold OwnN; rw [List.length_append, List.map_append]; exact hown', ((hb.alloc hs _).alloc (by simp; omega) _).grown hgrow (by simp; omega) (fun k hk => (World.ownsRow.lt hown k hk).1)⟩
        case measure => simp [intOf]; omega
      · intro j u hu
        rw [Addr.add_lit, Nat.zero_add]
        have := block_new (wr.alloc (.cells #[.int .i64 ts[L.length].number, .int .i64 ts[L.length].level, .slice p ts[L.length].es.length cap] 114)) (.cells #[encN ts[L.length].level] 3)
        rw [World.size_alloc] at this
        rw [cell_block this]
        simpa using hu
    · have E : Hid (ts.take k = ts) := List.take_of_length_le (by omega)
      rw [E.out] at hown
      obtain ⟨a, cap, rfl, _⟩ := hown.inp
      go_wp2
      go_ret
      exact ⟨_, rfl, hb, hown⟩
def plOf (t : Tb) : Pl := ⟨t.number, t.level⟩
def flatPl (l : List Pl) : List Value := l.flatMap fun p => [encN p.number, encN p.level]
theorem flatPl_snoc (l : List Pl) (p : Pl) : flatPl (l ++ [p]) = flatPl l ++ [encN p.number, encN p.level] := by simp [flatPl]
def OwnPl (w : World) (base : Nat) (v : Value) (l : List Pl) : Prop := w.ownsRow base 245 2 v l.length (flatPl l)
theorem flatPl_at : ∀ (l : List Pl) (i : Nat) (h : i < l.length), (flatPl l)[i * 2]? = some (encN l[i].number) ∧ (flatPl l)[i * 2 + 1]? = some (encN l[i].level)
  | x :: r, 0, _ => ⟨rfl, rfl⟩
  | x :: r, i + 1, h => by
    have ih := flatPl_at r i (by simpa using h)
    show (encN x.number :: encN x.level :: flatPl r)[(i + 1) * 2]? = _ ∧ (encN x.number :: encN x.level :: flatPl r)[(i + 1) * 2 + 1]? = _
    rw [show (i + 1) * 2 = i * 2 + 1 + 1 by omega]
    simpa using ih
def Plp (w : World) (q : Option Addr) (l : List Pl) : Prop := ∀ i (h : i < l.length), ∃ g off, q = some ⟨g, off, none⟩ ∧ w.cell? ⟨g, off + i * 2, none⟩ = some (encN l[i].number) ∧ w.cell? ⟨g, off + i * 2 + 1, none⟩ = some (encN l[i].level)
theorem Plp.below {w w' : World} {q : Option Addr} {l : List Pl} (h : Plp w q l) (hb : Below w.heap.size w w') : Plp w' q l := fun i hi => by
  obtain ⟨g, off, e, h1, h2⟩ := h i hi
  exact ⟨g, off, e, cell_below hb h1, cell_below hb h2⟩
theorem OwnPl.plp {w : World} {base : Nat} {v : Value} {l : List Pl} (h : OwnPl w base v l) : ∃ q cap, v = .slice q l.length cap ∧ Plp w q l := by
  rcases h.2 with ⟨hv, hn⟩ | ⟨g, cap, cur, hv, hb, hgg, _⟩
  · exact ⟨none, 0, by rw [hv, hn], fun i hi => by omega⟩
  · refine ⟨_, cap, hv, fun i hi => ?_⟩
    have hc := World.ownsRow.cells h (g := g) (by rw [hv]; rfl)
    obtain ⟨k0, k1⟩ := flatPl_at l i hi
    refine ⟨g, 0, rfl, ?_, ?_⟩
    · have := hc _ _ k0; rwa [Addr.add_lit] at this
    · have := hc _ _ k1; rwa [Addr.add_lit, ← Nat.add_assoc] at this
set_option maxHeartbeats 1000000 in
set_option maxRecDepth 20000 in
theorem places_any (q : Option Addr) (qc : Nat) (ts : List Tb) (w : World) (hp : Tbp w q ts) (hl : ts.length ≤ 1048576) :
    Calls Tryz.prog 128 #[.slice q ts.length qc] w fun e w' => ∃ v, e = .returned v ∧ Below w.heap.size w w' ∧ OwnPl w' w.heap.size v (ts.map plOf) := by
  obtain ⟨i0, hi0, hz0, hz1, hz2⟩ := info_parts Tryz.infoPl
  go_enter Tryz.func128, Tryz.ntmps128
  go_wp2
  go_loopw [3, 8] (fun v i wr => ∃ k : Nat, k ≤ ts.length ∧ i = .int .i64 k ∧ OwnPl wr w.heap.size v ((ts.take k).map plOf) ∧ Below w.heap.size w wr) (fun _ i _ => ts.length - (intOf i).toNat)
  case atStart => exact ⟨0, Nat.zero_le _, rfl, World.ownsRow_nil _ _ _ _, Below.refl _ _⟩
  case round =>
    obtain ⟨k, hk, rfl, hown, hb⟩ := hrel
    have hs := hb.size
    by_cases hlt : k < ts.length
    · obtain ⟨g, off, p, cap, rfl, c0, c1, c2, hc, he⟩ := hp.below hb k hlt
      have HT : Hid ((ts.take (k + 1)).map plOf = (ts.take k).map plOf ++ [plOf ts[k]]) := by show _ = _; rw [List.take_succ_eq_append_getElem hlt, List.map_append]; rfl
      have hlk : ((ts.take k).map plOf).length = k := by simp; omega
      generalize (ts.take k).map plOf = L at *
      subst hlk
      go_wp2_with (first
        | (at_builtin; refine wpList_append_own _ rfl (.tmp 12) (.tmp 18) 180 rfl w.heap.size 245 i0 _ 2 16 Tryz.underlying180 hi0 hz0 hz1 hz2 rfl (by decide) _ L.length (flatPl L) rfl (World.ownsRow.alloc (World.ownsRow.alloc hown _) _) ⟨wr.heap.size + 1, 0, none⟩ 1 1 [encN ts[L.length].number, encN ts[L.length].level] rfl rfl ?_ (by simp [Value.oneCell']) (by unfold maxLen; omega) (by omega) (by simp; omega) ?_; rotate_left; intro v' w2 hown' hgrow _)
        | go_in)
      · go_roundw
        case rel => exact ⟨L.length + 1, by omega, by go_num, by rw [HT.out]; unfold OwnPl; rw [List.length_append, flatPl_snoc]; exact hown', ((hb.alloc hs _).alloc (by simp; omega) _).grown hgrow (by simp; omega) (fun k hk => (World.ownsRow.lt hown k hk).1)⟩
        case measure => simp [intOf]; omega
      · intro j u hu
        rw [Addr.add_lit, Nat.zero_add]
        have := block_new (wr.alloc (.cells #[.int .i64 ts[L.length].number, .int .i64 ts[L.length].level, .slice p ts[L.length].es.length cap] 114)) (.cells #[encN ts[L.length].number, encN ts[L.length].level] 245)
        rw [World.size_alloc] at this
        rw [cell_block this]
        simpa using hu
    · have E : Hid (ts.take k = ts) := List.take_of_length_le (by omega)
      rw [E.out] at hown
      obtain ⟨a, cap, rfl, _⟩ := hown.plp
      go_wp2
      go_ret
      exact ⟨_, rfl, hb, hown⟩
def manBody (m : Man) (k : Nat) : List UInt8 := be8 m.next ++ (be8 m.log ++ (m.tabs.take k).flatMap encPl)
theorem manBody_snoc {m : Man} {k : Nat} (h : k < m.tabs.length) : manBody m (k + 1) = manBody m k ++ be8 m.tabs[k].number ++ be8 m.tabs[k].level := by
  unfold manBody; rw [List.take_succ_eq_append_getElem h, List.flatMap_append]; simp [encPl]
end Go.Proofs.YtoabedkcieindabGreatDoor

namespace Go.Proofs.YtoabedkcieindabGreatDoor
open Go.RowKit Go.Maps Go.Sort
theorem Tryz.info114 : (Tryz.prog.info? 114).map (fun i => (i.zero, i.size, i.bytes)) = some (some (.agg #[.int .i64 0, .int .i64 0, .slice none 0 0]), 3, 40) := by kernel_rfl
abbrev Tr := Tb × Sl
def tbC (x : Tr) : List Value := [.int .i64 x.1.number, .int .i64 x.1.level, slV x.2]
theorem tbC_len (x : Tr) : (tbC x).length = 3 := rfl
theorem tbC_one (x : Tr) : ∀ u ∈ tbC x, u.oneCell' = true := by intro u hu; simp [tbC] at hu; rcases hu with rfl | rfl | rfl <;> rfl
abbrev OwnT (w : World) (base : Nat) (v : Value) (l : List Tr) : Prop := OwnR 114 tbC 3 w base v l
structure TrAt (w : World) (s : Sl) (l : List Tr) : Prop where
  len : s.2.1 = l.length
  cap : l.length ≤ s.2.2
  nil : s.1 = none → s.2.2 = 0 ∧ l = []
  pl : ∀ a, s.1 = some a → ∃ g off, a = ⟨g, off, none⟩
  row : Rp tbC 3 w s.1 l
theorem TrAt.below {w w' : World} {s : Sl} {l : List Tr} (h : TrAt w s l) (k : Below w.heap.size w w') : TrAt w' s l := ⟨h.len, h.cap, h.nil, h.pl, h.row.below k⟩
theorem OwnR.trAt {w : World} {base : Nat} {v : Value} {l : List Tr} (h : OwnT w base v l) : ∃ s : Sl, v = slV s ∧ TrAt w s l ∧ ∀ a, s.1 = some a → base ≤ a.block ∧ a.block < w.heap.size := by
  obtain ⟨q, cap, rfl, hc, hr, hn, hb⟩ := h.rp tbC_len
  refine ⟨(q, l.length, cap), rfl, ⟨rfl, hc, hn, fun a ha => ?_, hr⟩, hb⟩
  rcases World.ownsRow.shapeE h with h' | ⟨g, c, h'⟩
  · cases (Value.slice.inj h').1; cases ha
  · have := (Value.slice.inj h').1
    rw [show q = some a from ha] at this
    cases this
    exact ⟨g, 0, rfl⟩
def TrEs (w : World) (l : List Tr) : Prop := ∀ x ∈ l, SlAt w x.2 x.1.es
theorem TrEs.below {w w' : World} {l : List Tr} (h : TrEs w l) (k : Below w.heap.size w w') : TrEs w' l := fun x hx => (h x hx).below k
theorem TrAt.tbp {w : World} {s : Sl} {l : List Tr} (h : TrAt w s l) (he : TrEs w l) : Tbp w s.1 (l.map (·.1)) := fun i hi => by
  rw [List.length_map] at hi
  obtain ⟨g, off, e, c0⟩ := h.row i hi 0 _ rfl
  obtain ⟨_, _, e1, c1⟩ := h.row i hi 1 _ rfl
  obtain ⟨_, _, e2, c2⟩ := h.row i hi 2 _ rfl
  rw [e] at e1 e2
  cases e1; cases e2
  have hs := he _ (List.getElem_mem hi)
  simp only [List.getElem_map]
  exact ⟨g, off, l[i].2.1, l[i].2.2.2, e, c0, c1, by rw [← hs.len]; exact c2, hs.cap, hs.row⟩
structure Ltp (w : World) (q : Option Addr) (xs : List (Sl × List Tr)) : Prop where
  row : Rp slC 1 w q (xs.map (·.1))
  each : ∀ x ∈ xs, TrAt w x.1 x.2
theorem Ltp.below {w w' : World} {q : Option Addr} {xs : List (Sl × List Tr)} (h : Ltp w q xs) (k : Below w.heap.size w w') : Ltp w' q xs := ⟨h.row.below k, fun x hx => (h.each x hx).below k⟩
theorem Ltp.at {w : World} {q : Option Addr} {xs : List (Sl × List Tr)} (h : Ltp w q xs) (i : Nat) (hi : i < xs.length) : ∃ g off, q = some ⟨g, off, none⟩ ∧ w.cell? ⟨g, off + i, none⟩ = some (slV xs[i].1) := by
  obtain ⟨g, off, e, hc⟩ := h.row i (by simpa using hi) 0 (slV xs[i].1) (by simp [slC])
  exact ⟨g, off, e, by simpa using hc⟩
set_option maxHeartbeats 2000000 in
set_option maxRecDepth 20000 in
theorem growT_nil (n : Nat) (w : World) (hn : n ≤ 1000000) :
    Calls Tryz.prog 189 #[.slice none 0 0, .int .i64 n] w fun e w' => ∃ v, e = .returned v ∧ Below w.heap.size w w' ∧ OwnT w' w.heap.size v [] := by
  by_cases h0 : n = 0
  · subst h0
    go_enter Tryz.func189, Tryz.ntmps189
    go_wp2
    go_ret
    exact ⟨_, rfl, Below.refl _ _, OwnR.nil _ _ _ _ _⟩
  · obtain ⟨i0, hi, hz0, hz1, hz2⟩ := info_parts Tryz.info114
    have hold : (Builtin.firstCells i0.size 0 (.slice none 0 0)).run Tryz.prog w.drew = .ok ([] : List Value).toArray w.drew := run_firstCells_none w.drew i0.size 0 0 0
    have hrz := fun ty => Lib.run_append_grow_zeros w 108 3 ty 114 i0 _ .i64 .i64 Tryz.underlying108 Tryz.underlying3 hi hz0 none 0 0 [] hold n (by omega) (by omega) (by omega) (by omega) (by rw [hz2]; omega) (growslice_fits (by omega) (by rw [hz2]; omega))
    rw [Nat.zero_add] at hrz
    have hGn := grownCap_ge w n 0 114
    have hGm := grownCap_le_maxLen w n 0 114 (by unfold maxLen; omega)
    generalize grownCap w n 0 114 = G at *
    have hGi : G ≤ 9223372036854775807 := by unfold maxLen at hGm; omega
    go_enter Tryz.func189, Tryz.ntmps189
    go_wp2_with (at_builtin; refine Lib.wpList_append_run _ rfl _ _ _ _ rfl _ _ rfl rfl _ _ (hrz _) ?_)
    all_goals go_ret
    all_goals exact ⟨_, rfl, ((Below.refl _ w).alloc (Nat.le_refl _) _).drew, OwnR.drew (World.ownsRow_made (e := 114) (size := 3) w _ G (Nat.le_refl _) hGm (by simp [size_zeroCells]; omega))⟩
def sumT (xs : List (Sl × List Tr)) : Nat := (xs.map fun x => x.2.length).sum
def catT (xs : List (Sl × List Tr)) : List Tr := xs.flatMap (·.2)
theorem sumT_snoc {xs : List (Sl × List Tr)} {k : Nat} (h : k < xs.length) : sumT (xs.take (k + 1)) = sumT (xs.take k) + xs[k].2.length := by
  unfold sumT; rw [List.take_succ_eq_append_getElem h]; simp only [List.map_append, List.sum_append, List.map_cons, List.map_nil, List.sum_cons, List.sum_nil]; omega
theorem sumT_take (xs : List (Sl × List Tr)) (k : Nat) : sumT (xs.take k) ≤ sumT xs := by
  conv => rhs; rw [← List.take_append_drop k xs]
  simp only [sumT, List.map_append, List.sum_append]; omega
theorem catT_snoc {xs : List (Sl × List Tr)} {k : Nat} (h : k < xs.length) : catT (xs.take (k + 1)) = catT (xs.take k) ++ xs[k].2 := by
  unfold catT; rw [List.take_succ_eq_append_getElem h, List.flatMap_append, List.flatMap_singleton]
theorem catT_len (xs : List (Sl × List Tr)) : (catT xs).length = sumT xs := by simp [catT, sumT]
set_option maxHeartbeats 2000000 in
set_option maxRecDepth 20000 in
theorem concatT_any (q : Option Addr) (qc : Nat) (xs : List (Sl × List Tr)) (w : World) (hp : Ltp w q xs) (hl : xs.length ≤ 1000000) (hs : sumT xs ≤ 1000000) :
    Calls Tryz.prog 120 #[.slice q xs.length qc] w fun e w' => ∃ v, e = .returned v ∧ Below w.heap.size w w' ∧ OwnT w' w.heap.size v (catT xs) := by
  go_enter Tryz.func120, Tryz.ntmps120
  go_wp2
  go_loop [3, 11] (fun n i => ∃ k : Nat, k ≤ xs.length ∧ i = .int .i64 k ∧ n = .int .i64 (sumT (xs.take k))) (fun _ i => xs.length - (intOf i).toNat)
  case atStart => exact ⟨0, Nat.zero_le _, rfl, rfl⟩
  case round =>
    obtain ⟨k, hk, rfl, rfl⟩ := hrel
    by_cases hlt : k < xs.length
    · obtain ⟨g, off, rfl, c0⟩ := hp.at k hlt
      have hsl := hp.each _ (List.getElem_mem hlt)
      have hln := hsl.len
      have HS : Hid (sumT (xs.take (k + 1)) = sumT (xs.take k) + xs[k].1.2.1) := by show _ = _; rw [sumT_snoc hlt, hln]
      have hle : sumT (xs.take k) + xs[k].1.2.1 ≤ 1000000 := by rw [← HS.out]; exact Nat.le_trans (sumT_take _ _) hs
      generalize hN : sumT (xs.take k) = N at *
      go_wp2
      go_round
      case rel => exact ⟨k + 1, by omega, by go_num, by rw [HS.out]; go_num⟩
      case measure => simp [intOf]; omega
    · have E : Hid (xs.take k = xs) := List.take_of_length_le (by omega)
      rw [E.out]
      have hG := growT_nil (sumT xs) w hs
      generalize hN : sumT xs = N at *
      go_wp2_with (go_at_call 189; refine hG.mono ?_; rintro e w1 ⟨v1, rfl, hb1, hown1⟩; obtain ⟨a1, cap1, rfl⟩ := hown1.shape)
      have hs1 := hb1.size
      have hp1 := hp.below hb1
      go_loopw [6, 27] (fun v i wr => ∃ j : Nat, j ≤ xs.length ∧ i = .int .i64 j ∧ OwnT wr w.heap.size v (catT (xs.take j)) ∧ Below w.heap.size w wr) (fun _ i _ => xs.length - (intOf i).toNat)
      case atStart => exact ⟨0, Nat.zero_le _, rfl, hown1, hb1⟩
      case round =>
        obtain ⟨j, hj, rfl, hown, hb⟩ := hrel
        have hsr := hb.size
        by_cases hlt : j < xs.length
        · have hpr := hp.below hb
          obtain ⟨g, off, rfl, c0⟩ := hpr.at j hlt
          have hsl := hpr.each _ (List.getElem_mem hlt)
          have hC := catT_snoc hlt
          have HC : Hid (catT (xs.take (j + 1)) = catT (xs.take j) ++ xs[j].2) := hC
          have hle : (catT (xs.take j)).length + xs[j].2.length ≤ 1000000 := by rw [← List.length_append, ← hC, catT_len]; exact Nat.le_trans (sumT_take _ _) (by omega)
          clear hC
          obtain ⟨a2, cap2, rfl⟩ := hown.shape
          go_wp2_with (at_builtin; refine wpList_appR _ rfl (.tmp 31) (.tmp 32) 114 108 Tryz.info114 rfl (by decide) Tryz.underlying108 tbC_len tbC_one rfl w.heap.size _ _ xs[j].2 xs[j].1.1 xs[j].1.2.2 rfl (by rw [← hsl.len]; rfl) hsr hown hsl.nil hsl.pl hsl.row (by omega) (by omega) ?_; intro v3 w3 hown3 kp3; have hb3 := hown.belowOwn hsr kp3; obtain ⟨a3, cap3, rfl⟩ := hown3.shape)
          go_roundw
          case rel => exact ⟨j + 1, by omega, by go_num, by rw [HC.out]; rwa [List.length_append] at hown3, hb.trans hb3⟩
          case measure => simp [intOf]; omega
        · have E2 : Hid (xs.take j = xs) := List.take_of_length_le (by omega)
          rw [E2.out] at hown
          obtain ⟨a2, cap2, rfl⟩ := hown.shape
          go_wp2
          go_ret
          exact ⟨_, rfl, hb, hown⟩
end Go.Proofs.YtoabedkcieindabGreatDoor
