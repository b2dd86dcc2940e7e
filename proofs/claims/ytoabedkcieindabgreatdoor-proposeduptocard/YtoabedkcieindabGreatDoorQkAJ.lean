import Derived.Test.YtoabedkcieindabGreatDoorQkAG
import Derived.Test.YtoabedkcieindabGreatDoorQkAF
import Derived.Test.YtoabedkcieindabGreatDoorQkAA
import Derived.Deep.RegionHeld3
import Derived.RangeFuncCalls
import Derived.OrdersIn
import Derived.OwnWalkIn
namespace Go.Proofs.YtoabedkcieindabGreatDoor
open Go.RowKit Go.Maps Go.Sort
def Izp (w : World) (q : Option Addr) (l : List Int) : Prop := ∀ i (h : i < l.length), ∃ g off, q = some ⟨g, off, none⟩ ∧ w.cell? ⟨g, off + i, none⟩ = some (.int .i64 l[i])
theorem Izp.below {w w' : World} {q : Option Addr} {l : List Int} (h : Izp w q l) (hb : Below w.heap.size w w') : Izp w' q l := fun i hi => by
  obtain ⟨g, off, e, h1⟩ := h i hi
  exact ⟨g, off, e, cell_below hb h1⟩
def seenB (a p b : Int) : Bool := decide (a ≤ b) && decide (b < p)
set_option maxHeartbeats 1000000 in
theorem seen1_any (b : Int) (B1 B2 B3 : Nat) (V : Ly) (s : Sl) (i : Nat) (hi : i + 1 < V.length) (w : World) (h1 : w.cell? ⟨B1, 3, none⟩ = some (.int .i64 V[i + 1].batch)) (h2 : w.cell? ⟨B2, 0, none⟩ = some (slV s)) (h3 : w.cell? ⟨B3, 0, none⟩ = some (.int .i64 (i + 1 : Nat))) (hs : SlAt w s V) (hl : V.length ≤ 1000000) :
    Calls Tryz.prog 284 #[.int .i64 b, .pointer (some ⟨B1, 0, none⟩), .pointer (some ⟨B2, 0, none⟩), .pointer (some ⟨B3, 0, none⟩)] w fun e w' => e = .returned (.bool (seenB V[i + 1].batch V[i].batch b)) ∧ w' = w := by
  obtain ⟨g, off, hq, c0, c1, c2, c3⟩ := hs.row i (by omega)
  obtain ⟨sa, sn, sc⟩ := s
  have hln : sn = V.length := hs.len
  simp only at hq
  subst hq hln
  replace h2 : w.cell? ⟨B2, 0, none⟩ = some (.slice (some ⟨g, off, none⟩) V.length sc) := h2
  have ec : ((i + 1 : Nat) : Int) - 1 = i := by omega
  have H : Hid (seenB V[i + 1].batch V[i].batch b = (decide (V[i + 1].batch ≤ b) && decide (b < V[i].batch))) := rfl
  clear c0 c1 c2
  generalize V[i + 1].batch = a at *
  generalize V[i].batch = p at *
  by_cases h : a ≤ b
  · go_enter Tryz.func284, Tryz.ntmps284
    go_wp2
    go_ret
    exact ⟨ret_bool (by rw [H.out]; simp [h]), rfl⟩
  · go_enter Tryz.func284, Tryz.ntmps284
    go_wp2
    go_ret
    exact ⟨ret_bool (by rw [H.out, decide_eq_false (by omega)]; rfl), rfl⟩
def HasB (r : Int) (x : Bool) : Prop := 0 ≤ r ↔ x = true
set_option maxHeartbeats 1000000 in
theorem indexFI_any (q : Option Addr) (qc : Nat) (bs : List Int) (P : Int → Bool) (p1 p2 p3 : Value) (w : World) (hp : Izp w q bs) (hl : bs.length ≤ 1000000)
    (hf : ∀ b, Calls Tryz.prog 284 #[.int .i64 b, p1, p2, p3] w fun e w' => e = .returned (.bool (P b)) ∧ w' = w) :
    Calls Tryz.prog 338 #[.slice q bs.length qc, .func (.func 284) #[] #[p1, p2, p3]] w fun e w' => ∃ r : Int, e = .returned (.int .i64 r) ∧ HasB r (bs.any P) ∧ w' = w := by
  go_enter Tryz.func338, Tryz.ntmps338
  go_wp2
  go_loop [8] (fun i => ∃ k : Nat, k ≤ bs.length ∧ i = .int .i64 k ∧ (bs.take k).any P = false) (fun i => bs.length - (intOf i).toNat)
  case atStart => exact ⟨0, Nat.zero_le _, rfl, rfl⟩
  case round =>
    obtain ⟨k, hk, rfl, hn⟩ := hrel
    by_cases hlt : k < bs.length
    · obtain ⟨g, off, rfl, c0⟩ := hp k hlt
      have hfk := hf bs[k]
      have HA : Hid ((bs.take (k + 1)).any P = P bs[k]) := by show _ = _; rw [List.take_succ_eq_append_getElem hlt, List.any_append, hn]; simp
      cases hP : P bs[k] with
      | true =>
        have E : Hid (bs.any P = true) := List.any_eq_true.2 ⟨bs[k], List.getElem_mem hlt, hP⟩
        rw [hP] at hfk
        clear hn
        go_wp2_with (go_at_call 284; refine hfk.mono ?_; rintro e w1 ⟨rfl, rfl⟩)
        go_ret
        exact ⟨_, rfl, (by rw [E.out]; exact ⟨fun _ => rfl, fun _ => by omega⟩), rfl⟩
      | false =>
        have HA2 : Hid ((bs.take (k + 1)).any P = false) := by show _ = _; rw [HA.out, hP]
        rw [hP] at hfk
        clear hn
        go_wp2_with (go_at_call 284; refine hfk.mono ?_; rintro e w1 ⟨rfl, rfl⟩)
        go_round
        case rel => exact ⟨k + 1, by omega, by go_num, HA2.out⟩
        case measure => simp [intOf]; omega
    · rw [List.take_of_length_le (by omega)] at hn
      have E : Hid (bs.any P = false) := hn
      clear hn
      go_wp2
      go_ret
      exact ⟨_, rfl, (by rw [E.out]; exact ⟨fun h => by omega, fun h => by cases h⟩), rfl⟩
set_option maxHeartbeats 1000000 in
theorem containsF_any (q : Option Addr) (qc : Nat) (bs : List Int) (P : Int → Bool) (p1 p2 p3 : Value) (w : World) (hp : Izp w q bs) (hl : bs.length ≤ 1000000)
    (hf : ∀ b, Calls Tryz.prog 284 #[.int .i64 b, p1, p2, p3] w fun e w' => e = .returned (.bool (P b)) ∧ w' = w) :
    Calls Tryz.prog 285 #[.slice q bs.length qc, .func (.func 284) #[] #[p1, p2, p3]] w fun e w' => e = .returned (.bool (bs.any P)) ∧ w' = w := by
  have h := indexFI_any q qc bs P p1 p2 p3 w hp hl hf
  go_enter Tryz.func285, Tryz.ntmps285
  go_wp2_with (go_at_call 338; refine h.mono ?_; rintro e w1 ⟨r, rfl, hr, rfl⟩)
  go_ret
  refine ⟨ret_bool ?_, rfl⟩
  have h2 : 0 ≤ r ↔ bs.any P = true := hr
  rw [Bool.eq_iff_iff, ← h2]
  simp
end Go.Proofs.YtoabedkcieindabGreatDoor

namespace Go.Proofs.YtoabedkcieindabGreatDoor
open Go.RowKit Go.Maps Go.Sort
def lastB (p : Int) (l : Ly) : Int := (l.getLast?.map (·.batch)).getD p
theorem keepV_snoc (bs : List Int) : ∀ (p : Int) (l : Ly) (x : En), keepV bs p (l ++ [x]) = keepV bs p l ++ (if bs.any (seenB x.batch (lastB p l)) then [x] else [])
  | p, [], x => by
    simp only [List.nil_append, keepV, lastB, List.getLast?_nil, Option.map_none, Option.getD_none]
    rfl
  | p, e :: r, x => by
    have ih := keepV_snoc bs e.batch r x
    have hl : lastB p (e :: r) = lastB e.batch r := by
      cases r with
      | nil => rfl
      | cons y r => simp [lastB, List.getLast?_cons]
    rw [List.cons_append, keepV, keepV, hl, ih]
    split <;> simp
theorem keepA_one (bs : List Int) {V : Ly} (h : 0 < V.length) : keepA bs (V.take 1) = [V[0]] := by
  cases V with
  | nil => simp at h
  | cons e r => simp [keepA, keepV]
theorem keepA_snoc (bs : List Int) {V : Ly} {k : Nat} (h : k + 1 < V.length) : keepA bs (V.take (k + 2)) = keepA bs (V.take (k + 1)) ++ (if bs.any (seenB V[k + 1].batch V[k].batch) then [V[k + 1]] else []) := by
  cases V with
  | nil => simp at h
  | cons e r =>
    have hr : k < r.length := by simpa using h
    simp only [List.take_succ_cons, keepA, List.getElem_cons_succ, List.cons_append]
    rw [List.take_succ_eq_append_getElem hr, keepV_snoc]
    congr 3
    cases k with
    | zero => rfl
    | succ k =>
      have : lastB e.batch (r.take (k + 1)) = (r[k]'(by omega)).batch := by
        unfold lastB
        rw [List.take_succ_eq_append_getElem (by omega), List.getLast?_append]
        rfl
      rw [this]
      rfl
theorem keepV_len (bs : List Int) : ∀ (p : Int) (l : Ly), (keepV bs p l).length ≤ l.length
  | _, [] => by simp [keepV]
  | p, e :: r => by
    have := keepV_len bs e.batch r
    rw [keepV]; split <;> simp <;> omega
theorem keepA_len (bs : List Int) (l : Ly) : (keepA bs l).length ≤ l.length := by
  cases l with
  | nil => simp [keepA]
  | cons e r => simpa [keepA] using keepV_len bs e.batch r
theorem strip_gone {l : Ly} {x : En} (h : x.op.gone = true) : strip (l ++ [x]) = strip l := by
  induction l with
  | nil => simp [strip, h]
  | cons e r ih => rw [List.cons_append, strip, ih, strip]
theorem strip_live {l : Ly} {x : En} (h : x.op.gone = false) : strip (l ++ [x]) = l ++ [x] := by
  induction l with
  | nil => simp [strip, h]
  | cons e r ih =>
    rw [List.cons_append, strip, ih]
    cases hr : r ++ [x] with
    | nil => simp at hr
    | cons f s => rfl
theorem rp_one {W : World} (e : En) : Rp enC 4 (W.alloc (.cells #[str e.op.key, str e.op.val, .bool e.op.gone, .int .i64 e.batch] 226)) (some ⟨W.heap.size, 0, none⟩) [e] := by
  intro i hi j u hu
  obtain rfl : i = 0 := by simpa using hi
  refine ⟨_, _, rfl, ?_⟩
  rw [cell_block (block_new W _)]
  simpa [enC] using hu
theorem OwnR.drop1 {w : World} {base : Nat} {a : Option Addr} {n cap : Nat} {l : Ly} {x : En} (h : OwnE w base (.slice a n cap) (l ++ [x])) : OwnE w base (.slice a l.length cap) l := by
  refine ⟨flatR_len enC_len l, ?_⟩
  rcases h.2 with ⟨hv, hn⟩ | ⟨g, cap', cur, hv, hb, hg, h1, h2, h3, h4⟩
  · simp at hn
  · obtain ⟨rfl, -, rfl⟩ : a = some ⟨g, 0, none⟩ ∧ n = l.length + 1 ∧ cap = cap' := by simpa using hv
    rw [List.length_append, List.length_singleton] at h1 h4
    refine .inr ⟨g, cap, cur, rfl, hb, hg, by omega, h2, h3, ?_⟩
    have := congrArg (List.take (l.length * 4)) h4
    rw [List.take_take, Nat.min_eq_left (by omega), List.flatMap_append] at this
    rw [this, List.take_append_of_le_length (by rw [flatR_len enC_len]; exact Nat.le_refl _), List.take_of_length_le (by rw [flatR_len enC_len]; exact Nat.le_refl _)]
def sliceLen : Value → Nat
  | .slice _ n _ => n
  | _ => 0
set_option maxHeartbeats 16000000 in
set_option maxRecDepth 20000 in
theorem laySeen_any (s : Sl) (V : Ly) (q : Option Addr) (qc : Nat) (bs : List Int) (lw : Bool) (w : World) (hs : SlAt w s V) (hp : Izp w q bs) (hl : bs.length ≤ 1000000) (hv : V.length ≤ 1000000) :
    Calls Tryz.prog 194 #[slV s, .slice q bs.length qc, .bool lw] w fun e w' => ∃ v, e = .returned v ∧ Below w.heap.size w w' ∧ OwnE w' w.heap.size v (seenV bs lw V) := by
  obtain ⟨sa, sn, sc⟩ := s
  have hln : sn = V.length := hs.len
  subst hln
  have hb0 : Below w.heap.size w (w.alloc (.cells #[.slice sa V.length sc] 112)) := (Below.refl _ _).alloc (Nat.le_refl _) _
  show Calls Tryz.prog 194 #[.slice sa V.length sc, .slice q bs.length qc, .bool lw] w _
  go_enter Tryz.func194, Tryz.ntmps194
  go_wp2
  go_loopw [7, 13] (fun v i wr => ∃ k : Nat, k ≤ V.length ∧ i = .int .i64 k ∧ OwnE wr (w.heap.size + 1) v (keepA bs (V.take k)) ∧ Below (w.heap.size + 1) (w.alloc (.cells #[.slice sa V.length sc] 112)) wr) (fun _ i _ => V.length - (intOf i).toNat)
  case atStart => exact ⟨0, Nat.zero_le _, rfl, OwnR.nil _ _ _ _ _, Below.refl _ _⟩
  case round =>
    obtain ⟨k, hk, rfl, hown, hb⟩ := hrel
    have hsz := hb.size
    simp only [World.size_alloc] at hsz
    have hbw : Below w.heap.size w wr := hb0.trans (hb.mono (by omega))
    by_cases hlt : k < V.length
    · obtain ⟨g, off, hq, c0, c1, c2, c3⟩ := (hs.row.below hbw) k hlt
      simp only at hq
      subst hq
      have hkl := keepA_len bs (V.take k)
      rw [List.length_take] at hkl
      cases k with
      | zero =>
        simp only [Nat.zero_mul, Nat.add_zero] at c0 c1 c2 c3
        have HK : Hid (keepA bs (V.take (0 + 1)) = keepA bs (V.take 0) ++ [V[0]]) := by show _ = _; rw [keepA_one bs hlt]; simp [keepA]
        generalize keepA bs (V.take 0) = L at *
        generalize V[0] = e0 at *
        obtain ⟨a2, cap2, rfl⟩ := hown.shape
        go_wp2_with (first
          | (at_builtin; refine wpList_appR _ rfl (.tmp 26) (.tmp 28) 226 112 Tryz.info226 rfl (by decide) Tryz.underlying112 enC_len enC_one rfl (w.heap.size + 1) _ _ [e0] (some ⟨wr.heap.size + 1 + 1, 0, none⟩) 1 rfl rfl (by simp; omega) (((hown.alloc _).alloc _).alloc _) (fun e => by cases e) (fun a ha => ⟨_, _, (Option.some.inj ha).symm⟩) (by have := rp_one (W := (wr.alloc (.cells #[.int .i64 0] 3)).alloc (.cells #[str e0.op.key, str e0.op.val, .bool e0.op.gone, .int .i64 e0.batch] 226)) e0; simpa using this) (by simp; omega) (by simp; omega) ?_; intro v3 w3 hown3 kp3; have hb3 := OwnR.belowOwn (by simp; omega) (((hown.alloc _).alloc _).alloc _) kp3; obtain ⟨a3, cap3, rfl⟩ := hown3.shape)
          | go_in)
        go_roundw
        case rel => exact ⟨0 + 1, by omega, by go_num, by rw [HK.out]; rwa [List.length_append] at hown3, ((((hb.alloc (by omega) _).alloc (by simp; omega) _).alloc (by simp; omega) _)).trans hb3⟩
        case measure => simp [intOf]; omega
      | succ k =>
        have hK := keepA_snoc bs hlt
        have hW1 : ((wr.alloc (.cells #[.int .i64 ((k + 1 : Nat) : Int)] 3)).alloc (.cells #[str V[k + 1].op.key, str V[k + 1].op.val, .bool V[k + 1].op.gone, .int .i64 V[k + 1].batch] 226)).heap[wr.heap.size + 1]? = some (.cells #[str V[k + 1].op.key, str V[k + 1].op.val, .bool V[k + 1].op.gone, .int .i64 V[k + 1].batch] 226) := by
          have := block_new (wr.alloc (.cells #[.int .i64 ((k + 1 : Nat) : Int)] 3)) (.cells #[str V[k + 1].op.key, str V[k + 1].op.val, .bool V[k + 1].op.gone, .int .i64 V[k + 1].batch] 226)
          rwa [World.size_alloc] at this
        have hW3 := block_alloc (p := .cells #[str V[k + 1].op.key, str V[k + 1].op.val, .bool V[k + 1].op.gone, .int .i64 V[k + 1].batch] 226) (block_new wr (.cells #[.int .i64 ((k + 1 : Nat) : Int)] 3))
        have hBW : Below wr.heap.size wr ((wr.alloc (.cells #[.int .i64 ((k + 1 : Nat) : Int)] 3)).alloc (.cells #[str V[k + 1].op.key, str V[k + 1].op.val, .bool V[k + 1].op.gone, .int .i64 V[k + 1].batch] 226)) := ((Below.refl _ wr).alloc (Nat.le_refl _) _).alloc (by simp) _
        have hW2 : ((wr.alloc (.cells #[.int .i64 ((k + 1 : Nat) : Int)] 3)).alloc (.cells #[str V[k + 1].op.key, str V[k + 1].op.val, .bool V[k + 1].op.gone, .int .i64 V[k + 1].batch] 226)).heap[w.heap.size]? = some (.cells #[.slice (some ⟨g, off, none⟩) V.length sc] 112) := (hBW.block _ (by omega)).trans ((hb.block _ (by omega)).trans (block_new w _))
        have hcf := containsF_any q qc bs (seenB V[k + 1].batch V[k].batch) (.pointer (some ⟨wr.heap.size + 1, 0, none⟩)) (.pointer (some ⟨w.heap.size, 0, none⟩)) (.pointer (some ⟨wr.heap.size, 0, none⟩)) _ ((hp.below hbw).below hBW) hl (fun b => seen1_any b (wr.heap.size + 1) w.heap.size wr.heap.size V (some ⟨g, off, none⟩, V.length, sc) k hlt _ (cell_block hW1) (cell_block hW2) (cell_block hW3) ((hs.below hbw).below hBW) hv)
        clear hW1 hW2 hW3
        generalize V[k + 1] = e0 at *
        generalize V[k].batch = pb at *
        cases hA : bs.any (seenB e0.batch pb) with
        | true =>
          have HK : Hid (keepA bs (V.take (k + 1 + 1)) = keepA bs (V.take (k + 1)) ++ [e0]) := by show _ = _; rw [hK, hA]; rfl
          rw [hA] at hcf
          clear hK hA
          generalize keepA bs (V.take (k + 1)) = L at *
          obtain ⟨a2, cap2, rfl⟩ := hown.shape
          go_wp2_with (first
            | (go_at_call 285; refine hcf.mono ?_; rintro er w1 ⟨rfl, rfl⟩)
            | (at_builtin; refine wpList_appR _ rfl (.tmp 26) (.tmp 28) 226 112 Tryz.info226 rfl (by decide) Tryz.underlying112 enC_len enC_one rfl (w.heap.size + 1) _ _ [e0] (some ⟨wr.heap.size + 1 + 1, 0, none⟩) 1 rfl rfl (by simp; omega) (((hown.alloc _).alloc _).alloc _) (fun e => by cases e) (fun a ha => ⟨_, _, (Option.some.inj ha).symm⟩) (by have := rp_one (W := (wr.alloc (.cells #[.int .i64 ((k + 1 : Nat) : Int)] 3)).alloc (.cells #[str e0.op.key, str e0.op.val, .bool e0.op.gone, .int .i64 e0.batch] 226)) e0; simpa using this) (by simp; omega) (by simp; omega) ?_; intro v3 w3 hown3 kp3; have hb3 := OwnR.belowOwn (by simp; omega) (((hown.alloc _).alloc _).alloc _) kp3; obtain ⟨a3, cap3, rfl⟩ := hown3.shape)
            | go_in)
          go_roundw
          case rel => exact ⟨k + 1 + 1, by omega, by go_num, by rw [HK.out]; rwa [List.length_append] at hown3, ((((hb.alloc (by omega) _).alloc (by simp; omega) _).alloc (by simp; omega) _)).trans hb3⟩
          case measure => simp [intOf]; omega
        | false =>
          have HK : Hid (keepA bs (V.take (k + 1 + 1)) = keepA bs (V.take (k + 1))) := by show _ = _; rw [hK, hA]; simp
          rw [hA] at hcf
          clear hK hA
          generalize keepA bs (V.take (k + 1)) = L at *
          obtain ⟨a2, cap2, rfl⟩ := hown.shape
          go_wp2_with (first
            | (go_at_call 285; refine hcf.mono ?_; rintro er w1 ⟨rfl, rfl⟩)
            | go_in)
          go_roundw
          case rel => exact ⟨k + 1 + 1, by omega, by go_num, by rw [HK.out]; exact (hown.alloc _).alloc _, (hb.alloc (by omega) _).alloc (by simp; omega) _⟩
          case measure => simp [intOf]; omega
    · have E : Hid (V.take k = V) := List.take_of_length_le (by omega)
      rw [E.out] at hown
      have hkl := keepA_len bs V
      have HX : Hid (seenV bs lw V = if lw then strip (keepA bs V) else keepA bs V) := rfl
      generalize keepA bs V = L at *
      go_wp2
      go_loop [7] (fun v => ∃ L' : Ly, L'.length ≤ L.length ∧ OwnE wr (w.heap.size + 1) v L' ∧ (lw = false → L' = L) ∧ strip L' = strip L) (fun v => sliceLen v)
      case atStart => exact ⟨L, Nat.le_refl _, hown, fun _ => rfl, rfl⟩
      case round =>
        clear hown
        obtain ⟨L', hle, hown, hlf, hst⟩ := hrel
        cases lw with
        | false =>
          have hL := hlf rfl
          subst hL
          obtain ⟨a2, cap2, rfl⟩ := hown.shape
          go_wp2
          go_ret
          exact ⟨_, rfl, hbw, by rw [HX.out]; exact ownsRow_base hown (by omega)⟩
        | true =>
          have HST : Hid (strip L' = strip L) := hst
          clear hst hlf
          rcases List.eq_nil_or_concat L' with rfl | ⟨L2, x, hcc⟩
          · obtain ⟨a2, cap2, rfl⟩ := hown.shape
            go_wp2
            go_ret
            exact ⟨_, rfl, hbw, by rw [HX.out]; simp only [if_true]; rw [← HST.out]; exact ownsRow_base hown (by omega)⟩
          · rw [List.concat_eq_append] at hcc
            subst hcc
            obtain ⟨q2, cap2, rfl, hcap2, hrp, _, _⟩ := OwnR.rp enC_len hown
            obtain ⟨g2, off2, hq2, d0, d1, d2, d3⟩ := hrp.enp L2.length (by simp)
            have hx : (L2 ++ [x])[L2.length]'(by simp) = x := by simp
            rw [hx] at d2
            have hln : (L2 ++ [x]).length = L2.length + 1 := by simp
            rw [hln] at hown hle hcap2 ⊢
            subst hq2
            clear d0 d1 d3 hrp hx hln
            have hdr := OwnR.drop1 hown
            have ec : ((L2.length + 1 : Nat) : Int) - 1 = L2.length := by omega
            cases hg : x.op.gone with
            | true =>
              have HS2 : Hid (strip L2 = strip L) := by show _ = _; rw [← HST.out, strip_gone hg]
              rw [hg] at d2
              clear HST
              go_wp2
              go_round
              case rel => exact ⟨L2, by omega, hdr, fun h => (by cases h), HS2.out⟩
              case measure => simp [sliceLen]
            | false =>
              have HS2 : Hid (strip L = L2 ++ [x]) := by show _ = _; rw [← HST.out, strip_live hg]
              rw [hg] at d2
              clear HST
              go_wp2
              go_ret
              exact ⟨_, rfl, hbw, by rw [HX.out]; simp only [if_true]; rw [HS2.out]; exact ownsRow_base hown (by omega)⟩
end Go.Proofs.YtoabedkcieindabGreatDoor

namespace Go.Proofs.YtoabedkcieindabGreatDoor
theorem needF_more (bs : List Int) (lw : Bool) : ∀ (n m : Nat) (l : Ly), l.length ≤ n → l.length ≤ m → needF bs lw n l = needF bs lw m l
  | 0, m, l, h, _ => by
    obtain rfl : l = [] := List.length_eq_zero_iff.1 (by omega)
    cases m <;> rfl
  | n + 1, 0, l, _, h => by
    obtain rfl : l = [] := List.length_eq_zero_iff.1 (by omega)
    rfl
  | n + 1, m + 1, [], _, _ => rfl
  | n + 1, m + 1, e :: r, h1, h2 => by
    have hd : (r.dropWhile fun f => f.op.key == e.op.key).length ≤ r.length := (List.dropWhile_sublist _).length_le
    simp only [List.length_cons] at h1 h2
    rw [needF, needF, needF_more bs lw n m _ (by omega) (by omega)]
theorem needL_cons (bs : List Int) (lw : Bool) (e : En) (r : Ly) : needL bs lw (e :: r) = seenV bs lw (e :: r.takeWhile fun f => f.op.key == e.op.key) ++ needL bs lw (r.dropWhile fun f => f.op.key == e.op.key) := by
  have hd : (r.dropWhile fun f => f.op.key == e.op.key).length ≤ r.length := (List.dropWhile_sublist _).length_le
  unfold needL
  rw [List.length_cons, needF, needF_more bs lw r.length (r.dropWhile fun f => f.op.key == e.op.key).length _ hd (Nat.le_refl _)]
theorem seenV_nil (bs : List Int) (lw : Bool) : seenV bs lw [] = [] := by cases lw <;> rfl
def stN (bs : List Int) (lw : Bool) (s : Ly × Ly) (e : En) : Ly × Ly :=
  match s.2 with
  | [] => (s.1, [e])
  | f :: t => if f.op.key = e.op.key then (s.1, f :: (t ++ [e])) else (s.1 ++ seenV bs lw (f :: t), [e])
def foldN (bs : List Int) (lw : Bool) (l : Ly) : Ly × Ly := l.foldl (stN bs lw) ([], [])
theorem foldN_go (bs : List Int) (lw : Bool) : ∀ (l A t : Ly) (f : En), (l.foldl (stN bs lw) (A, f :: t)).1 ++ seenV bs lw (l.foldl (stN bs lw) (A, f :: t)).2 =
    A ++ (seenV bs lw (f :: (t ++ l.takeWhile fun g => g.op.key == f.op.key)) ++ needL bs lw (l.dropWhile fun g => g.op.key == f.op.key))
  | [], A, t, f => by simp [needL, needF]
  | e :: r, A, t, f => by
    rw [List.foldl_cons]
    by_cases h : f.op.key = e.op.key
    · have hb : (e.op.key == f.op.key) = true := by simp [h]
      have hst : stN bs lw (A, f :: t) e = (A, f :: (t ++ [e])) := by simp [stN, h]
      rw [hst, foldN_go bs lw r A (t ++ [e]) f, List.takeWhile_cons_of_pos (p := fun g : En => g.op.key == f.op.key) hb, List.dropWhile_cons_of_pos (p := fun g : En => g.op.key == f.op.key) hb]
      simp
    · have hb : ¬ (e.op.key == f.op.key) = true := by simpa using fun h' => h h'.symm
      have hst : stN bs lw (A, f :: t) e = (A ++ seenV bs lw (f :: t), [e]) := by simp [stN, h]
      rw [hst, foldN_go bs lw r _ [] e, List.takeWhile_cons_of_neg (p := fun g : En => g.op.key == f.op.key) hb, List.dropWhile_cons_of_neg (p := fun g : En => g.op.key == f.op.key) hb, needL_cons]
      simp
theorem foldN_end (bs : List Int) (lw : Bool) (l : Ly) : (foldN bs lw l).1 ++ seenV bs lw (foldN bs lw l).2 = needL bs lw l := by
  cases l with
  | nil => simp [foldN, seenV_nil, needL, needF]
  | cons e r =>
    unfold foldN
    rw [List.foldl_cons]
    have : stN bs lw ([], []) e = ([], [e]) := rfl
    rw [this, foldN_go, needL_cons]
    simp
theorem foldN_snoc (bs : List Int) (lw : Bool) (l : Ly) (e : En) : foldN bs lw (l ++ [e]) = stN bs lw (foldN bs lw l) e := by unfold foldN; rw [List.foldl_append]; rfl
theorem strip_len : ∀ l : Ly, (strip l).length ≤ l.length
  | [] => by simp [strip]
  | e :: r => by
    have := strip_len r
    rw [strip]
    split
    · split <;> simp
    · rename_i h; rw [h] at this; simp at this ⊢; omega
theorem foldN_len (bs : List Int) (lw : Bool) (hk : ∀ l : Ly, (keepA bs l).length ≤ l.length) : ∀ (l A V : Ly), (l.foldl (stN bs lw) (A, V)).1.length + (l.foldl (stN bs lw) (A, V)).2.length ≤ A.length + V.length + l.length
  | [], A, V => by simp
  | e :: r, A, V => by
    have hs : ∀ l : Ly, (seenV bs lw l).length ≤ l.length := fun l => by
      unfold seenV; split
      · exact Nat.le_trans (strip_len _) (hk l)
      · exact hk l
    rw [List.foldl_cons]
    have h := foldN_len bs lw hk r (stN bs lw (A, V) e).1 (stN bs lw (A, V) e).2
    have h2 : (stN bs lw (A, V) e).1.length + (stN bs lw (A, V) e).2.length ≤ A.length + V.length + 1 := by
      cases V with
      | nil => simp [stN]
      | cons f t =>
        simp only [stN]
        split
        · simp; omega
        · have := hs (f :: t); simp at this ⊢; omega
    simp only [List.length_cons]
    have e1 : stN bs lw (A, V) e = ((stN bs lw (A, V) e).1, (stN bs lw (A, V) e).2) := rfl
    rw [← e1] at h
    omega
end Go.Proofs.YtoabedkcieindabGreatDoor

namespace Go.Proofs.YtoabedkcieindabGreatDoor
theorem oper_in {l n : Nat} {P : Program} {o : Oper} {a : Act} {w : World} {K : Act → World → Prop} {Q : Exit → Act → World → Prop} (hnd : ∀ c, o.op ≠ .defer c) (h : o.wp P a w K Q) : o.wpIn (Fence.wide.inRound l) n P a w K Q := by
  refine ⟨fun f _ => trivial, ?_⟩
  rw [Oper.semAt_plain _ _ _ hnd]
  unfold Oper.wp at h
  generalize (execOp a.eval o).run P w = r at *
  cases r with
  | ok x w' =>
    cases x <;> simp only [Oper.upon, Oper.uponIn] at h ⊢
    case value => exact h
    case skip => exact h
    case defer => exact h
    case enter => exact ⟨fun e => (by cases e), CallsIn.inRound l (callsIn_wide.2 h)⟩
    case row =>
      refine ⟨fun e => (by cases e), fun c cs _ => ?_⟩
      obtain ⟨v, w2, r, s⟩ := h c cs
      exact ⟨v, w2, r, stepsIn_wide.2 s⟩
  | halt x w' => cases x <;> simp only [Oper.upon, Oper.uponIn] at h ⊢ <;> exact h
theorem any_in {l n : Nat} {P : Program} {md : Region.Mode} {ops : Array Oper} {Q : Exit → Act → World → Prop} (hnd : ∀ (j : Nat) (o : Oper), ops[j]? = some o → ∀ c, o.op ≠ .defer c) (hlo : ¬ LetsOut Q) :
    ∀ (fuel : Nat) (listed : Array Bool) (a : Act) (w : World), wpAny P md ops Q fuel listed a w → wpAnyIn (Fence.wide.inRound l) n P md ops Q fuel listed a w
  | 0, _, _, _, h => h
  | fuel + 1, listed, a, w, h => by
    refine ⟨h.1, fun i hi => ?_⟩
    have h1 := h.2 i hi
    unfold wpOp at h1
    unfold wpOpIn
    cases ho : ops[i]? with
    | none => rw [ho] at h1; exact any_in hnd hlo fuel _ _ _ h1
    | some o =>
      rw [ho] at h1
      simp only at h1 ⊢
      split
      · rename_i hw
        rw [if_pos hw] at h1
        rcases h1 with h1 | h1
        · exact Oper.wpIn_mono (fun a' w' h' => any_in hnd hlo fuel _ a' w' h') (oper_in (hnd i o ho) h1)
        · exact absurd h1.2 hlo
      · rename_i hw
        rw [if_neg hw] at h1
        exact ⟨fun _ _ => trivial, any_in hnd hlo fuel _ _ _ h1⟩
def noDefer (ops : Array Oper) : Bool := ops.all fun o => match o.op with | .defer _ => false | _ => true
theorem noDefer_spec {ops : Array Oper} (h : noDefer ops = true) (j : Nat) (o : Oper) (hj : ops[j]? = some o) (c : Call) : o.op ≠ .defer c := by
  intro e
  obtain ⟨hlt, rfl⟩ := Array.getElem?_eq_some_iff.1 hj
  have := Array.all_eq_true.1 h j hlt
  rw [e] at this
  cases this
section held
variable {P : Program} {ops : Array Oper} {Q : Exit → Act → World → Prop} {md : Region.Mode} {S : World → Prop}
def wpAnyE (P : Program) (md : Region.Mode) (ops : Array Oper) (Q : Exit → Act → World → Prop) (S : World → Prop) : Nat → Array Bool → Act → World → Prop
  | 0, listed, a, w => Region.ready md ops listed = [] ∧ Q .normal a w
  | fuel + 1, listed, a, w =>
    (Region.ready md ops listed = [] → Q .normal a w) ∧
    ∀ i ∈ Region.ready md ops listed, wpOp P ops Q i (fun a' w' => ((∃ k : Nat, (listed.setIfInBounds i true).getD k true = false) → S w') ∧ wpAnyE P md ops Q S fuel (listed.setIfInBounds i true) a' w') a w
theorem any_of_E : ∀ (fuel : Nat) (listed : Array Bool) (a : Act) (w : World), wpAnyE P md ops Q S fuel listed a w → wpAny P md ops Q fuel listed a w
  | 0, _, _, _, h => h
  | fuel + 1, _, _, _, h => ⟨h.1, fun i hi => wpOp_mono (fun a' w' h' => any_of_E fuel _ a' w' h'.2) (h.2 i hi)⟩
theorem wpAnyE_first {i L : Nat} {oi oL : Oper} {v : Value} (hi : ops[i]? = some oi) (hL : ops[L]? = some oL) (hLi : L ≠ i) (hb : ∃ e ∈ oL.after, Region.binds md e = true ∧ e.on = i)
    (hsel : ∀ (j : Nat) (o : Oper) cs b, ops[j]? = some o → o.op ≠ .select cs b) (hQ : ∀ c a w, Q (.panic c) (a.put oi.dst v) w → Q (.panic c) a w) :
    ∀ (fuel : Nat) (listed : Array Bool) (a : Act) (w : World), listed.getD L true = false →
      (∀ j oj, ops[j]? = some oj → j ≠ i → listed.getD j true = false → (∀ e ∈ oj.after, Region.binds md e = true → e.on ≠ i) → oi.apart ops oj = true) →
      i ∈ Region.ready md ops listed → YieldsIf P ops S oi v a → S w →
      wpAnyE P md ops Q S fuel (listed.setIfInBounds i true) (a.put oi.dst v) w → wpAnyE P md ops Q S (fuel + 1) listed a w := by
  intro fuel
  induction fuel with
  | zero =>
    intro listed a w _ _ hr hy hS H
    refine ⟨fun h => (by rw [h] at hr; cases hr), fun j hj => ?_⟩
    by_cases hji : j = i
    · subst hji; exact hy.wpOp hi hS ⟨fun _ => hS, H⟩
    · have := ready_mono hj hji
      rw [H.1] at this
      cases this
  | succ fuel ih =>
    intro listed a w hLl hfree hr hy hS H
    refine ⟨fun h => (by rw [h] at hr; cases hr), fun j hj => ?_⟩
    by_cases hji : j = i
    · subst hji; exact hy.wpOp hi hS ⟨fun _ => hS, H⟩
    · have h1 := H.2 j (ready_mono hj hji)
      obtain ⟨hjun, oj, hoj, hall⟩ := mem_ready.1 hj
      have hnot : ∀ e ∈ oj.after, Region.binds md e = true → e.on ≠ i := fun e he hbd heq => by
        have k1 := hall e he hbd
        have k0 := (mem_ready.1 hr).1
        rw [heq] at k1
        rcases Nat.lt_or_ge i listed.size with h' | h'
        · simp [h'] at k0 k1; rw [k0] at k1; cases k1
        · simp [Array.getElem?_eq_none h'] at k1
      have hLj : L ≠ j := by
        rintro rfl
        rw [hL] at hoj
        cases hoj
        obtain ⟨e, he, hbd, heq⟩ := hb
        exact hnot e he hbd heq
      have h2 := wpOp_putIf hoj (hfree j oj hoj hji hjun hnot) (fun cs b => hsel i oi cs b hi) (fun cs b => hsel j oj cs b hoj) hQ hy h1
      have hfree' : ∀ k ok, ops[k]? = some ok → k ≠ i → (listed.setIfInBounds j true).getD k true = false →
          (∀ e ∈ ok.after, Region.binds md e = true → e.on ≠ i) → oi.apart ops ok = true := fun k ok hk hki hun hno => by
        refine hfree k ok hk hki ?_ hno
        by_cases hjk : j = k
        · subst hjk; exact hjun
        · rw [getD_set_ne true hjk] at hun; exact hun
      have hLset : (listed.setIfInBounds j true).getD L true = false := by rw [getD_set_ne true (Ne.symm hLj)]; exact hLl
      have hLset2 : ((listed.setIfInBounds i true).setIfInBounds j true).getD L true = false := by rw [getD_set_ne true (Ne.symm hLj), getD_set_ne true (Ne.symm hLi)]; exact hLl
      refine wpOp_mono (fun a' w' h3 => ?_) h2
      have hS' := h3.2.1 ⟨L, hLset2⟩
      refine ⟨fun _ => hS', ih (listed.setIfInBounds j true) a' w' hLset hfree' (ready_mono hr (Ne.symm hji)) h3.1 hS' ?_⟩
      rw [Array.setIfInBounds_comm _ _ hji]
      exact h3.2.2
theorem wpAnyE_take {i L : Nat} {oi oL : Oper} {v : Value} {fuel : Nat} {listed : Array Bool} {a : Act} {w : World} (hi : ops[i]? = some oi) (hL : ops[L]? = some oL) (hLi : L ≠ i) (hb : (oL.after.any fun e => Region.binds md e && e.on == i) = true) (hLl : listed.getD L true = false)
    (hs : Region.noSelect ops = true) (hf : Region.free md ops listed i = true) (hr : (Region.ready md ops listed).contains i = true)
    (hQ : ∀ c a w, Q (.panic c) (a.put oi.dst v) w → Q (.panic c) a w) (hy : YieldsIf P ops S oi v a) (hS : S w)
    (h : wpAnyE P md ops Q S fuel (listed.setIfInBounds i true) (a.put oi.dst v) w) : wpAnyE P md ops Q S (fuel + 1) listed a w :=
  wpAnyE_first hi hL hLi (by
    obtain ⟨k, hk, h1⟩ := Array.any_eq_true.1 hb
    simp only [Bool.and_eq_true, beq_iff_eq] at h1
    exact ⟨_, Array.getElem_mem hk, h1.1, h1.2⟩) (Region.noSelect_spec hs) hQ fuel listed a w hLl (Region.free_spec hi hf) (by simpa using hr) hy hS h
theorem wpAnyE_one {i : Nat} {o : Oper} {fuel : Nat} {listed : Array Bool} {a : Act} {w : World} (hr : Region.ready md ops listed = [i]) (ho : ops[i]? = some o) (hw : Region.wanted o (yielded ops a.tmps) = true)
    (h : ∀ K : Act → World → Prop, Shut (∀ a' w', S w' → wpAnyE P md ops Q S fuel (listed.setIfInBounds i true) a' w' → K a' w') → o.wp P a w K Q) : wpAnyE P md ops Q S (fuel + 1) listed a w := by
  refine ⟨fun h0 => (by rw [hr] at h0; cases h0), fun j hj => ?_⟩
  rw [hr] at hj
  obtain rfl : j = i := by simpa using hj
  unfold wpOp
  rw [ho]
  simp only [hw, if_true]
  exact .inl (h _ (fun a' w' hS hW => ⟨fun _ => hS, hW⟩))
theorem wpAnyE_last {i : Nat} {o : Oper} {listed : Array Bool} {a : Act} {w : World} (hr : Region.ready md ops listed = [i]) (ho : ops[i]? = some o) (hw : Region.wanted o (yielded ops a.tmps) = true) (hr1 : Region.ready md ops (listed.setIfInBounds i true) = []) (hall : (listed.setIfInBounds i true).all id = true)
    (h : ∀ K : Act → World → Prop, Shut (∀ a' w', Q .normal a' w' → K a' w') → o.wp P a w K Q) : wpAnyE P md ops Q S 1 listed a w := by
  refine ⟨fun h0 => (by rw [hr] at h0; cases h0), fun j hj => ?_⟩
  rw [hr] at hj
  obtain rfl : j = i := by simpa using hj
  unfold wpOp
  rw [ho]
  simp only [hw, if_true]
  refine .inl (h _ (fun a' w' hq => ⟨fun ⟨k, hk⟩ => ?_, hr1, hq⟩))
  exfalso
  have h1 := Array.all_eq_true.1 hall
  by_cases hlt : k < (listed.setIfInBounds j true).size
  · have := h1 k hlt
    rw [Array.getD_eq_getD_getElem?, Array.getElem?_eq_getElem hlt] at hk
    simp only [id_eq] at this
    rw [Option.getD_some, this] at hk
    cases hk
  · rw [Array.getD_eq_getD_getElem?, Array.getElem?_eq_none (by omega)] at hk
    cases hk
theorem wp_append_run {o : Oper} {a : Act} {w w' : World} {K : Act → World → Prop} {s x : Operand} {t : TypeId} {v u v' : Value} (ho : o.op = .call { callee := .builtin .append, args := #[s, x], argTypes := #[t, t] }) (hs : a.eval s = v) (hx : a.eval x = u)
    (hr : (Builtin.append_ #[t, t] o.type #[v, u]).run P w = .ok v' w') (h : K (a.put o.dst v') w') : o.wp P a w K Q := by
  unfold Oper.wp execOp
  simp only [ho, resolve, invoke, builtin, Sem.run_bind, Sem.run_pure, Result.andThen_ok, List.map_toArray, List.map_cons, List.map_nil, hs, hx, hr]
  exact h
end held
theorem wpIn_region_E {l n : Nat} {P : Program} {id : Nat} {ops : Array Oper} {Q : Exit → Act → World → Prop} {S : World → Prop} {a : Act} {w : World} (hm : P.follows .mixedOrders = true) (hnd : noDefer ops = true) (hlo : ¬ LetsOut Q)
    (h : wpAnyE P .any ops Q S ops.size (Array.replicate ops.size false) a w.drew) : (Code.region id ops true).wpIn (Fence.wide.inRound l) n P Q a w :=
  wpIn_region_any hm (any_in (noDefer_spec hnd) hlo _ _ _ _ (any_of_E _ _ _ _ h))
theorem wp_region_E {P : Program} {id : Nat} {ops : Array Oper} {Q : Exit → Act → World → Prop} {S : World → Prop} {a : Act} {w : World} (hm : P.follows .mixedOrders = true)
    (h : wpAnyE P .any ops Q S ops.size (Array.replicate ops.size false) a w.drew) : (Code.region id ops true).wp P Q a w :=
  wp_region_any hm (any_of_E _ _ _ _ h)
end Go.Proofs.YtoabedkcieindabGreatDoor
