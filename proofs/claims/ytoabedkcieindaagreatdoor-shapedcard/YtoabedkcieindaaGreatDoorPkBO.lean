import Derived.Test.YtoabedkcieindaaGreatDoorPkBN
namespace Go.Proofs.YtoabedkcieindaaGreatDoor
open Go.RowKit Go.Maps Go.Sort Go.Shelf

set_option maxHeartbeats 400000 in
theorem xOpen_nil (bx : Nat) (d : Dk) (S : Nat → Prop) (policy : Int) (w : World) (hX : XAt w S bx d) (hf : d.files = []) (hok : d.Ok) (hda : d.dead = false) (h0 : 0 ≤ d.turn) (h1 : d.turn ≤ 4611686018427387904) (hp : 0 ≤ policy ∧ policy ≤ 2) :
    Calls Tryz.prog 28 #[.pointer (some ⟨bx, 0, none⟩), .int .i64 policy] w fun e w' => ∃ bz, e = .returned (.tuple #[.pointer (some ⟨bz, 0, none⟩), .int .i64 0]) ∧ Lx w' (Nw S w) bx bz { d with turn := d.turn + 1 } (newLs (d.turn + 1) policy) ∧ Kp S w w' := by
  obtain ⟨bd, g1, g2, g3⟩ := id hX
  obtain ⟨c0, z0⟩ := cells1 g1
  have hlx := lt_of_block g1
  have hO := sOpen_nil bd d (fun k => S k ∧ k ≠ bx) policy w g3 hf hok hda h0 h1 hp
  clear hp h0 h1
  go_enter Tryz.func28, Tryz.ntmps28
  go_wp2_with (go_at_call 59; refine hO.mono ?_; rintro e w1 ⟨T, rfl, hQ, k1⟩; clear hO)
  go_ret2
  obtain ⟨bm, bsn, S', E', s, l, t1, t2, t3, a1, a2, hY⟩ := hQ
  have hz := k1.size
  have hB : Below w1.heap.size w1 (w1.alloc (.cells #[.pointer (some ⟨T, 0, none⟩)] 118)) := (Below.refl _ w1).alloc (Nat.le_refl _) _
  have hY' : Lsy w1 (fun k => S' k ∧ k < w1.heap.size) E' T bd bm bsn s l { d with turn := d.turn + 1 } (newLs (d.turn + 1) policy) := ⟨hY.prog.mono (fun k hk s => ⟨s, hk⟩), hY.at_, fun k e x => hY.dj k e x.1, fun x => hY.nT x.1, fun x => hY.nm x.1, fun x => hY.nn x.1⟩
  refine ⟨_, rfl, ⟨bd, T, bm, bsn, _, E', s, l, block_alloc (k1.at g1 (fun x => x.2 rfl)), block_new w1 _, .inl g2, .inr hz, fun k hk => ?_, hY'.below hB⟩, (k1.mono (fun _ x => x.1)).alloc _⟩
  have hlt : k < w1.heap.size := by
    rcases hk with x | x | rfl | rfl | rfl
    · exact x.2
    · exact hY.at_.bnd k x
    · exact lt_of_block hY.at_.blk
    · exact hY.at_.mem.lt
    · exact lt_of_block hY.at_.snp
  have hb : Nw S w k ∧ k ≠ bx := by
    rcases hk with x | x | rfl | rfl | rfl
    · rcases a1 k x.1 with y | y
      · exact ⟨.inl y.1, y.2⟩
      · exact ⟨.inr y, by omega⟩
    · have := a2 k x; exact ⟨.inr this, by omega⟩
    · exact ⟨.inr t1, by omega⟩
    · exact ⟨.inr t2, by omega⟩
    · exact ⟨.inr t3, by omega⟩
  exact ⟨hb.1, hb.2, by omega⟩

set_option maxHeartbeats 400000 in
theorem fresh_good (p : Int) (w : World) (hp : 0 ≤ p ∧ p ≤ 2) :
    Calls Tryz.prog 17 #[.int .i64 1048576, .int .i64 p] w fun e w' => ∃ bx bz d st, e = .returned (.tuple #[.pointer (some ⟨bx, 0, none⟩), .pointer (some ⟨bz, 0, none⟩), .bool true]) ∧ Lx w' (fun k => w.heap.size ≤ k) bx bz d st ∧ Below w.heap.size w w' ∧ Lst d st [] 0 ∧ st.policy = p := by
  have hN := xNew_ok 1048576 w (by decide)
  have hok : (newDk 1048576).Ok := newDk_ok (by decide)
  go_enter Tryz.func17, Tryz.ntmps17
  go_wp2_with (first
    | (go_at_call 32; refine hN.mono ?_; rintro e w1 ⟨bx, rfl, hX, hb1⟩; clear hN)
    | (go_at_call 28; refine (xOpen_nil bx (newDk 1048576) _ p w1 hX rfl hok rfl (by decide) (by decide) hp).mono ?_; rintro e w2 ⟨bz, rfl, hS, k⟩))
  go_ret3
  refine ⟨bx, bz, _, _, rfl, hS.mono (fun i _ s => s.elim id (fun h => Nat.le_trans hb1.size h)), below_kp hb1 k, ?_, rfl⟩
  exact Lst.empty (d := { newDk 1048576 with turn := (newDk 1048576).turn + 1 }) rfl ⟨hok.quota, hok.used, hok.left0, hok.left1, hok.safe, hok.rise, hok.name⟩ ⟨rfl, by decide⟩ (by decide) hp

theorem Lst.mlen {d : Dk} {s : Ls} {M : Mp} {n : Nat} (h : Lst d s M n) (hn : n ≤ 110) : M.length ≤ 110 := by
  have hs := h.scan
  rw [scanX_all] at hs
  have h1 := behF_len s.batch (mergeL s.layers) []
  rw [hs] at h1
  have h2 : (mergeL s.layers).length ≤ s.layers.flatten.length := mergeF_len _ _
  have h3 : s.layers.flatten.length ≤ n := by
    have e2 : s.layers.flatten = flatM s.mem ++ (newF s.tabs).flatten := by simp [Ls.layers]
    have := h.ents
    rw [e2, List.length_append, newF_len]; omega
  omega

set_option maxHeartbeats 400000 in
theorem holds_good (bx bz : Nat) (d : Dk) (st : Ls) (U V : Nat → Prop) (M : Mp) (n : Nat) (v : Value) (w : World) (h : Lx w U bx bz d st) (hl : Lst d st M n) (hn : n ≤ 110) (hv : PRowS w V v M) :
    Calls Tryz.prog 31 #[.pointer (some ⟨bz, 0, none⟩), v] w fun e w' => e = .returned (.bool true) ∧ Below w.heap.size w w' := by
  have hsc := xScan_good bx bz d st U M n 1099511627776 w h hl hn (by omega) (by omega)
  have hml := hl.mlen hn
  rw [List.take_of_length_le (by show _ ≤ 1099511627776; omega)] at hsc
  obtain ⟨q, c, rfl, hp, _⟩ := hv
  clear h hl
  go_enter Tryz.func31, Tryz.ntmps31
  go_wp2_with (first
    | (go_at_call 37; refine hsc.mono ?_; rintro e w1 ⟨v1, rfl, hb1, ho1⟩; clear hsc; obtain ⟨q1, c1, rfl, hp1, _⟩ := ho1.pairp)
    | (go_at_call 27; refine (ksame_any q1 q c1 c M M _ hp1 (hp.below hb1) (by omega) (by omega)).mono ?_; rintro e w2 ⟨he, n, rfl⟩; rw [decide_eq_true rfl] at he; subst he))
  go_ret
  exact ⟨rfl, ((Kp.of_below (S := fun _ => False) hb1).drewN n).below⟩

structure Wl (w : World) (U : Nat → Prop) (bx bz : Nat) (lv : Value) (d : Dk) (st : Ls) (M : Mp) (n left : Nat) : Prop where
  shop : Lx w U bx bz d st
  up : ∀ k, U k → k < w.heap.size
  row : PRowS w U lv M
  inv : Lst d st M n
  cnt : n + left ≤ 110
theorem Wl.below {w w' : World} {bx bz : Nat} {lv : Value} {U : Nat → Prop} {d : Dk} {st : Ls} {M : Mp} {n left : Nat} (h : Wl w U bx bz lv d st M n left) (hb : Below w.heap.size w w') : Wl w' U bx bz lv d st M n left :=
  ⟨h.shop.below hb, fun k s => Nat.lt_of_lt_of_le (h.up k s) hb.size, h.row.below hb, h.inv, h.cnt⟩

set_option maxHeartbeats 1000000 in
set_option maxRecDepth 20000 in
theorem wrote_good (bx bz : Nat) (lv : Value) (d : Dk) (st : Ls) (M : Mp) (n left : Nat) (U : Nat → Prop) (q : Option Addr) (qc : Nat) (L : List DoV) (w : World) (hW : Wl w U bx bz lv d st M n left) (hl : L.length ≤ 1048576) (hL : Dop w q L) (hq : ∀ a, q = some a → 0 < L.length → ¬ U a.block) (hok : ∀ o ∈ L, DoOk w o ∧ DoOut U o) :
    Calls Tryz.prog 19 #[.pointer (some ⟨bz, 0, none⟩), lv, .slice q L.length qc, .int .i64 left] w fun e w' => ∃ v left' U' d' st' M' n', e = .returned (.tuple #[v, .int .i64 ((left' : Nat) : Int), .bool true]) ∧ Wl w' U' bx bz v d' st' M' n' left' ∧ (∀ k, U' k → Nw U w k) ∧ Kp U w w' ∧ st'.policy = st.policy := by
  go_enter Tryz.func19, Tryz.ntmps19
  go_wp2
  go_loopw [1, 3, 11] (fun v lf i wr => ∃ (k left' : Nat) (U' : Nat → Prop) (d' : Dk) (st' : Ls) (M' : Mp) (n' : Nat), k ≤ L.length ∧ i = .int .i64 k ∧ lf = .int .i64 left' ∧ Wl wr U' bx bz v d' st' M' n' left' ∧ (∀ k, U' k → Nw U w k) ∧ Kp U w wr ∧ st'.policy = st.policy) (fun _ _ i _ => L.length - (intOf i).toNat)
  case atStart => exact ⟨0, left, U, d, st, M, n, Nat.zero_le _, rfl, rfl, hW, fun k s => .inl s, Kp.refl _ _, rfl⟩
  case round =>
    obtain ⟨k, left', U', d', st', M', n', hk, rfl, rfl, hC, hU, kp, hpo⟩ := hrel
    have hs := kp.size
    by_cases hlt : k < L.length
    · obtain ⟨g, off, rfl, c0, c1, c2, c3⟩ := (hL.kept kp hq) k hlt
      obtain ⟨hdo, hout⟩ := hok L[k] (List.getElem_mem hlt)
      have hT := tidied_any L[k].q L[k].qc L[k].ops wr (hdo.opp.kept kp hout) hdo.ox (by have := hdo.len; omega)
      have hbk := tidy_ok L[k].ops
      have hox := tidy_ox L[k].ops
      have hb8 := (batchOk_iff.1 hbk).1
      generalize tidyL L[k].ops = T at *
      have hcnt := hC.cnt
      have hml := hC.inv.mlen (by omega)
      by_cases hfit : T.length ≤ left'
      · go_wp2_with (go_at_call 33; refine hT.mono ?_; rintro e w7 ⟨v7, rfl, hb7, ho7⟩; obtain ⟨q7, c7, rfl, hp7, hn7⟩ := ho7.opp; clear hT)
        have hC7 := hC.below hb7
        have hk7 := kp_below kp hb7
        have hsz := hb7.size
        have hnU : ∀ a, q7 = some a → 0 < T.length → ¬ U' a.block := fun a ha _ s => by have := (hn7 a ha).1; have := hC.up _ s; omega
        obtain ⟨eX, hlX, hpX⟩ := hC.inv.batchX hbk (by omega)
        have hXB := xBatch_good bx bz d' st' U' M' n' q7 c7 T w7 hC7.shop hC7.inv hbk (by omega) hox hp7 hnU
        have HPX : Hid ((lbatchX d' st' T).2.2.policy = st.policy) := hpX.trans hpo
        clear eX hpX
        generalize lbatchX d' st' T = X at *
        refine hXB.mono ?_
        rintro e w8 ⟨rfl, hS8, k8⟩
        clear hXB
        have hrow8 := hC7.row.step k8
        have hp8 := hp7.kept k8 hnU
        have hk8 : Kp U w w8 := hk7.trans k8 (fun i hi s => (hU i s).elim id (fun h => by omega))
        go_wp2_with (go_at_call 35; refine (behind_row (fun i => Nw U' w7 i ∧ i < w8.heap.size) _ M' q7 c7 T w8 (fun k s => s.2) hrow8 hC.inv.rise hp8 (by omega)).mono ?_; rintro e w9 ⟨v9, rfl, hb9, hr9⟩)
        go_roundw
        case rel =>
          exact ⟨k + 1, left' - T.length, _, _, _, _, _, by omega, by go_num, by go_num, ⟨(hS8.mono (V := fun i => Nw U' w7 i ∧ i < w8.heap.size) (fun i hi s => ⟨s, hi⟩)).below hb9, fun i s => Nat.lt_of_lt_of_le s.2 hb9.size, hr9, hlX, by omega⟩, fun i s => s.1.elim (fun u => hU i u) (fun u => .inr (by omega)), kp_below hk8 hb9, HPX.out⟩
        case measure => simp [intOf]; omega
      · have hfit' : left' < T.length := by omega
        go_wp2_with (go_at_call 33; refine hT.mono ?_; rintro e w7 ⟨v7, rfl, hb7, ho7⟩; obtain ⟨q7, c7, rfl, hp7, hn7⟩ := ho7.opp; clear hT)
        go_ret3
        exact ⟨_, left', U', d', st', M', n', rfl, hC.below hb7, hU, kp_below kp hb7, hpo⟩
    · go_wp2
      go_ret3
      exact ⟨_, left', U', d', st', M', n', rfl, hC, hU, kp, hpo⟩

end Go.Proofs.YtoabedkcieindaaGreatDoor

namespace Go.Proofs.YtoabedkcieindaaGreatDoor
open Go.RowKit Go.Maps Go.Sort Go.Shelf

def limT (all high : Nat) (top : Bool) (l0 l : Nat) : Nat := if 0 < l ∧ (top = false ∨ l = l0) then high else all

theorem count_snoc {lv : List Nat} {j x : Nat} (h : j < lv.length) : (lv.take (j + 1)).count x = (lv.take j).count x + (if lv[j] = x then 1 else 0) := by
  rw [List.take_succ_eq_append_getElem h, List.count_append, List.count_singleton]
  simp

theorem tt_at {w : World} {q : Option Addr} {l : List (Nat × Nat × Nat)} (h : Rp ttC 3 w q l) (i : Nat) (hi : i < l.length) : ∃ g off, q = some ⟨g, off, none⟩ ∧ w.cell? ⟨g, off + i * 3 + 1, none⟩ = some (.int .i64 l[i].2.1) ∧ w.cell? ⟨g, off + i * 3 + 2, none⟩ = some (.int .i64 l[i].2.2) := by
  obtain ⟨g, off, e, c1⟩ := h i hi 1 _ rfl
  obtain ⟨g', off', e', c2⟩ := h i hi 2 _ rfl
  rw [e] at e'
  cases e'
  exact ⟨g, off, e, by rw [Nat.add_assoc]; exact c1, by rw [Nat.add_assoc]; exact c2⟩

set_option maxHeartbeats 1000000 in
set_option maxRecDepth 20000 in
theorem klevels_true (q : Option Addr) (qc : Nat) (l : List (Nat × Nat × Nat)) (all high : Nat) (top : Bool) (w : World) (hp : Rp ttC 3 w q l) (hl : l.length ≤ 1000) (hlv : ∀ x ∈ l, x.2.1 ≤ 1000000) (h1 : nonR (l.map (·.2.1))) (h2 : ∀ i, i < l.length → (l.map (·.2.1)).count ((l.map (·.2.1)).getD i 0) ≤ limT all high top ((l.map (·.2.1)).getD 0 0) ((l.map (·.2.1)).getD i 0)) :
    Calls Tryz.prog 73 #[.slice q l.length qc, .int .i64 all, .int .i64 high, .bool top] w fun e w' => e = .returned (.bool true) ∧ ∃ n, w' = w.drewN n := by
  have hgd : ∀ i (h : i < l.length), (l.map (·.2.1)).getD i 0 = l[i].2.1 := fun i h => by simp [List.getD_eq_getElem?_getD, h]
  go_enter Tryz.func73, Tryz.ntmps73
  go_wp2
  go_loopw [9] (fun i wr => ∃ k n : Nat, k ≤ l.length ∧ i = .int .i64 k ∧ wr = w.drewN n) (fun i _ => l.length - (intOf i).toNat)
  case atStart => exact ⟨0, 0, Nat.zero_le _, rfl, rfl⟩
  case round =>
    obtain ⟨i, n, hi, rfl, rfl⟩ := hrel
    by_cases hlt : i < l.length
    · have h2i := h2 i hlt
      rw [hgd i hlt] at h2i
      obtain ⟨g, off, rfl, ci, _⟩ := tt_at hp i hlt
      have hxi := hlv _ (List.getElem_mem hlt)
      have hlen : (l.map (·.2.1)).length = l.length := by simp
      have HLV : ∀ j (h : j < l.length), (l.map (·.2.1))[j]'(by simpa using h) = l[j].2.1 := fun j h => by simp
      generalize hxe : l[i].2.1 = x at *
      have HXE : Hid (l[i].2.1 = x) := hxe
      clear hxe
      go_wp2
      go_loopw [10, 11] (fun c k wr => ∃ j m : Nat, j ≤ l.length ∧ k = .int .i64 j ∧ c = .int .i64 (((l.map (·.2.1)).take j).count x) ∧ wr = w.drewN m) (fun _ k _ => l.length - (intOf k).toNat)
      case atStart => exact ⟨0, n, Nat.zero_le _, rfl, by simp, rfl⟩
      case round =>
        obtain ⟨j, m, hj, rfl, rfl, rfl⟩ := hrel
        have hcl : ((l.map (·.2.1)).take j).count x ≤ 1000 := Nat.le_trans List.count_le_length (by simp; omega)
        by_cases hjl : j < l.length
        · obtain ⟨g', off', e', cj, _⟩ := tt_at hp j hjl
          cases e'
          have hcs := count_snoc (x := x) (show j < (l.map (·.2.1)).length by omega)
          rw [HLV j hjl] at hcs
          generalize ((l.map (·.2.1)).take j).count x = C at *
          by_cases hjx : l[j].2.1 = x
          · rw [if_pos hjx] at hcs
            rw [hjx] at cj
            have HC : Hid (((l.map (·.2.1)).take (j + 1)).count x = C + 1) := hcs
            clear hcs hjx
            go_wp2
            go_quiet (fail)
            go_wp2
            go_roundw
            case rel => exact ⟨j + 1, _, by omega, by go_num, by rw [HC.out]; go_num, rfl⟩
            case measure => simp [intOf]; omega
          · rw [if_neg hjx] at hcs
            have HC : Hid (((l.map (·.2.1)).take (j + 1)).count x = C) := hcs
            have hne : ((l[j].2.1 : Int) == (x : Int)) = false := by simp; omega
            clear hcs
            go_wp2
            go_quiet (fail)
            go_wp2
            go_roundw
            case rel => exact ⟨j + 1, _, by omega, by go_num, by rw [HC.out], rfl⟩
            case measure => simp [intOf]; omega
        · have HC : Hid (((l.map (·.2.1)).take j).count x = (l.map (·.2.1)).count x) := by show _ = _; rw [List.take_of_length_le (by omega)]
          rw [HC.out] at hcl ⊢
          obtain ⟨g0, off0, e0, c0, _⟩ := tt_at hp 0 (by omega)
          cases e0
          simp only [Nat.zero_mul, Nat.add_zero] at c0
          rw [hgd 0 (by omega)] at h2i
          have hx0 := hlv _ (List.getElem_mem (show 0 < l.length by omega))
          generalize (l.map (·.2.1)).count x = C at *
          have hprev : ∀ i', i = i' + 1 → ∃ y : Nat, x ≤ y ∧ y ≤ 1000000 ∧ w.cell? ⟨g, off + i' * 3 + 1, none⟩ = some (.int .i64 y) := fun i' hi' => by
            obtain ⟨g1, off1, e1, c1, _⟩ := tt_at hp i' (by omega)
            cases e1
            refine ⟨l[i'].2.1, ?_, hlv _ (List.getElem_mem _), c1⟩
            have := nonR_le h1 (i := i') (j := i) (by omega) (by omega)
            rw [hgd i hlt, hgd i' (by omega), HXE.out] at this
            exact this
          generalize l[0].2.1 = y0 at *
          have hlim : (¬ 0 < x ∧ C ≤ all) ∨ (0 < x ∧ top = false ∧ C ≤ high) ∨ (0 < x ∧ top = true ∧ x = y0 ∧ C ≤ high) ∨ (0 < x ∧ top = true ∧ x ≠ y0 ∧ C ≤ all) := by
            unfold limT at h2i
            by_cases hx : 0 < x
            · cases top with
              | false => rw [if_pos ⟨hx, .inl rfl⟩] at h2i; exact .inr (.inl ⟨hx, rfl, h2i⟩)
              | true =>
                by_cases hy : x = y0
                · rw [if_pos ⟨hx, .inr hy⟩] at h2i; exact .inr (.inr (.inl ⟨hx, rfl, hy, h2i⟩))
                · rw [if_neg (by rintro ⟨_, h | h⟩; cases h; exact hy h)] at h2i; exact .inr (.inr (.inr ⟨hx, rfl, hy, h2i⟩))
            · rw [if_neg (fun h => hx h.1)] at h2i; exact .inl ⟨hx, h2i⟩
          clear h2i h1 h2 hgd HLV hp HC
          cases i with
          | zero =>
            clear hprev
            have hyx : y0 = x := by
              simp only [Nat.zero_mul, Nat.add_zero] at ci
              rw [ci] at c0
              simp at c0
              omega
            subst hyx
            rcases hlim with ⟨hx, hC⟩ | ⟨hx, rfl, hC⟩ | ⟨hx, rfl, _, hC⟩ | ⟨hx, rfl, hy, hC⟩
            · obtain rfl : y0 = 0 := by omega
              go_wp2
              go_quiet (fail)
              go_wp2
              go_quiet (fail)
              go_wp2
              go_roundw
              case rel => exact ⟨0 + 1, _, by omega, by go_num, rfl⟩
              case measure => simp [intOf]; omega
            · have hx' : (0 : Int) < (y0 : Int) := by omega
              go_wp2
              go_quiet (fail)
              go_wp2
              go_quiet (fail)
              go_wp2
              go_roundw
              case rel => exact ⟨0 + 1, _, by omega, by go_num, rfl⟩
              case measure => simp [intOf]; omega
            · have hx' : (0 : Int) < (y0 : Int) := by omega
              go_wp2
              go_quiet (fail)
              go_wp2
              go_quiet (fail)
              go_wp2
              go_roundw
              case rel => exact ⟨0 + 1, _, by omega, by go_num, rfl⟩
              case measure => simp [intOf]; omega
            · exact absurd rfl hy
          | succ i =>
            obtain ⟨y, hxy, hyl, cp⟩ := hprev i rfl
            clear hprev
            rcases hlim with ⟨hx, hC⟩ | ⟨hx, rfl, hC⟩ | ⟨hx, rfl, rfl, hC⟩ | ⟨hx, rfl, hy, hC⟩
            · obtain rfl : x = 0 := by omega
              go_wp2
              go_quiet (fail)
              go_wp2
              go_quiet (fail)
              go_wp2
              go_roundw
              case rel => exact ⟨i + 1 + 1, _, by omega, by go_num, rfl⟩
              case measure => simp [intOf]; omega
            · have hx' : (0 : Int) < (x : Int) := by omega
              go_wp2
              go_quiet (fail)
              go_wp2
              go_quiet (fail)
              go_wp2
              go_roundw
              case rel => exact ⟨i + 1 + 1, _, by omega, by go_num, rfl⟩
              case measure => simp [intOf]; omega
            · have hx' : (0 : Int) < (x : Int) := by omega
              go_wp2
              go_quiet (fail)
              go_wp2
              go_quiet (fail)
              go_wp2
              go_roundw
              case rel => exact ⟨i + 1 + 1, _, by omega, by go_num, rfl⟩
              case measure => simp [intOf]; omega
            · have hx' : (0 : Int) < (x : Int) := by omega
              have hy' : ((x : Int) == (y0 : Int)) = false := by simp; omega
              go_wp2
              go_quiet (fail)
              go_wp2
              go_quiet (fail)
              go_wp2
              go_roundw
              case rel => exact ⟨i + 1 + 1, _, by omega, by go_num, rfl⟩
              case measure => simp [intOf]; omega
    · go_wp2
      go_ret
      exact ⟨rfl, _, rfl⟩

theorem lim_most {lv : List Nat} (h : nonR lv) {i : Nat} (hi : i < lv.length) (p : Int) (hp : p = 0 ∨ p = 1 ∨ p = 2) :
    mostT p (lv.getD i 0) (lv.getD 0 0) ≤ limT 4 (if p = 0 then 4 else 1) (decide (p = 2)) (lv.getD 0 0) (lv.getD i 0) := by
  have hle := nonR_le h (i := 0) (j := i) (Nat.zero_le _) hi
  generalize lv.getD i 0 = a at *
  generalize lv.getD 0 0 = b at *
  unfold mostT limT
  rcases hp with rfl | rfl | rfl
  · simp
  · by_cases ha : a = 0
    · simp [ha]
    · have : 0 < a := by omega
      simp [ha, this]
  · by_cases ha : a = 0
    · simp [ha]
    · have h0 : 0 < a := by omega
      by_cases hab : a < b
      · have : ¬ a = b := by omega
        simp [ha, h0, hab, this]
      · have : a = b := by omega
        subst this
        rw [if_neg (by simp [ha]), if_neg (by simp), if_pos ⟨h0, .inr rfl⟩]
        simp

set_option maxHeartbeats 400000 in
theorem kshaped_true (p : Int) (hp3 : p = 0 ∨ p = 1 ∨ p = 2) (q : Option Addr) (qc : Nat) (l : List (Nat × Nat × Nat)) (w : World) (hp : Rp ttC 3 w q l) (hl : l.length ≤ 1000) (hlv : ∀ x ∈ l, x.2.1 ≤ 1000000) (h1 : nonR (l.map (·.2.1))) (hz : (crowd p (l.map (·.2.1))).2 = 0) :
    Calls Tryz.prog 44 #[.int .i64 p, .slice q l.length qc] w fun e w' => e = .returned (.bool true) ∧ ∃ n, w' = w.drewN n := by
  have hc : ∀ i, i < l.length → (l.map (·.2.1)).count ((l.map (·.2.1)).getD i 0) ≤ limT 4 (if p = 0 then 4 else 1) (decide (p = 2)) ((l.map (·.2.1)).getD 0 0) ((l.map (·.2.1)).getD i 0) := fun i hi =>
    Nat.le_trans (crowd_none h1 hz (by simpa using hi)) (lim_most h1 (by simpa using hi) p hp3)
  have hK := klevels_true q qc l 4 (if p = 0 then 4 else 1) (decide (p = 2)) w hp hl hlv h1 hc
  clear hc hz h1 hlv hp
  rcases hp3 with rfl | rfl | rfl
  all_goals
    simp only [if_true, decide_true, if_false, decide_false, Int.reduceEq] at hK
    go_enter Tryz.func44, Tryz.ntmps44
    go_wp2_with (go_at_call 73; refine hK.mono ?_; rintro e w1 ⟨rfl, hn⟩)
    go_ret
    exact ⟨rfl, hn⟩

end Go.Proofs.YtoabedkcieindaaGreatDoor

namespace Go.Proofs.YtoabedkcieindaaGreatDoor
open Go.RowKit Go.Maps Go.Sort Go.Shelf

theorem below_drewN {w w1 : World} (hb : Below w.heap.size w w1) (n : Nat) : Below w.heap.size w (w1.drewN n) := ((Kp.of_below (S := fun _ => False) hb).drewN n).below

theorem Dop.one {w : World} {g off : Nat} {L : List DoV} (h : Dop w (some ⟨g, off, none⟩) L) (i : Nat) (hi : i < L.length) : Dop w (some ⟨g, off + i * 4, none⟩) [L[i]] := fun j hj => by
  have hj0 : j = 0 := by simpa using hj
  subst hj0
  obtain ⟨g', off', e, c0, c1, c2, c3⟩ := h i hi
  cases e
  exact ⟨_, _, rfl, by simpa using c0, by simpa using c1, by simpa using c2, by simpa using c3⟩

def sumTT (l : List (Nat × Nat × Nat)) : Nat := (l.map (·.2.2)).sum
theorem sumTT_app (a b : List (Nat × Nat × Nat)) : sumTT (a ++ b) = sumTT a + sumTT b := by simp [sumTT]

structure RdS (w wr : World) (bx bz : Nat) (v : Value) (p : Int) (left : Nat) : Prop where
  ex : ∃ U d st M n, Wl wr U bx bz v d st M n left ∧ (∀ k, U k → w.heap.size ≤ k) ∧ Below w.heap.size w wr ∧ st.policy = p

set_option maxHeartbeats 1000000 in
set_option maxRecDepth 20000 in
theorem Shaped_any (policy : Int) (q : Option Addr) (qc : Nat) (L : List DoV) (w : World) (hp0 : -9223372036854775808 ≤ policy) (hp1 : policy ≤ 9223372036854775807) (hc : L.length ≤ qc) (hqc : qc ≤ 9223372036854775807) (hL : Dop w q L) (hok : ∀ o ∈ L, DoOk w o ∧ ∀ b, o.q = some b → 0 < o.ops.length → b.block < w.heap.size) :
    Calls Tryz.prog 12 #[.int .i64 policy, .slice q L.length qc] w fun e w' => e = .returned (.bool true) ∧ Below w.heap.size w w' := by
  have hK := kpick_any policy 3 w hp0 hp1 (by omega) (by omega)
  have hF := fun (p : Int) (h : 0 ≤ p ∧ p ≤ 2) => fresh_good p w h
  clear hp0 hp1
  go_enter Tryz.func12, Tryz.ntmps12
  go_wp2_with (first
    | (go_at_call 18; refine hK.mono ?_; rintro e w0 ⟨p, rfl, p0, p3, rfl⟩; clear hK; have hF1 := hF p ⟨p0, by omega⟩; clear hF)
    | (go_at_call 17; refine hF1.mono ?_; rintro e w1 ⟨bx, bz, d, st, rfl, hX, hb1, hI, hpo⟩; clear hF1))
  have hR0 : RdS w0 w1 bx bz (.slice none 0 0) p 110 := ⟨⟨fun k => w0.heap.size ≤ k ∧ k < w1.heap.size, d, st, [], 0, ⟨hX.mono (fun k hk s => ⟨s, hk⟩), fun k s => s.2, PRowS.nil _ _ _, hI, by omega⟩, fun k s => s.1, hb1, hpo⟩⟩
  clear hX hb1 hI hpo
  go_loopw [9, 10, 11] (fun v lf i wr => ∃ k left : Nat, k ≤ L.length ∧ i = .int .i64 k ∧ lf = .int .i64 left ∧ RdS w0 wr bx bz v p left) (fun _ _ i _ => L.length - (intOf i).toNat)
  case atStart => exact ⟨0, 110, Nat.zero_le _, rfl, rfl, hR0⟩
  case round =>
    clear hR0
    obtain ⟨i, left, hi, rfl, rfl, hR⟩ := hrel
    obtain ⟨U, d', st', M, n, hW, hU, hB, hpo⟩ := hR.ex
    by_cases hlt : i < L.length
    ·
      obtain ⟨g, off, rfl, _⟩ := hL i hlt
      have hD1 : Dop wr (some ⟨g, off + i * 4, none⟩) [L[i]] := (hL.below hB).one i hlt
      have hBt := batches_any (some ⟨g, off + i * 4, none⟩) (qc - i) [L[i]] wr hD1 (by simp)
      simp only [List.length_cons, List.length_nil, Nat.zero_add] at hBt
      have hoi := hok L[i] (List.getElem_mem hlt)
      have hFl : ∀ o ∈ [L[i]].filter isB, o = L[i] := fun o ho => by simpa using (List.mem_filter.1 ho).1
      have hFll : ([L[i]].filter isB).length ≤ 1 := Nat.le_trans (List.length_filter_le _ _) (by simp)
      generalize [L[i]].filter isB = F at *
      have hqi : ¬ qc = i := by omega
      have hcnt := hW.cnt
      have hWt : ∀ (w2 : World) (q2 : Option Addr) (c2 : Nat), Below wr.heap.size wr w2 → Dop w2 q2 F → (∀ a, q2 = some a → wr.heap.size ≤ a.block) → _ := fun w2 q2 c2 hb2 hD2 hf2 => wrote_good bx bz _ d' st' M n left U q2 c2 F w2 (hW.below hb2) (by omega) hD2 (fun a ha _ s => by have := hf2 a ha; have := hW.up _ s; omega) (fun o ho => by
        rw [hFl o ho]
        exact ⟨(hoi.1.below hB).below hb2, fun b hb0 h0 s => by have := hoi.2 b hb0 h0; have := hU _ s; omega⟩)
      go_wp2_with (first
        | (go_at_call 20; refine hBt.mono ?_; rintro e w2 ⟨v2, rfl, hb2, ho2⟩; obtain ⟨q2, c2, rfl, hD2, hf2⟩ := ho2.dop; have hWt2 := hWt w2 q2 c2 hb2 hD2 (fun a ha => (hf2 a ha).1); clear hBt hWt)
        | (go_at_call 19; refine hWt2.mono ?_; rintro e w3 ⟨v3, left3, U3, d3, st3, M3, n3, rfl, hW3, hU3, k3, hpo3⟩; clear hWt2))
      have hB2 : Below w0.heap.size w0 w2 := hB.trans (hb2.mono hB.size)
      have hB3 : Below w0.heap.size w0 w3 := below_kp2 hB2 k3 (fun j s => hU j s)
      have hc3 := hW3.cnt
      obtain ⟨f0, hl4, hm4, hp4⟩ := hW3.inv.flush (by omega)
      have hFl4 := xFlush_good bx bz d3 st3 U3 M3 n3 w3 hW3.shop hW3.inv (by omega)
      have HP4 : Hid ((flushX d3 st3).2.2.policy = p) := hp4.trans (hpo3.trans hpo)
      have HM4 : Hid ((flushX d3 st3).2.2.mem = []) := hm4
      have hU3' : ∀ k, U3 k → w0.heap.size ≤ k := fun k s => (hU3 k s).elim (hU k) (fun h => Nat.le_trans hB2.size h)
      clear f0 hm4 hp4
      generalize flushX d3 st3 = X at *
      obtain ⟨x0, d4, st4⟩ := X
      simp only at hl4 hFl4 HP4 HM4
      have hrow3 := hW3.row
      have hTb := fun (w4 : World) (hX4 : Lx w4 (Nw U3 w3) bx bz d4 st4) => xTables_good bx bz d4 st4 (Nw U3 w3) M3 n3 w4 hX4 hl4 (by omega)
      have hfew := hl4.few
      have hrm := (hl4.room (by omega)).2
      have hsm := hl4.some_view HM4.out
      have hml3 := hl4.mlen (by omega)
      have hents4 := hl4.ents
      have hKs : ∀ (w5 : World) (q5 : Option Addr) (c5 : Nat), Rp ttC 3 w5 q5 (st4.tabs.map ttOf) → Calls Tryz.prog 44 #[.int .i64 p, .slice q5 (st4.tabs.map ttOf).length c5] w5 fun e w' => e = .returned (.bool true) ∧ ∃ n, w' = w5.drewN n := fun w5 q5 c5 hr5 => by
        have elv : (st4.tabs.map ttOf).map (·.2.1) = st4.tabs.map (·.level) := by simp [ttOf, Function.comp_def]
        refine kshaped_true p (by omega) q5 c5 (st4.tabs.map ttOf) w5 hr5 (by simp; omega) (fun x hx => ?_) (by rw [elv]; exact hl4.lv) (by rw [elv, ← HP4.out]; exact hl4.shp)
        obtain ⟨y, hy, rfl⟩ := List.mem_map.1 hx
        have := hl4.lev y hy
        simp only [ttOf]
        omega
      have hNm := fun (w6 : World) (hX6 : Lx w6 (Nw U3 w3) bx bz d4 st4) => xNames_any bx d4 _ w6 hX6.x hl4.ok (by omega) hl4.stl.al
      have hTl : (st4.tabs.map ttOf).length = st4.tabs.length := by simp
      have hTs : sumTT (st4.tabs.map ttOf) = entsT st4.tabs := by simp [sumTT, ttOf, entsT, Function.comp_def]
      have hNl : (nmsOf d4.files).length = d4.files.length := by simp [nmsOf]
      generalize st4.tabs.map ttOf = TT at *
      generalize nmsOf d4.files = NN at *
      rw [← hNl] at hrm
      rw [← hTs] at hsm hents4
      rw [← hTl] at hrm hfew
      clear hTs hTl hNl
      go_wp2_with (first
        | (go_at_call 39; refine hFl4.mono ?_; rintro e w4 ⟨rfl, hX4, k4⟩; have hTb4 := hTb w4 hX4; clear hFl4 hTb)
        | (go_at_call 43; refine hTb4.mono ?_; rintro e w5 ⟨v5, rfl, ho5, hb5⟩; obtain ⟨q5, c5, rfl, _, hr5, _, _⟩ := ho5.rp ttC_len; have hKs5 := hKs w5 q5 c5 hr5; clear hTb4 hKs)
        | (go_at_call 44; refine hKs5.mono ?_; rintro e w6 ⟨rfl, n6, rfl⟩; have hNm6 := hNm _ ((hX4.below hb5).below (below_drewN (Below.refl _ w5) n6)); clear hKs5 hNm)
        | (go_at_call 45; refine hNm6.mono ?_; rintro e w7 ⟨v7, rfl, hb7, ho7⟩; obtain ⟨a7, c7, rfl, _⟩ := ownS_shape ho7; clear hNm6))
      have hb57 : Below w5.heap.size w5 w7 := (below_drewN (Below.refl _ w5) n6).trans hb7
      have hr7 : Rp ttC 3 w7 q5 TT := hr5.below hb57
      have hb47 : Below w4.heap.size w4 w7 := hb5.trans (hb57.mono hb5.size)
      have hB4 : Below w0.heap.size w0 w4 := below_kp2 hB3 k4 hU3'
      have hsum : ∀ j, sumTT (TT.take j) ≤ 1000 := fun j => by
        have h1 : sumTT (TT.take j) ≤ sumTT TT := by
          have := sumTT_app (TT.take j) (TT.drop j)
          rw [List.take_append_drop] at this
          omega
        omega
      have hR7 : RdS w0 w7 bx bz v3 p left3 := by
        refine ⟨⟨fun k => Nw U3 w3 k ∧ k < w4.heap.size, d4, st4, M3, n3, ⟨(hX4.mono (fun k hk s => ⟨s, hk⟩)).below hb47, fun k s => Nat.lt_of_lt_of_le s.2 hb47.size, (hrow3.step k4).below hb47, hl4, hc3⟩, fun k s => s.1.elim (hU3' k) (fun h => Nat.le_trans hB3.size h), hB4.trans (hb47.mono hB4.size), HP4.out⟩⟩
      have hMl : M3.length ≤ 110 := hml3
      obtain ⟨q3, c3, rfl, _, _⟩ := hrow3
      clear hX4 hl4 k4 hb5 hb7 ho5 ho7 hb47 hB4 hW3 hU3 k3 hW hR hU hFl hoi hD1 hD2 ho2 hf2 hL hok
      go_loopw [17, 18] (fun e k wr' => ∃ j : Nat, j ≤ TT.length ∧ k = .int .i64 j ∧ e = .int .i64 ((sumTT (TT.take j) : Nat) : Int) ∧ wr' = w7) (fun _ k _ => TT.length - (intOf k).toNat)
      case atStart => exact ⟨0, Nat.zero_le _, rfl, rfl, rfl⟩
      case round =>
        obtain ⟨j, hj, rfl, rfl, rfl⟩ := hrel
        have hsj := hsum j
        by_cases hjl : j < TT.length
        · obtain ⟨g8, off8, rfl, _, cj⟩ := tt_at hr7 j hjl
          have hsn : sumTT (TT.take (j + 1)) = sumTT (TT.take j) + TT[j].2.2 := by rw [List.take_succ_eq_append_getElem hjl, sumTT_app]; simp [sumTT]
          have hsj1 := hsum (j + 1)
          rw [hsn] at hsj1
          have HSN : Hid (sumTT (TT.take (j + 1)) = sumTT (TT.take j) + TT[j].2.2) := hsn
          clear hsn
          generalize sumTT (TT.take j) = A at *
          generalize TT[j].2.2 = B at *
          go_wp2
          go_roundw
          case rel => exact ⟨j + 1, by omega, by go_num, by rw [HSN.out]; go_num, trivial⟩
          case measure => simp [intOf]; omega
        · rw [List.take_of_length_le (by omega)] at hsj ⊢
          generalize sumTT TT = A at *
          have hs1 : ¬ ((A : Int) < (M3.length : Int)) := by omega
          have hs2 : ¬ ((TT.length : Int) + 3 < (NN.length : Int)) := by omega
          go_wp2
          refine ⟨⟨i + 1, left3, by omega, by go_num, rfl, hR7⟩, ?_⟩
          simp [intOf]; omega
    · have hH := holds_good bx bz d' st' U U M n _ wr hW.shop hW.inv (by have := hW.cnt; omega) hW.row
      go_wp2_with (go_at_call 31; refine hH.mono ?_; rintro e w2 ⟨rfl, hb2⟩)
      go_ret
      exact ⟨rfl, hB.trans (hb2.mono hB.size)⟩

end Go.Proofs.YtoabedkcieindaaGreatDoor
