/- A store on a disk with the log of all batches: fresh, wrote, Sync. -/
import Derived.Test.YtfghgmojnffgnaaGreatAgA
import Derived.Test.YtfghgmojnffgnaaGreatKeepI
import Derived.Test.YtfghgmojnffgnaaGreatKeepJ
namespace Go.Proofs.YtfghgmojnffgnaaGreat
open Go.RowKit Go.Maps Go.Sort

theorem RInv.write {d : Dk} {xs bs : List (List Ox)} (h : RInv d xs bs) (ha : d.dead = false) (hle : d.left = -1) {l : List Ox} (hl : batchOk l = true) (hr : used d.files + (encode l).length ≤ 1048576) :
    ∃ f, d.write logN (encode l) = (0, grew d f) ∧ RInv (grew d f) xs (bs ++ [l]) ∧ f.bytes.length = used d.files + (encode l).length := by
  have hgood : ∀ b ∈ xs ++ (bs ++ [l]), batchOk b = true := fun b hb => by
    rw [← List.append_assoc] at hb
    rcases List.mem_append.1 hb with hb | hb
    · exact h.good b hb
    · obtain rfl := List.mem_singleton.1 hb; exact hl
  have mk : ∀ f : Fl, f.safe ≤ f.bytes.length → f.bytes.length ≤ 1048576 → f.bytes = logOf (xs ++ (bs ++ [l])) → (logOf xs).length ≤ f.safe → RInv (grew d f) xs (bs ++ [l]) := fun f h1 h2 h3 h4 =>
    ⟨⟨h.ok.quota, by show used [(logN, f)] ≤ d.quota; rw [used_one, h.quota]; exact h2, h.ok.left0, h.ok.left1, by intro x hx; obtain rfl := List.mem_singleton.1 hx; exact h1, rising_one _, by intro x hx; obtain rfl := List.mem_singleton.1 hx; show logN.length ≤ 20; decide⟩, h.quota, hgood, .inr ⟨f, rfl, h3, h4⟩⟩
  rcases h.log with ⟨hf, rfl, rfl⟩ | ⟨f, hf, hb, hs⟩
  · have hu : used d.files = 0 := by rw [hf]; rfl
    refine ⟨⟨encode l, 0⟩, ?_, mk _ (Nat.zero_le _) (by rw [hu] at hr; simpa using hr) (by simp [logOf]) (by simp [logOf]), by rw [hu]; simp⟩
    unfold Dk.write
    rw [if_neg (by simp [ha]), if_neg (by simp [logName]), if_neg (by rw [h.quota]; omega), if_neg (by simp [hle]), hf]
    simp only [Dk.burn, grew, hle, ha]
    rfl
  · have hu : used d.files = f.bytes.length := by rw [hf, used_one]
    have hsf := h.ok.safe (logN, f) (by rw [hf]; simp)
    simp only at hsf
    refine ⟨addB (encode l) f, ?_, mk _ ?_ ?_ ?_ ?_, ?_⟩
    · unfold Dk.write
      rw [if_neg (by simp [ha]), if_neg (by simp [logName]), if_neg (by rw [h.quota]; omega), if_neg (by simp [hle]), hf, getF_one]
      simp only [Dk.burn, grew, hle, ha]
      rfl
    · simp only [addB, List.length_append]; omega
    · simp only [addB, List.length_append]; omega
    · simp only [addB]; rw [hb, ← List.append_assoc, logOf_append (xs ++ bs) [l], logOf_one]
    · exact hs
    · rw [hu]; simp [addB]

/-- A store with its disk: all batches stand in the log. -/
structure Bq (w : World) (U : Nat → Prop) (bx bz : Nat) (d : Dk) (st : St) (xs bs : List (List Ox)) : Prop where
  shop : Shop w U bx bz d st
  up : ∀ k, U k → k < w.heap.size
  log : RInv d xs bs
  m : st.m = doAll [] (xs ++ bs).flatten
  turn : st.turn = d.turn
  stuck : st.stuck = false
  alive : d.dead = false
  left : d.left = -1
  loose : (st.loose = true ∧ ∃ f, d.files = [(logN, f)]) ∨ (d.files = [] ∧ st.loose = false) ∨ bs = []
section
variable {w w' : World} {U : Nat → Prop} {bx bz : Nat} {d : Dk} {st : St} {xs bs : List (List Ox)}
theorem Bq.below (h : Bq w U bx bz d st xs bs) (hb : Below w.heap.size w w') : Bq w' U bx bz d st xs bs :=
  ⟨h.shop.below hb, fun k s => Nat.lt_of_lt_of_le (h.up k s) hb.size, h.log, h.m, h.turn, h.stuck, h.alive, h.left, h.loose⟩
theorem Bq.mok (h : Bq w U bx bz d st xs bs) : MOk st.m := by rw [h.m]; exact MOk.nil.doAll (flatten_ok h.log.good)
theorem RInv.files (h : RInv d xs bs) : d.files.length ≤ 1 := by
  rcases h.log with ⟨e, _⟩ | ⟨_, e, _⟩ <;> rw [e] <;> simp
theorem RInv.used (h : RInv d xs bs) : Go.Proofs.YtfghgmojnffgnaaGreat.used d.files = (logOf (xs ++ bs)).length := by
  rcases h.log with ⟨e, rfl, rfl⟩ | ⟨f, e, hb, _⟩
  · rw [e]; rfl
  · rw [e, used_one, hb]
theorem Bq.len (h : Bq w U bx bz d st xs bs) : st.m.length ≤ 524288 := by
  have h1 := doAll_len [] (xs ++ bs).flatten
  have h2 := log_len h.log.good
  have h3 := h.log.ok.used
  have h4 := h.log.ok.quota
  rw [h.log.used] at h3
  rw [h.m]
  simp only [List.length_nil] at h1
  omega
theorem Bq.batchX (h : Bq w U bx bz d st xs bs) {l : List Ox} (hl : batchOk l = true) (hr : Go.Proofs.YtfghgmojnffgnaaGreat.used d.files + (encode l).length ≤ 1048576) :
    ∃ f, Go.Proofs.YtfghgmojnffgnaaGreat.batchX d st l = (0, grew d f, { st with loose := true, m := doAll st.m l }) ∧ RInv (grew d f) xs (bs ++ [l]) ∧ f.bytes.length = Go.Proofs.YtfghgmojnffgnaaGreat.used d.files + (encode l).length := by
  obtain ⟨f, h1, h2, h3⟩ := h.log.write h.alive h.left hl hr
  refine ⟨f, ?_, h2, h3⟩
  unfold Go.Proofs.YtfghgmojnffgnaaGreat.batchX
  rw [writable_open h.alive h.turn h.stuck, h1]
  simp [hl]
/-- Behind a batch. -/
theorem Bq.next (h : Bq w U bx bz d st xs bs) {l : List Ox} {f : Fl} (hs : Shop w' (Nw U w) bx bz (grew d f) { st with loose := true, m := doAll st.m l }) (hr : RInv (grew d f) xs (bs ++ [l])) : Bq w' (fun i => Nw U w i ∧ i < w'.heap.size) bx bz (grew d f) { st with loose := true, m := doAll st.m l } xs (bs ++ [l]) :=
  ⟨hs.mono (fun i hi s => ⟨s, hi⟩), fun i s => s.2, hr, by show doAll st.m l = _; rw [h.m, ← doAll_append]; congr 1; simp, h.turn, h.stuck, h.alive, h.left, .inl ⟨rfl, f, rfl⟩⟩
end

set_option maxHeartbeats 1000000 in
/-- Open on a disk without files. -/
theorem xOpen_new (bx : Nat) (d : Dk) (p : Int) (S : Nat → Prop) (w : World) (hX : XAt w S bx d) (hok : d.Ok) (hf : d.files = []) (hal : d.dead = false) (ht0 : 0 ≤ d.turn) (ht1 : d.turn ≤ 1000) (hp0 : 0 ≤ p) (hp2 : p ≤ 2) :
    Calls Tryz.prog 21 #[.pointer (some ⟨bx, 0, none⟩), .int .i64 p] w fun e w' => ∃ bz, e = .returned (.tuple #[.pointer (some ⟨bz, 0, none⟩), .int .i64 0]) ∧ Shop w' (Nw S w) bx bz { d with turn := d.turn + 1 } (newSt (d.turn + 1)) ∧ Kp S w w' := by
  obtain ⟨bd, h1, h2, hP⟩ := hX
  have hO := sOpen_none bd d p _ w hP hok (by rw [hf]; simp) hal ht0 (by omega) hp0 hp2 (by rw [hf]; rfl) (by rw [hf]; simp [nmsOf])
  obtain ⟨c0, z0⟩ := cells1 h1
  go_enter Tryz.func21, Tryz.ntmps21
  go_wp2_with (go_at_call 42; refine hO.mono ?_; rintro e w1 ⟨bs, rfl, hS, k⟩; clear hO)
  go_ret2
  obtain ⟨a, b⟩ := shop_new h1 h2 hS k
  exact ⟨_, rfl, a, b⟩

set_option maxHeartbeats 1000000 in
theorem fresh_new (p : Int) (w : World) (hp0 : 0 ≤ p) (hp2 : p ≤ 2) :
    Calls Tryz.prog 10 #[.int .i64 1048576, .int .i64 p] w fun e w' => ∃ bx bz d2 U, e = .returned (.tuple #[.pointer (some ⟨bx, 0, none⟩), .pointer (some ⟨bz, 0, none⟩), .bool true]) ∧ Bq w' U bx bz d2 (newSt 1) [] [] ∧ (∀ k, U k → w.heap.size ≤ k) ∧ Below w.heap.size w w' ∧ d2.turn = 1 ∧ d2.files = [] := by
  have hN := xNew_ok 1048576 w (by decide)
  have hnk := newDk_ok (q := 1048576) (by decide)
  go_enter Tryz.func10, Tryz.ntmps10
  go_wp2_with (first
    | (go_at_call 27; refine hN.mono ?_; rintro e w1 ⟨bx, rfl, hX, hb1⟩; clear hN)
    | (go_at_call 21; refine (xOpen_new bx (newDk 1048576) p _ w1 hX hnk rfl rfl (by simp [newDk]) (by simp [newDk]) hp0 hp2).mono ?_; rintro e w2 ⟨bz, rfl, hS, k⟩))
  go_ret3
  refine ⟨bx, bz, _, fun i => w.heap.size ≤ i ∧ i < w2.heap.size, rfl, ⟨hS.mono (fun i hi s => ⟨s.elim id (fun h => Nat.le_trans hb1.size h), hi⟩), fun i s => s.2, ⟨⟨hnk.quota, hnk.used, hnk.left0, hnk.left1, hnk.safe, hnk.rise, hnk.name⟩, rfl, fun b hb => (by cases hb), .inl ⟨rfl, rfl, rfl⟩⟩, rfl, rfl, rfl, rfl, rfl, .inr (.inr rfl)⟩, fun i s => s.1, below_kp hb1 k, rfl, rfl⟩

set_option maxHeartbeats 1000000 in
set_option maxRecDepth 20000 in
theorem wrote_all (bx bz : Nat) (lv : Value) (d : Dk) (st : St) (left : Nat) (U : Nat → Prop) (bs : List (List Ox)) (q : Option Addr) (qc : Nat) (L : List DoV) (w : World) (hW : Bq w U bx bz d st [] bs) (hrow : PRowS w U lv st.m) (hroom : (logOf bs).length + 88 * left ≤ 9680) (hnum : bs.flatten.length + left ≤ 110) (hlo : (st.loose = true ∧ ∃ f, d.files = [(logN, f)]) ∨ (d.files = [] ∧ st.loose = false)) (hl : L.length ≤ 1048576) (hL : Dop w q L) (hq : ∀ a, q = some a → 0 < L.length → ¬ U a.block) (hok : ∀ o ∈ L, DoOk w o ∧ DoOut U o) :
    Calls Tryz.prog 12 #[.pointer (some ⟨bz, 0, none⟩), lv, .slice q L.length qc, .int .i64 left] w fun e w' => ∃ v left' U' d' st' bs', e = .returned (.tuple #[v, .int .i64 ((left' : Nat) : Int), .bool true]) ∧ Bq w' U' bx bz d' st' [] bs' ∧ PRowS w' U' v st'.m ∧ (logOf bs').length + 88 * left' ≤ 9680 ∧ bs'.flatten.length + left' ≤ 110 ∧ ((st'.loose = true ∧ ∃ f, d'.files = [(logN, f)]) ∨ (d'.files = [] ∧ st'.loose = false)) ∧ (∀ k, U' k → Nw U w k) ∧ Kp U w w' ∧ d'.turn = d.turn := by
  go_enter Tryz.func12, Tryz.ntmps12
  go_wp2
  go_loopw [1, 3, 11] (fun v lf i wr => ∃ (k left' : Nat) (U' : Nat → Prop) (d' : Dk) (st' : St) (bs' : List (List Ox)), k ≤ L.length ∧ i = .int .i64 k ∧ lf = .int .i64 left' ∧ Bq wr U' bx bz d' st' [] bs' ∧ PRowS wr U' v st'.m ∧ (logOf bs').length + 88 * left' ≤ 9680 ∧ bs'.flatten.length + left' ≤ 110 ∧ ((st'.loose = true ∧ ∃ f, d'.files = [(logN, f)]) ∨ (d'.files = [] ∧ st'.loose = false)) ∧ (∀ k, U' k → Nw U w k) ∧ Kp U w wr ∧ d'.turn = d.turn) (fun _ _ i _ => L.length - (intOf i).toNat)
  case atStart => exact ⟨0, left, U, d, st, bs, Nat.zero_le _, rfl, rfl, hW, hrow, hroom, hnum, hlo, fun k s => .inl s, Kp.refl _ _, rfl⟩
  case round =>
    obtain ⟨k, left', U', d', st', bs', hk, rfl, rfl, hC, hr, hro, hnu, hlo', hU, kp, ht⟩ := hrel
    have hs := kp.size
    by_cases hlt : k < L.length
    · obtain ⟨g, off, rfl, c0, c1, c2, c3⟩ := (hL.kept kp hq) k hlt
      obtain ⟨hdo, hout⟩ := hok L[k] (List.getElem_mem hlt)
      have hT := tidied_any L[k].q L[k].qc L[k].ops wr (hdo.opp.kept kp hout) hdo.ox (by have := hdo.len; omega)
      have hbk := tidy_ok L[k].ops
      have hox := tidy_ox L[k].ops
      have hb8 := (batchOk_iff.1 hbk).1
      have hen := enc88 hbk
      generalize tidyL L[k].ops = T at *
      have hlen := hC.len
      have hus := hC.log.used
      rw [List.nil_append] at hus
      by_cases hfit : T.length ≤ left'
      · go_wp2_with (go_at_call 29; refine hT.mono ?_; rintro e w7 ⟨v7, rfl, hb7, ho7⟩; obtain ⟨q7, c7, rfl, hp7, hn7⟩ := ho7.opp; clear hT)
        have hC7 := hC.below hb7
        have hk7 := kp_below kp hb7
        have hsz := hb7.size
        have hnU : ∀ a, q7 = some a → 0 < T.length → ¬ U' a.block := fun a ha _ s => by have := (hn7 a ha).1; have := hC.up _ s; omega
        have hXB := xBatch_any bx bz d' st' U' q7 c7 T w7 hC7.shop hC7.log.ok (by have := hC7.log.files; omega) (by omega) (by omega) hox hp7 hnU
        obtain ⟨f, hx, hD', hf'⟩ := hC.batchX hbk (by omega)
        rw [hx] at hXB
        refine hXB.mono ?_
        rintro e w8 ⟨rfl, hS8, k8⟩
        clear hXB
        have hrow8 := (hr.below hb7).step k8
        have hp8 := hp7.kept k8 hnU
        have hk8 : Kp U w w8 := hk7.trans k8 (fun i hi s => (hU i s).elim id (fun h => by omega))
        have hC8 := hC7.next hS8 hD'
        go_wp2_with (go_at_call 31; refine (behind_row (fun i => Nw U' w7 i ∧ i < w8.heap.size) _ st'.m q7 c7 T w8 (fun k s => s.2) hrow8 hC.mok.rise hp8 (by omega)).mono ?_; rintro e w9 ⟨v9, rfl, hb9, hr9⟩)
        go_roundw
        case rel =>
          refine ⟨k + 1, left' - T.length, _, _, _, bs' ++ [T], by omega, by go_num, by go_num, hC8.below hb9, hr9, ?_, ?_, .inl ⟨rfl, f, rfl⟩, fun i s => s.1.elim (fun u => hU i u) (fun u => .inr (by omega)), kp_below hk8 hb9, ht⟩
          · rw [logOf_append, logOf_one, List.length_append]; omega
          · have hfl : (bs' ++ [T]).flatten.length = bs'.flatten.length + T.length := by rw [List.flatten_append, List.length_append, List.flatten_singleton]
            omega
        case measure => simp [intOf]; omega
      · have hfit' : left' < T.length := by omega
        go_wp2_with (go_at_call 29; refine hT.mono ?_; rintro e w7 ⟨v7, rfl, hb7, ho7⟩; obtain ⟨q7, c7, rfl, hp7, hn7⟩ := ho7.opp; clear hT)
        go_ret3
        exact ⟨_, left', U', d', st', bs', rfl, hC.below hb7, hr.below hb7, hro, hnu, hlo', hU, kp_below kp hb7, ht⟩
    · go_wp2
      go_ret3
      exact ⟨_, left', U', d', st', bs', rfl, hC, hr, hro, hnu, hlo', hU, kp, ht⟩

end Go.Proofs.YtfghgmojnffgnaaGreat

/- The calls Sync and Put of a store; a disk to which all files are copied. -/
namespace Go.Proofs.YtfghgmojnffgnaaGreat
open Go.RowKit Go.Maps Go.Sort

set_option maxHeartbeats 1000000 in
theorem xSSync_any (bx bz : Nat) (d : Dk) (st : St) (U : Nat → Prop) (w : World) (hS : Shop w U bx bz d st) (hok : d.Ok) :
    Calls Tryz.prog 14 #[.pointer (some ⟨bz, 0, none⟩)] w fun e w' => e = .returned (.int .i64 (syncX d st).1) ∧ Shop w' (Nw U w) bx bz (syncX d st).2.1 (syncX d st).2.2 ∧ Kp U w w' := by
  obtain ⟨bd, bs, h1, h2, h3, h4, h5⟩ := hS.ex
  have hin := sinner_any h2
  have hB := sSync_any bd bs d st _ w h5 hok
  generalize syncX d st = X at *
  go_enter Tryz.func14, Tryz.ntmps14
  go_wp2_with (first
    | (go_at_call 32; refine hin.mono ?_; rintro e w' ⟨rfl, rfl⟩; clear hin)
    | (go_at_call 33; refine hB.mono ?_; rintro e w1 ⟨rfl, hS1, k1⟩; clear hB))
  go_ret
  have hlx := lt_of_block h1
  have hlz := lt_of_block h2
  refine ⟨rfl, ⟨bd, bs, k1.at h1 (fun s => s.2.1 rfl), k1.at h2 (fun s => s.2.2 rfl), .inl h3, .inl h4, hS1.mono (fun k _ s => ?_)⟩, k1.mono (fun _ s => s.1)⟩
  rcases s with s | s
  · exact ⟨.inl s.1, s.2⟩
  · exact ⟨.inr s, by omega, by omega⟩

/-- All that was written is safe behind Sync. -/
theorem Bq.sync {w : World} {U : Nat → Prop} {bx bz : Nat} {d : Dk} {st : St} {bs : List (List Ox)} (h : Bq w U bx bz d st [] bs) (hlo : (st.loose = true ∧ ∃ f, d.files = [(logN, f)]) ∨ (d.files = [] ∧ st.loose = false)) :
    ∃ d', syncX d st = (0, d', { st with loose := false }) ∧ RInv d' bs [] ∧ d'.dead = false ∧ d'.left = -1 ∧ d'.turn = d.turn := by
  rcases hlo with ⟨hl, f, hf⟩ | ⟨hf, hl⟩
  · rcases h.log.log with ⟨e, _⟩ | ⟨f', e, hb, _⟩
    · rw [hf] at e; cases e
    obtain rfl : f' = f := by rw [hf] at e; simpa using e.symm
    refine ⟨grew d (allSafe f'), syncX_loose h.alive h.turn h.stuck hl ?_, ?_, h.alive, h.left, rfl⟩
    · unfold Dk.sync
      rw [if_neg (by simp [h.alive]), hf, getF_one, if_neg (by simp), if_neg (by simp [h.left])]
      simp only [Dk.burn, grew, h.left, h.alive]
      rfl
    · have hk := (sync_ok h.log.ok logN).1
      have hus := h.log.ok.used
      rw [hf, used_one] at hus
      refine ⟨⟨h.log.ok.quota, by show used [(logN, allSafe f')] ≤ d.quota; rw [used_one]; exact hus, h.log.ok.left0, h.log.ok.left1, by intro x hx; obtain rfl := List.mem_singleton.1 hx; exact Nat.le_refl _, rising_one _, by intro x hx; obtain rfl := List.mem_singleton.1 hx; show logN.length ≤ 20; decide⟩, h.log.quota, by simpa using h.log.good, .inr ⟨allSafe f', rfl, by show f'.bytes = _; simpa using hb, ?_⟩⟩
      show (logOf bs).length ≤ f'.bytes.length
      rw [hb, List.nil_append]; exact Nat.le_refl _
  · rcases h.log.log with ⟨_, _, rfl⟩ | ⟨f', e, _⟩
    · refine ⟨d, (syncX_tight h.alive h.turn h.stuck hl).trans ?_, ⟨h.log.ok, h.log.quota, by simp, .inl ⟨hf, rfl, rfl⟩⟩, h.alive, h.left, rfl⟩
      obtain ⟨t, m, l, s⟩ := st
      simp only at hl
      subst hl
      rfl
    · rw [hf] at e; cases e

set_option maxHeartbeats 1000000 in
/-- Put, of a key and a value that are ones: whatever it answers, it changes what is the store's alone. -/
theorem xPut_any (bx bz : Nat) (d : Dk) (st : St) (U : Nat → Prop) (k v : Nm) (w : World) (hS : Shop w U bx bz d st) (hU : ∀ i, U i → i < w.heap.size) (hok : d.Ok) (hfl : d.files.length ≤ 4194302) (hml : st.m.length ≤ 4194300) (hk : k.length ≤ 16) (hv : v.length ≤ 64) :
    Calls Tryz.prog 28 #[.pointer (some ⟨bz, 0, none⟩), str k, str v] w fun e w' => (∃ r : Int, e = .returned (.int .i64 r)) ∧ Kp U w w' := by
  have hA : Below w.heap.size w (w.alloc (.cells #[str k, str v, .bool false] 121)) := (Below.refl _ w).alloc (Nat.le_refl _) _
  have hp : Opp (w.alloc (.cells #[str k, str v, .bool false] 121)) (some ⟨w.heap.size, 0, none⟩) [⟨k, v, false⟩] := fun i hi => by
    obtain rfl : i = 0 := by simpa using hi
    have hb := block_new w (.cells #[str k, str v, .bool false] 121)
    exact ⟨w.heap.size, 0, rfl, cell_block hb, cell_block hb, cell_block hb⟩
  have hB := xBatch_any bx bz d st U (some ⟨w.heap.size, 0, none⟩) 1 [⟨k, v, false⟩] _ (hS.below hA) hok hfl hml (by simp) (fun o ho => by obtain rfl := List.mem_singleton.1 ho; simp only; omega) hp (fun a ha _ s => by cases ha; have := hU _ s; simp only at this; omega)
  generalize batchX d st [⟨k, v, false⟩] = X at *
  go_enter Tryz.func28, Tryz.ntmps28
  go_wp2_with (go_at_call 30; refine hB.mono ?_; rintro e w1 ⟨rfl, hS1, k1⟩; clear hB)
  go_ret
  exact ⟨⟨_, rfl⟩, (Kp.of_below hA).trans k1 (fun _ _ s => s)⟩

/-- The copy of the first files. -/
def cpk (d : Dk) (k : Nat) : Dk := { newDk 1048576 with files := (d.files.take k).map fun x => (x.1, ⟨x.2.bytes, x.2.bytes.length⟩) }
theorem cpk_all (d : Dk) {k : Nat} (h : d.files.length ≤ k) : cpk d k = copyOf d := by unfold cpk copyOf; rw [List.take_of_length_le h]
theorem used_app (a b : List (Nm × Fl)) : used (a ++ b) = used a + used b := by simp [used]
theorem used_take2 (l : List (Nm × Fl)) (k : Nat) (h : k < l.length) : used (l.take k) + l[k].2.bytes.length ≤ used l := by
  have e : l = l.take k ++ l[k] :: l.drop (k + 1) := by rw [List.getElem_cons_drop, List.take_append_drop]
  have h2 := used_app (l.take k) (l[k] :: l.drop (k + 1))
  rw [← e] at h2
  have h3 : used (l[k] :: l.drop (k + 1)) = l[k].2.bytes.length + used (l.drop (k + 1)) := by simp only [used, List.map_cons, List.sum_cons]
  omega
theorem used_copy (l : List (Nm × Fl)) : used (l.map fun x => (x.1, (⟨x.2.bytes, x.2.bytes.length⟩ : Fl))) = used l := by simp [used, Function.comp_def]
theorem copy_rise {l : List (Nm × Fl)} (h : rising l) : rising (l.map fun x => (x.1, (⟨x.2.bytes, x.2.bytes.length⟩ : Fl))) := by
  unfold rising at h ⊢
  rw [List.pairwise_map]
  exact h
theorem cpk_ok {d : Dk} (h : d.Ok) (k : Nat) : (cpk d k).Ok := by
  refine ⟨by show (1048576 : Int).toNat ≤ 1048576; omega, ?_, by simp [cpk, newDk], by simp [cpk, newDk], ?_, ?_, ?_⟩
  · show used _ ≤ (1048576 : Int).toNat
    have h1 := h.used
    have h2 := h.quota
    have h3 : used (d.files.take k) ≤ used d.files := by
      have e := used_app (d.files.take k) (d.files.drop k)
      rw [List.take_append_drop] at e
      omega
    simp only [cpk]
    rw [used_copy]
    omega
  · intro x hx
    obtain ⟨y, _, rfl⟩ := List.mem_map.1 hx
    exact Nat.le_refl _
  · exact copy_rise (List.Pairwise.sublist (List.take_sublist _ _) h.rise)
  · intro x hx
    obtain ⟨y, hy, rfl⟩ := List.mem_map.1 hx
    exact h.name y (List.mem_of_mem_take hy)

theorem cpk_calm {d : Dk} (h : d.Ok) (k : Nat) : Calm (cpk d k) := ⟨cpk_ok h k, rfl, rfl⟩
/-- One file more is copied. -/
theorem cpk_step {d : Dk} (h : d.Ok) {k : Nat} (hk : k < d.files.length) (hn : nameOk d.files[k].1 = true) :
    ∃ d1, (cpk d k).write d.files[k].1 d.files[k].2.bytes = (0, d1) ∧ d1.Ok ∧ d1.sync d.files[k].1 = (0, cpk d (k + 1)) := by
  have hu := used_take2 d.files k hk
  have h1 := h.used
  have h2 := h.quota
  have hc := cpk_ok h k
  have hall : ∀ y ∈ (cpk d k).files, bytesBefore y.1 d.files[k].1 = true := fun y hy => by
    obtain ⟨z, hz, rfl⟩ := List.mem_map.1 hy
    obtain ⟨i, hi, rfl⟩ := List.getElem_of_mem hz
    rw [List.length_take] at hi
    simp only [List.getElem_take]
    exact List.pairwise_iff_getElem.1 h.rise i k (by omega) hk (by omega)
  have hno : getF d.files[k].1 (cpk d k).files = none := getF_none (fun i hi e => by
    have := hall _ (List.getElem_mem hi)
    rw [e, WideAt.bytes_irrefl] at this; cases this)
  have hw : (cpk d k).write d.files[k].1 d.files[k].2.bytes = (0, { cpk d k with files := (cpk d k).files ++ [(d.files[k].1, ⟨d.files[k].2.bytes, 0⟩)] }) := by
    unfold Dk.write
    rw [if_neg (by simp [cpk, newDk]), if_neg (by simp [hn]), if_neg (by
      show ¬ (1048576 : Int).toNat < used (cpk d k).files + _
      simp only [cpk]
      rw [used_copy]
      omega), if_neg (by simp [cpk, newDk]), hno, ins_last (x := (d.files[k].1, (⟨d.files[k].2.bytes, 0⟩ : Fl))) hall]
    simp only [Option.isSome_none, Bool.false_eq_true, if_false]
    rfl
  refine ⟨_, hw, ?_, ?_⟩
  · have := (write_ok hc d.files[k].1 d.files[k].2.bytes).1
    rw [hw] at this
    exact this
  · have hg : getF d.files[k].1 ((cpk d k).files ++ [(d.files[k].1, (⟨d.files[k].2.bytes, 0⟩ : Fl))]) = some ⟨d.files[k].2.bytes, 0⟩ := by
      rw [← ins_last (x := (d.files[k].1, (⟨d.files[k].2.bytes, 0⟩ : Fl))) hall]
      exact getF_ins hc.rise hno
    unfold Dk.sync
    rw [if_neg (by simp [cpk, newDk])]
    simp only
    rw [hg, if_neg (by simp), if_neg (by simp [cpk, newDk])]
    have hup : upd d.files[k].1 allSafe ((cpk d k).files ++ [(d.files[k].1, (⟨d.files[k].2.bytes, 0⟩ : Fl))]) = (cpk d (k + 1)).files := by
      unfold upd
      rw [List.map_append]
      have e1 : (cpk d k).files.map (fun x => if x.1 = d.files[k].1 then (x.1, allSafe x.2) else x) = (cpk d k).files := by
        conv => rhs; rw [← List.map_id (cpk d k).files]
        refine List.map_congr_left (fun y hy => ?_)
        have := hall y hy
        rw [if_neg (fun e => by rw [e, WideAt.bytes_irrefl] at this; cases this)]
        rfl
      rw [e1]
      simp only [List.map_cons, List.map_nil, if_true, allSafe, cpk]
      rw [List.take_succ_eq_append_getElem hk, List.map_append]
      rfl
    rw [hup]
    rfl

end Go.Proofs.YtfghgmojnffgnaaGreat

/- The statements' copied, for any disk that is not dead. -/
namespace Go.Proofs.YtfghgmojnffgnaaGreat
open Go.RowKit Go.Maps Go.Sort

theorem getF_mem_ok {α : Type} : ∀ {fs : List (Nm × α)}, rising fs → ∀ {x : Nm × α}, x ∈ fs → getF x.1 fs = some x.2
  | y :: r, hr, x, hx => by
    simp only [getF]
    rcases List.mem_cons.1 hx with rfl | hx
    · rw [if_pos rfl]
    · have h1 := (List.pairwise_cons.1 hr).1 x hx
      rw [if_neg (fun e => by rw [e, WideAt.bytes_irrefl] at h1; cases h1)]
      exact getF_mem_ok (List.pairwise_cons.1 hr).2 hx

set_option maxHeartbeats 2000000 in
set_option maxRecDepth 20000 in
theorem copied_all (bx : Nat) (d : Dk) (S : Nat → Prop) (w : World) (hX : XAt w S bx d) (hok : d.Ok) (ha : d.dead = false) (hnm : ∀ x ∈ d.files, nameOk x.1 = true) (hfl : d.files.length ≤ 1000000) :
    Calls Tryz.prog 39 #[.pointer (some ⟨bx, 0, none⟩)] w fun e w' => ∃ bc, e = .returned (.tuple #[.pointer (some ⟨bc, 0, none⟩), .bool true]) ∧ XAt w' (fun k => w.heap.size ≤ k) bc (copyOf d) ∧ Below w.heap.size w w' := by
  have hN := xNew_ok 1048576 w (by decide)
  go_enter Tryz.func39, Tryz.ntmps39
  go_wp2_with (first
    | (go_at_call 27; refine hN.mono ?_; rintro e w1 ⟨bc, rfl, hC, hb1⟩; clear hN; have hX1 := hX.kept (T := fun _ => False) (Kp.of_below hb1) (fun _ _ f => f))
    | (go_at_call 57; refine (xNames_any bx d S w1 hX1 hok (by omega) ha).mono ?_; rintro e w2 ⟨nv, rfl, hb2, hO⟩))
  obtain ⟨nq, nc, rfl, hnr⟩ := ownS_shape hO
  have hs1 := hb1.size
  have hs2 := hb2.size
  have hC2 : XAt w2 (fun k => w.heap.size ≤ k ∧ k < w1.heap.size) bc (cpk d 0) := (hC.mono (fun k hk s => ⟨s, hk⟩)).kept (T := fun _ => False) (Kp.of_below hb2) (fun _ _ f => f)
  have hN2 : NRow w2 (fun k => w.heap.size ≤ k ∧ k < w1.heap.size) nq (nmsOf d.files) := fun i hi => by
    obtain ⟨g, e, hg, hc⟩ := hnr i hi
    exact ⟨g, e, fun s => by omega, hc⟩
  have hB2 : Below w.heap.size w w2 := hb1.trans (hb2.mono hs1)
  have hNL : Hid ((nmsOf d.files).length = d.files.length) := nms_len d.files
  have hnat : ∀ k (h : k < (nmsOf d.files).length), (nmsOf d.files)[k] = (d.files[k]'(by rw [hNL.out] at h; exact h)).1 := fun k h => nms_at _ _ _
  clear hO hnr hC hX1
  generalize nmsOf d.files = NL at *
  go_loopw [7, 8] (fun _ i wr => ∃ (k : Nat) (V : Nat → Prop), k ≤ NL.length ∧ i = .int .i64 k ∧ XAt wr V bc (cpk d k) ∧ (∀ j, V j → w.heap.size ≤ j ∧ j < wr.heap.size) ∧ NRow wr V nq NL ∧ Below w.heap.size w wr) (fun _ i _ => NL.length - (intOf i).toNat)
  case atStart => exact ⟨0, _, Nat.zero_le _, rfl, hC2, fun j s => ⟨s.1, by omega⟩, hN2, hB2⟩
  case round =>
    obtain ⟨k, V, hk, rfl, hc, hV, hn, hB⟩ := hrel
    have hs := hB.size
    have hXr := hX.kept (T := fun _ => False) (Kp.of_below hB) (fun _ _ f => f)
    by_cases hlt : k < NL.length
    · have hltf : k < d.files.length := by rw [hNL.out] at hlt; exact hlt
      obtain ⟨g, rfl, hng, hcell⟩ := hn k hlt
      rw [hnat k hlt] at hcell
      have hno := hnm _ (List.getElem_mem hltf)
      obtain ⟨d1, hw1, hk1, hsy⟩ := cpk_step hok hltf hno
      have hnl := nameOk_le hno
      have hbl : (d.files[k]).2.bytes.length ≤ 1048576 := by
        have h1 := used_take2 d.files k hltf
        have h2 := hok.used
        have h3 := hok.quota
        omega
      have hrd : d.read d.files[k].1 = (d.files[k].2.bytes, 0) := by
        have hg := getF_mem_ok hok.rise (List.getElem_mem hltf)
        simp [Dk.read, ha, hg]
      have hcl : (cpk d k).files.length ≤ 4194302 := by simp only [cpk, List.length_map, List.length_take]; omega
      generalize hfe : d.files[k] = fk at *
      obtain ⟨fn, ff⟩ := fk
      simp only at *
      have hcell' : wr.cell? ⟨g, k, none⟩ = some (str fn) := hcell
      have hRd := xRead_any bx d fn S wr hXr (by unfold maxLen; omega)
      rw [hrd] at hRd
      have hWr := xWrite_any bc (cpk d k) fn ff.bytes V wr hc (cpk_ok hok k) hcl (by omega) (by omega)
      rw [hw1] at hWr
      have hSy := fun W X h => xSync_any bc d1 fn X W h hk1 (by unfold maxLen; omega)
      rw [hsy] at hSy
      clear hcell
      have hcl4 : ∀ w4, Kp V wr w4 → w4.cell? ⟨g, k, none⟩ = some (str fn) := fun w4 k4 => by
        have hbk := k4.block g (World.block_lt_of_cell? wr ⟨g, k, none⟩ hcell') hng
        simp only [World.cell?, hbk] at hcell' ⊢
        exact hcell'
      go_wp2_with (first
        | (go_at_call 53; refine hRd.mono ?_; rintro e w3 ⟨rfl, hw3⟩; subst w3; clear hRd)
        | (go_at_call 45; refine hWr.mono ?_; rintro e w4 ⟨rfl, hc4, k4⟩; clear hWr; have hcell4 := hcl4 w4 k4)
        | (go_at_call 47; refine (hSy _ _ hc4).mono ?_; rintro e w5 ⟨rfl, hc5, k5⟩; clear hSy))
      go_roundw
      case rel =>
        have hk4 := k4.size
        refine ⟨k + 1, fun j => Nw (Nw V wr) w4 j ∧ j < w5.heap.size, by omega, by go_num, hc5.mono (fun j hj s => ⟨s, hj⟩), fun j s => ⟨?_, s.2⟩, ((hn.step k4).step k5).mono (fun j s => s.1), ?_⟩
        · rcases s.1 with (s | s) | s
          · exact (hV j s).1
          · omega
          · omega
        · refine below_kp (below_kp hB (k4.mono (fun j s => (hV j s).1))) (k5.mono (fun j s => ?_))
          rcases s with s | s
          · exact (hV j s).1
          · omega
      case measure => simp [intOf]; omega
    · have hL : cpk d k = copyOf d := cpk_all d (by rw [hNL.out] at hlt hk; omega)
      rw [hL] at hc
      go_wp2
      go_ret2
      exact ⟨bc, rfl, hc.mono (fun j _ s => (hV j s).1), hB⟩

end Go.Proofs.YtfghgmojnffgnaaGreat
