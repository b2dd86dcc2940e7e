/- Fuse and Crash, while a store is open on the disk; Flush, and Get on a store that is closed. -/
import Derived.Test.YtfghgmojnffgnaaGreatAgG
namespace Go.Proofs.YtfghgmojnffgnaaGreat
open Go.RowKit Go.Maps Go.Sort

/-- The disk alone has turned. -/
theorem shop_disk {w w' : World} {U S T : Nat → Prop} {bx bz bd bs bm : Nat} {d' : Dk} {st : St} (h1 : w.heap[bx]? = some (.cells #[.pointer (some ⟨bd, 0, none⟩)] 91)) (h2 : w.heap[bz]? = some (.cells #[.pointer (some ⟨bs, 0, none⟩)] 93)) (h3 : U bx) (h4 : U bz)
    (u1 : ∀ k, S k → U k ∧ k ≠ bx ∧ k ≠ bz) (u2 : ∀ k, T k → U k ∧ k ≠ bx ∧ k ≠ bz) (u3 : ∀ k, S k → ¬ T k) (hT : StAt w T bs bd bm st) (hP : ProgAt w' (Nw S w) bd d') (k : Kp S w w') : Shop w' (Nw U w) bx bz d' st ∧ Kp U w w' := by
  have hlx := lt_of_block h1
  have hlz := lt_of_block h2
  refine ⟨⟨bd, bs, k.at h1 (fun s => (u1 _ s).2.1 rfl), k.at h2 (fun s => (u1 _ s).2.2 rfl), .inl h3, .inl h4, Sys.of (S := Nw S w) (T := fun i => T i ∧ i < w.heap.size) (bm := bm) (fun i s => ?_) (fun i t => ⟨.inl (u2 i t.1).1, (u2 i t.1).2⟩) (fun i s t => ?_) hP ((hT.mono (S := fun i => T i ∧ i < w.heap.size) (fun i hi t => ⟨t, hi⟩)).kept k (fun i t s => u3 i s t.1))⟩, k.mono (fun i s => (u1 i s).1)⟩
  · rcases s with s | s
    · exact ⟨.inl (u1 i s).1, (u1 i s).2⟩
    · exact ⟨.inr s, by omega, by omega⟩
  · rcases s with s | s
    · exact u3 i s t.1
    · have := t.2; omega

set_option maxHeartbeats 1000000 in
theorem xFuse_shop (bx bz : Nat) (d : Dk) (st : St) (U : Nat → Prop) (n : Int) (w : World) (hS : Shop w U bx bz d st) :
    Calls Tryz.prog 15 #[.pointer (some ⟨bx, 0, none⟩), .int .i64 n] w fun e w' => e = .returned (.tuple #[]) ∧ Shop w' (Nw U w) bx bz (d.fuse n) st ∧ Kp U w w' := by
  obtain ⟨bd, bs, h1, h2, h3, h4, h5⟩ := hS.ex
  obtain ⟨S, T, bm, u1, u2, u3, hP, hT⟩ := h5.ex
  have hin := inner_any h1
  have hc := dFuse_any bd d n S w hP
  go_enter Tryz.func15, Tryz.ntmps15
  go_wp2_with (first
    | (go_at_call 34; refine hin.mono ?_; rintro e w' ⟨rfl, rfl⟩; clear hin)
    | (go_at_call 35; refine hc.mono ?_; rintro e w1 ⟨rfl, hp, kp⟩; clear hc))
  go_end0
  exact ⟨rfl, shop_disk h1 h2 h3 h4 u1 u2 u3 hT hp kp⟩

set_option maxHeartbeats 1000000 in
theorem xCrash_shop (bx bz : Nat) (d : Dk) (st : St) (U : Nat → Prop) (q : Option Addr) (qc : Nat) (ks : List Int) (w : World) (hS : Shop w U bx bz d st) (hok : d.Ok) (hl : d.files.length ≤ 4194303) (hkl : ks.length ≤ 4611686018427387904) (hi : Intp w q ks) (hq : ∀ a, q = some a → 0 < ks.length → ¬ U a.block) :
    Calls Tryz.prog 17 #[.pointer (some ⟨bx, 0, none⟩), .slice q ks.length qc] w fun e w' => e = .returned (.tuple #[]) ∧ Shop w' (Nw U w) bx bz (d.crash ks) st ∧ Kp U w w' := by
  obtain ⟨bd, bs, h1, h2, h3, h4, h5⟩ := hS.ex
  obtain ⟨S, T, bm, u1, u2, u3, hP, hT⟩ := h5.ex
  have hin := inner_any h1
  have hc := dCrash_any bd d q qc ks S w hP hok hl hkl hi (fun a ha h0 s => hq a ha h0 (u1 _ s).1)
  go_enter Tryz.func17, Tryz.ntmps17
  go_wp2_with (first
    | (go_at_call 34; refine hin.mono ?_; rintro e w' ⟨rfl, rfl⟩; clear hin)
    | (go_at_call 37; refine hc.mono ?_; rintro e w1 ⟨rfl, hp, kp⟩; clear hc))
  go_end0
  exact ⟨rfl, shop_disk h1 h2 h3 h4 u1 u2 u3 hT hp kp⟩

set_option maxHeartbeats 1000000 in
theorem xFlush_any (bx bz : Nat) (d : Dk) (st : St) (U : Nat → Prop) (w : World) (hS : Shop w U bx bz d st) :
    Calls Tryz.prog 36 #[.pointer (some ⟨bz, 0, none⟩)] w fun e w' => e = .returned (.int .i64 (writable d.turn d.dead st)) ∧ Below w.heap.size w w' := by
  obtain ⟨bd, bs, h1, h2, h3, h4, h5⟩ := hS.ex
  obtain ⟨S, T, bm, u1, u2, u3, hP, hT⟩ := h5.ex
  obtain ⟨dm, dr, df, hd, _⟩ := hP.raw
  have hin := sinner_any h2
  have hW := Writable_any hT hd
  generalize writable d.turn d.dead st = R at *
  go_enter Tryz.func36, Tryz.ntmps36
  go_wp2_with (first
    | (go_at_call 32; refine hin.mono ?_; rintro e w' ⟨rfl, rfl⟩; clear hin)
    | (go_at_call 69; refine hW.mono ?_; rintro e w1 ⟨rfl, hb⟩; clear hW))
  go_ret
  exact ⟨rfl, hb⟩

set_option maxHeartbeats 1000000 in
theorem sGet_closed {w : World} {T : Nat → Prop} {bs bd bm : Nat} {st : St} (h : StAt w T bs bd bm st) {m r f : Value} {dead : Bool} {t : Int} (hd : w.heap[bd]? = some (.cells #[m, r, f, .bool dead, .int .i64 t] 129)) (ht : st.turn ≠ t) (k : Nm) :
    Calls Tryz.prog 38 #[.pointer (some ⟨bs, 0, none⟩), str k] w fun e w' => e = .returned (.tuple #[str [], .bool false, .int .i64 6]) ∧ Below w.heap.size w w' := by
  have hr := Ready_any h hd
  have e6 : ready t dead st = 6 := by simp [ready, ht]
  rw [e6] at hr
  go_enter Tryz.func38, Tryz.ntmps38
  go_wp2_with (go_at_call 74; refine hr.mono ?_; rintro e w1 ⟨rfl, hb⟩; clear hr)
  go_ret3
  exact ⟨rfl, hb⟩

set_option maxHeartbeats 1000000 in
theorem xGet_closed (bx bz : Nat) (d : Dk) (st : St) (U : Nat → Prop) (k : Nm) (w : World) (hS : Shop w U bx bz d st) (ht : st.turn ≠ d.turn) :
    Calls Tryz.prog 18 #[.pointer (some ⟨bz, 0, none⟩), str k] w fun e w' => e = .returned (.tuple #[str [], .bool false, .int .i64 6]) ∧ Below w.heap.size w w' := by
  obtain ⟨bd, bs, h1, h2, h3, h4, h5⟩ := hS.ex
  obtain ⟨S, T, bm, u1, u2, u3, hP, hT⟩ := h5.ex
  obtain ⟨dm, dr, df, hd, _⟩ := hP.raw
  have hin := sinner_any h2
  have hG := sGet_closed hT hd ht k
  go_enter Tryz.func18, Tryz.ntmps18
  go_wp2_with (first
    | (go_at_call 32; refine hin.mono ?_; rintro e w' ⟨rfl, rfl⟩; clear hin)
    | (go_at_call 38; refine hG.mono ?_; rintro e w1 ⟨rfl, hb⟩; clear hG))
  go_ret3
  exact ⟨rfl, hb⟩

theorem Dk.Ok.burn {d : Dk} (h : d.Ok) : d.burn.Ok := h.files (fs := d.files) h.used h.safe h.rise h.name
theorem RInv.same {d d' : Dk} {xs bs : List (List Ox)} (h : RInv d xs bs) (hok : d'.Ok) (hf : d'.files = d.files) (hq : d'.quota = d.quota) : RInv d' xs bs :=
  ⟨hok, hq.trans h.quota, h.good, by rw [hf]; exact h.log⟩
/-- A record is written while a fuse burns: it stands in the log, or the disk has died. -/
theorem RInv.write2 {d : Dk} {xs bs : List (List Ox)} (h : RInv d xs bs) (ha : d.dead = false) {l : List Ox} (hl : batchOk l = true) (hr : Go.Proofs.YtfghgmojnffgnaaGreat.used d.files + (encode l).length ≤ 1048576) :
    (d.write logN (encode l) = (4, d.die) ∧ RInv d.die xs bs) ∨ ∃ f, d.write logN (encode l) = (0, grew d.burn f) ∧ RInv (grew d.burn f) xs (bs ++ [l]) ∧ f.bytes.length = Go.Proofs.YtfghgmojnffgnaaGreat.used d.files + (encode l).length := by
  by_cases hz : d.left = 0
  · refine .inl ⟨?_, h.same h.ok.die rfl rfl⟩
    unfold Dk.write
    rw [if_neg (by simp [ha]), if_neg (by simp [logName]), if_neg (by rw [h.quota]; omega), if_pos hz]
  · refine .inr ?_
    have h' : RInv { d with left := -1 } xs bs := h.same ⟨h.ok.quota, h.ok.used, by simp, by simp, h.ok.safe, h.ok.rise, h.ok.name⟩ rfl rfl
    obtain ⟨f, e, hR, hlen⟩ := h'.write ha rfl hl hr
    have hok := (write_ok h.ok logN (encode l)).1
    have hw : d.write logN (encode l) = (0, grew d.burn f) := by
      unfold Dk.write at e ⊢
      rw [if_neg (by simp [ha]), if_neg (by simp [logName]), if_neg (by simp only [h.quota]; omega), if_neg (by simp)] at e
      rw [if_neg (by simp [ha]), if_neg (by simp [logName]), if_neg (by rw [h.quota]; omega), if_neg hz]
      have hfl := congrArg (fun p : Int × Dk => p.2.files) e
      simp only [grew] at hfl
      simp only [grew]
      rw [hfl]
    rw [hw] at hok
    exact ⟨f, hw, ⟨hok, h.quota, hR.good, .inr (by
      rcases hR.log with ⟨hx, _⟩ | ⟨f', hx, h1, h2⟩
      · cases hx
      · exact ⟨f', hx, h1, h2⟩)⟩, hlen⟩

end Go.Proofs.YtfghgmojnffgnaaGreat

/- The statements' risky, while a fuse burns. -/
namespace Go.Proofs.YtfghgmojnffgnaaGreat
open Go.RowKit Go.Maps Go.Sort

theorem OwnBB.snoc {w8 w9 : World} {base : Nat} {V : Nat → Prop} {u8 v' : Value} {bs' : List (List Ox)} {T : List Ox} {q7 : Option Addr} {c7 : Nat} {vs : List Value} (ho8 : w8.ownsRow base 65 1 u8 bs'.length vs) (hn8 : ∀ g, u8.ownBlock = some g → ¬ V g) (he8 : ∀ i (h : i < bs'.length), ∃ qi ci, vs[i]? = some (.slice qi bs'[i].length ci) ∧ Opp w8 qi bs'[i] ∧ ∀ a, qi = some a → 0 < bs'[i].length → ¬ V a.block ∧ u8.ownBlock ≠ some a.block)
    (hbase : base ≤ w8.heap.size) (hVlt : ∀ i, V i → i < w8.heap.size) (hp8 : Opp w8 q7 T) (hnT : ∀ a, q7 = some a → 0 < T.length → ¬ V a.block) (hq8 : ∀ a, q7 = some a → 0 < T.length → u8.ownBlock ≠ some a.block)
    (hA : AppR (w8.alloc (.cells #[.slice q7 T.length c7] 65)) w9 65 1 u8 bs'.length vs v' (bs'.length + 1) (vs ++ [.slice q7 T.length c7])) : OwnBB w9 base V v' (bs' ++ [T]) ∧ Kp (fun i => u8.ownBlock = some i) w8 w9 := by
  have hkq : Kp (fun i => u8.ownBlock = some i) w8 w9 := ((Kp.refl _ w8).alloc (.cells #[.slice q7 T.length c7] 65)).trans (T := fun i => u8.ownBlock = some i) (by
    rcases hA.how with ⟨_, h⟩ | ⟨h, _⟩
    · exact h
    · exact Kp.of_below h) (fun _ _ e => e)
  have hng : ∀ g, v'.ownBlock = some g → (u8.ownBlock = some g) ∨ w8.heap.size + 1 ≤ g := fun g hg => by
    rcases hA.how with ⟨h, _⟩ | ⟨_, h⟩
    · exact .inl (h ▸ hg)
    · have := h g hg; rw [World.size_alloc] at this; exact .inr this
  refine ⟨⟨vs ++ [.slice q7 T.length c7], ownsRow_up (by rw [List.length_append]; exact hA.new) (fun g hg => ?_), fun g hg s => ?_, fun i hi => ?_⟩, hkq⟩
  · rcases hng g hg with h | h
    · exact (ho8.lt g h).1
    · omega
  · rcases hng g hg with h | h
    · exact hn8 g h s
    · have := hVlt g s; omega
  · rw [List.length_append, List.length_singleton] at hi
    by_cases hlast : i < bs'.length
    · obtain ⟨qi, ci, e1, e2, e3⟩ := he8 i hlast
      refine ⟨qi, ci, ?_, ?_, ?_⟩
      · rw [List.getElem?_append_left (by have := ho8.1; omega), List.getElem_append_left hlast]; exact e1
      · rw [List.getElem_append_left hlast]; exact e2.kept hkq (fun a ha h0 => (e3 a ha h0).2)
      · rw [List.getElem_append_left hlast]
        exact fun a ha h0 => ⟨(e3 a ha h0).1, fun e => (hng _ e).elim (e3 a ha h0).2 (fun h => by have := e2.lt a ha h0; omega)⟩
    · obtain rfl : i = bs'.length := by omega
      have hvl : vs.length = bs'.length := by have := ho8.1; omega
      refine ⟨q7, c7, ?_, ?_, ?_⟩
      · rw [List.getElem?_append_right (by omega), hvl, List.getElem_append_right (by omega)]; simp
      · rw [List.getElem_append_right (by omega)]; simp only [Nat.sub_self, List.getElem_singleton]; exact hp8.kept hkq hq8
      · rw [List.getElem_append_right (by omega)]
        simp only [Nat.sub_self, List.getElem_singleton]
        exact fun a ha h0 => ⟨hnT a ha h0, fun e => (hng _ e).elim (hq8 a ha h0) (fun h => by have := hp8.lt a ha h0; omega)⟩

/-- A store with its disk, on which a fuse may burn. -/
structure Br (w : World) (U : Nat → Prop) (bx bz : Nat) (d : Dk) (st : St) (xs bs : List (List Ox)) : Prop where
  shop : Shop w U bx bz d st
  up : ∀ k, U k → k < w.heap.size
  log : RInv d xs bs
  m : st.m = doAll [] (xs ++ bs).flatten
  turn : st.turn = d.turn
  stuck : st.stuck = false
  alive : d.dead = false
section
variable {w w' : World} {U : Nat → Prop} {bx bz : Nat} {d : Dk} {st : St} {xs bs : List (List Ox)}
theorem Br.below (h : Br w U bx bz d st xs bs) (hb : Below w.heap.size w w') : Br w' U bx bz d st xs bs :=
  ⟨h.shop.below hb, fun k s => Nat.lt_of_lt_of_le (h.up k s) hb.size, h.log, h.m, h.turn, h.stuck, h.alive⟩
theorem Br.len (h : Br w U bx bz d st xs bs) : st.m.length ≤ 524288 := by
  have h1 := doAll_len [] (xs ++ bs).flatten
  have h2 := log_len h.log.good
  have h3 := h.log.ok.used
  have h4 := h.log.ok.quota
  rw [h.log.used] at h3
  rw [h.m]
  simp only [List.length_nil] at h1
  omega
theorem Br.batchX (h : Br w U bx bz d st xs bs) {l : List Ox} (hl : batchOk l = true) (hr : Go.Proofs.YtfghgmojnffgnaaGreat.used d.files + (encode l).length ≤ 1048576) :
    (Go.Proofs.YtfghgmojnffgnaaGreat.batchX d st l = (4, d.die, { st with stuck := false }) ∧ RInv d.die xs bs) ∨
    ∃ f, Go.Proofs.YtfghgmojnffgnaaGreat.batchX d st l = (0, grew d.burn f, { st with loose := true, m := doAll st.m l }) ∧ RInv (grew d.burn f) xs (bs ++ [l]) := by
  rcases h.log.write2 h.alive hl hr with ⟨e, hR⟩ | ⟨f, e, hR, _⟩
  · refine .inl ⟨?_, hR⟩
    unfold Go.Proofs.YtfghgmojnffgnaaGreat.batchX
    rw [writable_open h.alive h.turn h.stuck, e]
    simp [hl]
  · refine .inr ⟨f, ?_, hR⟩
    unfold Go.Proofs.YtfghgmojnffgnaaGreat.batchX
    rw [writable_open h.alive h.turn h.stuck, e]
    simp [hl]
theorem Br.next (h : Br w U bx bz d st xs bs) {l : List Ox} {f : Fl} (hs : Shop w' (Nw U w) bx bz (grew d.burn f) { st with loose := true, m := doAll st.m l }) (hr : RInv (grew d.burn f) xs (bs ++ [l])) : Br w' (fun i => Nw U w i ∧ i < w'.heap.size) bx bz (grew d.burn f) { st with loose := true, m := doAll st.m l } xs (bs ++ [l]) :=
  ⟨hs.mono (fun i hi s => ⟨s, hi⟩), fun i s => s.2, hr, by show doAll st.m l = _; rw [h.m, ← doAll_append]; congr 1; simp, h.turn, h.stuck, h.alive⟩
theorem Br.kept {V : Nat → Prop} (h : Br w U bx bz d st xs bs) (k : Kp V w w') (hV : ∀ i, U i → ¬ V i) : Br w' U bx bz d st xs bs :=
  ⟨h.shop.kept k hV, fun i s => Nat.lt_of_lt_of_le (h.up i s) k.size, h.log, h.m, h.turn, h.stuck, h.alive⟩
end

set_option maxHeartbeats 1000000 in
set_option maxRecDepth 20000 in
theorem risky_fuse (bx bz : Nat) (d : Dk) (st : St) (left : Nat) (U : Nat → Prop) (xs : List (List Ox)) (q : Option Addr) (qc : Nat) (L : List DoV) (w : World) (hW : Br w U bx bz d st xs []) (hroom : (logOf xs).length + 88 * left ≤ 9680) (hnum : xs.flatten.length + left ≤ 110) (hl : L.length ≤ 1048576) (hL : Dop w q L) (hq : ∀ a, q = some a → 0 < L.length → ¬ U a.block) (hok : ∀ o ∈ L, DoOk w o ∧ DoOut U o) :
    Calls Tryz.prog 16 #[.pointer (some ⟨bz, 0, none⟩), .slice q L.length qc, .int .i64 left] w fun e w' => ∃ v U' d' st' bs' hs, e = .returned (.tuple #[v, .bool true]) ∧ Shop w' U' bx bz d' st' ∧ (∀ k, U' k → k < w'.heap.size) ∧ RInv d' xs bs' ∧ st'.turn = d'.turn ∧ BRow w' U' v hs ∧ (∃ r, hs = bs' ++ r) ∧ (logOf (xs ++ bs')).length ≤ 9680 ∧ (xs ++ hs).flatten.length ≤ 110 ∧ hs.length ≤ 110 ∧ (∀ k, U' k → Nw U w k) ∧ Kp U w w' ∧ d'.turn = d.turn := by
  obtain ⟨i0, hi0, hz0, hz1, hz2⟩ := info_parts Tryz.info65
  go_enter Tryz.func16, Tryz.ntmps16
  go_wp2
  go_loopw [2, 8, 9] (fun lf v i wr => ∃ (k left' : Nat) (U' : Nat → Prop) (d' : Dk) (st' : St) (bs' : List (List Ox)), k ≤ L.length ∧ i = .int .i64 k ∧ lf = .int .i64 left' ∧ Br wr U' bx bz d' st' xs bs' ∧ OwnBB wr w.heap.size U' v bs' ∧ (logOf (xs ++ bs')).length + 88 * left' ≤ 9680 ∧ (xs ++ bs').flatten.length + left' ≤ 110 ∧ bs'.length + left' ≤ left ∧ (∀ k, U' k → Nw U w k) ∧ Kp U w wr ∧ d'.turn = d.turn) (fun _ _ i _ => L.length - (intOf i).toNat)
  case atStart => exact ⟨0, left, U, d, st, [], Nat.zero_le _, rfl, rfl, hW, ⟨[], World.ownsRow_nil _ _ _ _, fun g hg => (by simp [Value.ownBlock] at hg), fun i hi => (by simp at hi)⟩, by simpa using hroom, by simpa using hnum, by simp, fun k s => .inl s, Kp.refl _ _, rfl⟩
  case round =>
    obtain ⟨k, left', U', d', st', bs', hk, rfl, rfl, hC, hO, hro, hnu, hbl, hU, kp, ht⟩ := hrel
    have hs := kp.size
    by_cases hlt : k < L.length
    · obtain ⟨g, off, rfl, c0, c1, c2, c3⟩ := (hL.kept kp hq) k hlt
      by_cases hkd : L[k].kind = 1
      · have hFl := xFlush_any bx bz d' st' U' wr hC.shop
        rw [writable_open hC.alive hC.turn hC.stuck] at hFl
        rw [hkd] at c0
        go_wp2_with (go_at_call 36; refine hFl.mono ?_; rintro e w7 ⟨rfl, hb7⟩; clear hFl)
        go_roundw
        case rel => exact ⟨k + 1, left', U', d', st', bs', by omega, by go_num, rfl, hC.below hb7, hO.below hb7, hro, hnu, hbl, hU, kp_below kp hb7, ht⟩
        case measure => simp [intOf]; omega
      · obtain ⟨hdo, hout⟩ := hok L[k] (List.getElem_mem hlt)
        have hT := tidied_any L[k].q L[k].qc L[k].ops wr (hdo.opp.kept kp hout) hdo.ox (by have := hdo.len; omega)
        have hbk := tidy_ok L[k].ops
        have hox := tidy_ox L[k].ops
        have hb8 := (batchOk_iff.1 hbk).1
        have hen := enc88 hbk
        generalize tidyL L[k].ops = T at *
        have hlen := hC.len
        have hus := hC.log.used
        by_cases hfit : T.length ≤ left'
        · go_wp2_with (go_at_call 29; refine hT.mono ?_; rintro e w7 ⟨v7, rfl, hb7, ho7⟩; obtain ⟨q7, c7, rfl, hp7, hn7⟩ := ho7.opp; clear hT)
          have hC7 := hC.below hb7
          have hk7 := kp_below kp hb7
          have hsz := hb7.size
          have hnU : ∀ a, q7 = some a → 0 < T.length → ¬ U' a.block := fun a ha _ s => by have := (hn7 a ha).1; have := hC.up _ s; omega
          have hXB := xBatch_any bx bz d' st' U' q7 c7 T w7 hC7.shop hC7.log.ok (by have := hC7.log.files; omega) (by omega) (by omega) hox hp7 hnU
          have hq8 : ∀ a, q7 = some a → 0 < T.length → u8.ownBlock ≠ some a.block := fun a ha h0 e => by have := (hn7 a ha).1; have := (hO.choose_spec.1.lt _ e).2; omega
          have hb110 : bs'.length ≤ 110 := by omega
          rcases hC.batchX hbk (by omega) with ⟨hx, hD'⟩ | ⟨f, hx, hD'⟩
          all_goals
            rw [hx] at hXB
            refine hXB.mono ?_
            rintro e w8 ⟨rfl, hS8, k8⟩
            clear hXB
            have hO8 := (hO.below hb7).step k8
            have hp8 := hp7.kept k8 hnU
            have hk8 : Kp U w w8 := hk7.trans k8 (fun i hi s => (hU i s).elim id (fun h => by omega))
            have hs8 := k8.size
            have hnT : ∀ a, q7 = some a → 0 < T.length → ¬ (fun i => Nw U' w7 i ∧ i < w8.heap.size) a.block := fun a ha h0 s => s.1.elim (hnU a ha h0) (fun h => by have := hp7.lt a ha h0; omega)
            have hVU : ∀ i, (fun i => Nw U' w7 i ∧ i < w8.heap.size) i → Nw U w i := fun i s => s.1.elim (fun u => hU i u) (fun u => .inr (by omega))
            have hVlt : ∀ i, (fun i => Nw U' w7 i ∧ i < w8.heap.size) i → i < w8.heap.size := fun i s => s.2
            have hS8' := hS8.mono (V := fun i => Nw U' w7 i ∧ i < w8.heap.size) (fun i hi s => ⟨s, hi⟩)
            obtain ⟨vs, ho8, hn8, he8⟩ := hO8
          · generalize (fun i => Nw U' w7 i ∧ i < w8.heap.size) = V at *
            go_wp2_with (first
              | (at_builtin; refine wpList_app2 _ rfl _ _ 40 rfl 65 i0 _ 1 24 Tryz.underlying40 hi0 hz0 hz1 hz2 rfl (by decide) _ bs'.length vs rfl (ownsRow_up (World.ownsRow.alloc ho8 _) (fun _ _ => Nat.zero_le _)) ⟨w8.heap.size, 0, none⟩ 1 1 [.slice q7 T.length c7] rfl rfl (one_at w8 _ _) (by simp [Value.oneCell']) (by unfold maxLen; omega) (by omega) ?_; intro v' w9 hA)
              | go_in)
            obtain ⟨hO9, hkq⟩ := OwnBB.snoc ho8 hn8 he8 (by omega) hVlt hp8 hnT hq8 hA
            go_ret2
            refine ⟨_, V, _, _, bs', bs' ++ [T], rfl, hS8'.kept hkq (fun i s e => hn8 i e s), fun i s => Nat.lt_of_lt_of_le (hVlt i s) hkq.size, hD', hC.turn, hO9.row, ⟨[T], rfl⟩, by omega, ?_, by rw [List.length_append, List.length_singleton]; omega, hVU, hk8.trans hkq (fun i hi e => by have := (ho8.lt i e).1; omega), ht⟩
            have hfl : (xs ++ (bs' ++ [T])).flatten.length = (xs ++ bs').flatten.length + T.length := by rw [← List.append_assoc, List.flatten_append, List.length_append, List.flatten_singleton]
            omega
          · have hC8 := hC7.next hS8 hD'
            generalize (fun i => Nw U' w7 i ∧ i < w8.heap.size) = V at *
            go_wp2_with (first
              | (at_builtin; refine wpList_app2 _ rfl _ _ 40 rfl 65 i0 _ 1 24 Tryz.underlying40 hi0 hz0 hz1 hz2 rfl (by decide) _ bs'.length vs rfl (ownsRow_up (World.ownsRow.alloc ho8 _) (fun _ _ => Nat.zero_le _)) ⟨w8.heap.size, 0, none⟩ 1 1 [.slice q7 T.length c7] rfl rfl (one_at w8 _ _) (by simp [Value.oneCell']) (by unfold maxLen; omega) (by omega) ?_; intro v' w9 hA)
              | go_in)
            obtain ⟨hO9, hkq⟩ := OwnBB.snoc ho8 hn8 he8 (by omega) hVlt hp8 hnT hq8 hA
            go_roundw
            case rel =>
              refine ⟨k + 1, left' - T.length, V, _, _, bs' ++ [T], by omega, by go_num, by go_num, hC8.kept hkq (fun i s e => hn8 i e s), hO9, ?_, ?_, ?_, hVU, hk8.trans hkq (fun i hi e => by have := (ho8.lt i e).1; omega), ht⟩
              · rw [← List.append_assoc, logOf_append, logOf_one, List.length_append]; omega
              · have hfl : (xs ++ (bs' ++ [T])).flatten.length = (xs ++ bs').flatten.length + T.length := by rw [← List.append_assoc, List.flatten_append, List.length_append, List.flatten_singleton]
                omega
              · rw [List.length_append, List.length_singleton]; omega
            case measure => simp [intOf]; omega
        · have hfit' : left' < T.length := by omega
          go_wp2_with (go_at_call 29; refine hT.mono ?_; rintro e w7 ⟨v7, rfl, hb7, ho7⟩; obtain ⟨q7, c7, rfl, hp7, hn7⟩ := ho7.opp; clear hT)
          go_ret2
          exact ⟨_, U', d', st', bs', bs', rfl, (hC.below hb7).shop, (hC.below hb7).up, hC.log, hC.turn, (hO.below hb7).row, ⟨[], by simp⟩, by omega, by omega, by omega, hU, kp_below kp hb7, ht⟩
    · go_wp2
      go_ret2
      exact ⟨_, U', d', st', bs', bs', rfl, hC.shop, hC.up, hC.log, hC.turn, hO.row, ⟨[], by simp⟩, by omega, by omega, by omega, hU, kp, ht⟩

end Go.Proofs.YtfghgmojnffgnaaGreat

/- Durable. -/
namespace Go.Proofs.YtfghgmojnffgnaaGreat
open Go.RowKit Go.Maps Go.Sort

theorem xOpen_slog2 (bx : Nat) (d : Dk) (m : Mp) (p : Int) (S : Nat → Prop) (w : World) (hX : XAt w S bx d) (hL : SLog d m) (hC : Calm d) (hml : m.length ≤ 110) (hu : used d.files + 9680 ≤ 1048576) (ht0 : 0 ≤ d.turn) (ht1 : d.turn ≤ 1000000) (hp0 : 0 ≤ p) (hp2 : p ≤ 2) :
    Calls Tryz.prog 21 #[.pointer (some ⟨bx, 0, none⟩), .int .i64 p] w fun e w' => ∃ bz d2 st2, e = .returned (.tuple #[.pointer (some ⟨bz, 0, none⟩), .int .i64 0]) ∧ Shop w' (Nw S w) bx bz d2 st2 ∧ Kp S w w' ∧ st2.m = m ∧ st2.turn = d2.turn ∧ Calm d2 ∧ SLog d2 m ∧ d2.turn = d.turn + 1 ∧ used d2.files ≤ used d.files + 9680 := by
  refine (xOpen_any bx d p S w hX hL.ok (by have := hL.small.1; omega) ht0 (by omega) hp0 hp2).mono ?_
  obtain ⟨h1, h2, h3, h4⟩ := hL.open hC.alive hml hu
  have hc := hC.open.2.1
  rintro e w' ⟨k, (⟨hz, bz, st2, rfl, hS, g1, g2, g3⟩ | ⟨hne, rfl, hX'⟩)⟩
  · rcases h4 with ⟨_, hm, _⟩ | ⟨h, _⟩
    · exact ⟨bz, _, st2, rfl, hS, k, g3.trans hm, g1.trans h2.symm, hc, h1, h2, h3⟩
    · rw [hz] at h; cases h
  · rcases h4 with ⟨h, _⟩ | ⟨_, h⟩
    · exact absurd h hne
    · rw [hc.alive] at h; cases h

/-- The disk behind twin, and the map that it tells. -/
structure Tw (base : World) (S : Nat → Prop) (bx : Nat) (d : Dk) (m : Mp) (w : World) (pv : Value) (S2 : Nat → Prop) (d2 : Dk) : Prop where
  x : XAt w S2 bx d2
  up : ∀ i, S2 i → Nw S base i ∧ i < w.heap.size
  row : PRowS w S2 pv m
  log : SLog d2 m
  calm : Calm d2
  turn : d2.turn = d.turn + 1
  room : used d2.files ≤ used d.files + 9680

set_option maxHeartbeats 1000000 in
set_option maxRecDepth 20000 in
theorem twin_more (bx : Nat) (d : Dk) (m l : Mp) (hs : List (List Ox)) (n : Nat) (p : Int) (S V : Nat → Prop) (lv hv : Value) (w : World) (hX : XAt w S bx d) (hSl : ∀ k, S k → k < w.heap.size) (hL : SLog d m) (hC : Calm d) (hml : m.length ≤ 110) (hu : used d.files + 9680 ≤ 1048576) (ht0 : 0 ≤ d.turn) (ht1 : d.turn ≤ 1000000) (hp0 : 0 ≤ p) (hp2 : p ≤ 2) (hlv : PRow w lv l) (hri : rising l) (hnum : l.length + hs.flatten.length ≤ 1000000) (hhl : hs.length ≤ 1000000) (hh : BRow w V hv hs) (hn : n ≤ hs.length) (hmn : m = doAll l (hs.take n).flatten) :
    Calls Tryz.prog 19 #[.pointer (some ⟨bx, 0, none⟩), .int .i64 p, lv, hv] w fun e w' => ∃ sv pv S2 d2, e = .returned (.tuple #[sv, pv, .bool true]) ∧ Kp S w w' ∧ Tw w S bx d m w' pv S2 d2 := by
  obtain ⟨hfl, hnm⟩ := hL.small
  have hCp := copied_all bx d S w hX hL.ok hC.alive hnm (by omega)
  obtain ⟨hLc, hCc⟩ := hL.copy
  have huc : used (copyOf d).files = used d.files := used_copy d.files
  have htc : (copyOf d).turn = 0 := rfl
  generalize copyOf d = dc at *
  have HM : Hid (m = doAll l (hs.take n).flatten) := hmn
  have hmo := hL.mok
  clear hmn
  go_enter Tryz.func19, Tryz.ntmps19
  go_wp2_with (go_at_call 39; refine hCp.mono ?_; rintro e w1 ⟨bc, rfl, hX1, hb1⟩; clear hCp)
  have hs1 := hb1.size
  have hO1 := xOpen_slog bc dc m p _ w1 hX1 hLc hCc hml (by omega) (by omega) (by omega) hp0 hp2
  go_wp2_with (go_at_call 21; refine hO1.mono ?_; rintro e w2 ⟨bu, du, su, rfl, hS2, k2, hm2, ht2, hc2, hf2⟩; clear hO1)
  have hB2 : Below w.heap.size w w2 := below_kp hb1 k2
  have hS2' : Shop w2 (fun k => w.heap.size ≤ k ∧ k < w2.heap.size) bc bu du su := hS2.mono (fun k hk s => ⟨s.elim id (fun h => Nat.le_trans hs1 h), hk⟩)
  have hsc := xScan_shop bc bu du su _ 1099511627776 w2 hS2' (by rw [hm2]; exact hmo) (by rw [hm2]; omega) (ready_open hc2.alive ht2) (by omega) (by omega)
  rw [hm2, List.take_of_length_le (by show m.length ≤ 1099511627776; omega)] at hsc
  go_wp2_with (go_at_call 40; refine hsc.mono ?_; rintro e w3 ⟨pv, rfl, hb3, ho3⟩; clear hsc)
  have hB3 := hB2.trans (hb3.mono hB2.size)
  have hso := somewhere_any bc bu du su _ V lv hv l hs w3 (hS2'.below hb3) (by rw [hm2]; exact hmo) (by rw [hm2]; omega) (ready_open hc2.alive ht2) (hlv.below hB3) hri hnum hhl (hh.below hB3) n hn (by rw [hm2]; exact HM.out)
  go_wp2_with (go_at_call 22; refine hso.mono ?_; rintro e w4 ⟨rfl, hb4⟩; clear hso)
  have hB4 := hB3.trans (hb4.mono hB3.size)
  have hs34 := hb3.size
  have hs44 := hb4.size
  have hPu := xPut_any bc bu du su _ [116, 114, 105, 97, 108] [120] w4 ((hS2'.below hb3).below hb4) (fun i s => by omega) hc2.ok (by omega) (by rw [hm2]; omega) (by decide) (by decide)
  go_wp2_with (go_at_call 28; refine hPu.mono ?_; rintro e w5 ⟨⟨r5, rfl⟩, k5⟩; clear hPu)
  have hB5 : Below w.heap.size w w5 := below_kp2 hB4 k5 (fun i s => s.1)
  have hs5 := k5.size
  have hX5 := hX.kept (T := fun _ => False) (Kp.of_below hB5) (fun _ _ f => f)
  have hO5 := xOpen_slog2 bx d m p S w5 hX5 hL hC hml hu ht0 ht1 hp0 hp2
  go_wp2_with (go_at_call 21; refine hO5.mono ?_; rintro e w6 ⟨bz, d6, s6, rfl, hS6, k6, hm6, ht6, hc6, hL6, htt6, hu6⟩; clear hO5)
  obtain ⟨q3, c3, rfl, hp3, hn3⟩ := ho3.pairp
  have hs2w := hB2.size
  have hs5w := hB5.size
  have hrow4 : PRowS w4 (fun k => w.heap.size ≤ k ∧ k < w2.heap.size) (.slice q3 m.length c3) m := ⟨q3, c3, rfl, hp3.below hb4, fun a ha _ s => by have := (hn3 a ha).1; omega⟩
  have hrow5 := hrow4.kept k5
  have hrow5' : PRowS w5 S (.slice q3 m.length c3) m := by
    obtain ⟨q', c', e', hp', _⟩ := hrow5
    cases e'
    exact ⟨q3, c3, rfl, hp', fun a ha _ s => by have := (hn3 a ha).1; have := hSl _ s; omega⟩
  have hrow6 := hrow5'.kept k6
  have hrow6' := hrow5'.step k6
  have hH := holds_any bx bz d6 s6 _ S _ w6 hS6 (by rw [hm6]; exact hmo) (by rw [hm6]; omega) (ready_open hc6.alive ht6) (by rw [hm6]; exact hrow6)
  go_wp2_with (go_at_call 41; refine hH.mono ?_; rintro e w7 ⟨rfl, hb7⟩; clear hH)
  go_ret3
  have hX6 := (hS6.mono (V := fun i => Nw S w5 i ∧ i < w6.heap.size) (fun i hi s => ⟨s, hi⟩)).x
  exact ⟨_, _, _, d6, rfl, kp_below ((Kp.of_below hB5).trans k6 (fun _ _ s => s)) hb7, hX6.kept (T := fun _ => False) (Kp.of_below hb7) (fun _ _ f => f), fun i s => ⟨s.1.imp id (fun h => Nat.le_trans hs5w h), Nat.lt_of_lt_of_le s.2 hb7.size⟩, hrow6'.below hb7, hL6, hc6, htt6, hu6⟩

set_option maxHeartbeats 2000000 in
set_option maxRecDepth 20000 in
theorem durable_any (p fz : Int) (q1 q2 q4 : Option Addr) (c1 c2 c4 : Nat) (L M : List DoV) (ks : List Int) (w : World) (hp0 : -9223372036854775808 ≤ p) (hp1 : p ≤ 9223372036854775807) (hz0 : -9223372036854775808 ≤ fz) (hz1 : fz ≤ 9223372036854775807) (hl : L.length ≤ 1048576) (hl2 : M.length ≤ 1048576) (hl4 : ks.length ≤ 1048576) (hL : Dop w q1 L) (hM : Dop w q2 M) (hMb : ∀ a, q2 = some a → 0 < M.length → a.block < w.heap.size) (hK : Intp w q4 ks) (hKb : ∀ a, q4 = some a → 0 < ks.length → a.block < w.heap.size)
    (hok : ∀ o ∈ L, DoOk w o ∧ ∀ b, o.q = some b → 0 < o.ops.length → b.block < w.heap.size) (hok2 : ∀ o ∈ M, DoOk w o ∧ ∀ b, o.q = some b → 0 < o.ops.length → b.block < w.heap.size) :
    Calls Tryz.prog 5 #[.int .i64 p, .slice q1 L.length c1, .slice q2 M.length c2, .int .i64 fz, .slice q4 ks.length c4] w fun e w' => e = .returned (.bool true) ∧ Below w.heap.size w w' := by
  have hpick := fun w => kpick_any p 3 w hp0 hp1 (by omega) (by omega)
  have hpickf := fun w => kpick_any fz 60 w hz0 hz1 (by omega) (by omega)
  have hfl : (L.filter isB).length ≤ 1048576 := Nat.le_trans (List.length_filter_le _ _) hl
  go_enter Tryz.func5, Tryz.ntmps5
  go_wp2_with (go_at_call 11; refine (hpick _).mono ?_; rintro e w' ⟨r0, rfl, hr0, hr1, hw⟩; subst w')
  go_wp2_with (go_at_call 10; refine (fresh_new r0 _ hr0 (by omega)).mono ?_; rintro e w1 ⟨bx, bz, d1, U1, rfl, hQ1, hU1, hb1, ht1, hf1⟩)
  have hs1 := hb1.size
  go_wp2_with (go_at_call 13; refine (batches_any q1 c1 L w1 (hL.below hb1) hl).mono ?_; rintro e w2 ⟨v2, rfl, hb2, ho2⟩; obtain ⟨q2', c2', rfl, hD2, hn2⟩ := ho2.dop)
  have hs2 := hb2.size
  have hB2 : Below w.heap.size w w2 := hb1.trans (hb2.mono hs1)
  have hWr := wrote_all bx bz (.slice none 0 0) d1 _ 110 U1 [] q2' c2' _ w2 (hQ1.below hb2) (PRowS.nil _ _ _) (by simp [logOf]) (by simp) (.inr ⟨hf1, rfl⟩) hfl hD2 (fun a ha _ s => by have := (hn2 a ha).1; have := hQ1.up _ s; omega) (do_in hok hB2 hU1)
  refine hWr.mono ?_
  rintro e w3 ⟨lv, left, U3, d3, st3, bs, rfl, hQ3, hr3, hro3, hnu3, hlo3, hU3, k3, ht3⟩
  clear hWr
  have hUb : ∀ k, U3 k → w.heap.size ≤ k := fun k s => (hU3 k s).elim (hU1 k) (fun s => by omega)
  have hB3 : Below w.heap.size w w3 := below_kp2 hB2 k3 hU1
  obtain ⟨d4, hsy, hR4, ha4, hl4', ht4⟩ := hQ3.sync hlo3
  have hSy := xSSync_any bx bz d3 st3 U3 w3 hQ3.shop hQ3.log.ok
  rw [hsy] at hSy
  go_wp2_with (go_at_call 14; refine hSy.mono ?_; rintro e w4 ⟨rfl, hS4, k4⟩; clear hSy)
  have hs3 := hB3.size
  have hS4' := hS4.mono (V := fun i => Nw U3 w3 i ∧ i < w4.heap.size) (fun i hi s => ⟨s, hi⟩)
  have hr4 := hr3.step k4
  have hU4b : ∀ k, (fun i => Nw U3 w3 i ∧ i < w4.heap.size) k → w.heap.size ≤ k ∧ k < w4.heap.size := fun k s => ⟨s.1.elim (hUb k) (fun h => by omega), s.2⟩
  have hB4 := below_kp2 hB3 k4 hUb
  have hm3 : st3.m = doAll [] bs.flatten := by rw [hQ3.m]; simp
  have hmok3 := hQ3.mok
  have htu3 := hQ3.turn
  have hst3 := hQ3.stuck
  clear hQ3 hS4 hr3 hQ1
  generalize (fun i => Nw U3 w3 i ∧ i < w4.heap.size) = U4 at *
  go_wp2_with (go_at_call 11; refine (hpickf _).mono ?_; rintro e w' ⟨r5, rfl, hr50, hr51, hw⟩; subst w'; clear hpickf)
  have hFu := xFuse_shop bx bz d4 _ U4 r5 w4 hS4'
  go_wp2_with (go_at_call 15; refine hFu.mono ?_; rintro e w5 ⟨rfl, hS5, k5⟩; clear hFu)
  have hs4 := hB4.size
  have hB5 := below_kp2 hB4 k5 (fun i s => (hU4b i s).1)
  have hfz : (d4.fuse r5).files = d4.files ∧ (d4.fuse r5).quota = d4.quota ∧ (d4.fuse r5).turn = d4.turn ∧ (d4.fuse r5).dead = false := by unfold Dk.fuse; rw [if_neg (by simp [ha4])]; exact ⟨rfl, rfl, rfl, ha4⟩
  have hR5 := hR4.same (fuse_ok hR4.ok r5 (by omega)).1 hfz.1 hfz.2.1
  have ht5 : (d4.fuse r5).turn = 1 := by rw [hfz.2.2.1]; omega
  have ha5 := hfz.2.2.2
  clear hfz
  generalize d4.fuse r5 = d5 at *
  have hr5 := hr4.step k5
  have hU5b := Nw.in (w' := w5) hU4b hs4
  have hBr : Br w5 (fun i => Nw U4 w4 i ∧ i < w5.heap.size) bx bz d5 { st3 with loose := false } bs [] := ⟨hS5.mono (fun i hi s => ⟨s, hi⟩), fun i s => s.2, hR5, by show st3.m = _; rw [hm3]; simp, by show st3.turn = _; rw [htu3]; omega, hst3, ha5⟩
  clear hS5 hS4' hr4 hR4 hR5
  generalize (fun i => Nw U4 w4 i ∧ i < w5.heap.size) = U5 at *
  have hRk := risky_fuse bx bz d5 _ left U5 bs q2 c2 M w5 hBr hro3 hnu3 hl2 (hM.below hB5) (fun a ha h0 s => by have := (hU5b _ s).1; have := hMb a ha h0; omega) (fun o ho => ⟨(hok2 o ho).1.below hB5, fun a ha h0 s => by have := (hU5b _ s).1; have := (hok2 o ho).2 a ha h0; omega⟩)
  refine hRk.mono ?_
  rintro e w6 ⟨hv, U6, d6, st6, bs6, hs, rfl, hS6, hU6l, hR6, htu6, hbr6, ⟨rr, hrr⟩, hlo6, hnu6, hhl6, hU6, k6, ht6⟩
  clear hRk hBr
  have hs5 := hB5.size
  have hU6b : ∀ k, U6 k → w.heap.size ≤ k ∧ k < w6.heap.size := fun k s => ⟨(hU6 k s).elim (fun u => (hU5b k u).1) (fun h => by omega), hU6l k s⟩
  have hB6 := below_kp2 hB5 k6 (fun i s => (hU5b i s).1)
  have hr6 : PRowS w6 U6 lv st3.m := (hr5.step k6).mono (fun k hk s => ⟨hU6 k s, hk⟩)
  have hCr := xCrash_shop bx bz d6 st6 U6 q4 c4 ks w6 hS6 hR6.ok (by have := hR6.files; omega) (by omega) (hK.below hB6) (fun a ha h0 s => by have := (hU6b _ s).1; have := hKb a ha h0; omega)
  go_wp2_with (go_at_call 17; refine hCr.mono ?_; rintro e w7 ⟨rfl, hS7, k7⟩; clear hCr)
  obtain ⟨n, hn, hSL⟩ := hR6.crash ks
  have htc : (d6.crash ks).turn = 2 := by rw [crash_turn (by omega) (by omega)]; omega
  have hcl := crash_calm hR6.ok ks
  have hcu := crash_used hR6.ok ks
  rw [hR6.used] at hcu
  clear hR6 hS6
  generalize d6.crash ks = d7 at *
  have hs6 := hB6.size
  have hB7 := below_kp2 hB6 k7 (fun i s => (hU6b i s).1)
  have hS7' := hS7.mono (V := fun i => Nw U6 w6 i ∧ i < w7.heap.size) (fun i hi s => ⟨s, hi⟩)
  have hV7 := Nw.in (w' := w7) hU6b hs6
  have hr7 := hr6.step k7
  have hbr7 := hbr6.step k7
  generalize (fun i => Nw U6 w6 i ∧ i < w7.heap.size) = V7 at *
  have hGt := xGet_closed bx bz d7 st6 V7 [107] w7 hS7' (by omega)
  go_wp2_with (go_at_call 18; refine hGt.mono ?_; rintro e w8 ⟨rfl, hb8⟩; clear hGt)
  have hB8 := hB7.trans (hb8.mono hB7.size)
  have hnh : n ≤ hs.length := by rw [hrr, List.length_append]; omega
  have htk : hs.take n = bs6.take n := by rw [hrr]; exact List.take_append_of_le_length hn
  rw [← htk] at hSL
  have hml : (doAll [] (bs ++ hs.take n).flatten).length ≤ 110 := by
    have h1 := doAll_len [] (bs ++ hs.take n).flatten
    have h2 : (bs ++ hs.take n).flatten.length ≤ (bs ++ hs).flatten.length := by
      rw [List.flatten_append, List.length_append, List.flatten_append, List.length_append]
      have := flat_take hs n
      omega
    simp only [List.length_nil] at h1
    omega
  have hmn : doAll [] (bs ++ hs.take n).flatten = doAll st3.m (hs.take n).flatten := by rw [hm3, List.flatten_append, doAll_append]
  have hnum : st3.m.length + hs.flatten.length ≤ 1000000 := by
    have h1 := doAll_len [] bs.flatten
    rw [List.flatten_append, List.length_append] at hnu6
    rw [hm3]
    simp only [List.length_nil] at h1
    omega
  have hri := hmok3.rise
  clear hr6 hbr6 hm3 hmok3 htk hrr hr5
  generalize doAll [] (bs ++ hs.take n).flatten = m at *
  generalize st3.m = l at *
  have hwb : -9223372036854775808 ≤ wrap64 (p + 1) ∧ wrap64 (p + 1) ≤ 9223372036854775807 := by unfold wrap64; omega
  have hpk := fun w => kpick_any (wrap64 (p + 1)) 3 w hwb.1 hwb.2 (by omega) (by omega)
  clear hwb
  go_wp2_with (go_at_call 11; refine (hpk _).mono ?_; rintro e w' ⟨r8, rfl, hr80, hr81, hw⟩; subst w'; clear hpk)
  have hr8 := hr7.below hb8
  have hbr8 := hbr7.below hb8
  have hPR8 : PRow w8 lv l := by obtain ⟨q, c, e, hp, _⟩ := hr8; exact ⟨q, c, e, hp⟩
  have hV8 : ∀ i, V7 i → w.heap.size ≤ i ∧ i < w8.heap.size := fun i s => ⟨(hV7 i s).1, Nat.lt_of_lt_of_le (hV7 i s).2 hb8.size⟩
  have hTw := twin_more bx d7 m l hs n r8 V7 V7 lv hv w8 (hS7'.below hb8).x (fun i s => (hV8 i s).2) hSL hcl hml (by omega) (by omega) (by omega) hr80 (by omega) hPR8 hri hnum (by omega) hbr8 hnh hmn
  go_wp2_with (go_at_call 19; refine hTw.mono ?_; rintro e w9 ⟨sv, pv, S9, d9, rfl, k9, hT9⟩; clear hTw)
  have hs8 := hB8.size
  have hB9 := below_kp2 hB8 k9 (fun i s => (hV8 i s).1)
  have hS9b : ∀ i, S9 i → w.heap.size ≤ i ∧ i < w9.heap.size := fun i s => ⟨(hT9.up i s).1.elim (fun u => (hV8 i u).1) (fun h => by omega), (hT9.up i s).2⟩
  have hr9 : PRowS w9 S9 lv l := (hr8.step k9).mono (fun i hi s => ⟨(hT9.up i s).1, hi⟩)
  have hbr9 : BRow w9 S9 hv hs := (hbr8.step k9).mono (fun i hi s => ⟨(hT9.up i s).1, hi⟩)
  have hCr2 := xCrash_any bx d9 none 0 [] S9 w9 hT9.x hT9.calm.ok (by have := hT9.log.small.1; omega) (by simp) (fun i hi => absurd hi (Nat.not_lt_zero _)) (fun a ha => by cases ha)
  go_wp2_with (go_at_call 17; refine hCr2.mono ?_; rintro e w10 ⟨rfl, hX10, k10⟩; clear hCr2)
  have ht9 := hT9.turn
  have hro9 := hT9.room
  have hcu10 := crash_used hT9.calm.ok []
  have ht10 : (d9.crash []).turn = 4 := by rw [crash_turn (by omega) (by omega)]; omega
  have hcl10 := crash_calm hT9.calm.ok []
  have hL10 := hT9.log.crash []
  have hp9 := hT9.row
  generalize d9.crash [] = d10 at *
  have hs9 := hB9.size
  have hB10 := below_kp2 hB9 k10 (fun i s => (hS9b i s).1)
  have hX10' := hX10.mono (T := fun i => Nw S9 w9 i ∧ i < w10.heap.size) (fun i hi s => ⟨s, hi⟩)
  have hV10 := Nw.in (w' := w10) hS9b hs9
  have hr10 := hr9.step k10
  have hbr10 := hbr9.step k10
  have hp10 := hp9.step k10
  generalize (fun i => Nw S9 w9 i ∧ i < w10.heap.size) = V10 at *
  go_wp2_with (go_at_call 11; refine (hpick _).mono ?_; rintro e w' ⟨r10, rfl, hr100, hr101, hw⟩; subst w'; clear hpick)
  have hPR10 : PRow w10 lv l := by obtain ⟨q, c, e, hp, _⟩ := hr10; exact ⟨q, c, e, hp⟩
  have hTw2 := twin_more bx d10 m l hs n r10 V10 V10 lv hv w10 hX10' (fun i s => (hV10 i s).2) hL10 hcl10 hml (by omega) (by omega) (by omega) hr100 (by omega) hPR10 hri hnum (by omega) hbr10 hnh hmn
  go_wp2_with (go_at_call 19; refine hTw2.mono ?_; rintro e w11 ⟨sv2, qv, S11, d11, rfl, k11, hT11⟩; clear hTw2)
  have hB11 := below_kp2 hB10 k11 (fun i s => (hV10 i s).1)
  obtain ⟨qa, ca, rfl, hpa, _⟩ := hp10.kept k11
  obtain ⟨qb, cb, rfl, hpb, _⟩ := hT11.row
  have hsm := ksame_any qa qb ca cb m m w11 hpa hpb (by omega) (by omega)
  rw [decide_eq_true rfl] at hsm
  go_wp2_with (go_at_call 20; refine hsm.mono ?_; rintro e w12 ⟨rfl, n12, rfl⟩; clear hsm)
  go_ret
  exact ⟨rfl, ((Kp.of_below (S := fun _ => False) hB11).drewN n12).below⟩

end Go.Proofs.YtfghgmojnffgnaaGreat

/- The statement of Durable, for what is of bulk at most the given number. -/
namespace Go.Proofs.YtfghgmojnffgnaaGreat
open Go.ChangeShapes Go.WideShapes Go.ChangeAt Go.RowKit

section
variable {H : Type} {enc : TypeId × Value → H}

set_option maxRecDepth 100000 in
theorem durable_contract (W : World) (base : Nat) (args : Array Value) (ds gs : List (DataW H)) (before : List MemPlace)
    (hval : ∀ (j : Nat) t v, Tryz.f5.params[j]? = some t → args[j]? = some v → Value.okWide Tryz.prog W .any base t v)
    (hW : DataW.Whole enc Tryz.prog Tryz.f5.params.toList Rows.durableSpec.vars false W args.toList ds gs before) (hk : Rows.uptoSmall H (ds ++ gs) = true) :
    Calls Tryz.prog 5 args W fun e W' => ∃ v, e = .returned v ∧ Rows.durableSpec.post enc Tryz.prog Tryz.f5 false true false false W args v W' := by
  have hW' := hW
  obtain ⟨p, q, hA0, hV, rfl, hfz, hnd⟩ := hW
  have hA : DataW.TrodAll enc Tryz.prog W 0 (fun _ => true) true Tryz.f5.params.toList args.toList ds p := hA0
  rw [Tryz.params5] at hA hval
  obtain ⟨v0, v1, v2, v3, v4, d0, d1, d2, d3, d4, p0, p1, p2, p3, p4, rfl, rfl, rfl, h0, h1, h2, h3, h4⟩ := trodAll_five hA
  obtain ⟨rfl, rfl⟩ := trodVars_none hV
  obtain ⟨n0, rfl⟩ := okWide_int Tryz.underlying3 (hval 0 3 v0 rfl rfl)
  obtain ⟨a1, len1, cap1, rfl⟩ := okWide_slice Tryz.underlying26 (hval 1 26 v1 rfl rfl)
  obtain ⟨a2, len2, cap2, rfl⟩ := okWide_slice Tryz.underlying26 (hval 2 26 v2 rfl rfl)
  obtain ⟨n3, rfl⟩ := okWide_int Tryz.underlying3 (hval 3 3 v3 rfl rfl)
  obtain ⟨a4, len4, cap4, rfl⟩ := okWide_slice Tryz.underlying27 (hval 4 27 v4 rfl rfl)
  clear hA0
  simp only [List.append_nil] at hW' hk
  have hb : Rows.uptoBulkAll [d0, d1, d2, d3, d4] ≤ 1048576 := of_decide_eq_true hk
  simp only [Rows.uptoBulkAll, Nat.add_zero] at hb
  obtain ⟨os1, rfl, hl1, hops1, _, hok1⟩ := dos_open h1 (by omega)
  obtain ⟨os2, rfl, hl2, hops2, hmb2, hok2⟩ := dos_open h2 (by omega)
  obtain ⟨b3, b3'⟩ := int_open h3
  obtain ⟨ks4, rfl, hl4, hi4, _, hb4⟩ := kints_open h4 (by omega)
  obtain ⟨b0, b0'⟩ := int_open h0
  have hlt : ∀ x ∈ p0 ++ (p1 ++ (p2 ++ (p3 ++ p4))), x.block < W.heap.size := fun x hx => by simpa using hW'.lt x hx
  refine (durable_any n0 n3 a1 a2 a4 cap1 cap2 cap4 os1 os2 ks4 W b0 b0' b3 b3' hl1 hl2 hl4 hops1 hops2 hmb2 hi4 hb4 hok1 hok2).mono fun e W' ⟨he, hbl⟩ => ?_
  subst he
  exact ⟨_, rfl, ⟨_, _, _, [], _, [], hW', trodAll_mk1 (shut_bool Tryz.underlying4 _), ⟨_, _, Below.trod Tryz.laidOutK (by kernel_rfl) (of_decide_eq_true (by kernel_rfl)) h0 hbl (fun x hx => hlt x (by simp [hx])), ⟨_, _, Below.trod Tryz.laidOutK (by kernel_rfl) (of_decide_eq_true (by kernel_rfl)) h1 hbl (fun x hx => hlt x (by simp [hx])), trodAll_mk3 (Below.trod Tryz.laidOutK (by kernel_rfl) (of_decide_eq_true (by kernel_rfl)) h2 hbl (fun x hx => hlt x (by simp [hx]))) (Below.trod Tryz.laidOutK (by kernel_rfl) (of_decide_eq_true (by kernel_rfl)) h3 hbl (fun x hx => hlt x (by simp [hx]))) (Below.trod Tryz.laidOutK (by kernel_rfl) (of_decide_eq_true (by kernel_rfl)) h4 hbl (fun x hx => hlt x (by simp [hx]))), rfl⟩, rfl⟩, rfl, hbl.frame _, fun h => by cases h⟩⟩

set_option maxRecDepth 100000 in
theorem durable_lifted (os : Os) (started : os.Started) (H : Type) (enc : TypeId × Value → H) (F : Stop.Interp) :
    ReturnsInHanded {} Tryz.checked os 5 .any ((Rows.OpenSpec.upto Rows.durableSpec).pre6 enc Tryz.prog Tryz.f5 Rows.durableUptoRow.domain false) (((Rows.OpenSpec.upto Rows.durableSpec).at F).post enc Tryz.prog Tryz.f5 false true false false) := by
  refine returnsInHanded_of_cond (C := Tryz.checked) (s := Rows.OpenSpec.upto Rows.durableSpec) (k := Rows.uptoSmall) rfl Tryz.ownK started (by kernel_rfl) Tryz.func5
    (OpenSpec.witness (enc := enc) (C := Tryz.checked) (s := Rows.OpenSpec.upto Rows.durableSpec) (k := Rows.uptoSmall) rfl false ⟨#[], #[.int .i64 0, .slice none 0 0, .slice none 0 0, .int .i64 0, .slice none 0 0], []⟩ 8 (by kernel_rfl) (by kernel_rfl) (by kernel_rfl)
      (x := ([.lit (.int .i64 0), .nil, .nil, .lit (.int .i64 0), .nil], [], [])) (by kernel_rfl) rfl (by kernel_rfl)) ?_
  intro W base args ds gs before hval hW _ hk _
  exact durable_contract W base args ds gs before hval hW hk

/-- The statement. -/
theorem durable_upto_holds : Rows.DurableUptoSaid :=
  OpenClaim.holds_of_cond 5 Tryz.f5 rfl rfl rfl rfl rfl rfl rfl ⟨rfl, rfl, rfl, rfl, rfl⟩ rfl rfl rfl rfl rfl (by kernel_rfl) Tryz.func5 (by kernel_rfl)
    (of_decide_eq_true (by kernel_rfl)) (by unfold Func.isWrapper; first | (rw [if_pos (by decide +kernel)]; kernel_rfl) | (rw [if_neg (by decide +kernel)]; exact ⟨rfl, rfl⟩))
    (fun os started H enc _ F => durable_lifted os started H enc F)
end
end Go.Proofs.YtfghgmojnffgnaaGreat
