import Derived.Test.YtoabedkcieindaaGreatDoorPkBM
namespace Go.Proofs.YtoabedkcieindaaGreatDoor
open Go.RowKit Go.Maps Go.Sort Go.Shelf

structure Lx (w : World) (U : Nat → Prop) (bx bz : Nat) (d : Dk) (st : Ls) : Prop where
  ex : ∃ (bd T bm bsn : Nat) (S E : Nat → Prop) (s : Sl) (l : List Tr), w.heap[bx]? = some (.cells #[.pointer (some ⟨bd, 0, none⟩)] 116) ∧ w.heap[bz]? = some (.cells #[.pointer (some ⟨T, 0, none⟩)] 118) ∧ U bx ∧ U bz ∧
    (∀ k, (S k ∨ E k ∨ k = T ∨ k = bm ∨ k = bsn) → U k ∧ k ≠ bx ∧ k ≠ bz) ∧ Lsy w S E T bd bm bsn s l d st

theorem Lsy.kept {w w' : World} {S E V : Nat → Prop} {T bd bm bsn : Nat} {s : Sl} {l : List Tr} {d : Dk} {st : Ls} (h : Lsy w S E T bd bm bsn s l d st) (k : Kp V w w') (hV : ∀ i, (S i ∨ E i ∨ i = T ∨ i = bm ∨ i = bsn) → ¬ V i) : Lsy w' S E T bd bm bsn s l d st :=
  ⟨h.prog.kept k (fun i s => hV i (.inl s)), h.at_.kept k (hV _ (.inr (.inr (.inl rfl)))) (hV _ (.inr (.inr (.inr (.inl rfl))))) (hV _ (.inr (.inr (.inr (.inr rfl))))) (fun i e => hV i (.inr (.inl e))), h.dj, h.nT, h.nm, h.nn⟩
theorem Lx.kept {w w' : World} {U V : Nat → Prop} {bx bz : Nat} {d : Dk} {st : Ls} (h : Lx w U bx bz d st) (k : Kp V w w') (hV : ∀ i, U i → ¬ V i) : Lx w' U bx bz d st := by
  obtain ⟨bd, T, bm, bsn, S, E, s, l, h1, h2, h3, h4, h5, h6⟩ := h.ex
  exact ⟨bd, T, bm, bsn, S, E, s, l, k.at h1 (hV _ h3), k.at h2 (hV _ h4), h3, h4, h5, h6.kept k (fun i x => hV i (h5 i x).1)⟩
theorem Lx.below {w w' : World} {U : Nat → Prop} {bx bz : Nat} {d : Dk} {st : Ls} (h : Lx w U bx bz d st) (k : Below w.heap.size w w') : Lx w' U bx bz d st := h.kept (V := fun _ => False) (Kp.of_below k) (fun _ _ f => f)
theorem Lx.mono {w : World} {U V : Nat → Prop} {bx bz : Nat} {d : Dk} {st : Ls} (h : Lx w U bx bz d st) (hV : ∀ k, k < w.heap.size → U k → V k) : Lx w V bx bz d st := by
  obtain ⟨bd, T, bm, bsn, S, E, s, l, h1, h2, h3, h4, h5, h6⟩ := h.ex
  refine ⟨bd, T, bm, bsn, fun k => S k ∧ k < w.heap.size, E, s, l, h1, h2, hV _ (lt_of_block h1) h3, hV _ (lt_of_block h2) h4, fun k hk => ?_, ⟨h6.prog.mono (fun k hk s => ⟨s, hk⟩), h6.at_, fun k e x => h6.dj k e x.1, fun x => h6.nT x.1, fun x => h6.nm x.1, fun x => h6.nn x.1⟩⟩
  have hlt : k < w.heap.size := by
    rcases hk with x | x | rfl | rfl | rfl
    · exact x.2
    · exact h6.at_.bnd k x
    · exact lt_of_block h6.at_.blk
    · exact h6.at_.mem.lt
    · exact lt_of_block h6.at_.snp
  have := h5 k (hk.imp (fun x => x.1) id)
  exact ⟨hV k hlt this.1, this.2⟩
theorem Lx.x {w : World} {U : Nat → Prop} {bx bz : Nat} {d : Dk} {st : Ls} (h : Lx w U bx bz d st) : XAt w U bx d := by
  obtain ⟨bd, T, bm, bsn, S, E, s, l, h1, h2, h3, h4, h5, h6⟩ := h.ex
  exact ⟨bd, h1, h3, h6.prog.mono (fun k _ s => ⟨(h5 k (.inl s)).1, (h5 k (.inl s)).2.1⟩)⟩

theorem Lx.step {w w' : World} {U S E : Nat → Prop} {bx bz bd T bm bsn : Nat} {r : Int × Dk × Ls} (h1 : w.heap[bx]? = some (.cells #[.pointer (some ⟨bd, 0, none⟩)] 116)) (h2 : w.heap[bz]? = some (.cells #[.pointer (some ⟨T, 0, none⟩)] 118)) (h3 : U bx) (h4 : U bz) (h5 : ∀ k, (S k ∨ E k ∨ k = T ∨ k = bm ∨ k = bsn) → U k ∧ k ≠ bx ∧ k ≠ bz)
    (hc : CmPost w w' S E T bd bm bsn r) (k : Kp (fun k => S k ∨ k = T ∨ k = bm) w w') : Lx w' (Nw U w) bx bz r.2.1 r.2.2 ∧ Kp U w w' := by
  obtain ⟨S', E', s', l', a1, a2, a3, a4, a5, a6, hP, hL⟩ := hc
  have hlx := lt_of_block h1
  have hlz := lt_of_block h2
  have q : ∀ k, (S k ∨ k = T ∨ k = bm) → U k ∧ k ≠ bx ∧ k ≠ bz := fun k hk => h5 k (hk.imp id (fun x => .inr (x.imp id .inl)))
  refine ⟨⟨bd, T, bm, bsn, S', E', s', l', k.at h1 (fun x => (q _ x).2.1 rfl), k.at h2 (fun x => (q _ x).2.2 rfl), .inl h3, .inl h4, fun i hi => ?_, ⟨hP, hL, a3, a4, a5, a6⟩⟩, k.mono (fun i x => (q i x).1)⟩
  have up : ∀ {P : Nat → Prop}, (∀ j, P j → U j ∧ j ≠ bx ∧ j ≠ bz) → Nw P w i → Nw U w i ∧ i ≠ bx ∧ i ≠ bz := fun hP x => by
    rcases x with x | x
    · exact ⟨.inl (hP i x).1, (hP i x).2⟩
    · exact ⟨.inr x, by omega, by omega⟩
  rcases hi with x | x | x | x | x
  · exact up (fun j hj => h5 j (.inl hj)) (a1 i x)
  · exact up (fun j hj => h5 j (.inr (.inl hj))) (a2 i x)
  · have := h5 i (.inr (.inr (.inl x))); exact ⟨.inl this.1, this.2⟩
  · have := h5 i (.inr (.inr (.inr (.inl x)))); exact ⟨.inl this.1, this.2⟩
  · have := h5 i (.inr (.inr (.inr (.inr x)))); exact ⟨.inl this.1, this.2⟩

set_option maxHeartbeats 400000 in
theorem sinner_any {w : World} {bz T : Nat} (h : w.heap[bz]? = some (.cells #[.pointer (some ⟨T, 0, none⟩)] 118)) :
    Calls Tryz.prog 53 #[.pointer (some ⟨bz, 0, none⟩)] w fun e w' => e = .returned (.pointer (some ⟨T, 0, none⟩)) ∧ w' = w := by
  obtain ⟨c0, z0⟩ := cells1 h
  clear h
  go_enter Tryz.func53, Tryz.ntmps53
  go_wp2
  go_ret
  exact ⟨rfl, rfl⟩

set_option maxHeartbeats 400000 in
theorem xBatch_good (bx bz : Nat) (d : Dk) (st : Ls) (U : Nat → Prop) (M : Mp) (n : Nat) (q : Option Addr) (qc : Nat) (ops : List Ox) (w : World) (h : Lx w U bx bz d st) (hl : Lst d st M n) (hb : batchOk ops = true) (hn : n + ops.length ≤ 110) (hk : OxLen ops) (hp : Opp w q ops) (hq : ∀ a, q = some a → 0 < ops.length → ¬ U a.block) :
    Calls Tryz.prog 34 #[.pointer (some ⟨bz, 0, none⟩), .slice q ops.length qc] w fun e w' => e = .returned (.int .i64 0) ∧ Lx w' (Nw U w) bx bz (lbatchX d st ops).2.1 (lbatchX d st ops).2.2 ∧ Kp U w w' := by
  obtain ⟨bd, T, bm, bsn, S, E, s, l, h1, h2, h3, h4, h5, h6⟩ := h.ex
  have hin := sinner_any h2
  have hB := sBatch_good T bd bm bsn s l d st S E M n q qc ops w h6 hl hb hn hk hp (fun a ha h0 => ⟨fun x => hq a ha h0 (h5 _ (.inl x)).1, fun e => hq a ha h0 (by rw [e]; exact (h5 T (.inr (.inr (.inl rfl)))).1)⟩)
  generalize lbatchX d st ops = X at *
  go_enter Tryz.func34, Tryz.ntmps34
  go_wp2_with (first
    | (go_at_call 53; refine hin.mono ?_; rintro e w' ⟨rfl, rfl⟩; clear hin)
    | (go_at_call 63; refine hB.mono ?_; rintro e w1 ⟨rfl, hc1, k1⟩; clear hB))
  go_ret
  obtain ⟨a, b⟩ := Lx.step h1 h2 h3 h4 h5 hc1 k1
  exact ⟨rfl, a, b⟩

set_option maxHeartbeats 400000 in
theorem xFlush_good (bx bz : Nat) (d : Dk) (st : Ls) (U : Nat → Prop) (M : Mp) (n : Nat) (w : World) (h : Lx w U bx bz d st) (hl : Lst d st M n) (hn : n ≤ 110) :
    Calls Tryz.prog 39 #[.pointer (some ⟨bz, 0, none⟩)] w fun e w' => e = .returned (.int .i64 0) ∧ Lx w' (Nw U w) bx bz (flushX d st).2.1 (flushX d st).2.2 ∧ Kp U w w' := by
  obtain ⟨bd, T, bm, bsn, S, E, s, l, h1, h2, h3, h4, h5, h6⟩ := h.ex
  have hin := sinner_any h2
  have hB := sFlush_good T bd bm bsn s l d st S E M n w h6 hl hn
  generalize flushX d st = X at *
  go_enter Tryz.func39, Tryz.ntmps39
  go_wp2_with (first
    | (go_at_call 53; refine hin.mono ?_; rintro e w' ⟨rfl, rfl⟩; clear hin)
    | (go_at_call 68; refine hB.mono ?_; rintro e w1 ⟨rfl, hc1, k1⟩; clear hB))
  go_ret
  obtain ⟨a, b⟩ := Lx.step h1 h2 h3 h4 h5 hc1 k1
  exact ⟨rfl, a, b⟩

set_option maxHeartbeats 400000 in
theorem xTables_good (bx bz : Nat) (d : Dk) (st : Ls) (U : Nat → Prop) (M : Mp) (n : Nat) (w : World) (h : Lx w U bx bz d st) (hl : Lst d st M n) (hn : n ≤ 110) :
    Calls Tryz.prog 43 #[.pointer (some ⟨bz, 0, none⟩)] w fun e w' => ∃ v, e = .returned (.tuple #[v, .int .i64 0]) ∧ OwnTt w' w.heap.size v (st.tabs.map ttOf) ∧ Below w.heap.size w w' := by
  obtain ⟨bd, T, bm, bsn, S, E, s, l, h1, h2, h3, h4, h5, h6⟩ := h.ex
  have hin := sinner_any h2
  obtain ⟨dm, dr, df, hd, _⟩ := h6.prog.raw
  have hlen : l.length = st.tabs.length := by rw [← h6.at_.is]; simp
  have hfew := hl.few
  have hents := hl.ents
  have hB := sTables_any T bd bm bsn s l st E w h6.at_ hd hl.lwr.2 (by omega) (fun x hx => by have := entsT_at (show x.1 ∈ st.tabs by rw [← h6.at_.is]; exact List.mem_map.2 ⟨x, hx, rfl⟩); omega)
  clear hd
  generalize st.tabs.map ttOf = X at *
  go_enter Tryz.func43, Tryz.ntmps43
  go_wp2_with (first
    | (go_at_call 53; refine hin.mono ?_; rintro e w' ⟨rfl, rfl⟩; clear hin)
    | (go_at_call 72; refine hB.mono ?_; rintro e w1 ⟨v, rfl, ho, hb⟩; obtain ⟨a2, k2, rfl⟩ := ho.shape; clear hB))
  go_ret2
  exact ⟨_, rfl, ho, hb⟩

set_option maxHeartbeats 400000 in
theorem xScan_good (bx bz : Nat) (d : Dk) (st : Ls) (U : Nat → Prop) (M : Mp) (n : Nat) (lim : Int) (w : World) (h : Lx w U bx bz d st) (hl : Lst d st M n) (hn : n ≤ 110) (hl0 : 0 ≤ lim) (hl1 : lim ≤ 9223372036854775807) :
    Calls Tryz.prog 37 #[.pointer (some ⟨bz, 0, none⟩), str [], str [], .int .i64 lim] w fun e w' => ∃ v, e = .returned (.tuple #[v, .int .i64 0]) ∧ Below w.heap.size w w' ∧ OwnP w' w.heap.size v (M.take lim.toNat) := by
  obtain ⟨bd, T, bm, bsn, S, E, s, l, h1, h2, h3, h4, h5, h6⟩ := h.ex
  have hin := sinner_any h2
  have hB := sScan_good T bd bm bsn s l d st S E M n lim w h6 hl hn hl0 hl1
  generalize M.take lim.toNat = X at *
  go_enter Tryz.func37, Tryz.ntmps37
  go_wp2_with (first
    | (go_at_call 53; refine hin.mono ?_; rintro e w' ⟨rfl, rfl⟩; clear hin)
    | (go_at_call 66; refine hB.mono ?_; rintro e w1 ⟨v, rfl, ho, hb⟩; obtain ⟨a2, k2, rfl⟩ := ho.shape; clear hB))
  go_ret2
  exact ⟨_, rfl, hb, ho⟩

end Go.Proofs.YtoabedkcieindaaGreatDoor

namespace Go.Proofs.YtoabedkcieindaaGreatDoor
open Go.RowKit Go.Maps Go.Sort Go.Shelf

def PRowS (w : World) (V : Nat → Prop) (v : Value) (l : List (Nm × Nm)) : Prop := ∃ q c, v = .slice q l.length c ∧ Pairp w q l ∧ ∀ a, q = some a → 0 < l.length → ¬ V a.block

theorem PRowS.below {w w' : World} {V : Nat → Prop} {v : Value} {l : List (Nm × Nm)} (h : PRowS w V v l) (hb : Below w.heap.size w w') : PRowS w' V v l := by
  obtain ⟨q, c, e, hp, hn⟩ := h
  exact ⟨q, c, e, hp.below hb, hn⟩

theorem PRowS.kept {w w' : World} {V : Nat → Prop} {v : Value} {l : List (Nm × Nm)} (h : PRowS w V v l) (k : Kp V w w') : PRowS w' V v l := by
  obtain ⟨q, c, e, hp, hn⟩ := h
  refine ⟨q, c, e, fun i hi => ?_, hn⟩
  obtain ⟨g, off, rfl, c0, c1⟩ := hp i hi
  have hgl := World.block_lt_of_cell? w ⟨g, off + i * 2, none⟩ c0
  have hbk := k.block g hgl (hn _ rfl (by omega))
  exact ⟨g, off, rfl, by simp only [World.cell?, hbk] at c0 ⊢; exact c0, by simp only [World.cell?, hbk] at c1 ⊢; exact c1⟩

theorem Pairp.lt {w : World} {l : List (Nm × Nm)} {q : Option Addr} (hp : Pairp w q l) : ∀ a, q = some a → 0 < l.length → a.block < w.heap.size := fun a ha h0 => by
  obtain ⟨g, off, e, c0, _⟩ := hp 0 h0
  rw [ha] at e
  cases e
  exact World.block_lt_of_cell? w _ c0

theorem PRowS.mono {w : World} {V V' : Nat → Prop} {v : Value} {l : List (Nm × Nm)} (h : PRowS w V v l) (hV : ∀ k, k < w.heap.size → V' k → V k) : PRowS w V' v l := by
  obtain ⟨q, c, e, hp, hn⟩ := h
  exact ⟨q, c, e, hp, fun a ha h0 s => hn a ha h0 (hV _ (Pairp.lt hp a ha h0) s)⟩

theorem PRowS.nil (w : World) (V : Nat → Prop) (c : Nat) : PRowS w V (.slice none 0 c) [] := ⟨none, c, rfl, fun i hi => absurd hi (Nat.not_lt_zero _), fun a ha => by cases ha⟩

set_option maxHeartbeats 2000000 in
set_option maxRecDepth 20000 in
theorem behind_row (V : Nat → Prop) (v0 : Value) (l : List (Nm × Nm)) (qo : Option Addr) (oc : Nat) (ops : List Ox) (w : World) (hV : ∀ k, V k → k < w.heap.size) (hv : PRowS w V v0 l) (hr : rising l) (ho : Opp w qo ops) (hl : l.length + ops.length ≤ 4190000) :
    Calls Tryz.prog 35 #[v0, .slice qo ops.length oc] w fun e w' => ∃ v, e = .returned v ∧ Below w.heap.size w w' ∧ PRowS w' V v (doAll l ops) := by
  go_enter Tryz.func35, Tryz.ntmps35
  go_wp2
  go_loopw [0, 5] (fun v i wr => ∃ k : Nat, k ≤ ops.length ∧ i = .int .i64 k ∧ PRowS wr V v (doAll l (ops.take k)) ∧ Below w.heap.size w wr) (fun _ i _ => ops.length - (intOf i).toNat)
  case atStart => exact ⟨0, Nat.zero_le _, rfl, hv, Below.refl _ _⟩
  case round =>
    obtain ⟨k, hk, rfl, hrow, hB⟩ := hrel
    have hs := hB.size
    by_cases hlt : k < ops.length
    · obtain ⟨g, off, rfl, c0, c1, c2⟩ := (ho.below hB) k hlt
      obtain ⟨q, c, rfl, hp, _⟩ := hrow
      have hml := doAll_len l (ops.take k)
      rw [List.length_take] at hml
      have HS : Hid (doAll l (ops.take (k + 1)) = kdoneL (doAll l (ops.take k)) ops[k]) := by show _ = _; rw [doAll_snoc l hlt, kdoneL_doOp _ (rising_doAll _ hr)]
      generalize doAll l (ops.take k) = M at *
      go_wp2_with (go_at_call 64; refine (kdone_any q c M ops[k] _ hp (by omega)).mono ?_; rintro e w1 ⟨v, rfl, hb, hown⟩)
      go_roundw
      case rel =>
        refine ⟨k + 1, by omega, by go_num, ?_, hB.trans (hb.mono hs)⟩
        rw [HS.out]
        obtain ⟨q', c', e', hp', hn'⟩ := hown.pairp
        exact ⟨q', c', e', hp', fun a ha _ s => by have := (hn' a ha).1; have := hV _ s; omega⟩
      case measure => simp [intOf]; omega
    · rw [List.take_of_length_le (by omega)] at hrow
      go_wp2
      go_ret
      exact ⟨_, rfl, hB, hrow⟩

theorem below_kp {w w1 w2 : World} (hb : Below w.heap.size w w1) (k : Kp (fun k => w.heap.size ≤ k) w1 w2) : Below w.heap.size w w2 :=
  ((Kp.of_below (S := fun _ => False) hb).trans k (fun i hi s => by omega)).below

theorem below_kp2 {w w1 w2 : World} {U : Nat → Prop} (hb : Below w.heap.size w w1) (k : Kp U w1 w2) (hU : ∀ i, U i → w.heap.size ≤ i) : Below w.heap.size w w2 := below_kp hb (k.mono hU)

structure DoV where
  kind : Int
  a : Int
  b : Int
  q : Option Addr
  qc : Nat
  ops : List Ox

structure DoOk (w : World) (o : DoV) : Prop where
  len : o.ops.length ≤ 9223372036854775807
  opp : Opp w o.q o.ops
  ox : OxBig o.ops

theorem DoOk.below {w w' : World} {o : DoV} (h : DoOk w o) (hb : Below w.heap.size w w') : DoOk w' o := ⟨h.len, h.opp.below hb, h.ox⟩

def Dop (w : World) (q : Option Addr) (l : List DoV) : Prop := ∀ i (h : i < l.length), ∃ g off, q = some ⟨g, off, none⟩ ∧ w.cell? ⟨g, off + i * 4, none⟩ = some (.int .i64 l[i].kind) ∧ w.cell? ⟨g, off + i * 4 + 1, none⟩ = some (.int .i64 l[i].a) ∧ w.cell? ⟨g, off + i * 4 + 2, none⟩ = some (.int .i64 l[i].b) ∧ w.cell? ⟨g, off + i * 4 + 3, none⟩ = some (.slice l[i].q l[i].ops.length l[i].qc)

theorem Dop.below {w w' : World} {q : Option Addr} {l : List DoV} (h : Dop w q l) (hb : Below w.heap.size w w') : Dop w' q l := fun i hi => by
  obtain ⟨g, off, e, h0, h1, h2, h3⟩ := h i hi
  exact ⟨g, off, e, cell_below hb h0, cell_below hb h1, cell_below hb h2, cell_below hb h3⟩

theorem tidyK_ok (k : Nm) : keyOk (tidyK k) = true := by
  unfold tidyK keyOk
  split
  · rw [List.length_take]; simp; omega
  · split
    · rfl
    · rename_i h1 h2
      have : 1 ≤ k.length := by cases k with | nil => exact absurd rfl h2 | cons _ _ => simp
      simp; omega

theorem tidyV_len (v : Nm) : (tidyV v).length ≤ 64 := by
  unfold tidyV
  split
  · rw [List.length_take]; omega
  · omega

theorem tidyOp_ok (o : Ox) : opOk (tidyOp o) = true := by
  have h1 := tidyK_ok o.key
  have h2 := tidyV_len o.val
  simp only [opOk, tidyOp, h1, Bool.true_and, Bool.or_eq_true]
  exact .inr (decide_eq_true h2)

theorem tidy_ok (l : List Ox) : batchOk (tidyL l) = true := by
  rw [batchOk_iff]
  unfold tidyL
  split
  · refine ⟨by simp, fun o ho => ?_⟩
    obtain rfl := List.mem_singleton.1 ho
    rfl
  · rename_i h
    have : 1 ≤ l.length := by cases l with | nil => exact absurd rfl h | cons _ _ => simp
    refine ⟨by rw [List.length_map, List.length_take]; omega, fun o ho => ?_⟩
    obtain ⟨o', _, rfl⟩ := List.mem_map.1 ho
    exact tidyOp_ok o'

theorem tidy_val (l : List Ox) : ∀ o ∈ tidyL l, o.val.length ≤ 64 := by
  unfold tidyL
  split
  · intro o ho
    obtain rfl := List.mem_singleton.1 ho
    simp
  · intro o ho
    obtain ⟨o', _, rfl⟩ := List.mem_map.1 ho
    exact tidyV_len _

theorem tidy_ox (l : List Ox) : OxLen (tidyL l) := fun o ho => by
  have h1 := opOk_key ((batchOk_iff.1 (tidy_ok l)).2 o ho)
  have h2 := tidy_val l o ho
  omega

theorem PRowS.step {w w' : World} {U : Nat → Prop} {v : Value} {l : List (Nm × Nm)} (h : PRowS w U v l) (k : Kp U w w') : PRowS w' (fun i => Nw U w i ∧ i < w'.heap.size) v l := by
  obtain ⟨q, c, e, hp, hn⟩ := h
  obtain ⟨q', c', e', hp', _⟩ := PRowS.kept ⟨q, c, e, hp, hn⟩ k
  rw [e] at e'
  cases e'
  refine ⟨q, c, e, hp', fun a ha h0 s => ?_⟩
  rcases s.1 with s | s
  · exact hn a ha h0 s
  · have := Pairp.lt hp a ha h0; omega

theorem Tryz.info63 : (Tryz.prog.info? 63).map (fun i => (i.zero, i.size, i.bytes)) = some (some (.agg #[.int .i64 0, .int .i64 0, .int .i64 0, .slice none 0 0]), 4, 48) := by kernel_rfl

def flatD (l : List DoV) : List Value := l.flatMap fun o => [.int .i64 o.kind, .int .i64 o.a, .int .i64 o.b, .slice o.q o.ops.length o.qc]
theorem flatD_snoc (l : List DoV) (o : DoV) : flatD (l ++ [o]) = flatD l ++ [.int .i64 o.kind, .int .i64 o.a, .int .i64 o.b, .slice o.q o.ops.length o.qc] := by simp [flatD]
theorem flatD_len (l : List DoV) : (flatD l).length = l.length * 4 := by
  induction l with
  | nil => rfl
  | cons x r ih => show (Value.int .i64 x.kind :: .int .i64 x.a :: .int .i64 x.b :: .slice x.q x.ops.length x.qc :: flatD r).length = _; simp [ih]; omega
def OwnD (w : World) (base : Nat) (v : Value) (l : List DoV) : Prop := w.ownsRow base 63 4 v l.length (flatD l)
theorem flatD_at : ∀ (l : List DoV) (i : Nat) (h : i < l.length), (flatD l)[i * 4]? = some (.int .i64 l[i].kind) ∧ (flatD l)[i * 4 + 1]? = some (.int .i64 l[i].a) ∧ (flatD l)[i * 4 + 2]? = some (.int .i64 l[i].b) ∧ (flatD l)[i * 4 + 3]? = some (.slice l[i].q l[i].ops.length l[i].qc)
  | x :: r, 0, _ => by simp [flatD]
  | x :: r, i + 1, h => by
    obtain ⟨h0, h1, h2, h3⟩ := flatD_at r i (by simpa using h)
    have e : flatD (x :: r) = [.int .i64 x.kind, .int .i64 x.a, .int .i64 x.b, .slice x.q x.ops.length x.qc] ++ flatD r := by simp [flatD]
    rw [e]
    refine ⟨?_, ?_, ?_, ?_⟩
    · rw [show (i + 1) * 4 = i * 4 + 4 by omega, List.getElem?_append_right (by simp)]; simpa using h0
    · rw [show (i + 1) * 4 + 1 = i * 4 + 1 + 4 by omega, List.getElem?_append_right (by simp)]; simpa using h1
    · rw [show (i + 1) * 4 + 2 = i * 4 + 2 + 4 by omega, List.getElem?_append_right (by simp)]; simpa using h2
    · rw [show (i + 1) * 4 + 3 = i * 4 + 3 + 4 by omega, List.getElem?_append_right (by simp)]; simpa using h3
theorem OwnD.dop {w : World} {base : Nat} {v : Value} {l : List DoV} (h : OwnD w base v l) : ∃ q cap, v = .slice q l.length cap ∧ Dop w q l ∧ ∀ a, q = some a → base ≤ a.block ∧ a.block < w.heap.size := by
  rcases h.2 with ⟨hv, hn⟩ | ⟨g, cap, cur, hv, hb, hgg, _⟩
  · exact ⟨none, 0, by rw [hv, hn], fun i hi => by omega, fun a ha => by cases ha⟩
  · refine ⟨_, cap, hv, fun i hi => ?_, fun a ha => by cases ha; exact ⟨hb, lt_of_block hgg⟩⟩
    have hc := World.ownsRow.cells h (g := g) (by rw [hv]; rfl)
    obtain ⟨k0, k1, k2, k3⟩ := flatD_at l i hi
    refine ⟨g, 0, rfl, ?_, ?_, ?_, ?_⟩
    · have := hc _ _ k0; rwa [Addr.add_lit] at this
    · have := hc _ _ k1; rwa [Addr.add_lit, ← Nat.add_assoc] at this
    · have := hc _ _ k2; rwa [Addr.add_lit, ← Nat.add_assoc] at this
    · have := hc _ _ k3; rwa [Addr.add_lit, ← Nat.add_assoc] at this
theorem do_new {W : World} {n : Nat} (h : W.heap.size = n) {a b c d : Value} : ∀ j u, [a, b, c, d][j]? = some u → (W.alloc (.cells #[a, b, c, d] 63)).cell? ((⟨n, 0, none⟩ : Addr).add j) = some u := by
  intro j u hu
  subst h
  rw [Addr.add_lit, Nat.zero_add, cell_block (block_new W _)]
  simpa using hu
theorem Dop.kept {w w' : World} {U : Nat → Prop} {q : Option Addr} {l : List DoV} (h : Dop w q l) (k : Kp U w w') (hq : ∀ a, q = some a → 0 < l.length → ¬ U a.block) : Dop w' q l := fun i hi => by
  obtain ⟨g, off, rfl, c0, c1, c2, c3⟩ := h i hi
  have hgl := World.block_lt_of_cell? w ⟨g, off + i * 4, none⟩ c0
  have hbk := k.block g hgl (hq _ rfl (by omega))
  exact ⟨g, off, rfl, by simp only [World.cell?, hbk] at c0 ⊢; exact c0, by simp only [World.cell?, hbk] at c1 ⊢; exact c1, by simp only [World.cell?, hbk] at c2 ⊢; exact c2, by simp only [World.cell?, hbk] at c3 ⊢; exact c3⟩

def isB (o : DoV) : Bool := decide (o.kind < 1) || decide (5 < o.kind)
theorem filter_snoc {L : List DoV} {k : Nat} (h : k < L.length) : (isB L[k] = true → (L.take (k + 1)).filter isB = (L.take k).filter isB ++ [L[k]]) ∧ (isB L[k] = false → (L.take (k + 1)).filter isB = (L.take k).filter isB) := by
  rw [List.take_succ_eq_append_getElem h, List.filter_append]
  constructor
  · intro e; rw [List.filter_cons_of_pos e]; rfl
  · intro e; rw [List.filter_cons_of_neg (by simp [e])]; simp

set_option maxHeartbeats 2000000 in
set_option maxRecDepth 20000 in
theorem batches_any (q : Option Addr) (qc : Nat) (L : List DoV) (w : World) (hp : Dop w q L) (hl : L.length ≤ 1048576) :
    Calls Tryz.prog 20 #[.slice q L.length qc] w fun e w' => ∃ v, e = .returned v ∧ Below w.heap.size w w' ∧ OwnD w' w.heap.size v (L.filter isB) := by
  obtain ⟨i0, hi0, hz0, hz1, hz2⟩ := info_parts Tryz.info63
  go_enter Tryz.func20, Tryz.ntmps20
  go_wp2
  go_loopw [3, 4] (fun v i wr => ∃ k : Nat, k ≤ L.length ∧ i = .int .i64 k ∧ OwnD wr w.heap.size v ((L.take k).filter isB) ∧ Below w.heap.size w wr) (fun _ i _ => L.length - (intOf i).toNat)
  case atStart => exact ⟨0, Nat.zero_le _, rfl, World.ownsRow_nil _ _ _ _, Below.refl _ _⟩
  case round =>
    obtain ⟨k, hk, rfl, hown, hB⟩ := hrel
    have hs := hB.size
    by_cases hlt : k < L.length
    · obtain ⟨g, off, rfl, c0, c1, c2, c3⟩ := (hp.below hB) k hlt
      obtain ⟨hy, hn⟩ := filter_snoc hlt
      have hml : ((L.take k).filter isB).length ≤ 1048576 := Nat.le_trans (List.length_filter_le _ _) (by rw [List.length_take]; omega)
      cases hb : isB L[k]
      · have HM : Hid ((L.take (k + 1)).filter isB = (L.take k).filter isB) := hn hb
        simp only [isB, Bool.or_eq_false_iff, decide_eq_false_iff_not] at hb
        obtain ⟨b1, b2⟩ := hb
        clear hy hn
        go_wp2
        go_roundw
        case rel => exact ⟨k + 1, by omega, by go_num, by rw [HM.out]; exact hown, hB⟩
        case measure => simp [intOf]; omega
      · have HM : Hid ((L.take (k + 1)).filter isB = (L.take k).filter isB ++ [L[k]]) := hy hb
        clear hy hn
        generalize (L.take k).filter isB = M at *
        have HC : Hid (L[k].kind < 1 ∨ (¬ L[k].kind < 1 ∧ 5 < L[k].kind)) := by
          simp only [isB, Bool.or_eq_true, decide_eq_true_eq] at hb
          show _ ∨ _
          omega
        clear hb
        rcases HC.out with b1 | ⟨b1, b2⟩
        all_goals
          go_wp2_with (first
            | (at_builtin; refine wpList_append_own _ rfl (.tmp 25) (.tmp 30) 26 rfl w.heap.size 63 i0 _ 4 48 Tryz.underlying26 hi0 hz0 hz1 hz2 rfl (by decide) _ M.length (flatD M) rfl (World.ownsRow.alloc hown _) ⟨wr.heap.size, 0, none⟩ 1 1 [.int .i64 L[k].kind, .int .i64 L[k].a, .int .i64 L[k].b, .slice L[k].q L[k].ops.length L[k].qc] rfl rfl (do_new rfl) (by simp [Value.oneCell']) (by unfold maxLen; omega) (by omega) (by simp; omega) ?_; intro v' w2 hown' hgrow _)
            | go_in)
          go_roundw
          case rel =>
            refine ⟨k + 1, by omega, by go_num, ?_, (hB.alloc hs _).grown hgrow (by simp; omega) (fun k hk => (World.ownsRow.lt hown k hk).1)⟩
            unfold OwnD
            rw [HM.out, flatD_snoc, List.length_append]
            exact hown'
          case measure => simp [intOf]; omega
    · have hkl : k = L.length := by omega
      rw [hkl, List.take_of_length_le (Nat.le_refl _)] at hown
      go_wp2
      go_ret
      exact ⟨_, rfl, hB, hown⟩

def DoOut (U : Nat → Prop) (o : DoV) : Prop := ∀ a, o.q = some a → 0 < o.ops.length → ¬ U a.block

theorem kp_below {S : Nat → Prop} {a b c : World} (h : Kp S a b) (k : Below b.heap.size b c) : Kp S a c := h.trans (T := fun _ => False) (Kp.of_below k) (fun _ _ f => f.elim)

end Go.Proofs.YtoabedkcieindaaGreatDoor
