/- A disk with the log of some batches, and a store on it: plain mathematics. -/
import Derived.Test.YtfghgmojnffgnaaGreatCodeY
import Derived.Test.YtfghgmojnffgnaaGreatKeepC
import Derived.Test.YtfghgmojnffgnaaGreatCodeJ
namespace Go.Proofs.YtfghgmojnffgnaaGreat
open Go.RowKit Go.Maps Go.Sort

/-- The files are those of a store with this map; no fuse burns. -/
structure DInv (d : Dk) (m : Mp) : Prop where
  ok : d.Ok
  alive : d.dead = false
  left : d.left = -1
  log : (d.files = [] ∧ m = []) ∨ ∃ bs f, d.files = [(logN, f)] ∧ f.bytes = logOf bs ∧ (∀ b ∈ bs, batchOk b = true) ∧ m = doAll [] bs.flatten

theorem flatten_ok {bs : List (List Ox)} (h : ∀ b ∈ bs, batchOk b = true) : ∀ o ∈ bs.flatten, opOk o = true := by
  intro o ho
  obtain ⟨b, hb, hob⟩ := List.mem_flatten.1 ho
  exact (batchOk_iff.1 (h b hb)).2 o hob
theorem log_len : ∀ {bs : List (List Ox)}, (∀ b ∈ bs, batchOk b = true) → 2 * bs.flatten.length ≤ (logOf bs).length
  | [], _ => by simp
  | b :: bs, h => by
    have h1 := log_len (bs := bs) (fun x hx => h x (List.mem_cons_of_mem _ hx))
    have h2 := (encBody_len b (batchOk_iff.1 (h b (by simp))).2).1
    rw [logOf_cons, List.flatten_cons, List.length_append, List.length_append, encode_len]
    omega
theorem used_one (n : Nm) (f : Fl) : used [(n, f)] = f.bytes.length := by simp [used]
theorem DInv.mok {d : Dk} {m : Mp} (h : DInv d m) : MOk m := by
  rcases h.log with ⟨_, rfl⟩ | ⟨bs, f, _, _, hb, rfl⟩
  · exact MOk.nil
  · exact MOk.nil.doAll (flatten_ok hb)
theorem DInv.len {d : Dk} {m : Mp} (h : DInv d m) : m.length ≤ 524288 := by
  rcases h.log with ⟨_, rfl⟩ | ⟨bs, f, hf, hfb, hb, rfl⟩
  · simp
  · have h1 := doAll_len [] bs.flatten
    have h2 := log_len hb
    have h3 := h.ok.used
    have h4 := h.ok.quota
    rw [hf, used_one, hfb] at h3
    simp only [List.length_nil] at h1
    omega
theorem DInv.files {d : Dk} {m : Mp} (h : DInv d m) : d.files.length ≤ 1 := by
  rcases h.log with ⟨e, _⟩ | ⟨_, _, e, _⟩ <;> rw [e] <;> simp
theorem DInv.ours {d : Dk} {m : Mp} (h : DInv d m) : (nmsOf d.files).all oursB = true := by
  rcases h.log with ⟨e, _⟩ | ⟨_, _, e, _⟩ <;> rw [e] <;> rfl
theorem DInv.new (q : Int) (h1 : q ≤ 1048576) : DInv (newDk q) [] :=
  ⟨⟨(by simp only [newDk]; omega), (by simp [newDk, used]), (by simp [newDk]), (by simp [newDk]), (fun _ h => by cases h), List.Pairwise.nil, (fun _ h => by cases h)⟩, rfl, rfl, .inl ⟨rfl, rfl⟩⟩
theorem rising_one {α : Type} (x : Nm × α) : rising [x] := List.pairwise_singleton _ _
theorem logName : nameOk logN = true := by decide

/-- The disk behind the Write of a log's record. -/
def grew (d : Dk) (f : Fl) : Dk := { d with files := [(logN, f)] }
theorem getF_one (f : Fl) : getF logN [(logN, f)] = some f := by simp [getF]
theorem DInv.grew {d : Dk} {m m' : Mp} (h : DInv d m) {f : Fl} (hs : f.safe ≤ f.bytes.length) (hq : f.bytes.length ≤ d.quota) {bs : List (List Ox)} (e : f.bytes = logOf bs) (hb : ∀ b ∈ bs, batchOk b = true) (hm : m' = doAll [] bs.flatten) : DInv (grew d f) m' :=
  ⟨⟨h.ok.quota, (by show used [(logN, f)] ≤ _; rw [used_one]; exact hq), h.ok.left0, h.ok.left1, (by intro x hx; obtain rfl := List.mem_singleton.1 hx; exact hs), rising_one _, (by intro x hx; obtain rfl := List.mem_singleton.1 hx; show logN.length ≤ 20; decide)⟩, h.alive, h.left, .inr ⟨bs, f, rfl, e, hb, hm⟩⟩
theorem DInv.write {d : Dk} {m : Mp} (h : DInv d m) {l : List Ox} (hl : batchOk l = true) (hr : used d.files + (encode l).length ≤ d.quota) :
    ∃ f, d.write logN (encode l) = (0, Go.Proofs.YtfghgmojnffgnaaGreat.grew d f) ∧ DInv (Go.Proofs.YtfghgmojnffgnaaGreat.grew d f) (doAll m l) ∧ f.bytes.length = used d.files + (encode l).length := by
  rcases h.log with ⟨hf, rfl⟩ | ⟨bs, f, hf, hfb, hbs, rfl⟩
  · have hu : used d.files = 0 := by rw [hf]; rfl
    refine ⟨⟨encode l, 0⟩, ?_, h.grew (Nat.zero_le _) (by rw [hu] at hr; simpa using hr) (bs := [l]) (logOf_one l).symm (by simpa using hl) (by simp), by rw [hu]; simp⟩
    unfold Dk.write
    rw [if_neg (by simp [h.alive]), if_neg (by simp [logName]), if_neg (by omega), if_neg (by simp [h.left]), hf]
    simp only [Dk.burn, Go.Proofs.YtfghgmojnffgnaaGreat.grew, h.left, h.alive]
    rfl
  · have hu : used d.files = f.bytes.length := by rw [hf, used_one]
    refine ⟨addB (encode l) f, ?_, h.grew ?_ ?_ (bs := bs ++ [l]) ?_ ?_ ?_, ?_⟩
    · unfold Dk.write
      rw [if_neg (by simp [h.alive]), if_neg (by simp [logName]), if_neg (by omega), if_neg (by simp [h.left]), hf, getF_one]
      simp only [Dk.burn, Go.Proofs.YtfghgmojnffgnaaGreat.grew, h.left, h.alive]
      rfl
    · have := h.ok.safe (logN, f) (by rw [hf]; simp)
      simp only [addB, List.length_append] at *
      omega
    · simp only [addB, List.length_append]; omega
    · simp only [addB]; rw [hfb, logOf_append, logOf_one]
    · intro b hb
      rcases List.mem_append.1 hb with hb | hb
      · exact hbs b hb
      · obtain rfl := List.mem_singleton.1 hb; exact hl
    · rw [List.flatten_append, doAll_append]; simp
    · rw [hu]; simp [addB]
theorem DInv.full {d : Dk} {m : Mp} (h : DInv d m) {l : List Ox} (hr : d.quota < used d.files + (encode l).length) : d.write logN (encode l) = (3, d) := by
  unfold Dk.write
  rw [if_neg (by simp [h.alive]), if_neg (by simp [logName]), if_pos hr]

theorem writable_open {d : Dk} {st : St} (ha : d.dead = false) (ht : st.turn = d.turn) (hs : st.stuck = false) : writable d.turn d.dead st = 0 := by simp [writable, ready, ha, ht, hs]
theorem ready_open {d : Dk} {st : St} (ha : d.dead = false) (ht : st.turn = d.turn) : ready d.turn d.dead st = 0 := by simp [ready, ha, ht]
theorem batchX_done {d : Dk} {st : St} (h : DInv d st.m) (ht : st.turn = d.turn) (hs : st.stuck = false) {l : List Ox} (hl : batchOk l = true) (hr : used d.files + (encode l).length ≤ d.quota) :
    ∃ f, batchX d st l = (0, grew d f, { st with loose := true, m := doAll st.m l }) ∧ DInv (grew d f) (doAll st.m l) ∧ f.bytes.length = used d.files + (encode l).length := by
  obtain ⟨f, h1, h2, h3⟩ := h.write hl hr
  refine ⟨f, ?_, h2, h3⟩
  unfold batchX
  rw [writable_open h.alive ht hs, h1]
  simp [hl]
theorem batchX_full {d : Dk} {st : St} (h : DInv d st.m) (ht : st.turn = d.turn) (hs : st.stuck = false) {l : List Ox} (hl : batchOk l = true) (hr : d.quota < used d.files + (encode l).length) :
    batchX d st l = (3, d, { st with stuck := true }) := by
  unfold batchX
  rw [writable_open h.alive ht hs, h.full hr]
  simp [hl]
theorem batchX_stuck {d : Dk} {st : St} (ha : d.dead = false) (ht : st.turn = d.turn) (hs : st.stuck = true) (l : List Ox) : batchX d st l = (7, d, st) := by
  simp [batchX, writable, ready, ha, ht, hs]

theorem rep_log {bs : List (List Ox)} (hb : ∀ b ∈ bs, batchOk b = true) : rep (logOf bs) [] = some (doAll [] bs.flatten, (logOf bs).length) := by
  have := replay_log bs [] [] (logOf bs).length hb (.inl rfl) (by simp)
  rw [List.append_nil] at this
  exact this
theorem syncX_loose {d d2 : Dk} {st : St} (ha : d.dead = false) (ht : st.turn = d.turn) (hs : st.stuck = false) (hl : st.loose = true) (h : d.sync logN = (0, d2)) : syncX d st = (0, d2, { st with loose := false }) := by
  unfold syncX
  rw [writable_open ha ht hs, h]
  simp [hl]
theorem syncX_tight {d : Dk} {st : St} (ha : d.dead = false) (ht : st.turn = d.turn) (hs : st.stuck = false) (hl : st.loose = false) : syncX d st = (0, d, st) := by
  unfold syncX
  rw [writable_open ha ht hs]
  simp [hl]
theorem secureX_ok {d : Dk} {st : St} {n0 n : Nat} (h : d.safe logN = (n0, 0)) : secureX d st n = syncX d { st with loose := decide (n0 < n) } := by
  unfold secureX
  rw [h]
  simp
/-- Behind an Open that finds a whole log. -/
theorem DInv.reopen {d : Dk} {m : Mp} (h : DInv d m) {f : Fl} (hf : d.files = [(logN, f)]) :
    rep f.bytes [] = some (m, f.bytes.length) ∧ ∃ d2, reopened d m f = (0, d2, ⟨d.turn + 1, m, false, false⟩) ∧ DInv d2 m ∧ d2.turn = d.turn + 1 ∧ d2.quota = d.quota ∧ used d2.files = used d.files := by
  rcases h.log with ⟨e, _⟩ | ⟨bs, g, hg, hfb, hbs, rfl⟩
  · rw [hf] at e; cases e
  obtain rfl : g = f := by rw [hf] at hg; simpa using hg.symm
  refine ⟨by rw [hfb]; exact rep_log hbs, ?_⟩
  have hsf := h.ok.safe (logN, g) (by rw [hf]; simp)
  have hus := h.ok.used
  rw [hf, used_one] at hus
  have hsafe : ({ d with turn := d.turn + 1 } : Dk).safe logN = (g.safe, 0) := by simp [Dk.safe, h.alive, hf, getF]
  have hD : DInv { d with turn := d.turn + 1 } (doAll [] bs.flatten) := ⟨⟨h.ok.quota, h.ok.used, h.ok.left0, h.ok.left1, h.ok.safe, h.ok.rise, h.ok.name⟩, h.alive, h.left, h.log⟩
  unfold reopened
  rw [secureX_ok hsafe]
  by_cases hlt : g.safe < g.bytes.length
  · refine ⟨Go.Proofs.YtfghgmojnffgnaaGreat.grew { d with turn := d.turn + 1 } (allSafe g), ?_, hD.grew (f := allSafe g) (Nat.le_refl _) hus hfb hbs rfl, rfl, rfl, ?_⟩
    · refine (syncX_loose (d := { d with turn := d.turn + 1 }) (st := ⟨d.turn + 1, doAll [] bs.flatten, decide (g.safe < g.bytes.length), false⟩) (d2 := Go.Proofs.YtfghgmojnffgnaaGreat.grew { d with turn := d.turn + 1 } (allSafe g)) h.alive rfl rfl (by simpa using hlt) ?_).trans rfl
      unfold Dk.sync
      rw [if_neg (by simp [h.alive]), hf, getF_one, if_neg (by simp), if_neg (by simp [h.left])]
      simp only [Dk.burn, Go.Proofs.YtfghgmojnffgnaaGreat.grew, h.left, h.alive]
      rfl
    · show used [(logN, allSafe g)] = _
      rw [hf, used_one, used_one]; rfl
  · refine ⟨{ d with turn := d.turn + 1 }, ?_, hD, rfl, rfl, rfl⟩
    refine (syncX_tight (d := { d with turn := d.turn + 1 }) (st := ⟨d.turn + 1, doAll [] bs.flatten, decide (g.safe < g.bytes.length), false⟩) h.alive rfl rfl (by simpa using hlt)).trans ?_
    simp [hlt]

end Go.Proofs.YtfghgmojnffgnaaGreat

/- A strata.Disk and the strata.Store that is open on it: Open, Batch; the statements' holds and fresh. -/
namespace Go.Proofs.YtfghgmojnffgnaaGreat
open Go.RowKit Go.Maps Go.Sort

structure Shop (w : World) (U : Nat → Prop) (bx bz : Nat) (d : Dk) (st : St) : Prop where
  ex : ∃ bd bs, w.heap[bx]? = some (.cells #[.pointer (some ⟨bd, 0, none⟩)] 91) ∧ w.heap[bz]? = some (.cells #[.pointer (some ⟨bs, 0, none⟩)] 93) ∧ U bx ∧ U bz ∧ Sys w (fun k => U k ∧ k ≠ bx ∧ k ≠ bz) bd bs d st
theorem Shop.kept {w w' : World} {U V : Nat → Prop} {bx bz : Nat} {d : Dk} {st : St} (h : Shop w U bx bz d st) (k : Kp V w w') (hV : ∀ i, U i → ¬ V i) : Shop w' U bx bz d st := by
  obtain ⟨bd, bs, h1, h2, h3, h4, h5⟩ := h.ex
  exact ⟨bd, bs, k.at h1 (hV _ h3), k.at h2 (hV _ h4), h3, h4, h5.kept k (fun i s => hV i s.1)⟩
theorem Shop.below {w w' : World} {U : Nat → Prop} {bx bz : Nat} {d : Dk} {st : St} (h : Shop w U bx bz d st) (k : Below w.heap.size w w') : Shop w' U bx bz d st := h.kept (V := fun _ => False) (Kp.of_below k) (fun _ _ f => f)
theorem Shop.mono {w : World} {U V : Nat → Prop} {bx bz : Nat} {d : Dk} {st : St} (h : Shop w U bx bz d st) (hV : ∀ k, k < w.heap.size → U k → V k) : Shop w V bx bz d st := by
  obtain ⟨bd, bs, h1, h2, h3, h4, h5⟩ := h.ex
  exact ⟨bd, bs, h1, h2, hV _ (lt_of_block h1) h3, hV _ (lt_of_block h2) h4, h5.mono (fun k hk s => ⟨hV k hk s.1, s.2⟩)⟩
/-- The disk alone. -/
theorem Shop.x {w : World} {U : Nat → Prop} {bx bz : Nat} {d : Dk} {st : St} (h : Shop w U bx bz d st) : XAt w U bx d := by
  obtain ⟨bd, bs, h1, h2, h3, h4, h5⟩ := h.ex
  obtain ⟨S, T, bm, u1, u2, u3, hP, hT⟩ := h5.ex
  exact ⟨bd, h1, h3, hP.mono (fun k _ s => ⟨(u1 k s).1, (u1 k s).2.1⟩)⟩

theorem sOpen_inv (bd : Nat) (d : Dk) (m : Mp) (p : Int) (S : Nat → Prop) (w : World) (hP : ProgAt w S bd d) (hD : DInv d m) (ht0 : 0 ≤ d.turn) (ht1 : d.turn ≤ 1000) (hp0 : 0 ≤ p) (hp2 : p ≤ 2) :
    Calls Tryz.prog 42 #[.pointer (some ⟨bd, 0, none⟩), .int .i64 p] w fun e w' => ∃ bs d2, e = .returned (.tuple #[.pointer (some ⟨bs, 0, none⟩), .int .i64 0]) ∧ Sys w' (Nw S w) bd bs d2 ⟨d.turn + 1, m, false, false⟩ ∧ Kp S w w' ∧ DInv d2 m ∧ d2.turn = d.turn + 1 ∧ d2.quota = d.quota ∧ used d2.files = used d.files := by
  have hfl := hD.files
  rcases hD.log with ⟨hf, rfl⟩ | ⟨bs, f, hf, _⟩
  · refine (sOpen_none bd d p S w hP hD.ok (by omega) hD.alive ht0 (by omega) hp0 hp2 hD.ours (by rw [hf]; simp [nmsOf])).mono ?_
    rintro e w' ⟨bs, rfl, hS, k⟩
    exact ⟨bs, _, rfl, hS, k, ⟨⟨hD.ok.quota, hD.ok.used, hD.ok.left0, hD.ok.left1, hD.ok.safe, hD.ok.rise, hD.ok.name⟩, hD.alive, hD.left, hD.log⟩, rfl, rfl, rfl⟩
  · obtain ⟨hrep, d2, hr, hD2, t2, q2, u2⟩ := hD.reopen hf
    refine (sOpen_log bd d p S w hP hD.ok (by omega) hD.alive ht0 (by omega) hp0 hp2 hD.ours f (by rw [hf]; exact getF_one f) m hrep (by rw [hr]) (by rw [hr]; exact hD2.alive)).mono ?_
    rintro e w' ⟨bs, rfl, hS, k⟩
    rw [hr] at hS
    exact ⟨bs, d2, rfl, hS, k, hD2, t2, q2, u2⟩

theorem shop_new {w w1 : World} {S : Nat → Prop} {bx bd bs : Nat} {d : Dk} {st : St} (h1 : w.heap[bx]? = some (.cells #[.pointer (some ⟨bd, 0, none⟩)] 91)) (h2 : S bx) (hS : Sys w1 (Nw (fun k => S k ∧ k ≠ bx) w) bd bs d st) (k : Kp (fun k => S k ∧ k ≠ bx) w w1) :
    Shop (w1.alloc (.cells #[.pointer (some ⟨bs, 0, none⟩)] 93)) (Nw S w) bx w1.heap.size d st ∧ Kp S w (w1.alloc (.cells #[.pointer (some ⟨bs, 0, none⟩)] 93)) := by
  have hlt := lt_of_block h1
  have hs := k.size
  have hb : Below w1.heap.size w1 (w1.alloc (.cells #[.pointer (some ⟨bs, 0, none⟩)] 93)) := (Below.refl _ _).alloc (Nat.le_refl _) _
  refine ⟨⟨bd, bs, block_alloc (k.at h1 (fun s => s.2 rfl)), block_new _ _, .inl h2, .inr hs, (hS.mono (fun i hi s => ?_)).below hb⟩, (k.mono (fun _ s => s.1)).alloc _⟩
  rcases s with s | s
  · exact ⟨.inl s.1, s.2, by omega⟩
  · exact ⟨.inr s, by omega, by omega⟩

set_option maxHeartbeats 1000000 in
theorem xOpen_inv (bx : Nat) (d : Dk) (m : Mp) (p : Int) (S : Nat → Prop) (w : World) (hX : XAt w S bx d) (hD : DInv d m) (ht0 : 0 ≤ d.turn) (ht1 : d.turn ≤ 1000) (hp0 : 0 ≤ p) (hp2 : p ≤ 2) :
    Calls Tryz.prog 21 #[.pointer (some ⟨bx, 0, none⟩), .int .i64 p] w fun e w' => ∃ bz d2, e = .returned (.tuple #[.pointer (some ⟨bz, 0, none⟩), .int .i64 0]) ∧ Shop w' (Nw S w) bx bz d2 ⟨d.turn + 1, m, false, false⟩ ∧ Kp S w w' ∧ DInv d2 m ∧ d2.turn = d.turn + 1 ∧ d2.quota = d.quota ∧ used d2.files = used d.files := by
  obtain ⟨bd, h1, h2, hP⟩ := hX
  have hO := sOpen_inv bd d m p _ w hP hD ht0 ht1 hp0 hp2
  obtain ⟨c0, z0⟩ := cells1 h1
  go_enter Tryz.func21, Tryz.ntmps21
  go_wp2_with (go_at_call 42; refine hO.mono ?_; rintro e w1 ⟨bs, d2, rfl, hS, k, hr⟩; clear hO)
  go_ret2
  obtain ⟨a, b⟩ := shop_new h1 h2 hS k
  exact ⟨_, d2, rfl, a, b, hr⟩

set_option maxHeartbeats 1000000 in
theorem xBatch_any (bx bz : Nat) (d : Dk) (st : St) (U : Nat → Prop) (q : Option Addr) (qc : Nat) (l : List Ox) (w : World) (hS : Shop w U bx bz d st) (hok : d.Ok) (hfl : d.files.length ≤ 4194302) (hml : st.m.length ≤ 4194300) (hl : l.length ≤ 1099511627776) (hk : OxLen l) (hp : Opp w q l) (hq : ∀ a, q = some a → 0 < l.length → ¬ U a.block) :
    Calls Tryz.prog 30 #[.pointer (some ⟨bz, 0, none⟩), .slice q l.length qc] w fun e w' => e = .returned (.int .i64 (batchX d st l).1) ∧ Shop w' (Nw U w) bx bz (batchX d st l).2.1 (batchX d st l).2.2 ∧ Kp U w w' := by
  obtain ⟨bd, bs, h1, h2, h3, h4, h5⟩ := hS.ex
  have hin := sinner_any h2
  have hB := sBatch_any bd bs d st _ q qc l w h5 hok hfl hml hl hk hp (fun a ha h0 s => hq a ha h0 s.1)
  generalize batchX d st l = X at *
  go_enter Tryz.func30, Tryz.ntmps30
  go_wp2_with (first
    | (go_at_call 32; refine hin.mono ?_; rintro e w' ⟨rfl, rfl⟩; clear hin)
    | (go_at_call 67; refine hB.mono ?_; rintro e w1 ⟨rfl, hS1, k1⟩; clear hB))
  go_ret
  have hlx := lt_of_block h1
  have hlz := lt_of_block h2
  refine ⟨rfl, ⟨bd, bs, k1.at h1 (fun s => s.2.1 rfl), k1.at h2 (fun s => s.2.2 rfl), .inl h3, .inl h4, hS1.mono (fun k _ s => ?_)⟩, k1.mono (fun _ s => s.1)⟩
  rcases s with s | s
  · exact ⟨.inl s.1, s.2⟩
  · exact ⟨.inr s, by omega, by omega⟩

/-- A row of pairs that is there, none of whose blocks is of a set. -/
def PRowS (w : World) (V : Nat → Prop) (v : Value) (l : List (Nm × Nm)) : Prop := ∃ q c, v = .slice q l.length c ∧ Pairp w q l ∧ ∀ a, q = some a → 0 < l.length → ¬ V a.block
theorem PRowS.below {w w' : World} {V : Nat → Prop} {v : Value} {l : List (Nm × Nm)} (h : PRowS w V v l) (hb : Below w.heap.size w w') : PRowS w' V v l := by
  obtain ⟨q, c, e, hp, hn⟩ := h
  exact ⟨q, c, e, hp.below hb, hn⟩
theorem PRowS.kept {w w' : World} {V : Nat → Prop} {v : Value} {l : List (Nm × Nm)} (h : PRowS w V v l) (k : Kp V w w') : PRowS w' V v l := by
  obtain ⟨q, c, e, hp, hn⟩ := h
  refine ⟨q, c, e, fun i hi => ?_, hn⟩
  obtain ⟨g, off, rfl, c0, c1⟩ := hp i hi
  have hgl := World.block_lt_of_cell? w ⟨g, off + i * 2, none⟩ c0
  have hbk := k.block g hgl (hn _ rfl (by omega))
  exact ⟨g, off, rfl, by simp only [World.cell?, hbk] at c0 ⊢; exact c0, by simp only [World.cell?, hbk] at c1 ⊢; exact c1⟩
theorem Pairp.lt {w : World} {l : List (Nm × Nm)} {q : Option Addr} (hp : Pairp w q l) : ∀ a, q = some a → 0 < l.length → a.block < w.heap.size := fun a ha h0 => by
  obtain ⟨g, off, e, c0, _⟩ := hp 0 h0
  rw [ha] at e
  cases e
  exact World.block_lt_of_cell? w _ c0
theorem PRowS.mono {w : World} {V V' : Nat → Prop} {v : Value} {l : List (Nm × Nm)} (h : PRowS w V v l) (hV : ∀ k, k < w.heap.size → V' k → V k) : PRowS w V' v l := by
  obtain ⟨q, c, e, hp, hn⟩ := h
  exact ⟨q, c, e, hp, fun a ha h0 s => hn a ha h0 (hV _ (Pairp.lt hp a ha h0) s)⟩
theorem PRowS.nil (w : World) (V : Nat → Prop) (c : Nat) : PRowS w V (.slice none 0 c) [] := ⟨none, c, rfl, fun i hi => absurd hi (Nat.not_lt_zero _), fun a ha => by cases ha⟩

set_option maxHeartbeats 2000000 in
set_option maxRecDepth 20000 in
theorem behind_row (V : Nat → Prop) (v0 : Value) (l : List (Nm × Nm)) (qo : Option Addr) (oc : Nat) (ops : List Ox) (w : World) (hV : ∀ k, V k → k < w.heap.size) (hv : PRowS w V v0 l) (hr : rising l) (ho : Opp w qo ops) (hl : l.length + ops.length ≤ 4190000) :
    Calls Tryz.prog 31 #[v0, .slice qo ops.length oc] w fun e w' => ∃ v, e = .returned v ∧ Below w.heap.size w w' ∧ PRowS w' V v (doAll l ops) := by
  go_enter Tryz.func31, Tryz.ntmps31
  go_wp2
  go_loopw [0, 5] (fun v i wr => ∃ k : Nat, k ≤ ops.length ∧ i = .int .i64 k ∧ PRowS wr V v (doAll l (ops.take k)) ∧ Below w.heap.size w wr) (fun _ i _ => ops.length - (intOf i).toNat)
  case atStart => exact ⟨0, Nat.zero_le _, rfl, hv, Below.refl _ _⟩
  case round =>
    obtain ⟨k, hk, rfl, hrow, hB⟩ := hrel
    have hs := hB.size
    by_cases hlt : k < ops.length
    · obtain ⟨g, off, rfl, c0, c1, c2⟩ := (ho.below hB) k hlt
      obtain ⟨q, c, rfl, hp, _⟩ := hrow
      have hml := doAll_len l (ops.take k)
      rw [List.length_take] at hml
      have HS : Hid (doAll l (ops.take (k + 1)) = kdoneL (doAll l (ops.take k)) ops[k]) := by show _ = _; rw [doAll_snoc l hlt, kdoneL_doOp _ (rising_doAll _ hr)]
      generalize doAll l (ops.take k) = M at *
      go_wp2_with (go_at_call 68; refine (kdone_any q c M ops[k] _ hp (by omega)).mono ?_; rintro e w1 ⟨v, rfl, hb, hown⟩)
      go_roundw
      case rel =>
        refine ⟨k + 1, by omega, by go_num, ?_, hB.trans (hb.mono hs)⟩
        rw [HS.out]
        obtain ⟨q', c', e', hp', hn'⟩ := hown.pairp
        exact ⟨q', c', e', hp', fun a ha _ s => by have := (hn' a ha).1; have := hV _ s; omega⟩
      case measure => simp [intOf]; omega
    · rw [List.take_of_length_le (by omega)] at hrow
      go_wp2
      go_ret
      exact ⟨_, rfl, hB, hrow⟩

theorem range_all (m : Mp) : rangeM [] [] m = m := by
  refine List.filter_eq_self.2 (fun x _ => ?_)
  unfold okB
  have : bytesBefore x.1 [] = false := by cases x.1 <;> rfl
  rw [this]; rfl

set_option maxHeartbeats 1000000 in
theorem holds_any (bx bz : Nat) (d : Dk) (st : St) (U V : Nat → Prop) (v : Value) (w : World) (hS : Shop w U bx bz d st) (hm : MOk st.m) (hl : st.m.length ≤ 4194304) (hr : ready d.turn d.dead st = 0) (hv : PRowS w V v st.m) :
    Calls Tryz.prog 41 #[.pointer (some ⟨bz, 0, none⟩), v] w fun e w' => e = .returned (.bool true) ∧ Below w.heap.size w w' := by
  obtain ⟨bd, bs, h1, h2, h3, h4, h5⟩ := hS.ex
  obtain ⟨S, T, bm, u1, u2, u3, hP, hT⟩ := h5.ex
  obtain ⟨dm, dr, df, hd, hsd⟩ := hP.raw
  have hkl : ∀ x ∈ st.m, x.1.length ≤ 1099511627776 ∧ x.2.length ≤ 1099511627776 := fun x hx => by
    have a := hm.key x hx
    have b := hm.val x hx
    simp only [keyOk, Bool.and_eq_true, decide_eq_true_eq] at a
    omega
  have hsc := xScan_ok h2 hT hd hr [] [] 1099511627776 (by omega) (by omega) hm.rise hkl hl
  rw [range_all, List.take_of_length_le (by show _ ≤ 1099511627776; omega)] at hsc
  obtain ⟨q, c, rfl, hp, _⟩ := hv
  clear hS hP hT hd hsd h1 h2 h5 hm hkl
  generalize st.m = M at *
  go_enter Tryz.func41, Tryz.ntmps41
  go_wp2_with (first
    | (go_at_call 40; refine hsc.mono ?_; rintro e w1 ⟨v1, rfl, hb1, ho1⟩; clear hsc; obtain ⟨q1, c1, rfl, hp1, _⟩ := ho1.pairp)
    | (go_at_call 20; refine (ksame_any q1 q c1 c M M _ hp1 (hp.below hb1) hl hl).mono ?_; rintro e w2 ⟨he, n, rfl⟩; rw [decide_eq_true rfl] at he; subst he))
  go_ret
  exact ⟨rfl, ((Kp.of_below (S := fun _ => False) hb1).drewN n).below⟩

end Go.Proofs.YtfghgmojnffgnaaGreat
