/- A disk with the log of some batches, and a store on it: plain mathematics. -/
import Derived.Test.YtfghgmojnffgnaaCodeY
import Derived.Test.YtfghgmojnffgnaaKeepD
namespace Go.Proofs.Ytfghgmojnffgnaa
open Go.RowKit Go.Maps Go.Sort

/-- The files are those of a store with this map; no fuse burns. -/
structure DInv (d : Dk) (m : Mp) : Prop where
  ok : d.Ok
  alive : d.dead = false
  left : d.left = -1
  log : (d.files = [] ∧ m = []) ∨ ∃ bs f, d.files = [(logN, f)] ∧ f.bytes = logOf bs ∧ (∀ b ∈ bs, batchOk b = true) ∧ m = doAll [] bs.flatten

theorem flatten_ok {bs : List (List Ox)} (h : ∀ b ∈ bs, batchOk b = true) : ∀ o ∈ bs.flatten, opOk o = true := by
  intro o ho
  obtain ⟨b, hb, hob⟩ := List.mem_flatten.1 ho
  exact (batchOk_iff.1 (h b hb)).2 o hob
theorem log_len : ∀ {bs : List (List Ox)}, (∀ b ∈ bs, batchOk b = true) → 2 * bs.flatten.length ≤ (logOf bs).length
  | [], _ => by simp
  | b :: bs, h => by
    have h1 := log_len (bs := bs) (fun x hx => h x (List.mem_cons_of_mem _ hx))
    have h2 := (encBody_len b (batchOk_iff.1 (h b (by simp))).2).1
    rw [logOf_cons, List.flatten_cons, List.length_append, List.length_append, encode_len]
    omega
theorem used_one (n : Nm) (f : Fl) : used [(n, f)] = f.bytes.length := by simp [used]
theorem DInv.mok {d : Dk} {m : Mp} (h : DInv d m) : MOk m := by
  rcases h.log with ⟨_, rfl⟩ | ⟨bs, f, _, _, hb, rfl⟩
  · exact MOk.nil
  · exact MOk.nil.doAll (flatten_ok hb)
theorem DInv.len {d : Dk} {m : Mp} (h : DInv d m) : m.length ≤ 524288 := by
  rcases h.log with ⟨_, rfl⟩ | ⟨bs, f, hf, hfb, hb, rfl⟩
  · simp
  · have h1 := doAll_len [] bs.flatten
    have h2 := log_len hb
    have h3 := h.ok.used
    have h4 := h.ok.quota
    rw [hf, used_one, hfb] at h3
    simp only [List.length_nil] at h1
    omega
theorem DInv.files {d : Dk} {m : Mp} (h : DInv d m) : d.files.length ≤ 1 := by
  rcases h.log with ⟨e, _⟩ | ⟨_, _, e, _⟩ <;> rw [e] <;> simp
theorem DInv.ours {d : Dk} {m : Mp} (h : DInv d m) : (nmsOf d.files).all oursB = true := by
  rcases h.log with ⟨e, _⟩ | ⟨_, _, e, _⟩ <;> rw [e] <;> rfl
theorem DInv.new (q : Int) (h1 : q ≤ 1048576) : DInv (newDk q) [] :=
  ⟨⟨(by simp only [newDk]; omega), (by simp [newDk, used]), (by simp [newDk]), (by simp [newDk]), (fun _ h => by cases h), List.Pairwise.nil, (fun _ h => by cases h)⟩, rfl, rfl, .inl ⟨rfl, rfl⟩⟩
theorem rising_one {α : Type} (x : Nm × α) : rising [x] := List.pairwise_singleton _ _
theorem logName : nameOk logN = true := by decide

/-- The disk behind the Write of a log's record. -/
def grew (d : Dk) (f : Fl) : Dk := { d with files := [(logN, f)] }
theorem getF_one (f : Fl) : getF logN [(logN, f)] = some f := by simp [getF]
theorem DInv.grew {d : Dk} {m m' : Mp} (h : DInv d m) {f : Fl} (hs : f.safe ≤ f.bytes.length) (hq : f.bytes.length ≤ d.quota) {bs : List (List Ox)} (e : f.bytes = logOf bs) (hb : ∀ b ∈ bs, batchOk b = true) (hm : m' = doAll [] bs.flatten) : DInv (grew d f) m' :=
  ⟨⟨h.ok.quota, (by show used [(logN, f)] ≤ _; rw [used_one]; exact hq), h.ok.left0, h.ok.left1, (by intro x hx; obtain rfl := List.mem_singleton.1 hx; exact hs), rising_one _, (by intro x hx; obtain rfl := List.mem_singleton.1 hx; show logN.length ≤ 20; decide)⟩, h.alive, h.left, .inr ⟨bs, f, rfl, e, hb, hm⟩⟩
theorem DInv.write {d : Dk} {m : Mp} (h : DInv d m) {l : List Ox} (hl : batchOk l = true) (hr : used d.files + (encode l).length ≤ d.quota) :
    ∃ f, d.write logN (encode l) = (0, Go.Proofs.Ytfghgmojnffgnaa.grew d f) ∧ DInv (Go.Proofs.Ytfghgmojnffgnaa.grew d f) (doAll m l) ∧ f.bytes.length = used d.files + (encode l).length := by
  rcases h.log with ⟨hf, rfl⟩ | ⟨bs, f, hf, hfb, hbs, rfl⟩
  · have hu : used d.files = 0 := by rw [hf]; rfl
    refine ⟨⟨encode l, 0⟩, ?_, h.grew (Nat.zero_le _) (by rw [hu] at hr; simpa using hr) (bs := [l]) (logOf_one l).symm (by simpa using hl) (by simp), by rw [hu]; simp⟩
    unfold Dk.write
    rw [if_neg (by simp [h.alive]), if_neg (by simp [logName]), if_neg (by omega), if_neg (by simp [h.left]), hf]
    simp only [Dk.burn, Go.Proofs.Ytfghgmojnffgnaa.grew, h.left, h.alive]
    rfl
  · have hu : used d.files = f.bytes.length := by rw [hf, used_one]
    refine ⟨addB (encode l) f, ?_, h.grew ?_ ?_ (bs := bs ++ [l]) ?_ ?_ ?_, ?_⟩
    · unfold Dk.write
      rw [if_neg (by simp [h.alive]), if_neg (by simp [logName]), if_neg (by omega), if_neg (by simp [h.left]), hf, getF_one]
      simp only [Dk.burn, Go.Proofs.Ytfghgmojnffgnaa.grew, h.left, h.alive]
      rfl
    · have := h.ok.safe (logN, f) (by rw [hf]; simp)
      simp only [addB, List.length_append] at *
      omega
    · simp only [addB, List.length_append]; omega
    · simp only [addB]; rw [hfb, logOf_append, logOf_one]
    · intro b hb
      rcases List.mem_append.1 hb with hb | hb
      · exact hbs b hb
      · obtain rfl := List.mem_singleton.1 hb; exact hl
    · rw [List.flatten_append, doAll_append]; simp
    · rw [hu]; simp [addB]
theorem DInv.full {d : Dk} {m : Mp} (h : DInv d m) {l : List Ox} (hr : d.quota < used d.files + (encode l).length) : d.write logN (encode l) = (3, d) := by
  unfold Dk.write
  rw [if_neg (by simp [h.alive]), if_neg (by simp [logName]), if_pos hr]

theorem writable_open {d : Dk} {st : St} (ha : d.dead = false) (ht : st.turn = d.turn) (hs : st.stuck = false) : writable d.turn d.dead st = 0 := by simp [writable, ready, ha, ht, hs]
theorem ready_open {d : Dk} {st : St} (ha : d.dead = false) (ht : st.turn = d.turn) : ready d.turn d.dead st = 0 := by simp [ready, ha, ht]
theorem batchX_done {d : Dk} {st : St} (h : DInv d st.m) (ht : st.turn = d.turn) (hs : st.stuck = false) {l : List Ox} (hl : batchOk l = true) (hr : used d.files + (encode l).length ≤ d.quota) :
    ∃ f, batchX d st l = (0, grew d f, { st with loose := true, m := doAll st.m l }) ∧ DInv (grew d f) (doAll st.m l) ∧ f.bytes.length = used d.files + (encode l).length := by
  obtain ⟨f, h1, h2, h3⟩ := h.write hl hr
  refine ⟨f, ?_, h2, h3⟩
  unfold batchX
  rw [writable_open h.alive ht hs, h1]
  simp [hl]
theorem batchX_full {d : Dk} {st : St} (h : DInv d st.m) (ht : st.turn = d.turn) (hs : st.stuck = false) {l : List Ox} (hl : batchOk l = true) (hr : d.quota < used d.files + (encode l).length) :
    batchX d st l = (3, d, { st with stuck := true }) := by
  unfold batchX
  rw [writable_open h.alive ht hs, h.full hr]
  simp [hl]
theorem batchX_stuck {d : Dk} {st : St} (ha : d.dead = false) (ht : st.turn = d.turn) (hs : st.stuck = true) (l : List Ox) : batchX d st l = (7, d, st) := by
  simp [batchX, writable, ready, ha, ht, hs]

theorem rep_log {bs : List (List Ox)} (hb : ∀ b ∈ bs, batchOk b = true) : rep (logOf bs) [] = some (doAll [] bs.flatten, (logOf bs).length) := by
  have := replay_log bs [] [] (logOf bs).length hb (.inl rfl) (by simp)
  rw [List.append_nil] at this
  exact this
theorem syncX_loose {d d2 : Dk} {st : St} (ha : d.dead = false) (ht : st.turn = d.turn) (hs : st.stuck = false) (hl : st.loose = true) (h : d.sync logN = (0, d2)) : syncX d st = (0, d2, { st with loose := false }) := by
  unfold syncX
  rw [writable_open ha ht hs, h]
  simp [hl]
theorem syncX_tight {d : Dk} {st : St} (ha : d.dead = false) (ht : st.turn = d.turn) (hs : st.stuck = false) (hl : st.loose = false) : syncX d st = (0, d, st) := by
  unfold syncX
  rw [writable_open ha ht hs]
  simp [hl]
theorem secureX_ok {d : Dk} {st : St} {n0 n : Nat} (h : d.safe logN = (n0, 0)) : secureX d st n = syncX d { st with loose := decide (n0 < n) } := by
  unfold secureX
  rw [h]
  simp
/-- Behind an Open that finds a whole log. -/
theorem DInv.reopen {d : Dk} {m : Mp} (h : DInv d m) {f : Fl} (hf : d.files = [(logN, f)]) :
    rep f.bytes [] = some (m, f.bytes.length) ∧ ∃ d2, reopened d m f = (0, d2, ⟨d.turn + 1, m, false, false⟩) ∧ DInv d2 m ∧ d2.turn = d.turn + 1 ∧ d2.quota = d.quota ∧ used d2.files = used d.files := by
  rcases h.log with ⟨e, _⟩ | ⟨bs, g, hg, hfb, hbs, rfl⟩
  · rw [hf] at e; cases e
  obtain rfl : g = f := by rw [hf] at hg; simpa using hg.symm
  refine ⟨by rw [hfb]; exact rep_log hbs, ?_⟩
  have hsf := h.ok.safe (logN, g) (by rw [hf]; simp)
  have hus := h.ok.used
  rw [hf, used_one] at hus
  have hsafe : ({ d with turn := d.turn + 1 } : Dk).safe logN = (g.safe, 0) := by simp [Dk.safe, h.alive, hf, getF]
  have hD : DInv { d with turn := d.turn + 1 } (doAll [] bs.flatten) := ⟨⟨h.ok.quota, h.ok.used, h.ok.left0, h.ok.left1, h.ok.safe, h.ok.rise, h.ok.name⟩, h.alive, h.left, h.log⟩
  unfold reopened
  rw [secureX_ok hsafe]
  by_cases hlt : g.safe < g.bytes.length
  · refine ⟨Go.Proofs.Ytfghgmojnffgnaa.grew { d with turn := d.turn + 1 } (allSafe g), ?_, hD.grew (f := allSafe g) (Nat.le_refl _) hus hfb hbs rfl, rfl, rfl, ?_⟩
    · refine (syncX_loose (d := { d with turn := d.turn + 1 }) (st := ⟨d.turn + 1, doAll [] bs.flatten, decide (g.safe < g.bytes.length), false⟩) (d2 := Go.Proofs.Ytfghgmojnffgnaa.grew { d with turn := d.turn + 1 } (allSafe g)) h.alive rfl rfl (by simpa using hlt) ?_).trans rfl
      unfold Dk.sync
      rw [if_neg (by simp [h.alive]), hf, getF_one, if_neg (by simp), if_neg (by simp [h.left])]
      simp only [Dk.burn, Go.Proofs.Ytfghgmojnffgnaa.grew, h.left, h.alive]
      rfl
    · show used [(logN, allSafe g)] = _
      rw [hf, used_one, used_one]; rfl
  · refine ⟨{ d with turn := d.turn + 1 }, ?_, hD, rfl, rfl, rfl⟩
    refine (syncX_tight (d := { d with turn := d.turn + 1 }) (st := ⟨d.turn + 1, doAll [] bs.flatten, decide (g.safe < g.bytes.length), false⟩) h.alive rfl rfl (by simpa using hlt)).trans ?_
    simp [hlt]

end Go.Proofs.Ytfghgmojnffgnaa
