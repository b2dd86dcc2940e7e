import Derived.Test.YtoabedkcieindaaGreatDoorHkBA
import Derived.Test.YtoabedkcieindaaGreatDoorHkAX
namespace Go.Proofs.YtoabedkcieindaaGreatDoor
variable {Q : Sq}
theorem replT_mem {ts : List Tb} {f t : Nat} {b x : Tb} (hx : x ∈ replT ts f t b) : x ∈ ts ∨ (x = b ∧ b.es ≠ []) := by
  unfold replT at hx
  rcases List.mem_append.1 hx with hx | hx
  · exact .inl (List.mem_of_mem_take hx)
  · rcases List.mem_append.1 hx with hx | hx
    · split at hx
      · cases hx
      · rename_i he
        rw [List.mem_singleton] at hx
        exact .inr ⟨hx, fun e => he (by simp [e])⟩
    · exact .inl (List.mem_of_mem_drop hx)
theorem stepT_mem {p : Int} {bs : List Int} {ts : List Tb} {x : Tb} {e : En} (hx : x ∈ stepT p bs ts) (he : e ∈ x.es) : ∃ y ∈ ts, e ∈ y.es := by
  unfold stepT at hx
  simp only at hx
  rcases replT_mem hx with hx | ⟨rfl, _⟩
  · exact ⟨x, hx, he⟩
  · exact mergeT_mem he
theorem shapedX_mem {p : Int} {bs : List Int} : ∀ (n : Nat) {ts : List Tb}, ts.length ≤ n → ∀ {x : Tb} {e : En}, x ∈ shapedX p bs ts → e ∈ x.es → ∃ y ∈ ts, e ∈ y.es := by
  intro n
  induction n with
  | zero =>
    intro ts hn x e hx he
    obtain rfl : ts = [] := by cases ts with | nil => rfl | cons a r => simp at hn
    cases hx
  | succ n ih =>
    intro ts hn x e hx he
    by_cases hc : (crowd p (ts.map (·.level))).2 = 0
    · rw [shapedX_end hc] at hx
      exact ⟨x, hx, he⟩
    · have hl := stepT_len (bs := bs) hc
      rw [shapedX_step hc] at hx
      obtain ⟨y, hy, hye⟩ := ih (by omega) hx he
      exact stepT_mem hy hye
theorem shapedX_len {p : Int} {bs : List Int} : ∀ (n : Nat) {ts : List Tb}, ts.length ≤ n → (shapedX p bs ts).length ≤ ts.length := by
  intro n
  induction n with
  | zero =>
    intro ts hn
    obtain rfl : ts = [] := by cases ts with | nil => rfl | cons a r => simp at hn
    exact Nat.le_refl _
  | succ n ih =>
    intro ts hn
    by_cases hc : (crowd p (ts.map (·.level))).2 = 0
    · rw [shapedX_end hc]; exact Nat.le_refl _
    · have hl := stepT_len (bs := bs) hc
      rw [shapedX_step hc]
      have := ih (ts := stepT p bs ts) (by omega)
      omega
theorem Lsu.stp0 {d : Dk} {s : Ls} {M : Mp} {n c : Nat} (h : Lsu d s M n c Q) : Stp s.tabs s.batch (s.tabs.length + 1) (n - mz s.mem) (n - (flatM s.mem).length) s.tabs :=
  ⟨h.srt, h.tok, h.ne, h.lv, List.filter_sublist, by omega, fun x hx => by have := h.lev x hx; omega, by have := h.ents; omega⟩
theorem Lsu.lay {s : Ls} : s.layers.flatten = flatM s.mem ++ (newF s.tabs).flatten := by simp [Ls.layers]
theorem Lsu.shape {d : Dk} {s : Ls} {M : Mp} {n c : Nat} (h : Lsu d s M n c Q) : Cmt s M n (shapedX s.policy s.kept s.tabs) s.log := by
  obtain ⟨a, b, e⟩ := h.stp0.shaped (p := s.policy) (bs := s.kept) _ (Nat.le_refl _)
  have hl := shapedX_len (p := s.policy) (bs := s.kept) _ (Nat.le_refl s.tabs.length)
  have hf := h.few
  have he := h.ents
  refine ⟨.inl rfl, ⟨_, _, a, by rw [if_pos rfl]; omega, by rw [if_pos rfl]; omega⟩, by rw [if_pos rfl]; omega, by rw [if_pos rfl]; exact h.log, fun x hx e he => ?_, fun k => ?_, fun b hb k => ?_⟩
  · obtain ⟨y, hy, hye⟩ := shapedX_mem _ (Nat.le_refl _) hx he
    exact h.tbar y hy e hye
  · rw [if_pos rfl, ← h.view k, Lsu.lay]
    exact view_pre _ (e k)
  · rw [if_pos rfl, Lsu.lay]
    exact view_pre _ (h.stp0.shapedB hb _ (Nat.le_refl _) k)
theorem Lsu.stpF {d : Dk} {s : Ls} {M : Mp} {n c : Nat} (h : Lsu d s M n c Q) (hm : s.mem ≠ []) :
    Stp s.tabs s.batch (s.tabs.length + 1) n n (tabF0 s) ∧ (∀ k, viewE s.batch (newF (tabF0 s)).flatten k = getF k M) ∧ (∀ x ∈ tabF0 s, ∀ e ∈ x.es, bareE e) ∧ ∀ b ∈ s.kept, ∀ k, viewE b (newF (tabF0 s)).flatten k = viewE b s.layers.flatten k := by
  have hmz := mz_one hm
  have hsl : ∀ l ∈ [flatM s.mem], Go.Proofs.YtoabedkcieindaaGreatDoor.srt l := by intro l hl; rw [List.mem_singleton] at hl; subst hl; exact srt_flat h.mok
  have hms := mergeL_srt hsl
  have hes : Go.Proofs.YtoabedkcieindaaGreatDoor.srt (esF s) := (needF_is _ _ _ _ (Nat.le_refl _) hms).1
  have hem : ∀ e ∈ esF s, e ∈ flatM s.mem := fun e he => by
    have := mergeL_mem hsl e ((needF_is _ _ _ _ (Nat.le_refl _) hms).2.2 e he)
    simpa using this
  have hel : (esF s).length ≤ (flatM s.mem).length := by
    refine Nat.le_trans (needL_len _ _ _) (Nat.le_trans (mergeF_len _ _) ?_)
    simp
  have hf1 := h.few
  have hf2 := h.ents
  have each : ∀ x ∈ tabF0 s, x ∈ s.tabs ∨ (x = ⟨0, 0, esF s⟩ ∧ esF s ≠ []) := fun x hx => by
    rw [tabF0_is] at hx
    rcases List.mem_append.1 hx with hx | hx
    · exact .inl hx
    · split at hx
      · cases hx
      · rename_i hn
        rw [List.mem_singleton] at hx
        exact .inr ⟨hx, fun e => hn (by simp [e])⟩
  have hlen : (tabF0 s).length ≤ s.tabs.length + 1 := by rw [tabF0_is]; split <;> simp
  have hvG : ∀ b, (b ∈ s.kept ∨ ∀ e ∈ mergeL [flatM s.mem], e.batch ≤ b) → ∀ k, viewE b (newF (tabF0 s)).flatten k = viewE b s.layers.flatten k := fun b hb k => by
    have e1 : (newF (tabF0 s)).flatten = esF s ++ (newF s.tabs).flatten := by
      rw [tabF0_is, newF_app, List.flatten_append, newF_opt ⟨0, 0, esF s⟩]
    rw [e1, Lsu.lay]
    unfold esF
    rw [view_need hms hb (fun hl => ?_) k, view_merge hsl]
    · simp
    · have : s.tabs = [] := by simpa using hl
      rw [this]; rfl
  refine ⟨⟨fun x hx => ?_, fun x hx => ?_, fun x hx => ?_, ?_, ?_, hlen, fun x hx => ?_, ?_⟩, fun k => ?_, fun x hx => ?_, fun b hb k => ?_⟩
  · rcases each x hx with hx | ⟨rfl, _⟩
    · exact h.srt x hx
    · exact hes
  · rcases each x hx with hx | ⟨rfl, _⟩
    · exact h.tok x hx
    · exact fun e he => h.mop e (hem e he)
  · rcases each x hx with hx | ⟨rfl, hn⟩
    · exact h.ne x hx
    · exact hn
  · rw [tabF0_is, List.map_append]
    unfold nonR
    rw [List.pairwise_append]
    refine ⟨h.lv, by split <;> simp, fun a _ b hb => ?_⟩
    split at hb
    · cases hb
    · simp at hb; omega
  · rw [tabF0_is, List.filter_append]
    have : (if (esF s).isEmpty then [] else [(⟨0, 0, esF s⟩ : Tb)]).filter (fun t => decide (0 < t.number)) = [] := by split <;> simp
    rw [this, List.append_nil]
    exact List.filter_sublist
  · rcases each x hx with hx | ⟨rfl, _⟩
    · have := h.lev x hx; omega
    · simp only; omega
  · rw [tabF0_is, entsT_app]
    have : entsT (if (esF s).isEmpty then [] else [⟨0, 0, esF s⟩]) ≤ (esF s).length := by split <;> simp [entsT]
    omega
  · exact (hvG s.batch (.inr fun e he => (h.mop e (by simpa using mergeL_mem hsl e he)).2) k).trans (h.view k)
  · rcases each x hx with hx | ⟨rfl, _⟩
    · exact h.tbar x hx
    · exact fun e he => h.mbar e (hem e he)
  · exact hvG b (.inl hb) k
theorem Lsu.flushC {d : Dk} {s : Ls} {M : Mp} {n c : Nat} (h : Lsu d s M n c Q) (hm : s.mem ≠ []) : Cmt s M n (shapedX s.policy s.kept (tabF0 s)) (s.log + 1) := by
  obtain ⟨hs, hv, hb, hsv⟩ := h.stpF hm
  obtain ⟨a, b, e⟩ := hs.shaped (p := s.policy) (bs := s.kept) _ (Nat.le_refl _)
  have hl := shapedX_len (p := s.policy) (bs := s.kept) _ (Nat.le_refl (tabF0 s).length)
  have hl2 := hs.len
  have hf := h.few
  have hlg := h.log
  rw [mz_one hm] at hf hlg
  have hne : ¬ (s.log + 1 = s.log) := by omega
  refine ⟨.inr rfl, ⟨_, _, a, by rw [if_neg hne]; omega, by rw [if_neg hne]; omega⟩, by rw [if_neg hne]; omega, by rw [if_neg hne]; omega, fun x hx e he => ?_, fun k => ?_, fun b hb k => ?_⟩
  · obtain ⟨y, hy, hye⟩ := shapedX_mem _ (Nat.le_refl _) hx he
    exact hb y hy e hye
  · rw [if_neg hne, List.nil_append]
    exact (e k).trans (hv k)
  · rw [if_neg hne, List.nil_append]
    exact (hs.shapedB hb _ (Nat.le_refl _) k).trans (hsv b hb k)
end Go.Proofs.YtoabedkcieindaaGreatDoor

namespace Go.Proofs.YtoabedkcieindaaGreatDoor
variable {Q : Sq}
theorem Lsu.lsrt {d : Dk} {s : Ls} {M : Mp} {n c : Nat} (h : Lsu d s M n c Q) : ∀ l ∈ s.layers, Go.Proofs.YtoabedkcieindaaGreatDoor.srt l := fun l hl => by
  unfold Ls.layers at hl
  rcases List.mem_cons.1 hl with rfl | hl
  · exact srt_flat h.mok
  · exact newF_srt h.srt l hl
theorem Lsu.lok {d : Dk} {s : Ls} {M : Mp} {n c : Nat} (h : Lsu d s M n c Q) : ∀ e ∈ s.layers.flatten, opOk e.op = true ∧ e.batch ≤ s.batch ∧ bareE e := fun e he => by
  rw [Lsu.lay] at he
  rcases List.mem_append.1 he with he | he
  · exact ⟨(h.mop e he).1, (h.mop e he).2, h.mbar e he⟩
  · obtain ⟨x, hx, hxe⟩ := newF_mem he
    exact ⟨(h.tok x hx e hxe).1, (h.tok x hx e hxe).2, h.tbar x hx e hxe⟩
theorem Lsu.laylen {d : Dk} {s : Ls} {M : Mp} {n c : Nat} (h : Lsu d s M n c Q) : s.layers.flatten.length ≤ n := by
  rw [Lsu.lay, List.length_append, newF_len]
  have := h.ents
  omega
theorem bareE_bare (o : Ox) (n : Int) : bareE ⟨bare o, n⟩ := fun h => by
  unfold bare at h ⊢
  cases hg : o.gone
  · simp [hg] at h
  · simp
theorem Lsu.append {d : Dk} {s : Ls} {M : Mp} {n c : Nat} (h : Lsu d s M n c Q) {l : List Ox} (hb : batchOk l = true) (hn : n + l.length ≤ 110) :
    (d.write (lgN s.log) (encode l)).1 = 0 ∧ Lsu (d.write (lgN s.log) (encode l)).2 (withB s l) (doAll M l) (n + l.length) c Q := by
  obtain ⟨bs, m, hl, hlen, hbs⟩ := h.lin
  obtain ⟨r1, r2⟩ := h.room (by omega)
  obtain ⟨⟨b1, b2⟩, b3⟩ := batchOk_iff.1 hb
  have he := encode_len l
  have hbl := (body_len hb).2
  have hfew := h.few
  have hm3 := hl.dur.says.ok.2.2.1
  simp only [manOf] at hm3
  obtain ⟨w1, w2, w3, w4, _⟩ := Rm.write (d := d) (b := 0) (c := 0) (n := lgN s.log) (t := encode l) ⟨h.ok, h.stl, by rw [h.qu]; omega, h.our, by omega⟩ (lgN_ok _) (.inr (.inr ⟨s.log, by omega, .inl rfl⟩))
  have hL : Lin (d.write (lgN s.log) (encode l)).2 s (bs ++ [l]) m := by
    rcases hl.append hb with ⟨_, x⟩ | ⟨x, _⟩
    · exact x
    · exact absurd w1 x
  have hv0 : ∀ k, viewE (s.batch + 1) (flatM s.mem ++ (newF s.tabs).flatten) k = getF k M := fun k => by
    rw [← h.view k, Lsu.lay]
    refine view_up (fun e he => ?_) (by omega) k
    rcases List.mem_append.1 he with he | he
    · exact (h.mop e he).2
    · obtain ⟨x, hx, hxe⟩ := newF_mem he
      exact (h.tok x hx e hxe).2
  obtain ⟨v1, v2, v3, v4⟩ := view_do (n := s.batch + 1) (last := s.lastSnap) (newF s.tabs).flatten l s.mem M h.mok (fun o ho => opOk_ne (b3 o ho)) h.rise hv0
  have hne : doM (s.batch + 1) s.lastSnap s.mem l ≠ [] := doM_ne (.inl (by intro e; rw [e] at b1; simp at b1))
  have hmz : mz (withB s l).mem = 1 := mz_one hne
  have hfl := flat_doM (s.batch + 1) s.lastSnap l s.mem
  have hents := h.ents
  have hbat := h.bat
  refine ⟨w1, ⟨⟨bs ++ [l], m, ⟨hL.dur, hL.cln, hL.rise⟩, ?_, ?_⟩, w2.ok, w2.stl, w3.trans h.qu, h.turn.trans w4.symm, h.pol, h.sn, h.stk, v1, fun e he => ?_, ⟨?_, ?_⟩, v2, fun k => ?_, h.srt, fun x hx e he => ?_, h.ne, h.lv, ?_, fun x hx => ?_, ?_, ?_, h.next, fun e he => ?_, h.tbar, fun _ => ?_, h.tkn, fun q hq => ?_⟩⟩
  · show s.len + (encode l).length = _
    rw [hlen, logOf_append, logOf_one, List.length_append]
  · simp only [List.flatten_append, List.length_append, List.flatten_cons, List.flatten_nil, List.append_nil]; omega
  · rcases doM_mem he with ⟨o, ho, rfl⟩ | he
    · exact ⟨opOk_bare (b3 o ho), Int.le_refl _⟩
    · have := h.mop e he
      exact ⟨this.1, by show e.batch ≤ s.batch + 1; omega⟩
  · show (0 : Int) ≤ s.batch + 1; omega
  · show s.batch + 1 ≤ ((n + l.length : Nat) : Int); omega
  · rw [← v3 k]
    have e : (withB s l).layers.flatten = flatM (doM (s.batch + 1) s.lastSnap s.mem l) ++ (newF s.tabs).flatten := by simp [Ls.layers, withB]
    rw [e]; rfl
  · have := h.tok x hx e he
    exact ⟨this.1, by show e.batch ≤ s.batch + 1; omega⟩
  · show entsT s.tabs + (flatM (doM (s.batch + 1) s.lastSnap s.mem l)).length ≤ _; omega
  · rw [hmz]
    have := h.lev x hx
    show x.level + s.tabs.length + 1 ≤ _
    omega
  · rw [hmz]; show s.tabs.length + 1 ≤ _; omega
  · rw [hmz]
    have := h.log
    show s.log + 1 ≤ _; omega
  · rcases doM_mem he with ⟨o, ho, rfl⟩ | he
    · exact bareE_bare o _
    · exact h.mbar e he
  · show 0 < s.len + (encode l).length; omega
  · obtain ⟨⟨u0, u1, u2⟩, u3, u4⟩ := h.snk q hq
    refine ⟨⟨u0, by show _ ≤ s.batch + 1; omega, u2⟩, u3, fun k => ?_⟩
    have hlt : s.lastSnap < s.batch + 1 := by
      have := s.lastSnap_le (c := s.batch) (fun b hb => (h.ofK hb).2) (by omega)
      omega
    have e : (withB s l).layers.flatten = flatM (doM (s.batch + 1) s.lastSnap s.mem l) ++ (newF s.tabs).flatten := by simp [Ls.layers, withB]
    rw [e, v4 hlt q.2.1 (s.le_lastSnap (h.inK hq)) k, ← u4 k, Lsu.lay]
theorem Lsu.settle {d : Dk} {s : Ls} {M : Mp} {n c : Nat} (h : Lsu d s M n c Q) (hn : n ≤ 110) (hc : c ≤ 1000000000) : (settleX d s s.tabs s.log).1 = 0 ∧ Lsu (settleX d s s.tabs s.log).2.1 (settleX d s s.tabs s.log).2.2 M n (c + 1) Q := by
  obtain ⟨_, c1, c2, _⟩ := h.commit hn hc h.shape
  unfold settleX
  simp only
  split
  · exact ⟨rfl, h.up (by omega)⟩
  · rw [if_neg (by rw [c1]; simp)]
    exact ⟨c1, c2⟩
theorem Lsu.flush {d : Dk} {s : Ls} {M : Mp} {n c : Nat} (h : Lsu d s M n c Q) (hn : n ≤ 110) (hc : c ≤ 1000000000) : (flushX d s).1 = 0 ∧ Lsu (flushX d s).2.1 (flushX d s).2.2 M n (c + 1) Q := by
  by_cases hm : s.mem = []
  · have e : flushX d s = settleX d s s.tabs s.log := by unfold flushX; rw [if_pos (by simp [hm])]
    rw [e]
    exact h.settle hn hc
  · obtain ⟨_, c1, c2, _⟩ := h.commit hn hc (h.flushC hm)
    have e : flushX d s = commitX d s (shapedX s.policy s.kept (tabF0 s)) (s.log + 1) := by
      unfold flushX
      rw [if_neg (by simpa using hm)]
      simp only
      have e1 : (if (needL s.kept s.tabs.isEmpty (mergeL [flatM s.mem])).isEmpty then s.tabs else s.tabs ++ [⟨0, 0, needL s.kept s.tabs.isEmpty (mergeL [flatM s.mem])⟩]) = tabF0 s := rfl
      rw [e1]
      unfold settleX
      simp only
      rw [if_neg (by omega), if_neg (by rw [c1]; simp)]
    rw [e]
    exact ⟨c1, c2⟩
theorem Lsu.tend {d : Dk} {s : Ls} {M : Mp} {n c : Nat} (h : Lsu d s M n c Q) (hn : n ≤ 110) (hc : c ≤ 1000000000) : (tendX d s).1 = 0 ∧ Lsu (tendX d s).2.1 (tendX d s).2.2 M n (c + 1) Q := by
  unfold tendX
  simp only
  split
  · obtain ⟨a, b⟩ := h.flush hn hc
    rw [if_neg (by rw [a]; simp)]
    exact ⟨a, b⟩
  · obtain ⟨a, b⟩ := h.settle hn hc
    rw [if_neg (by rw [a]; simp)]
    exact ⟨a, b⟩
theorem Lsu.ready {d : Dk} {s : Ls} {M : Mp} {n c : Nat} (h : Lsu d s M n c Q) : s.readyX d = 0 := by
  unfold Ls.readyX
  rw [if_neg (by simp [h.turn]), if_neg (by rw [h.stl.al]; simp)]
theorem Lsu.writ {d : Dk} {s : Ls} {M : Mp} {n c : Nat} (h : Lsu d s M n c Q) : s.writX d = 0 := by
  unfold Ls.writX
  rw [h.ready, h.stk]; simp
end Go.Proofs.YtoabedkcieindaaGreatDoor

namespace Go.Proofs.YtoabedkcieindaaGreatDoor
open Go.RowKit Go.Maps Go.Sort Go.Shelf
variable {Q : Sq}
theorem Lsu.memlen {d : Dk} {s : Ls} {M : Mp} {n c : Nat} (h : Lsu d s M n c Q) : s.mem.length ≤ (flatM s.mem).length := mem_le_flat (fun x hx => (h.mok.2 x hx).2.1)
theorem Lsu.keylen {d : Dk} {s : Ls} {M : Mp} {n c : Nat} (h : Lsu d s M n c Q) : ∀ x ∈ s.mem, x.1.length ≤ 1099511627776 := fun x hx => by
  have hx2 := (h.mok.2 x hx).2
  cases hxe : x.2 with
  | nil => exact absurd hxe hx2.1
  | cons a b =>
    have ha := hx2.2 a (by rw [hxe]; simp)
    have hop := (h.mop a (List.mem_flatMap.2 ⟨x, hx, by rw [hxe]; simp⟩)).1
    have := (opOk_key hop).2
    rw [← ha]
    omega
theorem Cmt.each {d : Dk} {s : Ls} {M : Mp} {n c : Nat} (h : Lsu d s M n c Q) (hn : n ≤ 110) (hc : c ≤ 1000000000) {T : List Tb} {log : Nat} (hC : Cmt s M n T log) :
    (∀ t ∈ T, t.number ≤ 1000000000000 ∧ t.level ≤ 1000000 ∧ LyOk t.es ∧ t.es ≠ [] ∧ t.es.length ≤ 500) ∧ T.length ≤ 111 ∧ log ≤ 111 := by
  obtain ⟨X, Y, a, hX, hY⟩ := hC.stp
  obtain ⟨n1, n2, n3⟩ := h.num
  have hnx := h.next
  have hf := h.few
  have hl := a.len
  have hlg := hC.lg
  refine ⟨fun t ht => ⟨?_, ?_, fun e he => (a.ok t ht e he).1, a.ne t ht, ?_⟩, by omega, by omega⟩
  · by_cases h0 : 0 < t.number
    · have := (n2 t (a.old.subset (List.mem_filter.2 ⟨ht, by simpa using h0⟩))).2
      omega
    · omega
  · have := a.top t ht; omega
  · have h1 := entsT_at ht
    have h2 := a.ents
    omega
set_option maxHeartbeats 400000 in
theorem settle_lsu (T bd bm bsn : Nat) (s : Sl) (l : List Tr) (d : Dk) (st : Ls) (S E : Nat → Prop) (M : Mp) (n c : Nat) (w : World) (h : Lsy w S E T bd bm bsn s l d st) (hl : Lsu d st M n c Q) (hn : n ≤ 110) (hc : c ≤ 1000000000) :
    Calls Tryz.prog 170 #[.pointer (some ⟨T, 0, none⟩), slV s, .int .i64 st.log] w fun e w' => e = .returned (.int .i64 0) ∧ CmPost w w' S E T bd bm bsn (settleX d st st.tabs st.log) ∧ Kp (fun k => S k ∨ k = T ∨ k = bm) w w' := by
  have hL := h.at_
  have hlen : l.length = st.tabs.length := by rw [← hL.is]; simp
  have hfew := hl.few
  have hents := hl.ents
  have hlog := hl.log
  have hnx := hl.next
  obtain ⟨n1, n2, n3⟩ := hl.num
  obtain ⟨r1, r2⟩ := hl.room hn
  obtain ⟨e1, e2, e3⟩ := hl.shape.each hl hn hc
  obtain ⟨hR, c1, _⟩ := hl.commit hn hc hl.shape
  obtain ⟨_, _, _, _, c5, c6⟩ := Rm.commit (s := st) st.log hR (by omega)
  have hin : ∀ x ∈ l, x.1 ∈ st.tabs := fun x hx => by rw [← hL.is]; exact List.mem_map.2 ⟨x, hx, rfl⟩
  have hI : ShI w w s l st.policy st.kept 1000 s l := ⟨hL.tab, hL.es, Below.refl _ _, by omega, by rw [hL.is]; omega, fun x hx e he => (hl.tok _ (hin x hx) e he).1, fun x hx => by have := hl.lev _ (hin x hx); omega, rfl, .inl ⟨rfl, rfl⟩, fun x hx => .inl hx⟩
  have hS := settle_any T bd bm bsn s s l l st d S E st.log 1000 w hL hI (by omega) hl.pol hL.inE h.prog hl.ok (by omega) h.nT h.nm h.nn h.dj (by omega) (by omega) (by omega) (by omega)
    (fun x hx => by have := (n2 _ (hin x hx)).2; omega)
    (fun t ht => by rw [hL.is] at ht; exact e1 t ht)
    (by rw [hL.is]; exact c5) (by rw [hL.is]; exact c6) (by rw [hL.is, c1]; decide)
  rw [hL.is] at hS
  have h0 := (hl.settle hn hc).1
  rw [h0] at hS
  exact hS
set_option maxHeartbeats 400000 in
theorem flush_lsu (T bd bm bsn : Nat) (s : Sl) (l : List Tr) (d : Dk) (st : Ls) (S E : Nat → Prop) (M : Mp) (n c : Nat) (w : World) (h : Lsy w S E T bd bm bsn s l d st) (hl : Lsu d st M n c Q) (hn : n ≤ 110) (hc : c ≤ 1000000000) :
    Calls Tryz.prog 117 #[.pointer (some ⟨T, 0, none⟩)] w fun e w' => e = .returned (.int .i64 0) ∧ CmPost w w' S E T bd bm bsn (flushX d st) ∧ Kp (fun k => S k ∨ k = T ∨ k = bm) w w' := by
  have hL := h.at_
  by_cases hm : st.mem = []
  · have e : flushX d st = settleX d st st.tabs st.log := by unfold flushX; rw [if_pos (by simp [hm])]
    rw [e]
    refine flush_empty T bd bm bsn s l st E w _ hL hm ((settle_lsu T bd bm bsn s l d st S E M n c w.drew (h.below ((Below.refl _ w).drew)) hl hn hc).mono ?_)
    rintro e' w' ⟨rfl, hp, hk⟩
    exact ⟨⟨_, rfl⟩, rfl, hp, (Kp.of_below (S := fun k => S k ∨ k = T ∨ k = bm) ((Below.refl _ w).drew)).trans hk (fun _ _ h => h)⟩
  · have hlen : l.length = st.tabs.length := by rw [← hL.is]; simp
    have hfew := hl.few
    have hents := hl.ents
    have hlog := hl.log
    have hnx := hl.next
    obtain ⟨n1, n2, n3⟩ := hl.num
    obtain ⟨r1, r2⟩ := hl.room hn
    have hin : ∀ x ∈ l, x.1 ∈ st.tabs := fun x hx => by rw [← hL.is]; exact List.mem_map.2 ⟨x, hx, rfl⟩
    have hCm := hl.flushC hm
    obtain ⟨e1, e2, e3⟩ := hCm.each hl hn hc
    obtain ⟨hR, c1, _⟩ := hl.commit hn hc hCm
    obtain ⟨_, _, _, _, c5, c6⟩ := Rm.commit (s := st) (st.log + 1) hR (by omega)
    obtain ⟨hst, _, _, _⟩ := hl.stpF hm
    have het : tabF0 st = l.map (·.1) ++ (if (needL st.kept l.isEmpty (mergeL [flatM st.mem])).isEmpty then [] else [⟨0, 0, needL st.kept l.isEmpty (mergeL [flatM st.mem])⟩]) := by
      have e1 : st.tabs.isEmpty = l.isEmpty := by rw [← hL.is]; simp
      rw [tabF0_is, hL.is]
      unfold esF
      rw [e1]
    have hml := hl.memlen
    have e : flushX d st = settleX d st (tabF0 st) (st.log + 1) := by
      unfold flushX
      rw [if_neg (by simpa using hm)]
      rfl
    have h0 := (hl.flush hn hc).1
    rw [e] at h0 ⊢
    refine flush_some T bd bm bsn s l st E l.isEmpty w _ hL hm hl.mok.1 (by omega) (by omega) (fun x hx => hl.keylen x hx) (by omega) (by omega) rfl ?_
    intro w1 s2 l2 hF2
    have his : l2.map (·.1) = tabF0 st := by rw [hF2.is, het]
    have hll2 : l2.length = (tabF0 st).length := by rw [← his]; simp
    have hin2 : ∀ x ∈ l2, x.1 ∈ tabF0 st := fun x hx => by rw [← his]; exact List.mem_map.2 ⟨x, hx, rfl⟩
    have hl0 := hst.len
    have hI : ShI w1 w1 s2 l2 st.policy st.kept 1000 s2 l2 := ⟨hF2.at_, hF2.es_, Below.refl _ _, by omega, by rw [his]; have := hst.ents; omega, fun x hx e he => (hst.ok _ (hin2 x hx) e he).1, fun x hx => by have := hst.top _ (hin2 x hx); omega, rfl, .inl ⟨rfl, rfl⟩, fun x hx => .inl hx⟩
    have hP0 : ProgAt w (fun k => S k ∧ k < w.heap.size) bd d := h.prog.mono (fun k hk s => ⟨s, hk⟩)
    have hG := hL.grow hF2.bel
    have hSt := settle_any T bd bm bsn s s2 l l2 st d (fun k => S k ∧ k < w.heap.size) _ (st.log + 1) 1000 w1 hG hI (by omega) hl.pol
      (fun x hx a ha => by
        rcases hF2.each x hx with hx | hx
        · exact .inl (hL.inE x hx a ha)
        · exact .inr (hx a ha))
      (progBelow hP0 hF2.bel) hl.ok (by omega) (fun h' => h.nT h'.1) (fun h' => h.nm h'.1) (fun h' => h.nn h'.1) (fun k hk hs => hk.elim (fun hk => h.dj k hk hs.1) (fun hk => by omega)) (by omega) (by omega) (by omega) (by omega)
      (fun x hx => by have := (n2 _ (hin x hx)).2; omega)
      (fun t ht => by rw [his] at ht; exact e1 t ht)
      (by rw [his]; exact c5) (by rw [his]; exact c6) (by rw [his, c1]; decide)
    rw [his] at hSt
    refine hSt.mono ?_
    rintro e' w' ⟨rfl, hp, hk⟩
    exact ⟨⟨_, rfl⟩, by rw [h0], hp.low hF2.bel, hk.low hF2.bel⟩
theorem tend_lsu (T bd bm bsn : Nat) (s : Sl) (l : List Tr) (d : Dk) (st : Ls) (S E : Nat → Prop) (M : Mp) (n c : Nat) (w : World) (h : Lsy w S E T bd bm bsn s l d st) (hl : Lsu d st M n c Q) (hn : n ≤ 110) (hc : c ≤ 1000000000) :
    Calls Tryz.prog 112 #[.pointer (some ⟨T, 0, none⟩)] w fun e w' => e = .returned (.int .i64 0) ∧ CmPost w w' S E T bd bm bsn (tendX d st) ∧ Kp (fun k => S k ∨ k = T ∨ k = bm) w w' := by
  by_cases h4 : 4096 ≤ st.len
  · have e : tendX d st = (0, (flushX d st).2) := by
      unfold tendX
      simp only
      rw [if_pos h4, (hl.flush hn hc).1]; rfl
    rw [e]
    exact tend_flush T bd bm bsn s l st E 0 w _ h.at_ h4 (flush_lsu T bd bm bsn s l d st S E M n c w h hl hn hc)
  · have e : tendX d st = (0, (settleX d st st.tabs st.log).2) := by
      unfold tendX
      simp only
      rw [if_neg h4, (hl.settle hn hc).1]; rfl
    rw [e]
    refine tend_settle T bd bm bsn s l st E 0 w _ h.at_ h4 ((settle_lsu T bd bm bsn s l d st S E M n c w.drew (h.below ((Below.refl _ w).drew)) hl hn hc).mono ?_)
    rintro e' w' ⟨rfl, hp, hk⟩
    exact ⟨rfl, hp, (Kp.of_below (S := fun k => S k ∨ k = T ∨ k = bm) ((Below.refl _ w).drew)).trans hk (fun _ _ h => h)⟩
end Go.Proofs.YtoabedkcieindaaGreatDoor

namespace Go.Proofs.YtoabedkcieindaaGreatDoor
open Go.RowKit Go.Maps Go.Sort Go.Shelf
variable {Q : Sq}
theorem Lsu.lwr {d : Dk} {s : Ls} {M : Mp} {n c : Nat} (h : Lsu d s M n c Q) : lwritable d.turn d.dead s = 0 ∧ lready d.turn d.dead s = 0 := by
  have h1 : lready d.turn d.dead s = 0 := by unfold lready; rw [if_neg (by simp [h.turn]), h.stl.al]; rfl
  exact ⟨by unfold lwritable; rw [h1, h.stk]; rfl, h1⟩
theorem Lsu.loglen {d : Dk} {s : Ls} {M : Mp} {n c : Nat} (h : Lsu d s M n c Q) : s.len ≤ 88 * n := by
  obtain ⟨bs, m, hl, e, hb⟩ := h.lin
  have := logOf_len (bs := bs) hl.dur.says.bok
  omega
theorem Lsu.batchX {d : Dk} {s : Ls} {M : Mp} {n c : Nat} (h : Lsu d s M n c Q) (hc : c ≤ 1000000000) {l : List Ox} (hb : batchOk l = true) (hn : n + l.length ≤ 110) :
    lbatchX d s l = (0, (tendX (d.write (lgN s.log) (encode l)).2 (withB s l)).2) ∧ Lsu (lbatchX d s l).2.1 (lbatchX d s l).2.2 (doAll M l) (n + l.length) (c + 1) Q := by
  obtain ⟨a1, a2⟩ := h.append hb hn
  obtain ⟨t1, t2⟩ := a2.tend hn hc
  have e : lbatchX d s l = (0, (tendX (d.write (lgN s.log) (encode l)).2 (withB s l)).2) := by
    unfold lbatchX
    rw [if_neg (by rw [h.writ]; simp), if_neg (by rw [hb]; simp)]
    simp only
    rw [if_neg (by rw [a1]; simp)]
    unfold outX
    have hs : ({ s with loose := true, len := s.len + (encode l).length, batch := s.batch + 1, mem := doM (s.batch + 1) s.lastSnap s.mem l } : Ls) = withB s l := rfl
    rw [hs, t2.stl.al, t1]
    rfl
  rw [e]
  exact ⟨rfl, t2⟩
set_option maxHeartbeats 400000 in
set_option maxRecDepth 20000 in
theorem sFlush_lsu (T bd bm bsn : Nat) (s : Sl) (l : List Tr) (d : Dk) (st : Ls) (S E : Nat → Prop) (M : Mp) (n c : Nat) (w : World) (h : Lsy w S E T bd bm bsn s l d st) (hl : Lsu d st M n c Q) (hn : n ≤ 110) (hc : c ≤ 1000000000) :
    Calls Tryz.prog 68 #[.pointer (some ⟨T, 0, none⟩)] w fun e w' => e = .returned (.int .i64 0) ∧ CmPost w w' S E T bd bm bsn (flushX d st) ∧ Kp (fun k => S k ∨ k = T ∨ k = bm) w w' := by
  obtain ⟨dm, dr, df, hd, _⟩ := h.prog.raw
  have hw := lWritable_any h.at_ hd
  rw [hl.lwr.1] at hw
  have hal := (hl.flush hn hc).2.stl.al
  have hF := fun w1 (hb : Below w.heap.size w w1) => flush_lsu T bd bm bsn s l d st S E M n c w1 (h.below hb) hl hn hc
  generalize flushX d st = X at *
  clear hd
  go_enter Tryz.func68, Tryz.ntmps68
  go_wp2_with (first
    | (go_at_call 96; refine hw.mono ?_; rintro e w1 ⟨rfl, hb1⟩; have hF1 := hF w1 hb1; clear hw hF)
    | (go_at_call 117; refine hF1.mono ?_; rintro e w2 ⟨rfl, hc2, hk2⟩; obtain ⟨S', E', s', l', h1', h2', h3', h4', h5', h6', hP2, hL2⟩ := id hc2; obtain ⟨m2, r2, f2, hd2, _⟩ := hP2.raw; rw [hal] at hd2; have hO := outcome_any (e0 := 0) (hL2.cell 0) hd2; simp only [Bool.false_eq_true, if_false] at hO; clear h1' h2' h3' h4' h5' h6' hP2 hL2 hd2 hF1 hal)
    | (go_at_call 111; refine hO.mono ?_; rintro e w3 ⟨rfl, rfl⟩))
  go_ret
  exact ⟨rfl, hc2.up hb1.size, (Kp.of_below (S := fun k => S k ∨ k = T ∨ k = bm) hb1).trans hk2 (fun _ _ h => h)⟩
set_option maxHeartbeats 1000000 in
set_option maxRecDepth 20000 in
theorem sBatch_lsu (T bd bm bsn : Nat) (s : Sl) (l : List Tr) (d : Dk) (st : Ls) (S E : Nat → Prop) (M : Mp) (n c : Nat) (q : Option Addr) (qc : Nat) (ops : List Ox) (w : World) (h : Lsy w S E T bd bm bsn s l d st) (hl : Lsu d st M n c Q) (hc : c ≤ 1000000000) (hb : batchOk ops = true) (hn : n + ops.length ≤ 110) (hk : OxLen ops) (hp : Opp w q ops) (hq : ∀ a, q = some a → 0 < ops.length → ¬ S a.block ∧ a.block ≠ T) :
    Calls Tryz.prog 63 #[.pointer (some ⟨T, 0, none⟩), .slice q ops.length qc] w fun e w' => e = .returned (.int .i64 0) ∧ CmPost w w' S E T bd bm bsn (lbatchX d st ops) ∧ Kp (fun k => S k ∨ k = T ∨ k = bm) w w' := by
  obtain ⟨eX, hlX⟩ := hl.batchX hc hb hn
  obtain ⟨a1, a2⟩ := hl.append hb hn
  obtain ⟨dm, dr, df, hd, _⟩ := h.prog.raw
  have hw := lWritable_any h.at_ hd
  rw [hl.lwr.1] at hw
  clear hd
  have hbl := batchOk_iff.1 hb
  have hbo := (body_len hb).2
  have hel := encode_len ops
  have hib := fun w1 (hb1 : Below w.heap.size w w1) => isBatch_any q qc ops w1 (by omega) hk (hp.below hb1)
  rw [hb] at hib
  have hen := fun w1 (hb1 : Below w.heap.size w w1) => Encode_any q qc ops w1 hb (hp.below hb1)
  have hlg := hl.log
  have hlN := fun w1 => logName_any st.log w1 (by omega)
  obtain ⟨r1, r2⟩ := hl.room (by omega)
  have hfew := hl.few
  have hP0 : ProgAt w (fun k => S k ∧ k < w.heap.size) bd d := h.prog.mono (fun k hk s => ⟨s, hk⟩)
  have hWr := fun w4 (hb4 : Below w.heap.size w w4) => dWrite_any bd d (lgN st.log) (encode ops) (fun k => S k ∧ k < w.heap.size) w4 (progBelow hP0 hb4) hl.ok (by omega) (by have := lgN_ok st.log; simp only [nameOk, Bool.and_eq_true, decide_eq_true_eq] at this; omega) (by omega)
  rw [a1] at hWr
  have c0 := h.at_.cell 0
  have c6 := h.at_.cell 6
  have HLB : Hid (lbatchX d st ops = (0, (tendX (d.write (lgN st.log) (encode ops)).2 (withB st ops)).2)) := eX
  have hOL : ops.length ≤ 8 := hbl.1.2
  have hop := hbl.2
  have hel' : (encode ops).length ≤ 1000000 := by omega
  clear eX a1 hbl hbo r1 r2 hfew hel
  generalize hD : (d.write (lgN st.log) (encode ops)).2 = d1 at *
  generalize hTX : encode ops = tx at *
  have HTX : Hid (encode ops = tx) := hTX
  have hlen5 := hl.loglen
  have hbat := hl.bat
  clear hD hb hTX
  go_enter Tryz.func63, Tryz.ntmps63
  go_wp2_with (first
    | (go_at_call 96; refine hw.mono ?_; rintro e w1 ⟨rfl, hb1⟩; have hib1 := hib w1 hb1; clear hw hib)
    | (go_at_call 107; refine hib1.mono ?_; rintro e w2 ⟨rfl, hb2⟩; have hB2 := hb1.trans (hb2.mono hb1.size); have hen2 := hen w2 hB2; clear hib1 hen)
    | (go_at_call 108; refine hen2.mono ?_; rintro e w3 ⟨rfl, hb3⟩; have hB3 := hB2.trans (hb3.mono hB2.size); clear hen2 hB2 hb1 hb2 hb3))
  have hB3d : Below w.heap.size w w3.drew := hB3.trans ((Below.refl _ w3).drew.mono hB3.size)
  refine wp_calm ?_
  refine wp_region_E (S := fun w' => w'.cell? ⟨T, 0, none⟩ = some (.pointer (some ⟨bd, 0, none⟩)) ∧ w'.cell? ⟨T, 6, none⟩ = some (.int .i64 st.log)) mixedP ?_
  have hc : w3.drew.cell? ⟨T, 0, none⟩ = some (.pointer (some ⟨bd, 0, none⟩)) ∧ w3.drew.cell? ⟨T, 6, none⟩ = some (.int .i64 st.log) := ⟨cell_below hB3d c0, cell_below hB3d c6⟩
  refine wpAnyE_take (i := 0) (L := 1) (v := .pointer (some ⟨T, 0, none⟩)) rfl rfl (by decide) (by kernel_rfl) (by kernel_rfl) (by kernel_rfl) (by kernel_rfl) (by kernel_rfl) (fun _ _ _ h => h) (Or.inl ⟨by rfl, fun w' hS => ?_⟩) hc ?_
  · go_simp
  refine wpAnyE_take (i := 1) (L := 2) (v := .pointer (some ⟨T, 0, none⟩)) rfl rfl (by decide) (by kernel_rfl) (by kernel_rfl) (by kernel_rfl) (by kernel_rfl) (by kernel_rfl) (fun _ _ _ h => h) (Or.inl ⟨by rfl, fun w' hS => ?_⟩) hc ?_
  · go_simp
  refine wpAnyE_take (i := 2) (L := 3) (v := .pointer (some ⟨T, 0, none⟩)) rfl rfl (by decide) (by kernel_rfl) (by kernel_rfl) (by kernel_rfl) (by kernel_rfl) (by kernel_rfl) (fun _ _ _ h => h) (Or.inl ⟨by rfl, fun w' hS => ?_⟩) hc ?_
  · go_simp
  refine wpAnyE_take (i := 3) (L := 10) (v := .pointer (some ⟨bd, 0, none⟩)) rfl rfl (by decide) (by kernel_rfl) (by kernel_rfl) (by kernel_rfl) (by kernel_rfl) (by kernel_rfl) (fun _ _ _ h => h) (Or.inl ⟨by rfl, fun w' hS => ?_⟩) hc ?_
  · obtain ⟨u0, u6⟩ := hS; go_simp
  refine wpAnyE_take (i := 4) (L := 5) (v := .pointer (some ⟨T, 0, none⟩)) rfl rfl (by decide) (by kernel_rfl) (by kernel_rfl) (by kernel_rfl) (by kernel_rfl) (by kernel_rfl) (fun _ _ _ h => h) (Or.inl ⟨by rfl, fun w' hS => ?_⟩) hc ?_
  · go_simp
  refine wpAnyE_take (i := 5) (L := 6) (v := .pointer (some ⟨T, 0, none⟩)) rfl rfl (by decide) (by kernel_rfl) (by kernel_rfl) (by kernel_rfl) (by kernel_rfl) (by kernel_rfl) (fun _ _ _ h => h) (Or.inl ⟨by rfl, fun w' hS => ?_⟩) hc ?_
  · go_simp
  refine wpAnyE_take (i := 6) (L := 7) (v := .pointer (some ⟨T, 6, none⟩)) rfl rfl (by decide) (by kernel_rfl) (by kernel_rfl) (by kernel_rfl) (by kernel_rfl) (by kernel_rfl) (fun _ _ _ h => h) (Or.inl ⟨by rfl, fun w' hS => ?_⟩) hc ?_
  · go_simp
  refine wpAnyE_take (i := 7) (L := 8) (v := .int .i64 st.log) rfl rfl (by decide) (by kernel_rfl) (by kernel_rfl) (by kernel_rfl) (by kernel_rfl) (by kernel_rfl) (fun _ _ _ h => h) (Or.inl ⟨by rfl, fun w' hS => ?_⟩) hc ?_
  · obtain ⟨u0, u6⟩ := hS; go_simp
  refine wpAnyE_take (i := 9) (L := 10) (v := str tx) rfl rfl (by decide) (by kernel_rfl) (by kernel_rfl) (by kernel_rfl) (by kernel_rfl) (by kernel_rfl) (fun _ _ _ h => h) (Or.inl ⟨by rfl, fun w' hS => ?_⟩) hc ?_
  · go_simp
  refine wpAnyE_one (i := 8) (by kernel_rfl) rfl (by rfl) (fun K hK => ?_)
  go_simp
  refine (hlN _).mono ?_
  rintro e w4 ⟨rfl, hb4⟩
  have hB4 := hB3d.trans (hb4.mono hB3d.size)
  refine hK.out _ _ ⟨cell_below hB4 c0, cell_below hB4 c6⟩ ?_
  clear hK
  refine wpAnyE_one (i := 10) (by kernel_rfl) rfl (by rfl) (fun K hK => ?_)
  go_simp
  refine (hWr w4 hB4).mono ?_
  rintro e w5 ⟨rfl, hP5, k5⟩
  have hL5 : LsAt w5 E T bd bm bsn s l st := (h.at_.below hB4).kept k5 (fun x => h.nT x.1) (fun x => h.nm x.1) (fun x => h.nn x.1) (fun k hk x => h.dj k hk x.1)
  refine hK.out _ _ ⟨hL5.cell 0, hL5.cell 6⟩ ?_
  clear hK
  refine wpAnyE_last (i := 11) (by kernel_rfl) rfl (by rfl) (by kernel_rfl) (by kernel_rfl) (fun K hK => ?_)
  go_simp
  refine hK.out _ _ ?_
  clear hK hc hWr hlN c0 c6
  have c7 : w5.cell? ⟨T, 7, none⟩ = some (.int .i64 st.len) := hL5.cell 7
  have c8 : w5.cell? ⟨T, 8, none⟩ = some (.int .i64 st.batch) := hL5.cell 8
  have c11 : w5.cell? ⟨T, 11, none⟩ = some (.bool st.loose) := hL5.cell 11
  have z7 := hL5.frozen 7
  have z8 := hL5.frozen 8
  have z11 := hL5.frozen 11
  go_wp2
  have hL8f := fun W8 (k8 : Kp (fun i => i = T) w5 W8) (hb8 : W8.heap[T]? = some (lsC bd bm bsn s { withB st ops with mem := st.mem })) => hL5.recell (st' := { withB st ops with mem := st.mem }) k8 hb8 rfl rfl rfl
  have k8 : Kp (fun i => i = T) w5 (((w5.setCell ⟨T, 11, none⟩ (.bool true)).setCell ⟨T, 7, none⟩ (.int .i64 (↑st.len + ↑tx.length))).setCell ⟨T, 8, none⟩ (.int .i64 (st.batch + 1))) := ((Kp.set1 w5 T 11 _).trans (Kp.set1 _ T 7 _) (fun _ _ h => h)).trans (Kp.set1 _ T 8 _) (fun _ _ h => h)
  have hb8 : (((w5.setCell ⟨T, 11, none⟩ (.bool true)).setCell ⟨T, 7, none⟩ (.int .i64 (↑st.len + ↑tx.length))).setCell ⟨T, 8, none⟩ (.int .i64 (st.batch + 1))).heap[T]? = some (lsC bd bm bsn s { withB st ops with mem := st.mem }) := by
    have := block_set (j := 8) (block_set (j := 7) (block_set (j := 11) hL5.blk (.bool true)) (.int .i64 (↑st.len + ↑tx.length))) (.int .i64 (st.batch + 1))
    rw [this]
    simp [lsC, withB, HTX.out]
  generalize ((w5.setCell ⟨T, 11, none⟩ (.bool true)).setCell ⟨T, 7, none⟩ (.int .i64 (↑st.len + ↑tx.length))).setCell ⟨T, 8, none⟩ (.int .i64 (st.batch + 1)) = w8 at *
  have hL8 := hL8f w8 k8 hb8
  have hL8d := hL8.below ((Below.refl _ w8).drew)
  clear hL8f c7 c8 c11 z7 z8 z11
  have hLS := lastSnap_any T bsn st.snaps w8.drew (hL8d.cell 9) hL8d.snp
  have hents := hl.ents
  have hml := hl.memlen
  refine wp_calm ?_
  refine wp_region_E (S := fun w' => w'.cell? ⟨T, 3, none⟩ = some (.map (some bm)) ∧ w'.cell? ⟨T, 8, none⟩ = some (.int .i64 (st.batch + 1))) mixedP ?_
  have hc : w8.drew.cell? ⟨T, 3, none⟩ = some (.map (some bm)) ∧ w8.drew.cell? ⟨T, 8, none⟩ = some (.int .i64 (st.batch + 1)) := ⟨hL8d.cell 3, hL8d.cell 8⟩
  refine wpAnyE_take (i := 0) (L := 1) (v := .pointer (some ⟨T, 0, none⟩)) rfl rfl (by decide) (by kernel_rfl) (by kernel_rfl) (by kernel_rfl) (by kernel_rfl) (by kernel_rfl) (fun _ _ _ h => h) (Or.inl ⟨by rfl, fun w' hS => ?_⟩) hc ?_
  · go_simp
  refine wpAnyE_take (i := 1) (L := 2) (v := .pointer (some ⟨T, 0, none⟩)) rfl rfl (by decide) (by kernel_rfl) (by kernel_rfl) (by kernel_rfl) (by kernel_rfl) (by kernel_rfl) (fun _ _ _ h => h) (Or.inl ⟨by rfl, fun w' hS => ?_⟩) hc ?_
  · go_simp
  refine wpAnyE_take (i := 2) (L := 3) (v := .pointer (some ⟨T, 3, none⟩)) rfl rfl (by decide) (by kernel_rfl) (by kernel_rfl) (by kernel_rfl) (by kernel_rfl) (by kernel_rfl) (fun _ _ _ h => h) (Or.inl ⟨by rfl, fun w' hS => ?_⟩) hc ?_
  · go_simp
  refine wpAnyE_take (i := 3) (L := 11) (v := .map (some bm)) rfl rfl (by decide) (by kernel_rfl) (by kernel_rfl) (by kernel_rfl) (by kernel_rfl) (by kernel_rfl) (fun _ _ _ h => h) (Or.inl ⟨by rfl, fun w' hS => ?_⟩) hc ?_
  · obtain ⟨u3, u8⟩ := hS; go_simp
  refine wpAnyE_take (i := 4) (L := 11) (v := .slice q ops.length qc) rfl rfl (by decide) (by kernel_rfl) (by kernel_rfl) (by kernel_rfl) (by kernel_rfl) (by kernel_rfl) (fun _ _ _ h => h) (Or.inl ⟨by rfl, fun w' hS => ?_⟩) hc ?_
  · go_simp
  refine wpAnyE_take (i := 5) (L := 6) (v := .pointer (some ⟨T, 0, none⟩)) rfl rfl (by decide) (by kernel_rfl) (by kernel_rfl) (by kernel_rfl) (by kernel_rfl) (by kernel_rfl) (fun _ _ _ h => h) (Or.inl ⟨by rfl, fun w' hS => ?_⟩) hc ?_
  · go_simp
  refine wpAnyE_take (i := 6) (L := 7) (v := .pointer (some ⟨T, 0, none⟩)) rfl rfl (by decide) (by kernel_rfl) (by kernel_rfl) (by kernel_rfl) (by kernel_rfl) (by kernel_rfl) (fun _ _ _ h => h) (Or.inl ⟨by rfl, fun w' hS => ?_⟩) hc ?_
  · go_simp
  refine wpAnyE_take (i := 7) (L := 8) (v := .pointer (some ⟨T, 8, none⟩)) rfl rfl (by decide) (by kernel_rfl) (by kernel_rfl) (by kernel_rfl) (by kernel_rfl) (by kernel_rfl) (fun _ _ _ h => h) (Or.inl ⟨by rfl, fun w' hS => ?_⟩) hc ?_
  · go_simp
  refine wpAnyE_take (i := 8) (L := 11) (v := .int .i64 (st.batch + 1)) rfl rfl (by decide) (by kernel_rfl) (by kernel_rfl) (by kernel_rfl) (by kernel_rfl) (by kernel_rfl) (fun _ _ _ h => h) (Or.inl ⟨by rfl, fun w' hS => ?_⟩) hc ?_
  · obtain ⟨u3, u8⟩ := hS; go_simp
  refine wpAnyE_take (i := 9) (L := 10) (v := .pointer (some ⟨T, 0, none⟩)) rfl rfl (by decide) (by kernel_rfl) (by kernel_rfl) (by kernel_rfl) (by kernel_rfl) (by kernel_rfl) (fun _ _ _ h => h) (Or.inl ⟨by rfl, fun w' hS => ?_⟩) hc ?_
  · go_simp
  refine wpAnyE_one (i := 10) (by kernel_rfl) rfl (by rfl) (fun K hK => ?_)
  go_simp
  refine hLS.mono ?_
  rintro e w9 ⟨rfl, hb9⟩
  have hB9 : Below w8.heap.size w8 w9 := (Below.refl _ w8).drew.trans hb9
  have hL9 := hL8.below hB9
  refine hK.out _ _ ⟨hL9.cell 3, hL9.cell 8⟩ ?_
  clear hK
  have hp9 : Opp w9 q ops := ((((hp.below hB4).kept k5 (fun a ha h0 hs => (hq a ha h0).1 hs.1)).kept k8 (fun a ha h0 => (hq a ha h0).2)).below hB9)
  have hMd := mdo_any bm E st.mem q qc ops (st.batch + 1) st.lastSnap w9 hL9.mem (by omega) (by omega) (by omega) hop hp9
  refine wpAnyE_last (i := 11) (by kernel_rfl) rfl (by rfl) (by kernel_rfl) (by kernel_rfl) (fun K hK => ?_)
  go_simp
  refine hMd.mono ?_
  rintro e w10 ⟨rfl, hm10, k10⟩
  refine hK.out _ _ ?_
  clear hK hc hMd hLS
  have hsn : (withB st ops).mem = doM (st.batch + 1) st.lastSnap st.mem ops := rfl
  rw [← hsn] at hm10
  obtain ⟨S1, E1, hY, q1, q2, q3, k110⟩ := batch_mid (st1 := withB st ops) h hB4 hP5 k5 k8 hb8 rfl rfl hB9 hm10 (fun x hx => (a2.mok.2 x hx).2.1) k10
  have hTd := tend_lsu T bd bm bsn s l d1 (withB st ops) S1 E1 _ _ c w10 hY a2 hn hc
  have hTl := a2.tend hn hc
  have hal := hTl.2.stl.al
  have z10 := k110.size
  generalize tendX d1 (withB st ops) = X at *
  clear hL5 hL8 hL8d hL9 hp9 hm10 k10 k8 k5 hP5
  go_wp2_with (first
    | (go_at_call 112; refine hTd.mono ?_; rintro e w11 ⟨rfl, hc11, k11⟩; obtain ⟨S', E', s', l', h1', h2', h3', h4', h5', h6', hP2, hL2⟩ := id hc11; obtain ⟨m2, r2, f2, hd2, _⟩ := hP2.raw; rw [hal] at hd2; have hO := outcome_any (e0 := 0) (hL2.cell 0) hd2; simp only [Bool.false_eq_true, if_false] at hO; clear h1' h2' h3' h4' h5' h6' hP2 hL2 hd2 hTd hal)
    | (go_at_call 111; refine hO.mono ?_; rintro e w12 ⟨rfl, rfl⟩))
  go_ret
  refine ⟨rfl, ?_, ?_⟩
  · rw [HLB.out]
    exact hc11.via z10 q1 q2
  · exact k110.trans k11 (fun i hi x => x.imp (fun x => q3 i x hi) id)
end Go.Proofs.YtoabedkcieindaaGreatDoor
