/- The program's store: Batch, Sync. -/
import Derived.Test.YtfghgmojnffgnaaGreatCodeQ
namespace Go.Proofs.YtfghgmojnffgnaaGreat
open Go.RowKit Go.Maps Go.Sort
attribute [local go_sem ↓] Go.wp_at_zero Go.wp_at_succ

def logN : Nm := [108, 111, 103]
def newN : Nm := [108, 111, 103, 46, 110, 101, 119]

/-- A disk and a store on it: which blocks are whose. -/
structure Sys (w : World) (U : Nat → Prop) (bd bs : Nat) (d : Dk) (st : St) : Prop where
  ex : ∃ (S T : Nat → Prop) (bm : Nat), (∀ k, S k → U k) ∧ (∀ k, T k → U k) ∧ (∀ k, S k → ¬ T k) ∧ ProgAt w S bd d ∧ StAt w T bs bd bm st

theorem Sys.kept {w w' : World} {U V : Nat → Prop} {bd bs : Nat} {d : Dk} {st : St} (h : Sys w U bd bs d st) (k : Kp V w w') (hV : ∀ i, U i → ¬ V i) : Sys w' U bd bs d st := by
  obtain ⟨S, T, bm, h1, h2, h3, h4, h5⟩ := h.ex
  exact ⟨S, T, bm, h1, h2, h3, h4.kept k (fun i s => hV i (h1 i s)), h5.kept k (fun i s => hV i (h2 i s))⟩
theorem Sys.below {w w' : World} {U : Nat → Prop} {bd bs : Nat} {d : Dk} {st : St} (h : Sys w U bd bs d st) (k : Below w.heap.size w w') : Sys w' U bd bs d st := h.kept (V := fun _ => False) (Kp.of_below k) (fun _ _ f => f)
theorem Sys.mono {w : World} {U V : Nat → Prop} {bd bs : Nat} {d : Dk} {st : St} (h : Sys w U bd bs d st) (hV : ∀ k, k < w.heap.size → U k → V k) : Sys w V bd bs d st := by
  obtain ⟨S, T, bm, h1, h2, h3, h4, h5⟩ := h.ex
  exact ⟨fun k => S k ∧ k < w.heap.size, fun k => T k ∧ k < w.heap.size, bm, fun k s => hV k s.2 (h1 k s.1), fun k s => hV k s.2 (h2 k s.1), fun k s t => h3 k s.1 t.1, h4.mono (fun k hk s => ⟨s, hk⟩), h5.mono (fun k hk s => ⟨s, hk⟩)⟩
theorem ProgAt.raw {w : World} {S : Nat → Prop} {b : Nat} {d : Dk} (h : ProgAt w S b d) : ∃ m r f : Value, w.heap[b]? = some (.cells #[m, r, f, .bool d.dead, .int .i64 d.turn] 129) ∧ S b := by
  obtain ⟨bm, ps, hst, _⟩ := h
  exact ⟨_, _, _, hst.blk, hst.sb⟩

/-- What Batch answers, and what it does. -/
def batchX (d : Dk) (st : St) (l : List Ox) : Int × Dk × St :=
  if writable d.turn d.dead st ≠ 0 then (writable d.turn d.dead st, d, st)
  else if batchOk l = false then (1, d, st)
  else if (d.write logN (encode l)).1 ≠ 0 then ((d.write logN (encode l)).1, (d.write logN (encode l)).2, { st with stuck := (d.write logN (encode l)).1 == 3 })
  else (0, (d.write logN (encode l)).2, { st with loose := true, m := doAll st.m l })

theorem mixedP : Tryz.prog.follows .mixedOrders = true := by kernel_rfl
theorem ProgAt.drew {w : World} {S : Nat → Prop} {b : Nat} {d : Dk} (h : ProgAt w S b d) : ProgAt w.drew S b d := h.kept (T := fun _ => False) ((Kp.refl _ _).drew) (fun _ _ f => f)
theorem StAt.drew {w : World} {T : Nat → Prop} {bs bd bm : Nat} {st : St} (h : StAt w T bs bd bm st) : StAt w.drew T bs bd bm st := ⟨h.blk, h.map, h.ts, h.tm⟩
theorem ProgAt.below {w w' : World} {S : Nat → Prop} {b : Nat} {d : Dk} (h : ProgAt w S b d) (k : Below w.heap.size w w') : ProgAt w' S b d := h.kept (T := fun _ => False) (Kp.of_below k) (fun _ _ f => f)
theorem Opp.drew {w : World} {q : Option Addr} {l : List Ox} (h : Opp w q l) : Opp w.drew q l := h
theorem kp_below {S : Nat → Prop} {a b c : World} (h : Kp S a b) (k : Below b.heap.size b c) : Kp S a c := h.trans (T := fun _ => False) (Kp.of_below k) (fun _ _ f => f.elim)

/-- A store's own cells are written. -/
theorem StAt.put {w : World} {T : Nat → Prop} {bs bd bm : Nat} {st st' : St} (h : StAt w T bs bd bm st) (j : Nat) (u : Value) (hm : st'.m = st.m) (hb : (w.setCell ⟨bs, j, none⟩ u).heap[bs]? = some (stCells bd bm st')) : StAt (w.setCell ⟨bs, j, none⟩ u) T bs bd bm st' :=
  ⟨hb, by rw [hm]; exact h.map.kept (Kp.set1 w bs j u) (fun e => h.map.ne h.raw e.symm), h.ts, h.tm⟩
theorem Sys.of {w : World} {U : Nat → Prop} {bd bs bm : Nat} {d : Dk} {st : St} {S T : Nat → Prop} (h1 : ∀ k, S k → U k) (h2 : ∀ k, T k → U k) (h3 : ∀ k, S k → ¬ T k) (h4 : ProgAt w S bd d) (h5 : StAt w T bs bd bm st) : Sys w U bd bs d st := ⟨⟨S, T, bm, h1, h2, h3, h4, h5⟩⟩

/-- The world behind Write, for the store that wrote. -/
theorem sys_wrote {w w3 w4 : World} {U S T : Nat → Prop} {bd bs bm : Nat} {st : St} (u1 : ∀ k, S k → U k) (u2 : ∀ k, T k → U k) (u3 : ∀ k, S k → ¬ T k) (hT3 : StAt w3 T bs bd bm st) (kw : Kp U w w3) (k4 : Kp S w3 w4) :
    ∃ T', (∀ k, Nw S w3 k → Nw U w k) ∧ (∀ k, T' k → Nw U w k) ∧ (∀ k, Nw S w3 k → ¬ T' k) ∧ StAt w4 T' bs bd bm st ∧ Kp U w w4 := by
  refine ⟨fun k => T k ∧ k < w3.heap.size, ?_, ?_, ?_, ?_, kw.trans k4 (fun i _ s => u1 i s)⟩
  · rintro k (s | s)
    · exact .inl (u1 k s)
    · exact .inr (Nat.le_trans kw.size s)
  · rintro k ⟨s, _⟩; exact .inl (u2 k s)
  · rintro k (s | s) ⟨t, hlt⟩
    · exact u3 k s t
    · omega
  · exact (hT3.mono (S := fun k => T k ∧ k < w3.heap.size) (fun k hk t => ⟨t, hk⟩)).kept k4 (fun i t s => u3 i s t.1)

set_option maxHeartbeats 2000000 in
set_option maxRecDepth 20000 in
theorem sBatch_any (bd bs : Nat) (d : Dk) (st : St) (U : Nat → Prop) (q : Option Addr) (qc : Nat) (l : List Ox) (w : World) (hS : Sys w U bd bs d st) (hok : d.Ok) (hfl : d.files.length ≤ 4194302) (hml : st.m.length ≤ 4194300) (hl : l.length ≤ 1099511627776) (hk : OxLen l) (hp : Opp w q l) (hq : ∀ a, q = some a → 0 < l.length → ¬ U a.block) :
    Calls Tryz.prog 67 #[.pointer (some ⟨bs, 0, none⟩), .slice q l.length qc] w fun e w' => e = .returned (.int .i64 (batchX d st l).1) ∧ Sys w' (Nw U w) bd bs (batchX d st l).2.1 (batchX d st l).2.2 ∧ Kp U w w' := by
  obtain ⟨S, T, bm, u1, u2, u3, hP, hT⟩ := hS.ex
  obtain ⟨dm, dr, df, hd, hsd⟩ := hP.raw
  have hw := Writable_any hT hd
  have hUs := u2 _ hT.ts
  have hUm := u2 _ hT.tm
  by_cases e1 : writable d.turn d.dead st = 0
  · rw [e1] at hw
    by_cases e2 : batchOk l = true
    · have hob := (batchOk_iff.1 e2)
      have hbl := body_len e2
      have hel := encode_len l
      generalize hR : (d.write logN (encode l)).1 = R at *
      have HX : Hid (batchX d st l = if R ≠ 0 then (R, (d.write logN (encode l)).2, { st with stuck := R == 3 }) else (0, (d.write logN (encode l)).2, { st with loose := true, m := doAll st.m l })) := by simp [Hid, batchX, e1, e2, hR]
      go_enter Tryz.func67, Tryz.ntmps67
      go_wp2_with (first
        | (go_at_call 69; refine hw.mono ?_; rintro e w1 ⟨rfl, hb1⟩; clear hw)
        | (go_at_call 113; refine (isBatch_any q qc l w1 hl hk (hp.below hb1)).mono ?_; rintro e w2 ⟨he, hb2⟩; rw [e2] at he; subst he))
      have hP2 := (hP.below hb1).below hb2
      have hT2 := (hT.below hb1).below hb2
      have kw2 := kp_below (kp_below (Kp.refl U w) hb1) hb2
      have hp2 := (hp.below hb1).below hb2
      refine wp_region_E (S := fun w' => w'.cell? ⟨bs, 0, none⟩ = some (.pointer (some ⟨bd, 0, none⟩))) mixedP ?_
      have hc := (cells5 hT2.drew.raw).1
      refine wpAnyE_take (i := 0) (L := 7) (v := .pointer (some ⟨bs, 0, none⟩)) rfl rfl (by decide) (by kernel_rfl) (by kernel_rfl) (by kernel_rfl) (by kernel_rfl) (by kernel_rfl) (fun _ _ _ h => h) (Or.inl ⟨by rfl, fun w' hS => ?_⟩) hc ?_
      · go_simp
      refine wpAnyE_take (i := 1) (L := 7) (v := .pointer (some ⟨bs, 0, none⟩)) rfl rfl (by decide) (by kernel_rfl) (by kernel_rfl) (by kernel_rfl) (by kernel_rfl) (by kernel_rfl) (fun _ _ _ h => h) (Or.inl ⟨by rfl, fun w' hS => ?_⟩) hc ?_
      · go_simp
      refine wpAnyE_take (i := 2) (L := 7) (v := .pointer (some ⟨bs, 0, none⟩)) rfl rfl (by decide) (by kernel_rfl) (by kernel_rfl) (by kernel_rfl) (by kernel_rfl) (by kernel_rfl) (fun _ _ _ h => h) (Or.inl ⟨by rfl, fun w' hS => ?_⟩) hc ?_
      · go_simp
      refine wpAnyE_take (i := 3) (L := 7) (v := .pointer (some ⟨bd, 0, none⟩)) rfl rfl (by decide) (by kernel_rfl) (by kernel_rfl) (by kernel_rfl) (by kernel_rfl) (by kernel_rfl) (fun _ _ _ h => h) (Or.inl ⟨by rfl, fun w' hS => ?_⟩) hc ?_
      · go_simp
      refine wpAnyE_take (i := 4) (L := 7) (v := .slice q l.length qc) rfl rfl (by decide) (by kernel_rfl) (by kernel_rfl) (by kernel_rfl) (by kernel_rfl) (by kernel_rfl) (fun _ _ _ h => h) (Or.inl ⟨by rfl, fun w' hS => ?_⟩) hc ?_
      · go_simp
      refine wpAnyE_one (i := 5) (by kernel_rfl) rfl (by rfl) (fun K hK => ?_)
      go_simp
      refine (Encode_any q qc l w2.drew e2 hp2.drew).mono ?_
      rintro e w3 ⟨rfl, hb3⟩
      have hT3 := hT2.drew.below hb3
      have hP3 := hP2.drew.below hb3
      have kw3 := kp_below (kw2.drew) hb3
      have hp3 := hp2.drew.below hb3
      refine hK.out _ _ (cells5 hT3.raw).1 ?_
      clear hK
      refine wpAnyE_one (i := 6) (by kernel_rfl) rfl (by rfl) (fun K hK => ?_)
      go_simp
      refine (dWrite_any bd d logN (encode l) S w3 hP3 hok hfl (by decide) (by omega)).mono ?_
      rintro e w4 ⟨rfl, hP4, k4⟩
      rw [hR]
      obtain ⟨T', v1, v2, v3, hT4, kw4⟩ := sys_wrote u1 u2 u3 hT3 kw3 k4
      have hp4 : Opp w4 q l := fun i hi => by
        obtain ⟨g, off, rfl, c0, c1, c2⟩ := hp3 i hi
        have hn : ¬ S g := fun s => hq _ rfl (by omega) (u1 g s)
        have hgl := World.block_lt_of_cell? w3 ⟨g, off + i * 3, none⟩ c0
        have hbk := k4.block g hgl hn
        exact ⟨g, off, rfl, by simp only [World.cell?, hbk] at c0 ⊢; exact c0, by simp only [World.cell?, hbk] at c1 ⊢; exact c1, by simp only [World.cell?, hbk] at c2 ⊢; exact c2⟩
      refine hK.out _ _ (cells5 hT4.raw).1 ?_
      clear hK
      refine wpAnyE_last (i := 7) (by kernel_rfl) rfl (by rfl) (by kernel_rfl) (by kernel_rfl) (fun K hK => ?_)
      go_simp
      refine hK.out _ _ ?_
      clear hK hb1 hb2 hb3 hP2 hT2 kw2 hp2 hP3 hT3 kw3 hp3 hc hP hT hS
      obtain ⟨c0, c1, c2, c3, c4, f0, f1, f2, f3, f4⟩ := cells5 hT4.raw
      have hlen := doAll_len st.m l
      by_cases hR0 : R = 0
      · subst hR0
        have hT5 := hT4.put (st' := { st with loose := true }) 3 (.bool true) rfl ((block_set hT4.raw _).trans rfl)
        have hp5 : Opp (w4.setCell ⟨bs, 3, none⟩ (.bool true)) q l := fun i hi => by
          obtain ⟨g, off, rfl, c0, c1, c2⟩ := hp4 i hi
          have hne : g ≠ bs := by
            rintro rfl
            exact hq _ rfl (by omega) hUs
          have hbk := Below.heap_setCell w4 ⟨bs, 3, none⟩ (.bool true) g hne
          exact ⟨g, off, rfl, by simp only [World.cell?, hbk] at c0 ⊢; exact c0, by simp only [World.cell?, hbk] at c1 ⊢; exact c1, by simp only [World.cell?, hbk] at c2 ⊢; exact c2⟩
        have hdo := do_any bm st.m q qc l _ hT5.map (by omega) (by omega) hob.2 hp5
        go_wp2_with (go_at_call 115; refine hdo.mono ?_; rintro e w5 ⟨rfl, hm5, k5⟩)
        go_ret
        rw [HX.out]
        refine ⟨rfl, Sys.of v1 v2 v3 (hP4.kept (((Kp.set1 w4 bs 3 (.bool true)).mono (T := fun i => i = bs ∨ i = bm) (fun _ e => .inl e)).trans k5 (fun _ _ e => .inr e)) ?_) (bm := bm) ⟨k5.at hT5.raw (fun e => hT5.map.ne hT5.raw e), hm5, hT4.ts, hT4.tm⟩, ?_⟩
        · rintro i s (rfl | rfl)
          · exact v3 _ s hT4.ts
          · exact v3 _ s hT4.tm
        · exact (kw4.put hUs _).trans k5 (fun i _ e => by rw [e]; exact hUm)
      · have hT5 := hT4.put (st' := { st with stuck := R == 3 }) 4 (.bool (R == 3)) rfl ((block_set hT4.raw _).trans rfl)
        go_wp2
        go_ret
        rw [HX.out, if_pos hR0]
        refine ⟨rfl, Sys.of v1 v2 v3 (hP4.kept (Kp.set1 w4 bs 4 (.bool (R == 3))) (fun i s e => by rw [e] at s; exact v3 _ s hT4.ts)) hT5, kw4.put hUs _⟩
    · have hB : batchOk l = false := by simpa using e2
      have HX : Hid (batchX d st l = (1, d, st)) := by simp [Hid, batchX, e1, hB]
      go_enter Tryz.func67, Tryz.ntmps67
      go_wp2_with (first
        | (go_at_call 69; refine hw.mono ?_; rintro e w1 ⟨rfl, hb1⟩; clear hw)
        | (go_at_call 113; refine (isBatch_any q qc l w1 hl hk (hp.below hb1)).mono ?_; rintro e w2 ⟨he, hb2⟩; rw [hB] at he; subst he))
      go_ret
      rw [HX.out]
      exact ⟨rfl, ((hS.below hb1).below hb2).mono (fun _ _ s => .inl s), kp_below (kp_below (Kp.refl U w) hb1) hb2⟩
  · have HX : Hid (batchX d st l = (writable d.turn d.dead st, d, st)) := by simp [Hid, batchX, e1]
    have HE := e1
    clear e1
    generalize writable d.turn d.dead st = R at *
    go_enter Tryz.func67, Tryz.ntmps67
    go_wp2_with (go_at_call 69; refine hw.mono ?_; rintro e w1 ⟨rfl, hb1⟩; clear hw)
    go_ret
    rw [HX.out]
    exact ⟨rfl, (hS.below hb1).mono (fun _ _ s => .inl s), kp_below (Kp.refl U w) hb1⟩

end Go.Proofs.YtfghgmojnffgnaaGreat
