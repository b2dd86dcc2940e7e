import Derived.Test.YtfghgmojnffgnaaGreatPkAI
import Derived.Laws.ResultCell
set_option maxHeartbeats 4000000
set_option maxRecDepth 20000
namespace Go.Proofs.YtfghgmojnffgnaaGreat
open Go.RowKit Go.Maps Go.Sort
attribute [local go_sem ↓] Go.wp_at_zero Go.wp_at_succ
def logN : Nm := [108, 111, 103]
def newN : Nm := [108, 111, 103, 46, 110, 101, 119]
structure Sys (w : World) (U : Nat -> Prop) (bd bs : Nat) (d : Dk) (st : St) : Prop where
 ex : ∃ (S T : Nat -> Prop) (bm : Nat), (∀ k, S k -> U k) /\ (∀ k, T k -> U k) /\ (∀ k, S k -> ¬ T k) /\ ProgAt w S bd d /\ StAt w T bs bd bm st
theorem Sys.kept {w w' : World} {U V : Nat -> Prop} {bd bs : Nat} {d : Dk} {st : St} (h : Sys w U bd bs d st) (k : Kp V w w') (hV : ∀ i, U i -> ¬ V i) : Sys w' U bd bs d st := by
 obtain ⟨S, T, bm, h1, h2, h3, h4, h5⟩ := h.ex
 exact ⟨S, T, bm, h1, h2, h3, h4.kept k (fun i s => hV i (h1 i s)), h5.kept k (fun i s => hV i (h2 i s))⟩
theorem Sys.below {w w' : World} {U : Nat -> Prop} {bd bs : Nat} {d : Dk} {st : St} (h : Sys w U bd bs d st) (k : Below w.heap.size w w') : Sys w' U bd bs d st := h.kept (V := fun _ => False) (Kp.of_below k) (fun _ _ f => f)
theorem Sys.mono {w : World} {U V : Nat -> Prop} {bd bs : Nat} {d : Dk} {st : St} (h : Sys w U bd bs d st) (hV : ∀ k, k < w.heap.size -> U k -> V k) : Sys w V bd bs d st := by
 obtain ⟨S, T, bm, h1, h2, h3, h4, h5⟩ := h.ex
 exact ⟨fun k => S k /\ k < w.heap.size, fun k => T k /\ k < w.heap.size, bm, fun k s => hV k s.2 (h1 k s.1), fun k s => hV k s.2 (h2 k s.1), fun k s t => h3 k s.1 t.1, h4.mono (fun k hk s => ⟨s, hk⟩), h5.mono (fun k hk s => ⟨s, hk⟩)⟩
theorem ProgAt.raw {w : World} {S : Nat -> Prop} {b : Nat} {d : Dk} (h : ProgAt w S b d) : ∃ m r f : Value, w.heap[b]? = some (.cells #[m, r, f, .bool d.dead, .int .i64 d.turn] 129) /\ S b := by
 obtain ⟨bm, ps, hst, _⟩ := h
 exact ⟨_, _, _, hst.blk, hst.sb⟩
def batchX (d : Dk) (st : St) (l : List Ox) : Int × Dk × St :=
 if writable d.turn d.dead st ≠ 0 then (writable d.turn d.dead st, d, st)
 else if batchOk l = false then (1, d, st)
 else if (d.write logN (encode l)).1 ≠ 0 then ((d.write logN (encode l)).1, (d.write logN (encode l)).2, { st with stuck := (d.write logN (encode l)).1 == 3 })
 else (0, (d.write logN (encode l)).2, { st with loose := true, m := doAll st.m l })
theorem mixedP : Tryz.prog.follows .mixedOrders = true := by kernel_rfl
theorem ProgAt.drew {w : World} {S : Nat -> Prop} {b : Nat} {d : Dk} (h : ProgAt w S b d) : ProgAt w.drew S b d := h.kept (T := fun _ => False) ((Kp.refl _ _).drew) (fun _ _ f => f)
theorem StAt.drew {w : World} {T : Nat -> Prop} {bs bd bm : Nat} {st : St} (h : StAt w T bs bd bm st) : StAt w.drew T bs bd bm st := ⟨h.blk, h.map, h.ts, h.tm⟩
theorem ProgAt.below {w w' : World} {S : Nat -> Prop} {b : Nat} {d : Dk} (h : ProgAt w S b d) (k : Below w.heap.size w w') : ProgAt w' S b d := h.kept (T := fun _ => False) (Kp.of_below k) (fun _ _ f => f)
theorem Opp.drew {w : World} {q : Option Addr} {l : List Ox} (h : Opp w q l) : Opp w.drew q l := h
theorem kp_below {S : Nat -> Prop} {a b c : World} (h : Kp S a b) (k : Below b.heap.size b c) : Kp S a c := h.trans (T := fun _ => False) (Kp.of_below k) (fun _ _ f => f.elim)
theorem StAt.put {w : World} {T : Nat -> Prop} {bs bd bm : Nat} {st st' : St} (h : StAt w T bs bd bm st) (j : Nat) (u : Value) (hm : st'.m = st.m) (hb : (w.setCell ⟨bs, j, none⟩ u).heap[bs]? = some (stCells bd bm st')) : StAt (w.setCell ⟨bs, j, none⟩ u) T bs bd bm st' :=
 ⟨hb, by rw [hm]; exact h.map.kept (Kp.set1 w bs j u) (fun e => h.map.ne h.raw e.symm), h.ts, h.tm⟩
theorem Sys.of {w : World} {U : Nat -> Prop} {bd bs bm : Nat} {d : Dk} {st : St} {S T : Nat -> Prop} (h1 : ∀ k, S k -> U k) (h2 : ∀ k, T k -> U k) (h3 : ∀ k, S k -> ¬ T k) (h4 : ProgAt w S bd d) (h5 : StAt w T bs bd bm st) : Sys w U bd bs d st := ⟨⟨S, T, bm, h1, h2, h3, h4, h5⟩⟩
theorem sys_wrote {w w3 w4 : World} {U S T : Nat -> Prop} {bd bs bm : Nat} {st : St} (u1 : ∀ k, S k -> U k) (u2 : ∀ k, T k -> U k) (u3 : ∀ k, S k -> ¬ T k) (hT3 : StAt w3 T bs bd bm st) (kw : Kp U w w3) (k4 : Kp S w3 w4) :
   ∃ T', (∀ k, Nw S w3 k -> Nw U w k) /\ (∀ k, T' k -> Nw U w k) /\ (∀ k, Nw S w3 k -> ¬ T' k) /\ StAt w4 T' bs bd bm st /\ Kp U w w4 := by
 refine ⟨fun k => T k /\ k < w3.heap.size, ?_, ?_, ?_, ?_, kw.trans k4 (fun i _ s => u1 i s)⟩
 . rintro k (s | s)
   . exact .inl (u1 k s)
   . exact .inr (Nat.le_trans kw.size s)
 . rintro k ⟨s, _⟩; exact .inl (u2 k s)
 . rintro k (s | s) ⟨t, hlt⟩
   . exact u3 k s t
   . omega
 . exact (hT3.mono (S := fun k => T k /\ k < w3.heap.size) (fun k hk t => ⟨t, hk⟩)).kept k4 (fun i t s => u3 i s t.1)
theorem sBatch_any (bd bs : Nat) (d : Dk) (st : St) (U : Nat -> Prop) (q : Option Addr) (qc : Nat) (l : List Ox) (w : World) (hS : Sys w U bd bs d st) (hok : d.Ok) (hfl : d.files.length <= 4194302) (hml : st.m.length <= 4194300) (hl : l.length <= 1099511627776) (hk : OxLen l) (hp : Opp w q l) (hq : ∀ a, q = some a -> 0 < l.length -> ¬ U a.block) :
   Calls Tryz.prog 67 #[.pointer (some ⟨bs, 0, none⟩), .slice q l.length qc] w fun e w' => e = .returned (.int .i64 (batchX d st l).1) /\ Sys w' (Nw U w) bd bs (batchX d st l).2.1 (batchX d st l).2.2 /\ Kp U w w' := by
 obtain ⟨S, T, bm, u1, u2, u3, hP, hT⟩ := hS.ex
 obtain ⟨dm, dr, df, hd, hsd⟩ := hP.raw
 have hw := Writable_any hT hd
 have hUs := u2 _ hT.ts
 have hUm := u2 _ hT.tm
 by_cases e1 : writable d.turn d.dead st = 0
 . rw [e1] at hw
   by_cases e2 : batchOk l = true
   . have hob := (batchOk_iff.1 e2)
     have hbl := body_len e2
     have hel := encode_len l
     generalize hR : (d.write logN (encode l)).1 = R at *
     have HX : Hid (batchX d st l = if R ≠ 0 then (R, (d.write logN (encode l)).2, { st with stuck := R == 3 }) else (0, (d.write logN (encode l)).2, { st with loose := true, m := doAll st.m l })) := by simp [Hid, batchX, e1, e2, hR]
     go_enter Tryz.func67, Tryz.ntmps67
     go_wp2_with (first
       | (go_at_call 69; refine hw.mono ?_; rintro e w1 ⟨rfl, hb1⟩; clear hw)
       | (go_at_call 113; refine (isBatch_any q qc l w1 hl hk (hp.below hb1)).mono ?_; rintro e w2 ⟨he, hb2⟩; rw [e2] at he; subst he))
     have hP2 := (hP.below hb1).below hb2
     have hT2 := (hT.below hb1).below hb2
     have kw2 := kp_below (kp_below (Kp.refl U w) hb1) hb2
     have hp2 := (hp.below hb1).below hb2
     refine wp_region_E (S := fun w' => w'.cell? ⟨bs, 0, none⟩ = some (.pointer (some ⟨bd, 0, none⟩))) mixedP ?_
     have hc := (cells5 hT2.drew.raw).1
     refine tp 0 7 bs 0 rfl rfl (fun w' hS => ?_) hc ?_
     . go_simp
     refine tp 1 7 bs 0 rfl rfl (fun w' hS => ?_) hc ?_
     . go_simp
     refine tp 2 7 bs 0 rfl rfl (fun w' hS => ?_) hc ?_
     . go_simp
     refine tp 3 7 bd 0 rfl rfl (fun w' hS => ?_) hc ?_
     . go_simp
     refine tk 4 7 (.slice q l.length qc) rfl rfl (fun w' hS => ?_) hc ?_
     . go_simp
     refine wpAnyE_one (i := 5) (by kernel_rfl) rfl (by rfl) (fun K hK => ?_)
     go_simp
     refine (Encode_any q qc l w2.drew e2 hp2.drew).mono ?_
     rintro e w3 ⟨rfl, hb3⟩
     have hT3 := hT2.drew.below hb3
     have hP3 := hP2.drew.below hb3
     have kw3 := kp_below (kw2.drew) hb3
     have hp3 := hp2.drew.below hb3
     refine hK.out _ _ (cells5 hT3.raw).1 ?_
     clear hK
     refine wpAnyE_one (i := 6) (by kernel_rfl) rfl (by rfl) (fun K hK => ?_)
     go_simp
     refine (dWrite_any bd d logN (encode l) S w3 hP3 hok hfl (by decide) (by omega)).mono ?_
     rintro e w4 ⟨rfl, hP4, k4⟩
     rw [hR]
     obtain ⟨T', v1, v2, v3, hT4, kw4⟩ := sys_wrote u1 u2 u3 hT3 kw3 k4
     have hp4 : Opp w4 q l := fun i hi => by
       obtain ⟨g, off, rfl, c0, c1, c2⟩ := hp3 i hi
       have hn : ¬ S g := fun s => hq _ rfl (by omega) (u1 g s)
       have hgl := World.block_lt_of_cell? w3 ⟨g, off + i * 3, none⟩ c0
       have hbk := k4.block g hgl hn
       exact ⟨g, off, rfl, by simp only [World.cell?, hbk] at c0 ⊢; exact c0, by simp only [World.cell?, hbk] at c1 ⊢; exact c1, by simp only [World.cell?, hbk] at c2 ⊢; exact c2⟩
     refine hK.out _ _ (cells5 hT4.raw).1 ?_
     clear hK
     refine wpAnyE_last (i := 7) (by kernel_rfl) rfl (by rfl) (by kernel_rfl) (by kernel_rfl) (fun K hK => ?_)
     go_simp
     refine hK.out _ _ ?_
     clear hK hb1 hb2 hb3 hP2 hT2 kw2 hp2 hP3 hT3 kw3 hp3 hc hP hT hS
     obtain ⟨c0, c1, c2, c3, c4, f0, f1, f2, f3, f4⟩ := cells5 hT4.raw
     have hlen := doAll_len st.m l
     by_cases hR0 : R = 0
     . subst hR0
       have hT5 := hT4.put (st' := { st with loose := true }) 3 (.bool true) rfl ((block_set hT4.raw _).trans rfl)
       have hp5 : Opp (w4.setCell ⟨bs, 3, none⟩ (.bool true)) q l := fun i hi => by
         obtain ⟨g, off, rfl, c0, c1, c2⟩ := hp4 i hi
         have hne : g ≠ bs := by
           rintro rfl
           exact hq _ rfl (by omega) hUs
         have hbk := Below.heap_setCell w4 ⟨bs, 3, none⟩ (.bool true) g hne
         exact ⟨g, off, rfl, by simp only [World.cell?, hbk] at c0 ⊢; exact c0, by simp only [World.cell?, hbk] at c1 ⊢; exact c1, by simp only [World.cell?, hbk] at c2 ⊢; exact c2⟩
       have hdo := do_any bm st.m q qc l _ hT5.map (by omega) (by omega) hob.2 hp5
       go_wp2_with (go_at_call 115; refine hdo.mono ?_; rintro e w5 ⟨rfl, hm5, k5⟩)
       go_ret
       rw [HX.out]
       refine ⟨rfl, Sys.of v1 v2 v3 (hP4.kept (((Kp.set1 w4 bs 3 (.bool true)).mono (T := fun i => i = bs \/ i = bm) (fun _ e => .inl e)).trans k5 (fun _ _ e => .inr e)) ?_) (bm := bm) ⟨k5.at hT5.raw (fun e => hT5.map.ne hT5.raw e), hm5, hT4.ts, hT4.tm⟩, ?_⟩
       . rintro i s (rfl | rfl)
         . exact v3 _ s hT4.ts
         . exact v3 _ s hT4.tm
       . exact (kw4.put hUs _).trans k5 (fun i _ e => by rw [e]; exact hUm)
     . have hT5 := hT4.put (st' := { st with stuck := R == 3 }) 4 (.bool (R == 3)) rfl ((block_set hT4.raw _).trans rfl)
       go_wp2
       go_ret
       rw [HX.out, if_pos hR0]
       refine ⟨rfl, Sys.of v1 v2 v3 (hP4.kept (Kp.set1 w4 bs 4 (.bool (R == 3))) (fun i s e => by rw [e] at s; exact v3 _ s hT4.ts)) hT5, kw4.put hUs _⟩
   . have hB : batchOk l = false := by simpa using e2
     have HX : Hid (batchX d st l = (1, d, st)) := by simp [Hid, batchX, e1, hB]
     go_enter Tryz.func67, Tryz.ntmps67
     go_wp2_with (first
       | (go_at_call 69; refine hw.mono ?_; rintro e w1 ⟨rfl, hb1⟩; clear hw)
       | (go_at_call 113; refine (isBatch_any q qc l w1 hl hk (hp.below hb1)).mono ?_; rintro e w2 ⟨he, hb2⟩; rw [hB] at he; subst he))
     go_ret
     rw [HX.out]
     exact ⟨rfl, ((hS.below hb1).below hb2).mono (fun _ _ s => .inl s), kp_below (kp_below (Kp.refl U w) hb1) hb2⟩
 . have HX : Hid (batchX d st l = (writable d.turn d.dead st, d, st)) := by simp [Hid, batchX, e1]
   have HE := e1
   clear e1
   generalize writable d.turn d.dead st = R at *
   go_enter Tryz.func67, Tryz.ntmps67
   go_wp2_with (go_at_call 69; refine hw.mono ?_; rintro e w1 ⟨rfl, hb1⟩; clear hw)
   go_ret
   rw [HX.out]
   exact ⟨rfl, (hS.below hb1).mono (fun _ _ s => .inl s), kp_below (Kp.refl U w) hb1⟩
end Go.Proofs.YtfghgmojnffgnaaGreat
namespace Go.Proofs.YtfghgmojnffgnaaGreat
open Go.RowKit Go.Maps Go.Sort
def syncX (d : Dk) (st : St) : Int × Dk × St :=
 if writable d.turn d.dead st ≠ 0 then (writable d.turn d.dead st, d, st)
 else if st.loose = false then (0, d, st)
 else if (d.sync logN).1 ≠ 0 then ((d.sync logN).1, (d.sync logN).2, st)
 else (0, (d.sync logN).2, { st with loose := false })
theorem sSync_any (bd bs : Nat) (d : Dk) (st : St) (U : Nat -> Prop) (w : World) (hS : Sys w U bd bs d st) (hok : d.Ok) :
   Calls Tryz.prog 33 #[.pointer (some ⟨bs, 0, none⟩)] w fun e w' => e = .returned (.int .i64 (syncX d st).1) /\ Sys w' (Nw U w) bd bs (syncX d st).2.1 (syncX d st).2.2 /\ Kp U w w' := by
 obtain ⟨S, T, bm, u1, u2, u3, hP, hT⟩ := hS.ex
 obtain ⟨dm, dr, df, hd, hsd⟩ := hP.raw
 have hw := Writable_any hT hd
 have hUs := u2 _ hT.ts
 by_cases e1 : writable d.turn d.dead st = 0
 . rw [e1] at hw
   cases e2 : st.loose
   . have HX : Hid (syncX d st = (0, d, st)) := by simp [Hid, syncX, e1, e2]
     go_enter Tryz.func33, Tryz.ntmps33
     go_wp2_with (go_at_call 69; refine hw.mono ?_; rintro e w1 ⟨rfl, hb1⟩; clear hw; have hT1 := hT.below hb1; obtain ⟨c0, c1, c2, c3, c4, f0, f1, f2, f3, f4⟩ := cells5 hT1.raw; rw [e2] at c3)
     go_ret
     rw [HX.out]
     exact ⟨rfl, (hS.below hb1).mono (fun _ _ s => .inl s), kp_below (Kp.refl U w) hb1⟩
   . generalize hR : (d.sync logN).1 = R at *
     have HX : Hid (syncX d st = if R ≠ 0 then (R, (d.sync logN).2, st) else (0, (d.sync logN).2, { st with loose := false })) := by simp [Hid, syncX, e1, e2, hR]
     have hsy := fun w1 (hP1 : ProgAt w1 S bd d) => dSync_any bd d logN S w1 hP1 hok (by decide)
     by_cases hR0 : R = 0
     . subst hR0
       go_enter Tryz.func33, Tryz.ntmps33
       go_wp2_with (first
         | (go_at_call 69; refine hw.mono ?_; rintro e w1 ⟨rfl, hb1⟩; clear hw; have hT1 := hT.below hb1; obtain ⟨c0, c1, c2, c3, c4, f0, f1, f2, f3, f4⟩ := cells5 hT1.raw; rw [e2] at c3)
         | (go_at_call 70; refine (hsy w1 (hP.below hb1)).mono ?_; rintro e w2 ⟨rfl, hP2, k2⟩; rw [hR]; obtain ⟨T', v1, v2, v3, hT2, kw2⟩ := sys_wrote u1 u2 u3 hT1 (kp_below (Kp.refl U w) hb1) k2; obtain ⟨g0, g1, g2, g3, g4, z0, z1, z2, z3, z4⟩ := cells5 hT2.raw))
       go_ret
       rw [HX.out]
       have hT5 := hT2.put (st' := { st with loose := false }) 3 (.bool false) rfl ((block_set hT2.raw _).trans rfl)
       exact ⟨rfl, Sys.of v1 v2 v3 (hP2.kept (Kp.set1 w2 bs 3 (.bool false)) (fun i s e => by rw [e] at s; exact v3 _ s hT2.ts)) hT5, kw2.put hUs _⟩
     . go_enter Tryz.func33, Tryz.ntmps33
       go_wp2_with (first
         | (go_at_call 69; refine hw.mono ?_; rintro e w1 ⟨rfl, hb1⟩; clear hw; have hT1 := hT.below hb1; obtain ⟨c0, c1, c2, c3, c4, f0, f1, f2, f3, f4⟩ := cells5 hT1.raw; rw [e2] at c3)
         | (go_at_call 70; refine (hsy w1 (hP.below hb1)).mono ?_; rintro e w2 ⟨rfl, hP2, k2⟩; rw [hR]; obtain ⟨T', v1, v2, v3, hT2, kw2⟩ := sys_wrote u1 u2 u3 hT1 (kp_below (Kp.refl U w) hb1) k2; obtain ⟨g0, g1, g2, g3, g4, z0, z1, z2, z3, z4⟩ := cells5 hT2.raw))
       go_ret
       rw [HX.out, if_pos hR0]
       exact ⟨rfl, Sys.of v1 v2 v3 hP2 hT2, kw2⟩
 . have HX : Hid (syncX d st = (writable d.turn d.dead st, d, st)) := by simp [Hid, syncX, e1]
   have HE := e1
   clear e1
   generalize writable d.turn d.dead st = R at *
   go_enter Tryz.func33, Tryz.ntmps33
   go_wp2_with (go_at_call 69; refine hw.mono ?_; rintro e w1 ⟨rfl, hb1⟩; clear hw)
   go_ret
   rw [HX.out]
   exact ⟨rfl, (hS.below hb1).mono (fun _ _ s => .inl s), kp_below (Kp.refl U w) hb1⟩
def secureX (d : Dk) (st : St) (n : Nat) : Int × Dk × St :=
 if (d.safe logN).2 ≠ 0 then ((d.safe logN).2, d, st) else syncX d { st with loose := decide ((d.safe logN).1 < n) }
theorem secure_any (bd bs : Nat) (d : Dk) (st : St) (U : Nat -> Prop) (n : Nat) (w : World) (hS : Sys w U bd bs d st) (hok : d.Ok) :
   Calls Tryz.prog 128 #[.pointer (some ⟨bs, 0, none⟩), .int .i64 n] w fun e w' => e = .returned (.int .i64 (secureX d st n).1) /\ Sys w' (Nw U w) bd bs (secureX d st n).2.1 (secureX d st n).2.2 /\ Kp U w w' := by
 obtain ⟨S, T, bm, u1, u2, u3, hP, hT⟩ := hS.ex
 have hUs := u2 _ hT.ts
 have hsf := dSafe_any bd d logN S w hP (by decide)
 obtain ⟨c0, c1, c2, c3, c4, f0, f1, f2, f3, f4⟩ := cells5 hT.raw
 by_cases e1 : (d.safe logN).2 = 0
 . have HX : Hid (secureX d st n = syncX d { st with loose := decide ((d.safe logN).1 < n) }) := by simp [Hid, secureX, e1]
   have hT5 := hT.put (st' := { st with loose := decide ((d.safe logN).1 < n) }) 3 (.bool (decide ((d.safe logN).1 < n))) rfl ((block_set hT.raw _).trans rfl)
   have hS5 : Sys (w.setCell ⟨bs, 3, none⟩ (.bool (decide ((d.safe logN).1 < n)))) U bd bs d { st with loose := decide ((d.safe logN).1 < n) } := Sys.of u1 u2 u3 (hP.kept (Kp.set1 w bs 3 _) (fun i s e => by rw [e] at s; exact u3 _ s hT.ts)) hT5
   have hsy := sSync_any bd bs d _ U _ hS5 hok
   rw [e1] at hsf
   generalize (d.safe logN).1 = s0 at *
   have hbb : decide ((s0 : Int) < (n : Int)) = decide (s0 < n) := by simp
   go_enter Tryz.func128, Tryz.ntmps128
   go_wp2_with (first
     | (go_at_call 90; refine hsf.mono ?_; rintro e w1 ⟨rfl, rfl⟩; clear hsf)
     | (go_at_call 33; (first | refine hsy.mono ?_ | (rw [hbb]; refine hsy.mono ?_)); rintro e w2 ⟨rfl, hS2, k2⟩))
   go_ret
   rw [HX.out]
   exact ⟨rfl, hS2.mono (fun _ _ s => s.imp id (fun h => by simpa [World.setCell] using h)), ((Kp.refl U _).put hUs _).trans k2 (fun _ _ s => s)⟩
 . have HX : Hid (secureX d st n = ((d.safe logN).2, d, st)) := by simp [Hid, secureX, e1]
   generalize (d.safe logN).2 = R at *
   go_enter Tryz.func128, Tryz.ntmps128
   go_wp2_with (go_at_call 90; refine hsf.mono ?_; rintro e w1 ⟨rfl, rfl⟩; clear hsf)
   go_ret
   rw [HX.out]
   exact ⟨rfl, hS.mono (fun _ _ s => .inl s), Kp.refl _ _⟩
def opZ : Ox := ⟨[], [], false⟩
def decOpV (b : List UInt8) : Ox × Nat := (decOp b).getD (opZ, 0)
theorem ret_op {R : Ending -> World -> Prop} {tm : Array Value} {W : World} {bb : Nat} {a b c v : Value} (h2 : tm.getD 2 undef = .pointer (some ⟨bb, 0, none⟩)) (h3 : tm.getD 3 undef = v) (hb : W.heap[bb]? = some (.cells #[a, b, c] 121))
   (hR : R (.returned (.tuple #[.agg #[a, b, c], v])) W) : bodyPost Tryz.prog Tryz.f195 R Exit.ret { tmps := tm, defers := [] } W := by
 obtain ⟨c0, c1, c2, _⟩ := cells3 hb
 refine bodyPost_ret (v := .tuple #[.agg #[a, b, c], v]) ?_ rfl hR
 rw [results_cell_tmp rfl]
 show ((asAddr (tm.getD 2 undef)).run Tryz.prog W).andThen _ = _
 rw [h2, h3]
 simp [asAddr, loadVar, go_sem, c0, c1, c2]
theorem ext_bytes (l : List UInt8) (i j : Nat) : (⟨l.toArray⟩ : ByteArray).extract i j = ⟨((l.drop i).take (j - i)).toArray⟩ := by
 apply ByteArray.ext
 simp
theorem decodeOp_del (c : UInt8) (r : List UInt8) (w : World) (hl : r.length <= 1048576) (h1 : 128 <= c.toNat) :
   Calls Tryz.prog 195 #[str (c :: r)] w fun e w' => e = .returned (.tuple #[aggOp (decOpV (c :: r)).1, .int .i64 (decOpV (c :: r)).2]) /\ Below w.heap.size w w' := by
 have hz : (⟨(c :: r).toArray⟩ : ByteArray).size = r.length + 1 := rfl
 have hc0 : (⟨(c :: r).toArray⟩ : ByteArray)[0]'(by rw [hz]; omega) = c := rfl
 have hcl : c.toNat < 256 := c.toNat_lt
 have HA : bits BinOp.and IntKind.u8 (c.toNat : Int) 128 = 128 := by rw [u8_and _ hcl, if_pos h1]
 have HC : bits BinOp.andNot IntKind.u8 (c.toNat : Int) 128 = ((c.toNat - 128 : Nat) : Int) := by rw [u8_clr _ hcl]; congr 1; omega
 by_cases hg : 1 <= c.toNat - 128 /\ c.toNat - 128 <= 16 /\ 1 + (c.toNat - 128) <= r.length + 1
 . have HX : Hid (decOpV (c :: r) = (⟨r.take (c.toNat - 128), [], true⟩, 1 + (c.toNat - 128))) := by
     have hb : byteAt (c :: r) 0 = c.toNat := rfl
     simp only [Hid, decOpV, decOp, hb]
     rw [if_pos h1, if_pos (by simpa using hg)]
     rfl
   obtain ⟨g1, g2, g3⟩ := hg
   generalize hk : c.toNat - 128 = k at *
   go_enter Tryz.func195, Tryz.ntmps195
   go_wp2
   go_region
   go_wp2
   have hex : (⟨(c :: r).toArray⟩ : ByteArray).extract 1 (1 + k) = ⟨(r.take k).toArray⟩ := by rw [ext_bytes]; congr 3; omega
   refine ret_op rfl rfl (block_alloc (block_new w _)) ?_
   rw [HX.out, hex]
   exact ⟨rfl, (((Below.refl _ _).alloc (Nat.le_refl _) _).alloc (by simp) _).drew⟩
 . have HX : Hid (decOpV (c :: r) = (opZ, 0)) := by
     have hb : byteAt (c :: r) 0 = c.toNat := rfl
     simp only [Hid, decOpV, decOp, hb]
     rw [if_pos h1, if_neg (by simpa using hg)]
     rfl
   generalize hk : c.toNat - 128 = k at *
   have hg' : k < 1 \/ 16 < k \/ r.length + 1 < 1 + k := by omega
   clear hg
   go_enter Tryz.func195, Tryz.ntmps195
   go_wp2
   all_goals first
     | (refine ret_op rfl rfl (block_alloc (block_new w _)) ?_; rw [HX.out]; exact ⟨rfl, ((Below.refl _ _).alloc (Nat.le_refl _) _).alloc (by simp) _⟩)
     | (exfalso; omega)
theorem decodeOp_put (c c' : UInt8) (r : List UInt8) (w : World) (hl : r.length <= 1048576) (h1 : ¬ 128 <= c.toNat) (hg : 1 <= c.toNat /\ c.toNat <= 16 /\ c'.toNat <= 64 /\ 2 + c.toNat + c'.toNat <= r.length + 2) :
   Calls Tryz.prog 195 #[str (c :: c' :: r)] w fun e w' => e = .returned (.tuple #[aggOp ⟨r.take c.toNat, (r.drop c.toNat).take c'.toNat, false⟩, .int .i64 ((2 + c.toNat + c'.toNat : Nat) : Int)]) /\ Below w.heap.size w w' := by
 have hz : (⟨(c :: c' :: r).toArray⟩ : ByteArray).size = r.length + 2 := rfl
 have hc0 : (⟨(c :: c' :: r).toArray⟩ : ByteArray)[0]'(by rw [hz]; omega) = c := rfl
 have hc1 : (⟨(c :: c' :: r).toArray⟩ : ByteArray)[1]'(by rw [hz]; omega) = c' := rfl
 have hcl : c.toNat < 256 := c.toNat_lt
 have hcl' : c'.toNat < 256 := c'.toNat_lt
 have HA : bits BinOp.and IntKind.u8 (c.toNat : Int) 128 = 0 := by rw [u8_and _ hcl, if_neg h1]
 have HC : bits BinOp.andNot IntKind.u8 (c.toNat : Int) 128 = ((c.toNat : Nat) : Int) := by rw [u8_clr _ hcl]; congr 1; omega
 obtain ⟨g1, g2, g3, g4⟩ := hg
 have hex : Hid ((⟨(c :: c' :: r).toArray⟩ : ByteArray).extract 2 (2 + c.toNat) = ⟨(r.take c.toNat).toArray⟩) := by show _ = _; rw [ext_bytes]; congr 3; omega
 have hex2 : Hid ((⟨(c :: c' :: r).toArray⟩ : ByteArray).extract (2 + c.toNat) (2 + c.toNat + c'.toNat) = ⟨((r.drop c.toNat).take c'.toNat).toArray⟩) := by
   show _ = _
   rw [ext_bytes, show 2 + c.toNat = c.toNat + 1 + 1 by omega]
   simp only [List.drop_succ_cons]
   congr 3; omega
 generalize hK : c.toNat = k at *
 generalize hV : c'.toNat = v at *
 go_enter Tryz.func195, Tryz.ntmps195
 go_wp2
 go_region
 go_wp2
 go_region
 go_wp2
 refine ret_op rfl rfl (block_alloc (block_new w _)) ?_
 rw [hex.out, hex2.out]
 exact ⟨rfl, (((Below.refl _ _).alloc (Nat.le_refl _) _).alloc (by simp) _).drew.drew⟩
theorem decodeOp_bad (c c' : UInt8) (r : List UInt8) (w : World) (hl : r.length <= 1048576) (h1 : ¬ 128 <= c.toNat) (hg : ¬ (1 <= c.toNat /\ c.toNat <= 16 /\ c'.toNat <= 64 /\ 2 + c.toNat + c'.toNat <= r.length + 2)) :
   Calls Tryz.prog 195 #[str (c :: c' :: r)] w fun e w' => e = .returned (.tuple #[aggOp opZ, .int .i64 0]) /\ Below w.heap.size w w' := by
 have hz : (⟨(c :: c' :: r).toArray⟩ : ByteArray).size = r.length + 2 := rfl
 have hc0 : (⟨(c :: c' :: r).toArray⟩ : ByteArray)[0]'(by rw [hz]; omega) = c := rfl
 have hc1 : (⟨(c :: c' :: r).toArray⟩ : ByteArray)[1]'(by rw [hz]; omega) = c' := rfl
 have hcl : c.toNat < 256 := c.toNat_lt
 have hcl' : c'.toNat < 256 := c'.toNat_lt
 have HA : bits BinOp.and IntKind.u8 (c.toNat : Int) 128 = 0 := by rw [u8_and _ hcl, if_neg h1]
 have HC : bits BinOp.andNot IntKind.u8 (c.toNat : Int) 128 = ((c.toNat : Nat) : Int) := by rw [u8_clr _ hcl]; congr 1; omega
 generalize hK : c.toNat = k at *
 generalize hV : c'.toNat = v at *
 rcases (by omega : k < 1 \/ (1 <= k /\ 16 < k) \/ (1 <= k /\ k <= 16 /\ 64 < v) \/ (1 <= k /\ k <= 16 /\ v <= 64 /\ r.length + 2 < 2 + k + v)) with g1 | ⟨g1, g2⟩ | ⟨g1, g2, g3⟩ | ⟨g1, g2, g3, g4⟩
 all_goals
   clear hg
   go_enter Tryz.func195, Tryz.ntmps195
   go_wp2
   go_region
   go_wp2
   refine ret_op rfl rfl (block_alloc (block_new w _)) ?_
   exact ⟨rfl, (((Below.refl _ _).alloc (Nat.le_refl _) _).alloc (by simp) _).drew⟩
theorem decodeOp_one (c : UInt8) (w : World) (h1 : ¬ 128 <= c.toNat) :
   Calls Tryz.prog 195 #[str [c]] w fun e w' => e = .returned (.tuple #[aggOp opZ, .int .i64 0]) /\ Below w.heap.size w w' := by
 have hz : (⟨[c].toArray⟩ : ByteArray).size = 1 := rfl
 have hc0 : (⟨[c].toArray⟩ : ByteArray)[0]'(by rw [hz]; omega) = c := rfl
 have hcl : c.toNat < 256 := c.toNat_lt
 have HA : bits BinOp.and IntKind.u8 (c.toNat : Int) 128 = 0 := by rw [u8_and _ hcl, if_neg h1]
 have HC : bits BinOp.andNot IntKind.u8 (c.toNat : Int) 128 = ((c.toNat : Nat) : Int) := by rw [u8_clr _ hcl]; congr 1; omega
 generalize hK : c.toNat = k at *
 go_enter Tryz.func195, Tryz.ntmps195
 go_wp2
 refine ret_op rfl rfl (block_alloc (block_new w _)) ?_
 exact ⟨rfl, ((Below.refl _ _).alloc (Nat.le_refl _) _).alloc (by simp) _⟩
theorem decodeOp_any (c : UInt8) (r : List UInt8) (w : World) (hl : r.length <= 1048576) :
   Calls Tryz.prog 195 #[str (c :: r)] w fun e w' => e = .returned (.tuple #[aggOp (decOpV (c :: r)).1, .int .i64 (decOpV (c :: r)).2]) /\ Below w.heap.size w w' := by
 by_cases h1 : 128 <= c.toNat
 . exact decodeOp_del c r w hl h1
 . have hb : byteAt (c :: r) 0 = c.toNat := rfl
   cases r with
   | nil =>
     have HX : decOpV [c] = (opZ, 0) := by
       simp only [decOpV, decOp, hb]
       rw [if_neg h1, if_neg (by simp)]
       rfl
     rw [HX]
     exact decodeOp_one c w h1
   | cons c' r' =>
     have hb1 : byteAt (c :: c' :: r') 1 = c'.toNat := rfl
     have hl' : r'.length <= 1048576 := by simp at hl; omega
     by_cases hg : 1 <= c.toNat /\ c.toNat <= 16 /\ c'.toNat <= 64 /\ 2 + c.toNat + c'.toNat <= r'.length + 2
     . have HX : decOpV (c :: c' :: r') = (⟨r'.take c.toNat, (r'.drop c.toNat).take c'.toNat, false⟩, 2 + c.toNat + c'.toNat) := by
         simp only [decOpV, decOp, hb, hb1]
         rw [if_neg h1, if_pos (by simp; omega)]
         rw [show 2 + c.toNat = c.toNat + 1 + 1 by omega]
         rfl
       rw [HX]
       exact decodeOp_put c c' r' w hl' h1 hg
     . have HX : decOpV (c :: c' :: r') = (opZ, 0) := by
         simp only [decOpV, decOp, hb, hb1]
         rw [if_neg h1, if_neg (by simp; omega)]
         rfl
       rw [HX]
       exact decodeOp_bad c c' r' w hl' h1 hg
end Go.Proofs.YtfghgmojnffgnaaGreat
