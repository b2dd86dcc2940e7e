import Derived.Test.YtoabedkcieindaaGreatDoorPkBI
namespace Go.Proofs.YtoabedkcieindaaGreatDoor
open Go.RowKit Go.Maps Go.Sort Go.Shelf

theorem CmPost.via {w w1 w2 : World} {S E S1 E1 : Nat → Prop} {T bd bm bsn : Nat} {r : Int × Dk × Ls} (h : CmPost w1 w2 S1 E1 T bd bm bsn r) (hz : w.heap.size ≤ w1.heap.size) (hS : ∀ k, S1 k → Nw S w k) (hE : ∀ k, E1 k → Nw E w k) : CmPost w w2 S E T bd bm bsn r := by
  obtain ⟨S', E', s', l', h1, h2, h3⟩ := h
  exact ⟨S', E', s', l', fun k hk => (h1 k hk).elim (hS k) (fun h => .inr (Nat.le_trans hz h)), fun k hk => (h2 k hk).elim (hE k) (fun h => .inr (Nat.le_trans hz h)), h3⟩
theorem Opp.kept {w w' : World} {S : Nat → Prop} {q : Option Addr} {l : List Ox} (h : Opp w q l) (k : Kp S w w') (hq : ∀ a, q = some a → 0 < l.length → ¬ S a.block) : Opp w' q l := fun i hi => by
  obtain ⟨g, off, rfl, c0, c1, c2⟩ := h i hi
  have hbk := k.block g (World.block_lt_of_cell? w ⟨g, off + i * 3, none⟩ c0) (hq _ rfl (by omega))
  exact ⟨g, off, rfl, by rw [World.cell?_of_block hbk]; exact c0, by rw [World.cell?_of_block hbk]; exact c1, by rw [World.cell?_of_block hbk]; exact c2⟩

theorem batch_mid {w w4 w5 w8 w9 w10 : World} {S E : Nat → Prop} {T bd bm bsn : Nat} {s : Sl} {l : List Tr} {d d1 : Dk} {st st1 : Ls} (h : Lsy w S E T bd bm bsn s l d st) (hB4 : Below w.heap.size w w4) (hP5 : ProgAt w5 (Nw (fun k => S k ∧ k < w.heap.size) w4) bd d1) (k5 : Kp (fun k => S k ∧ k < w.heap.size) w4 w5) (k8 : Kp (fun i => i = T) w5 w8)
    (hb8 : w8.heap[T]? = some (lsC bd bm bsn s { st1 with mem := st.mem })) (hs1 : st1.snaps = []) (ht1 : st1.tabs = st.tabs) (b9 : Below w8.heap.size w8 w9) (hm : MemAt w10 (Nw E w9) bm st1.mem) (hne : ∀ x ∈ st1.mem, x.2 ≠ []) (k10 : Kp (fun i => i = bm) w9 w10) :
    ∃ S1 E1, Lsy w10 S1 E1 T bd bm bsn s l d1 st1 ∧ (∀ k, S1 k → Nw S w k) ∧ (∀ k, E1 k → Nw E w k) ∧ (∀ k, S1 k → k < w.heap.size → S k) ∧ Kp (fun k => S k ∨ k = T ∨ k = bm) w w10 := by
  have hT := lt_of_block h.at_.blk
  have hM := h.at_.mem.lt
  have hN := lt_of_block h.at_.snp
  have z4 := hB4.size
  have z5 := k5.size
  have z8 := k8.size
  have z9 := b9.size
  have z10 := k10.size
  have hL5 : LsAt w5 E T bd bm bsn s l st := (h.at_.below hB4).kept k5 (fun x => h.nT x.1) (fun x => h.nm x.1) (fun x => h.nn x.1) (fun k hk x => h.dj k hk x.1)
  have hL8 : LsAt w8 E T bd bm bsn s l { st1 with mem := st.mem } := hL5.recell k8 hb8 rfl hs1 ht1
  have hL9 := hL8.below b9
  have hm' : MemAt w10 (fun i => Nw E w9 i ∧ i < w10.heap.size) bm st1.mem := by
    obtain ⟨xs, e, hx, hy⟩ := hm
    refine ⟨xs, e, hx, fun x hxx => ⟨(hy x hxx).1, fun a ha => ⟨(hy x hxx).2 a ha, ?_⟩⟩⟩
    have hn : x.2.2 ≠ [] := hne (x.1, x.2.2) (by rw [← e]; exact List.mem_map.2 ⟨x, hxx, rfl⟩)
    have hpos : 0 < x.2.2.length := by
      cases hx2 : x.2.2 with
      | nil => exact absurd hx2 hn
      | cons a b => simp
    obtain ⟨g, off, hq, c0, _⟩ := (hy x hxx).1.row 0 hpos
    rw [ha] at hq
    cases hq
    exact World.block_lt_of_cell? w10 _ c0
  have hL10 : LsAt w10 (fun i => Nw E w9 i ∧ i < w10.heap.size) T bd bm bsn s l st1 := hL9.remem k10 hm' rfl hs1 rfl
  have hTm : T ≠ bm := h.at_.mem.ne h.at_.blk
  refine ⟨fun k => Nw (fun k => S k ∧ k < w.heap.size) w4 k ∧ k < w5.heap.size, _, ⟨?_, hL10, fun k hk hs => ?_, fun hs => ?_, fun hs => ?_, fun hs => ?_⟩, fun k hk => ?_, fun k hk => ?_, fun k hk hlt => ?_, ?_⟩
  · have p5 : ProgAt w5 (fun k => Nw (fun k => S k ∧ k < w.heap.size) w4 k ∧ k < w5.heap.size) bd d1 := hP5.mono (fun k hk x => ⟨x, hk⟩)
    have p8 := p5.kept k8 (fun i hi e => by subst e; rcases hi.1 with x | x; exact h.nT x.1; omega)
    have p9 := progBelow p8 b9
    exact p9.kept k10 (fun i hi e => by subst e; rcases hi.1 with x | x; exact h.nm x.1; omega)
  · rcases hk.1 with x | x
    · rcases hs.1 with y | y
      · exact h.dj k x y.1
      · have := h.at_.bnd k x; omega
    · omega
  · rcases hs.1 with x | x
    · exact h.nT x.1
    · omega
  · rcases hs.1 with x | x
    · exact h.nm x.1
    · omega
  · rcases hs.1 with x | x
    · exact h.nn x.1
    · omega
  · rcases hk.1 with x | x
    · exact .inl x.1
    · exact .inr (by omega)
  · rcases hk.1 with x | x
    · exact .inl x
    · exact .inr (by omega)
  · rcases hk.1 with x | x
    · exact x.1
    · omega
  · have a1 : Kp (fun k => S k ∨ k = T ∨ k = bm) w w4 := Kp.of_below hB4
    have a2 := a1.trans k5 (fun i _ x => .inl x.1)
    have a3 := a2.trans k8 (fun i _ x => .inr (.inl x))
    have a4 := a3.trans (T := fun _ => False) (Kp.of_below b9) (fun _ _ f => f.elim)
    exact a4.trans k10 (fun i _ x => .inr (.inr x))


theorem Lst.loglen {d : Dk} {s : Ls} {M : Mp} {n : Nat} (h : Lst d s M n) : s.len ≤ 88 * n := by
  obtain ⟨bs, m, hl, e, hb⟩ := h.lin
  have := logOf_len (bs := bs) hl.dur.says.bok
  omega
theorem Lst.batchX {d : Dk} {s : Ls} {M : Mp} {n : Nat} (h : Lst d s M n) {l : List Ox} (hb : batchOk l = true) (hn : n + l.length ≤ 110) :
    lbatchX d s l = (0, (tendX (d.write (lgN s.log) (encode l)).2 (withB s l)).2) ∧ Lst (lbatchX d s l).2.1 (lbatchX d s l).2.2 (doAll M l) (n + l.length) ∧ (lbatchX d s l).2.2.policy = s.policy := by
  obtain ⟨a1, a2⟩ := h.append hb hn
  obtain ⟨t1, t2, t3⟩ := a2.tend hn
  have e : lbatchX d s l = (0, (tendX (d.write (lgN s.log) (encode l)).2 (withB s l)).2) := by
    unfold lbatchX
    rw [if_neg (by rw [h.writ]; simp), if_neg (by rw [hb]; simp)]
    simp only
    rw [if_neg (by rw [a1]; simp)]
    unfold outX
    have hs : ({ s with loose := true, len := s.len + (encode l).length, batch := s.batch + 1, mem := doM (s.batch + 1) s.lastSnap s.mem l } : Ls) = withB s l := rfl
    rw [hs, t2.stl.al, t1]
    rfl
  rw [e]
  exact ⟨rfl, t2, t3⟩

set_option maxHeartbeats 1000000 in
set_option maxRecDepth 20000 in
theorem sBatch_good (T bd bm bsn : Nat) (s : Sl) (l : List Tr) (d : Dk) (st : Ls) (S E : Nat → Prop) (M : Mp) (n : Nat) (q : Option Addr) (qc : Nat) (ops : List Ox) (w : World) (h : Lsy w S E T bd bm bsn s l d st) (hl : Lst d st M n) (hb : batchOk ops = true) (hn : n + ops.length ≤ 110) (hk : OxLen ops) (hp : Opp w q ops) (hq : ∀ a, q = some a → 0 < ops.length → ¬ S a.block ∧ a.block ≠ T) :
    Calls Tryz.prog 63 #[.pointer (some ⟨T, 0, none⟩), .slice q ops.length qc] w fun e w' => e = .returned (.int .i64 0) ∧ CmPost w w' S E T bd bm bsn (lbatchX d st ops) ∧ Kp (fun k => S k ∨ k = T ∨ k = bm) w w' := by
  obtain ⟨eX, hlX, _⟩ := hl.batchX hb hn
  obtain ⟨a1, a2⟩ := hl.append hb hn
  obtain ⟨dm, dr, df, hd, _⟩ := h.prog.raw
  have hw := lWritable_any h.at_ hd
  rw [hl.lwr.1] at hw
  clear hd
  have hbl := batchOk_iff.1 hb
  have hbo := (body_len hb).2
  have hel := encode_len ops
  have hib := fun w1 (hb1 : Below w.heap.size w w1) => isBatch_any q qc ops w1 (by omega) hk (hp.below hb1)
  rw [hb] at hib
  have hen := fun w1 (hb1 : Below w.heap.size w w1) => Encode_any q qc ops w1 hb (hp.below hb1)
  have hlg := hl.log
  have hlN := fun w1 => logName_any st.log w1 (by omega)
  obtain ⟨r1, r2⟩ := hl.room (by omega)
  have hfew := hl.few
  have hP0 : ProgAt w (fun k => S k ∧ k < w.heap.size) bd d := h.prog.mono (fun k hk s => ⟨s, hk⟩)
  have hWr := fun w4 (hb4 : Below w.heap.size w w4) => dWrite_any bd d (lgN st.log) (encode ops) (fun k => S k ∧ k < w.heap.size) w4 (progBelow hP0 hb4) hl.ok (by omega) (by have := lgN_ok st.log; simp only [nameOk, Bool.and_eq_true, decide_eq_true_eq] at this; omega) (by omega)
  rw [a1] at hWr
  have c0 := h.at_.cell 0
  have c6 := h.at_.cell 6
  have HLB : Hid (lbatchX d st ops = (0, (tendX (d.write (lgN st.log) (encode ops)).2 (withB st ops)).2)) := eX
  have hOL : ops.length ≤ 8 := hbl.1.2
  have hop := hbl.2
  have hel' : (encode ops).length ≤ 1000000 := by omega
  clear eX a1 hbl hbo r1 r2 hfew hel
  generalize hD : (d.write (lgN st.log) (encode ops)).2 = d1 at *
  generalize hTX : encode ops = tx at *
  have HTX : Hid (encode ops = tx) := hTX
  have hlen5 := hl.loglen
  have hbat := hl.bat
  clear hD hb hTX
  go_enter Tryz.func63, Tryz.ntmps63
  go_wp2_with (first
    | (go_at_call 96; refine hw.mono ?_; rintro e w1 ⟨rfl, hb1⟩; have hib1 := hib w1 hb1; clear hw hib)
    | (go_at_call 107; refine hib1.mono ?_; rintro e w2 ⟨rfl, hb2⟩; have hB2 := hb1.trans (hb2.mono hb1.size); have hen2 := hen w2 hB2; clear hib1 hen)
    | (go_at_call 108; refine hen2.mono ?_; rintro e w3 ⟨rfl, hb3⟩; have hB3 := hB2.trans (hb3.mono hB2.size); clear hen2 hB2 hb1 hb2 hb3))
  have hB3d : Below w.heap.size w w3.drew := hB3.trans ((Below.refl _ w3).drew.mono hB3.size)
  refine wp_calm ?_
  refine wp_region_E (S := fun w' => w'.cell? ⟨T, 0, none⟩ = some (.pointer (some ⟨bd, 0, none⟩)) ∧ w'.cell? ⟨T, 6, none⟩ = some (.int .i64 st.log)) mixedP ?_
  have hc : w3.drew.cell? ⟨T, 0, none⟩ = some (.pointer (some ⟨bd, 0, none⟩)) ∧ w3.drew.cell? ⟨T, 6, none⟩ = some (.int .i64 st.log) := ⟨cell_below hB3d c0, cell_below hB3d c6⟩
  refine wpAnyE_take (i := 0) (L := 1) (v := .pointer (some ⟨T, 0, none⟩)) rfl rfl (by decide) (by kernel_rfl) (by kernel_rfl) (by kernel_rfl) (by kernel_rfl) (by kernel_rfl) (fun _ _ _ h => h) (Or.inl ⟨by rfl, fun w' hS => ?_⟩) hc ?_
  · go_simp
  refine wpAnyE_take (i := 1) (L := 2) (v := .pointer (some ⟨T, 0, none⟩)) rfl rfl (by decide) (by kernel_rfl) (by kernel_rfl) (by kernel_rfl) (by kernel_rfl) (by kernel_rfl) (fun _ _ _ h => h) (Or.inl ⟨by rfl, fun w' hS => ?_⟩) hc ?_
  · go_simp
  refine wpAnyE_take (i := 2) (L := 3) (v := .pointer (some ⟨T, 0, none⟩)) rfl rfl (by decide) (by kernel_rfl) (by kernel_rfl) (by kernel_rfl) (by kernel_rfl) (by kernel_rfl) (fun _ _ _ h => h) (Or.inl ⟨by rfl, fun w' hS => ?_⟩) hc ?_
  · go_simp
  refine wpAnyE_take (i := 3) (L := 10) (v := .pointer (some ⟨bd, 0, none⟩)) rfl rfl (by decide) (by kernel_rfl) (by kernel_rfl) (by kernel_rfl) (by kernel_rfl) (by kernel_rfl) (fun _ _ _ h => h) (Or.inl ⟨by rfl, fun w' hS => ?_⟩) hc ?_
  · obtain ⟨u0, u6⟩ := hS; go_simp
  refine wpAnyE_take (i := 4) (L := 5) (v := .pointer (some ⟨T, 0, none⟩)) rfl rfl (by decide) (by kernel_rfl) (by kernel_rfl) (by kernel_rfl) (by kernel_rfl) (by kernel_rfl) (fun _ _ _ h => h) (Or.inl ⟨by rfl, fun w' hS => ?_⟩) hc ?_
  · go_simp
  refine wpAnyE_take (i := 5) (L := 6) (v := .pointer (some ⟨T, 0, none⟩)) rfl rfl (by decide) (by kernel_rfl) (by kernel_rfl) (by kernel_rfl) (by kernel_rfl) (by kernel_rfl) (fun _ _ _ h => h) (Or.inl ⟨by rfl, fun w' hS => ?_⟩) hc ?_
  · go_simp
  refine wpAnyE_take (i := 6) (L := 7) (v := .pointer (some ⟨T, 6, none⟩)) rfl rfl (by decide) (by kernel_rfl) (by kernel_rfl) (by kernel_rfl) (by kernel_rfl) (by kernel_rfl) (fun _ _ _ h => h) (Or.inl ⟨by rfl, fun w' hS => ?_⟩) hc ?_
  · go_simp
  refine wpAnyE_take (i := 7) (L := 8) (v := .int .i64 st.log) rfl rfl (by decide) (by kernel_rfl) (by kernel_rfl) (by kernel_rfl) (by kernel_rfl) (by kernel_rfl) (fun _ _ _ h => h) (Or.inl ⟨by rfl, fun w' hS => ?_⟩) hc ?_
  · obtain ⟨u0, u6⟩ := hS; go_simp
  refine wpAnyE_take (i := 9) (L := 10) (v := str tx) rfl rfl (by decide) (by kernel_rfl) (by kernel_rfl) (by kernel_rfl) (by kernel_rfl) (by kernel_rfl) (fun _ _ _ h => h) (Or.inl ⟨by rfl, fun w' hS => ?_⟩) hc ?_
  · go_simp
  refine wpAnyE_one (i := 8) (by kernel_rfl) rfl (by rfl) (fun K hK => ?_)
  go_simp
  refine (hlN _).mono ?_
  rintro e w4 ⟨rfl, hb4⟩
  have hB4 := hB3d.trans (hb4.mono hB3d.size)
  refine hK.out _ _ ⟨cell_below hB4 c0, cell_below hB4 c6⟩ ?_
  clear hK
  refine wpAnyE_one (i := 10) (by kernel_rfl) rfl (by rfl) (fun K hK => ?_)
  go_simp
  refine (hWr w4 hB4).mono ?_
  rintro e w5 ⟨rfl, hP5, k5⟩
  have hL5 : LsAt w5 E T bd bm bsn s l st := (h.at_.below hB4).kept k5 (fun x => h.nT x.1) (fun x => h.nm x.1) (fun x => h.nn x.1) (fun k hk x => h.dj k hk x.1)
  refine hK.out _ _ ⟨hL5.cell 0, hL5.cell 6⟩ ?_
  clear hK
  refine wpAnyE_last (i := 11) (by kernel_rfl) rfl (by rfl) (by kernel_rfl) (by kernel_rfl) (fun K hK => ?_)
  go_simp
  refine hK.out _ _ ?_
  clear hK hc hWr hlN c0 c6
  have c7 : w5.cell? ⟨T, 7, none⟩ = some (.int .i64 st.len) := hL5.cell 7
  have c8 : w5.cell? ⟨T, 8, none⟩ = some (.int .i64 st.batch) := hL5.cell 8
  have c11 : w5.cell? ⟨T, 11, none⟩ = some (.bool st.loose) := hL5.cell 11
  have z7 := hL5.frozen 7
  have z8 := hL5.frozen 8
  have z11 := hL5.frozen 11
  go_wp2
  have hL8f := fun W8 (k8 : Kp (fun i => i = T) w5 W8) (hb8 : W8.heap[T]? = some (lsC bd bm bsn s { withB st ops with mem := st.mem })) => hL5.recell (st' := { withB st ops with mem := st.mem }) k8 hb8 rfl h.at_.sn0 rfl
  have k8 : Kp (fun i => i = T) w5 (((w5.setCell ⟨T, 11, none⟩ (.bool true)).setCell ⟨T, 7, none⟩ (.int .i64 (↑st.len + ↑tx.length))).setCell ⟨T, 8, none⟩ (.int .i64 (st.batch + 1))) := ((Kp.set1 w5 T 11 _).trans (Kp.set1 _ T 7 _) (fun _ _ h => h)).trans (Kp.set1 _ T 8 _) (fun _ _ h => h)
  have hb8 : (((w5.setCell ⟨T, 11, none⟩ (.bool true)).setCell ⟨T, 7, none⟩ (.int .i64 (↑st.len + ↑tx.length))).setCell ⟨T, 8, none⟩ (.int .i64 (st.batch + 1))).heap[T]? = some (lsC bd bm bsn s { withB st ops with mem := st.mem }) := by
    have := block_set (j := 8) (block_set (j := 7) (block_set (j := 11) hL5.blk (.bool true)) (.int .i64 (↑st.len + ↑tx.length))) (.int .i64 (st.batch + 1))
    rw [this]
    simp [lsC, withB, HTX.out]
  generalize ((w5.setCell ⟨T, 11, none⟩ (.bool true)).setCell ⟨T, 7, none⟩ (.int .i64 (↑st.len + ↑tx.length))).setCell ⟨T, 8, none⟩ (.int .i64 (st.batch + 1)) = w8 at *
  have hL8 := hL8f w8 k8 hb8
  have hL8d := hL8.below ((Below.refl _ w8).drew)
  clear hL8f c7 c8 c11 z7 z8 z11
  have hLS := lastSnap_nil T bsn w8.drew (hL8d.cell 9) hL8d.snp
  have hents := hl.ents
  have hml := hl.memlen
  refine wp_calm ?_
  refine wp_region_E (S := fun w' => w'.cell? ⟨T, 3, none⟩ = some (.map (some bm)) ∧ w'.cell? ⟨T, 8, none⟩ = some (.int .i64 (st.batch + 1))) mixedP ?_
  have hc : w8.drew.cell? ⟨T, 3, none⟩ = some (.map (some bm)) ∧ w8.drew.cell? ⟨T, 8, none⟩ = some (.int .i64 (st.batch + 1)) := ⟨hL8d.cell 3, hL8d.cell 8⟩
  refine wpAnyE_take (i := 0) (L := 1) (v := .pointer (some ⟨T, 0, none⟩)) rfl rfl (by decide) (by kernel_rfl) (by kernel_rfl) (by kernel_rfl) (by kernel_rfl) (by kernel_rfl) (fun _ _ _ h => h) (Or.inl ⟨by rfl, fun w' hS => ?_⟩) hc ?_
  · go_simp
  refine wpAnyE_take (i := 1) (L := 2) (v := .pointer (some ⟨T, 0, none⟩)) rfl rfl (by decide) (by kernel_rfl) (by kernel_rfl) (by kernel_rfl) (by kernel_rfl) (by kernel_rfl) (fun _ _ _ h => h) (Or.inl ⟨by rfl, fun w' hS => ?_⟩) hc ?_
  · go_simp
  refine wpAnyE_take (i := 2) (L := 3) (v := .pointer (some ⟨T, 3, none⟩)) rfl rfl (by decide) (by kernel_rfl) (by kernel_rfl) (by kernel_rfl) (by kernel_rfl) (by kernel_rfl) (fun _ _ _ h => h) (Or.inl ⟨by rfl, fun w' hS => ?_⟩) hc ?_
  · go_simp
  refine wpAnyE_take (i := 3) (L := 11) (v := .map (some bm)) rfl rfl (by decide) (by kernel_rfl) (by kernel_rfl) (by kernel_rfl) (by kernel_rfl) (by kernel_rfl) (fun _ _ _ h => h) (Or.inl ⟨by rfl, fun w' hS => ?_⟩) hc ?_
  · obtain ⟨u3, u8⟩ := hS; go_simp
  refine wpAnyE_take (i := 4) (L := 11) (v := .slice q ops.length qc) rfl rfl (by decide) (by kernel_rfl) (by kernel_rfl) (by kernel_rfl) (by kernel_rfl) (by kernel_rfl) (fun _ _ _ h => h) (Or.inl ⟨by rfl, fun w' hS => ?_⟩) hc ?_
  · go_simp
  refine wpAnyE_take (i := 5) (L := 6) (v := .pointer (some ⟨T, 0, none⟩)) rfl rfl (by decide) (by kernel_rfl) (by kernel_rfl) (by kernel_rfl) (by kernel_rfl) (by kernel_rfl) (fun _ _ _ h => h) (Or.inl ⟨by rfl, fun w' hS => ?_⟩) hc ?_
  · go_simp
  refine wpAnyE_take (i := 6) (L := 7) (v := .pointer (some ⟨T, 0, none⟩)) rfl rfl (by decide) (by kernel_rfl) (by kernel_rfl) (by kernel_rfl) (by kernel_rfl) (by kernel_rfl) (fun _ _ _ h => h) (Or.inl ⟨by rfl, fun w' hS => ?_⟩) hc ?_
  · go_simp
  refine wpAnyE_take (i := 7) (L := 8) (v := .pointer (some ⟨T, 8, none⟩)) rfl rfl (by decide) (by kernel_rfl) (by kernel_rfl) (by kernel_rfl) (by kernel_rfl) (by kernel_rfl) (fun _ _ _ h => h) (Or.inl ⟨by rfl, fun w' hS => ?_⟩) hc ?_
  · go_simp
  refine wpAnyE_take (i := 8) (L := 11) (v := .int .i64 (st.batch + 1)) rfl rfl (by decide) (by kernel_rfl) (by kernel_rfl) (by kernel_rfl) (by kernel_rfl) (by kernel_rfl) (fun _ _ _ h => h) (Or.inl ⟨by rfl, fun w' hS => ?_⟩) hc ?_
  · obtain ⟨u3, u8⟩ := hS; go_simp
  refine wpAnyE_take (i := 9) (L := 10) (v := .pointer (some ⟨T, 0, none⟩)) rfl rfl (by decide) (by kernel_rfl) (by kernel_rfl) (by kernel_rfl) (by kernel_rfl) (by kernel_rfl) (fun _ _ _ h => h) (Or.inl ⟨by rfl, fun w' hS => ?_⟩) hc ?_
  · go_simp
  refine wpAnyE_one (i := 10) (by kernel_rfl) rfl (by rfl) (fun K hK => ?_)
  go_simp
  refine hLS.mono ?_
  rintro e w9 ⟨rfl, hb9⟩
  have hB9 : Below w8.heap.size w8 w9 := (Below.refl _ w8).drew.trans hb9
  have hL9 := hL8.below hB9
  refine hK.out _ _ ⟨hL9.cell 3, hL9.cell 8⟩ ?_
  clear hK
  have hp9 : Opp w9 q ops := ((((hp.below hB4).kept k5 (fun a ha h0 hs => (hq a ha h0).1 hs.1)).kept k8 (fun a ha h0 => (hq a ha h0).2)).below hB9)
  have hMd := mdo_any bm E st.mem q qc ops (st.batch + 1) (-1) w9 hL9.mem (by omega) (by omega) (by omega) hop hp9
  refine wpAnyE_last (i := 11) (by kernel_rfl) rfl (by rfl) (by kernel_rfl) (by kernel_rfl) (fun K hK => ?_)
  go_simp
  refine hMd.mono ?_
  rintro e w10 ⟨rfl, hm10, k10⟩
  refine hK.out _ _ ?_
  clear hK hc hMd hLS
  have hsn : (withB st ops).mem = doM (st.batch + 1) (-1) st.mem ops := by show doM _ _ _ _ = _; rw [hl.snap]
  rw [← hsn] at hm10
  obtain ⟨S1, E1, hY, q1, q2, q3, k110⟩ := batch_mid (st1 := withB st ops) h hB4 hP5 k5 k8 hb8 h.at_.sn0 rfl hB9 hm10 (fun x hx => (a2.mok.2 x hx).2.1) k10
  have hTd := tend_good T bd bm bsn s l d1 (withB st ops) S1 E1 _ _ w10 hY a2 hn
  have hTl := a2.tend hn
  have hal := hTl.2.1.stl.al
  have z10 := k110.size
  generalize tendX d1 (withB st ops) = X at *
  clear hL5 hL8 hL8d hL9 hp9 hm10 k10 k8 k5 hP5
  go_wp2_with (first
    | (go_at_call 112; refine hTd.mono ?_; rintro e w11 ⟨rfl, hc11, k11⟩; obtain ⟨S', E', s', l', h1', h2', h3', h4', h5', h6', hP2, hL2⟩ := id hc11; obtain ⟨m2, r2, f2, hd2, _⟩ := hP2.raw; rw [hal] at hd2; have hO := outcome_any (e0 := 0) (hL2.cell 0) hd2; simp only [Bool.false_eq_true, if_false] at hO; clear h1' h2' h3' h4' h5' h6' hP2 hL2 hd2 hTd hal)
    | (go_at_call 111; refine hO.mono ?_; rintro e w12 ⟨rfl, rfl⟩))
  go_ret
  refine ⟨rfl, ?_, ?_⟩
  · rw [HLB.out]
    exact hc11.via z10 q1 q2
  · exact k110.trans k11 (fun i hi x => x.imp (fun x => q3 i x hi) id)

end Go.Proofs.YtoabedkcieindaaGreatDoor

namespace Go.Proofs.YtoabedkcieindaaGreatDoor
open Go.RowKit Go.Maps Go.Sort Go.Shelf

theorem getF_head_none {α : Type} {x : Nm × α} {l : List (Nm × α)} (h : rising (x :: l)) : getF x.1 l = none :=
  getF_off fun y hy e => by
    have := (List.pairwise_cons.1 h).1 y hy
    rw [e, WideAt.bytes_irrefl] at this
    cases this
theorem rising_ext {α : Type} : ∀ {l m : List (Nm × α)}, rising l → rising m → (∀ k, getF k l = getF k m) → l = m
  | [], [], _, _, _ => rfl
  | [], y :: m, _, _, h => by have := h y.1; simp [getF] at this
  | x :: l, [], _, _, h => by have := h x.1; simp [getF] at this
  | x :: l, y :: m, hl, hm, h => by
    have hx := h x.1
    have hy := h y.1
    have e1 : getF x.1 (x :: l) = some x.2 := by simp [getF]
    have e2 : getF y.1 (y :: m) = some y.2 := by simp [getF]
    have hk : x.1 = y.1 := by
      refine Classical.byContradiction fun hne => ?_
      rw [e1, getF, if_neg (fun e => hne e.symm)] at hx
      rw [e2, getF, if_neg hne] at hy
      have m1 := (List.pairwise_cons.1 hm).1 _ (getF_mem hx.symm)
      have m2 := (List.pairwise_cons.1 hl).1 _ (getF_mem hy)
      simp only at m1 m2
      rw [lt_asymm m1] at m2
      cases m2
    have hv : x.2 = y.2 := by
      rw [e1, hk, e2] at hx
      exact Option.some.inj hx
    have hxy : x = y := Prod.ext hk hv
    subst hxy
    congr 1
    refine rising_ext (List.pairwise_cons.1 hl).2 (List.pairwise_cons.1 hm).2 (fun k => ?_)
    by_cases hkx : x.1 = k
    · rw [← hkx, getF_head_none hl, getF_head_none hm]
    · have := h k
      rw [getF, getF, if_neg hkx, if_neg hkx] at this
      exact this

theorem startN_nil (l : Ly) : startN [] l = 0 := by
  unfold startN
  cases l with
  | nil => rfl
  | cons e r => rw [List.takeWhile_cons, before_nil]; rfl
theorem betL_all (l : Ly) : betL [] [] l = l := by unfold betL; rw [if_pos rfl, startN_nil]; rfl
theorem scanX_all (b : Int) (st : Ls) : scanX b [] [] st = behF b [] (mergeL st.layers) := by
  unfold scanX Ls.layers
  rw [betM_all]
  congr 3
  rw [List.map_congr_left (g := id) (fun l _ => betL_all l), List.map_id]

theorem Lst.lsrt {d : Dk} {s : Ls} {M : Mp} {n : Nat} (h : Lst d s M n) : ∀ l ∈ s.layers, Go.Proofs.YtoabedkcieindaaGreatDoor.srt l := fun l hl => by
  unfold Ls.layers at hl
  rcases List.mem_cons.1 hl with rfl | hl
  · exact srt_flat h.mok
  · exact newF_srt h.srt l hl
theorem Lst.lok {d : Dk} {s : Ls} {M : Mp} {n : Nat} (h : Lst d s M n) : ∀ e ∈ s.layers.flatten, opOk e.op = true ∧ e.batch ≤ s.batch := fun e he => by
  have e2 : s.layers.flatten = flatM s.mem ++ (newF s.tabs).flatten := by simp [Ls.layers]
  rw [e2] at he
  rcases List.mem_append.1 he with he | he
  · exact h.mop e he
  · obtain ⟨x, hx, hxe⟩ := newF_mem he
    exact h.tok x hx e hxe

theorem Lst.scan {d : Dk} {s : Ls} {M : Mp} {n : Nat} (h : Lst d s M n) : scanX s.batch [] [] s = M := by
  rw [scanX_all]
  have hs := mergeL_srt h.lsrt
  refine rising_ext (behF_rise _ _ _ hs) h.rise (fun k => ?_)
  have hno : ∀ e ∈ mergeL s.layers, bytesBefore e.op.key [] = false := fun e _ => before_nil _
  by_cases hk : k = []
  · subst hk
    have h1 : getF [] (behF s.batch [] (mergeL s.layers)) = none := getF_off fun x hx e => by
      have := behF_key s.batch [] (mergeL s.layers) hs hno x hx
      rw [e, WideAt.bytes_irrefl] at this
      cases this
    rw [h1, ← h.view []]
    unfold viewE
    have : atK [] s.layers.flatten = [] := List.filter_eq_nil_iff.2 fun e he => by
      have := opOk_ne (h.lok e he).1
      simpa using this
    rw [this]; rfl
  · rw [behF_get _ _ _ hs hno k hk, ← h.view k]
    unfold viewE
    rw [mergeL_at h.lsrt]

set_option maxHeartbeats 400000 in
set_option maxRecDepth 20000 in
theorem sScan_any (T bd bm bsn : Nat) (s : Sl) (l : List Tr) (st : Ls) (E : Nat → Prop) (lo hi : Nm) (lim : Int) (w : World) (hL : LsAt w E T bd bm bsn s l st) {m r f : Value} {dead : Bool} {t : Int} (hd : w.heap[bd]? = some (.cells #[m, r, f, .bool dead, .int .i64 t] 148)) (h0 : lready t dead st = 0)
    (hSc : ∀ w1, Below w.heap.size w w1 → Calls Tryz.prog 116 #[.pointer (some ⟨T, 0, none⟩), .int .i64 st.batch, str lo, str hi, .int .i64 lim] w1 fun e w' => ∃ v, e = .returned (.tuple #[v, .int .i64 0]) ∧ OwnPr w' w1.heap.size v ((scanX st.batch lo hi st).take lim.toNat) ∧ Below w1.heap.size w1 w') :
    Calls Tryz.prog 66 #[.pointer (some ⟨T, 0, none⟩), str lo, str hi, .int .i64 lim] w fun e w' => ∃ v, e = .returned (.tuple #[v, .int .i64 0]) ∧ OwnPr w' w.heap.size v ((scanX st.batch lo hi st).take lim.toNat) ∧ Below w.heap.size w w' := by
  have hR := lReady_any hL hd
  rw [h0] at hR
  have c8' := hL.cell 8
  generalize (scanX st.batch lo hi st).take lim.toNat = X at *
  go_enter Tryz.func66, Tryz.ntmps66
  go_wp2_with (first
    | (go_at_call 102; refine hR.mono ?_; rintro e w1 ⟨rfl, hb1⟩; have c8 : w1.cell? ⟨T, 8, none⟩ = some (.int .i64 st.batch) := cell_below hb1 c8'; have hSc1 := hSc w1 hb1; clear hR c8' hSc)
    | (go_at_call 116; refine hSc1.mono ?_; rintro e w2 ⟨v, rfl, ho, hb2⟩; obtain ⟨a2, k2, rfl⟩ := ho.shape))
  go_ret2
  exact ⟨_, rfl, OwnR.lowP ho hb1.size, hb1.trans (hb2.mono hb1.size)⟩

set_option maxHeartbeats 400000 in
theorem sScan_good (T bd bm bsn : Nat) (s : Sl) (l : List Tr) (d : Dk) (st : Ls) (S E : Nat → Prop) (M : Mp) (n : Nat) (lim : Int) (w : World) (h : Lsy w S E T bd bm bsn s l d st) (hl : Lst d st M n) (hn : n ≤ 110) (hl0 : 0 ≤ lim) (hl1 : lim ≤ 9223372036854775807) :
    Calls Tryz.prog 66 #[.pointer (some ⟨T, 0, none⟩), str [], str [], .int .i64 lim] w fun e w' => ∃ v, e = .returned (.tuple #[v, .int .i64 0]) ∧ OwnPr w' w.heap.size v (M.take lim.toNat) ∧ Below w.heap.size w w' := by
  obtain ⟨dm, dr, df, hd, _⟩ := h.prog.raw
  have hL := h.at_
  have hents := hl.ents
  have hfew := hl.few
  have hml := hl.memlen
  have hlen : l.length = st.tabs.length := by rw [← hL.is]; simp
  have hin : ∀ x ∈ l, x.1 ∈ st.tabs := fun x hx => by rw [← hL.is]; exact List.mem_map.2 ⟨x, hx, rfl⟩
  have elay : betM [] [] st.mem :: (newF st.tabs).map (betL [] []) = st.layers := by
    unfold Ls.layers
    rw [betM_all, List.map_congr_left (g := id) (fun l _ => betL_all l), List.map_id]
  have hfl : st.layers.flatten.length ≤ 110 := by
    have e2 : st.layers.flatten = flatM st.mem ++ (newF st.tabs).flatten := by simp [Ls.layers]
    rw [e2, List.length_append, newF_len]; omega
  have := sScan_any T bd bm bsn s l st E [] [] lim w hL hd hl.lwr.2 (fun w1 hb => scanBehind_any T bd bm bsn s l st E st.batch [] [] lim w1 (hL.below hb) hl.mok.1 (by omega) (by omega) hl.keylen (by omega) (fun x hx => ⟨by have := entsT_at (hin x hx); omega, hl.srt _ (hin x hx)⟩) hl0 hl1 (by
    rw [elay]
    intro e he hg
    have h1 := (hl.lok e (mergeL_mem hl.lsrt e he)).1
    have h2 := (opOk_key h1).2
    have h3 := opOk_val h1 hg
    exact ⟨by omega, by omega⟩) (by rw [elay]; unfold mergeL; exact Nat.le_trans (mergeF_len _ _) (by omega)))
  rw [hl.scan] at this
  exact this

end Go.Proofs.YtoabedkcieindaaGreatDoor

namespace Go.Proofs.YtoabedkcieindaaGreatDoor
open Go.RowKit Go.Maps Go.Sort Go.Shelf

set_option maxHeartbeats 400000 in
theorem index_nil (a : Option Addr) (c : Nat) (x : Nm) (w : World) : Calls Tryz.prog 258 #[.slice a 0 c, str x] w fun e w' => e = .returned (.int .i64 (-1)) ∧ w' = w := by
  go_enter Tryz.func258, Tryz.ntmps258
  go_wp2
  go_loop [8] (fun i => i = .int .i64 0) (fun _ => 0)
  case atStart => rfl
  case round =>
    subst hrel
    go_wp2
    go_ret
    exact ⟨rfl, rfl⟩

set_option maxHeartbeats 400000 in
theorem contains_nil (a : Option Addr) (c : Nat) (x : Nm) (w : World) : Calls Tryz.prog 210 #[.slice a 0 c, str x] w fun e w' => e = .returned (.bool false) ∧ w' = w := by
  have h := index_nil a c x w
  go_enter Tryz.func210, Tryz.ntmps210
  go_wp2_with (go_at_call 258; refine h.mono ?_; rintro e w1 ⟨rfl, rfl⟩)
  go_ret
  exact ⟨rfl, rfl⟩

set_option maxHeartbeats 400000 in
set_option maxRecDepth 20000 in
theorem loadTables_nil (T : Nat) (a : Option Addr) (c : Nat) (w : World) : Calls Tryz.prog 161 #[.pointer (some ⟨T, 0, none⟩), .slice a 0 c] w fun e w' => e = .returned (.int .i64 0) ∧ Below w.heap.size w w' := by
  have h := fun w1 => contains_nil a c [109, 97, 110, 105, 102, 101, 115, 116] w1
  go_enter Tryz.func161, Tryz.ntmps161
  go_wp2_with (go_at_call 210; refine (h _).mono ?_; rintro e w1 ⟨rfl, rfl⟩)
  go_ret
  exact ⟨rfl, (Below.refl _ w).alloc (Nat.le_refl _) _⟩

set_option maxHeartbeats 400000 in
set_option maxRecDepth 20000 in
theorem mayHave_nil (T : Nat) (a : Option Addr) (c : Nat) (w : World) : Calls Tryz.prog 162 #[.pointer (some ⟨T, 0, none⟩), .slice a 0 c] w fun e w' => e = .returned (.bool true) ∧ w' = w := by
  go_enter Tryz.func162, Tryz.ntmps162
  go_wp2
  go_loop [13] (fun i => i = .int .i64 0) (fun _ => 0)
  case atStart => rfl
  case round =>
    subst hrel
    go_wp2
    go_ret
    exact ⟨rfl, rfl⟩

set_option maxHeartbeats 400000 in
set_option maxRecDepth 20000 in
theorem loadLog_nil (T : Nat) (a : Option Addr) (c log : Nat) (w : World) (c6 : w.cell? ⟨T, 6, none⟩ = some (.int .i64 log)) (hl : log < 9223372036854775808) : Calls Tryz.prog 163 #[.pointer (some ⟨T, 0, none⟩), .slice a 0 c] w fun e w' => e = .returned (.tuple #[.bool false, .int .i64 0]) ∧ Below w.heap.size w w' := by
  have h := fun w1 => contains_nil a c (lgN log) w1
  have hg := logName_any log w hl
  go_enter Tryz.func163, Tryz.ntmps163
  go_wp2_with (first | (go_at_call 98; refine hg.mono ?_; rintro e w1 ⟨rfl, hb1⟩) | (go_at_call 210; refine (h _).mono ?_; rintro e w2 ⟨rfl, rfl⟩))
  go_ret2
  exact ⟨rfl, hb1⟩

set_option maxHeartbeats 400000 in
set_option maxRecDepth 20000 in
theorem sSync_tight (T bd bm bsn : Nat) (s : Sl) (l : List Tr) (st : Ls) (E : Nat → Prop) (w : World) (hL : LsAt w E T bd bm bsn s l st) {m r f : Value} {dead : Bool} {t : Int} (hd : w.heap[bd]? = some (.cells #[m, r, f, .bool dead, .int .i64 t] 148)) (h0 : lwritable t dead st = 0) (hlo : st.loose = false) :
    Calls Tryz.prog 54 #[.pointer (some ⟨T, 0, none⟩)] w fun e w' => e = .returned (.int .i64 0) ∧ Below w.heap.size w w' := by
  have hw := lWritable_any hL hd
  rw [h0] at hw
  have c11' := hL.cell 11
  have hlo' : st.loose = false := hlo
  go_enter Tryz.func54, Tryz.ntmps54
  go_wp2_with (go_at_call 96; refine hw.mono ?_; rintro e w1 ⟨rfl, hb1⟩; have c11 : w1.cell? ⟨T, 11, none⟩ = some (.bool false) := by { have := cell_below hb1 c11'; simpa [hlo'] using this }; clear hw c11')
  go_ret
  exact ⟨rfl, hb1⟩

end Go.Proofs.YtoabedkcieindaaGreatDoor
