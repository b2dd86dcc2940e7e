/- The statement: made. -/
import Derived.Test.YtoabedkcieindaaGreatDoorLawE
import Derived.Test.YtoabedkcieindaaGreatDoorLawF
namespace Go.Proofs.YtoabedkcieindaaGreatDoor
open Go.RowKit Go.Maps Go.Sort

theorem Tryz.info105 : (Tryz.prog.info? 105).map (fun i => (i.zero, i.size, i.bytes)) = some (some (.pointer none), 1, 8) := by kernel_rfl

def ownM (own : Nat → Nat) (w w1 w2 : World) (i : Nat) (vd' : Value) (k : Nat) : Nat :=
  if k < w.heap.size then own k else if k < w1.heap.size then 4 + 3 * i else if k < w2.heap.size then 5 + 3 * i else if k = w2.heap.size then 3 + 3 * i else if vd'.ownBlock = some k then 1 else 0

theorem one_at' (w : World) (u : Value) (t : TypeId) (n : Nat) (hn : n = w.heap.size) : ∀ i x, [u][i]? = some x → (w.alloc (.cells #[u] t)).cell? ((⟨n, 0, none⟩ : Addr).add i) = some x := by
  subst hn; exact one_at w u t
theorem num_eq (a : Int) (w : World) : Calls Tryz.prog 78 #[.int .i64 a] w fun e w' => e = .returned (.int .i64 a) ∧ w = w' := (num_any a w).mono (fun _ _ ⟨h1, h2⟩ => ⟨h1, h2.symm⟩)

theorem made_close {w w1 w2 w' : World} {own : Nat → Nat} {bW N : Nat} {rs : List DR} {ts : List TX} {nxt : Nat} {vd vt vm vd' : Value} {bx bY : Nat} {d : Dk} (h : Inv w own bW N rs ts nxt vd vt vm)
    (hb1 : Below w.heap.size w w1) (hb2 : Below w1.heap.size w1 w2) (hx : XAt w1 (fun k => w.heap.size ≤ k) bx d) (hy : RefAt w2 (fun k => w1.heap.size ≤ k) bY d) (hok : d.Ok) (hl : d.files.length ≤ N)
    (kp : Kp (fun k => k = bW ∨ vd.ownBlock = some k) w2 w') (hbk : w'.heap[w2.heap.size]? = some (.cells #[ptrB bx, ptrB bY, .pointer none] 132))
    (hb : w'.heap[bW]? = some (.cells #[vd', .slice none 0 0, .slice none 0 0, vt, .slice none 0 0, .slice none 0 0, vm, .int .i64 nxt] 102))
    (hd : w'.ownsRow 0 105 1 vd' (rs.length + 1) ((rs.map fun r => ptrB r.bk) ++ [ptrB w2.heap.size])) (hd' : ∀ g, vd'.ownBlock = some g → vd.ownBlock = some g ∨ w2.heap.size < g) :
    Inv w' (ownM own w w1 w2 rs.length vd') bW N (rs ++ [⟨w2.heap.size, bx, bY, d, d⟩]) ts nxt vd' vt vm := by
  have s1 := hb1.size
  have s2 := hb2.size
  have hbW := lt_of_block h.blk
  have hold : ∀ k, k < w.heap.size → ownM own w w1 w2 rs.length vd' k = own k := fun k hk => if_pos hk
  have hdlt : ∀ g, vd.ownBlock = some g → g < w.heap.size := fun g hg => (h.rowd.lt g hg).2
  have kpw : Kp (fun k => k = bW ∨ vd.ownBlock = some k) w w' := ((Kp.of_below (S := fun k => k = bW ∨ vd.ownBlock = some k) hb1).trans (T := fun _ => False) (Kp.of_below hb2) (fun _ _ f => f.elim)).trans kp (fun _ _ e => e)
  have hn1 : ∀ k, own k ≠ 1 → ¬ (k = bW ∨ vd.ownBlock = some k) := fun k h1 => by
    rintro (e | e)
    · subst e; exact h1 h.cW
    · exact h1 (h.cd k e)
  refine ⟨hb, (hold _ hbW).trans h.cW, by simpa using hd, ?_, ?_, fun g hg => ?_, fun g hg => ?_, fun g hg => ?_, fun t ht => ?_, fun i hi => ?_⟩
  · exact kpw.row h.rowt (fun g hg => by
      rintro (e | e)
      · exact row_ne h.blk h.rowt hg (by decide) e
      · exact rows_ne h.rowt h.rowd hg e (by decide))
  · exact kpw.row h.rowm (fun g hg => by
      rintro (e | e)
      · exact row_ne h.blk h.rowm hg (by decide) e
      · exact rows_ne h.rowm h.rowd hg e (by decide))
  · rcases hd' g hg with e | e
    · exact (hold g (hdlt g e)).trans (h.cd g e)
    · unfold ownM
      rw [if_neg (by omega), if_neg (by omega), if_neg (by omega), if_neg (by omega), if_pos hg]
  · exact (hold g (h.rowt.lt g hg).2).trans (h.ct g hg)
  · exact (hold g (h.rowm.lt g hg).2).trans (h.cm g hg)
  · exact ⟨(h.text t ht).1.kept' kpw (fun g hg hc => ⟨hn1 g (by omega), (hold g hg).trans hc⟩), (h.text t ht).2⟩
  · by_cases hi' : i < rs.length
    · rw [List.getElem_append_left hi']
      have hdi := h.disk i hi'
      have hc : ∀ c, c ≠ 1 → ∀ k, k < w.heap.size → own k = c → ¬ (k = bW ∨ vd.ownBlock = some k) ∧ ownM own w w1 w2 rs.length vd' k = c := fun c h1 k hk e => ⟨hn1 k (by omega), (hold k hk).trans e⟩
      have hlk := lt_of_block hdi.blk
      refine ⟨kpw.at hdi.blk (hc _ (by omega) _ hlk hdi.ck).1, (hc _ (by omega) _ hlk hdi.ck).2, ?_, ?_, hdi.okx, hdi.oky, hdi.lx, hdi.ly⟩
      · exact ((hdi.x.mono (T := fun k => own k = 4 + 3 * i ∧ k < w.heap.size) (fun _ hk s => ⟨s, hk⟩)).kept kpw (fun k s => (hc _ (by omega) k s.2 s.1).1)).mono (fun k _ s => (hc _ (by omega) k s.2 s.1).2)
      · exact ((hdi.y.mono (T := fun k => own k = 5 + 3 * i ∧ k < w.heap.size) (fun _ hk s => ⟨s, hk⟩)).kept kpw (fun k s => (hc _ (by omega) k s.2 s.1).1)).mono (fun k _ s => (hc _ (by omega) k s.2 s.1).2)
    · have hie : i = rs.length := by simp at hi; omega
      subst hie
      rw [List.getElem_append_right (Nat.le_refl _)]
      simp only [Nat.sub_self, List.getElem_cons_zero]
      have hne2 : ∀ k, w.heap.size ≤ k → ¬ (k = bW ∨ vd.ownBlock = some k) := fun k hk => by
        rintro (e | e)
        · omega
        · have := hdlt k e; omega
      refine ⟨hbk, ?_, ?_, ?_, hok, hok, hl, hl⟩
      · show ownM own w w1 w2 rs.length vd' w2.heap.size = _
        unfold ownM
        rw [if_neg (by omega), if_neg (by omega), if_neg (by omega), if_pos rfl]
      · have x2 := (hx.mono (T := fun k => w.heap.size ≤ k ∧ k < w1.heap.size) (fun _ hk s => ⟨s, hk⟩)).kept (T := fun _ => False) (Kp.of_below hb2) (fun _ _ f => f)
        refine (x2.kept kp (fun k s => hne2 k s.1)).mono (fun k _ s => ?_)
        show ownM own w w1 w2 rs.length vd' k = _
        unfold ownM
        rw [if_neg (by omega), if_pos s.2]
      · have y2 := hy.mono (T := fun k => w1.heap.size ≤ k ∧ k < w2.heap.size) (fun _ hk s => ⟨s, hk⟩)
        refine (y2.kept kp (fun k s => hne2 k (by omega))).mono (fun k _ s => ?_)
        show ownM own w w1 w2 rs.length vd' k = _
        unfold ownM
        rw [if_neg (by omega), if_neg (by omega), if_pos s.2]

set_option maxHeartbeats 1000000 in
set_option maxRecDepth 20000 in
theorem made_any {w : World} {own : Nat → Nat} {bW N : Nat} {rs : List DR} {ts : List TX} {nxt : Nat} {vd vt vm : Value} (h : Inv w own bW N rs ts nxt vd vt vm) (hrs : rs.length ≤ 16777216) (q : Int) :
    Calls Tryz.prog 49 #[ptrB bW, .int .i64 q] w fun e w' => e = .returned (.bool true) ∧ Kp (fun k => own k = 1) w w' ∧ ∃ own' rs' vd', Inv w' own' bW N rs' ts nxt vd' vt vm ∧ (∀ k, k < w.heap.size → own' k = own k) ∧
      ((rs' = rs ∧ quotaOk q = false) ∨ (quotaOk q = true ∧ ∃ r : DR, rs' = rs ++ [r] ∧ r.dx = newDk q ∧ r.dy = newDk q)) := by
  cases hq : quotaOk q
  · have hx := xNew_bad q w hq
    have hy := yNew_bad q w hq
    unfold ptrB
    go_enter Tryz.func49, Tryz.ntmps49
    go_wp2_with (first
      | (go_at_call 32; refine hx.mono ?_; rintro e w' ⟨rfl, rfl⟩; clear hx)
      | (go_at_call 77; refine hy.mono ?_; rintro e w' ⟨rfl, rfl⟩; clear hy)
      | (go_at_call 78; refine (num_eq _ _).mono ?_; rintro e w9 ⟨rfl, rfl⟩))
    go_ret
    exact ⟨rfl, Kp.refl _ _, own, rs, vd, h, fun _ _ => rfl, .inl ⟨rfl, by simp⟩⟩
  · have hx := xNew_ok q w hq
    obtain ⟨i0, ih, i1, i2, i3⟩ := info_parts Tryz.info105
    obtain ⟨vda, capd, hvd, -, -, -, -⟩ := row1 h.rowd
    unfold ptrB
    go_enter Tryz.func49, Tryz.ntmps49
    go_wp2_with (first
      | (go_at_call 32; refine hx.mono ?_; rintro e w1 ⟨bx, rfl, hX, hb1⟩; clear hx; have hs1 := hb1.size)
      | (go_at_call 77; refine (yNew_ok q w1 hq).mono ?_; rintro e w2 ⟨rfl, hY, hb2⟩; have hs2 := hb2.size; have b2 := block_at2 (block_at2 h.blk hb1) hb2; obtain ⟨c0, c1, c2, c3, c4, c5, c6, c7, hz⟩ := cells8 b2; have z0 := hz 0; have hbl := lt_of_block b2; have D2 := ownsRow_of_block (ownsRow_of_block h.rowd (fun g hg => hb1.block g (h.rowd.lt g hg).2)) (fun g hg => hb2.block g (Nat.lt_of_lt_of_le (h.rowd.lt g hg).2 hs1)); have HB2 : Hid (w2.heap[bW]? = some (.cells #[vd, .slice none 0 0, .slice none 0 0, vt, .slice none 0 0, .slice none 0 0, vm, .int .i64 nxt] 102)) := b2; clear b2 hz c1 c2 c3 c4 c5 c6 c7; rw [hvd] at c0)
      | (go_at_call 78; refine (num_eq _ _).mono ?_; rintro e w9 ⟨rfl, rfl⟩)
      | (at_builtin; refine wpList_app2 _ rfl (.tmp 37) (.tmp 42) 96 rfl 105 i0 _ 1 8 Tryz.underlying96 ih i1 i2 i3 rfl (by decide) _ _ _ (by exact hvd.symm) (by exact World.ownsRow.alloc (World.ownsRow.alloc D2 _) _) ⟨w2.heap.size + 1, 0, none⟩ 1 1 [ptrB w2.heap.size] rfl rfl (by exact one_at' _ _ _ _ (by simp)) (by intro u hu; simp at hu; subst hu; rfl) (by unfold maxLen; omega) (by omega) ?_; intro v5 w5 A5; obtain ⟨a5, cap5, rfl, -, -, -, -⟩ := row1 A5.new; have HA5 : Hid (AppR ((w2.alloc (.cells #[ptrB bx, ptrB w1.heap.size, .pointer none] 132)).alloc (.cells #[ptrB w2.heap.size] 105)) w5 105 1 vd rs.length (rs.map fun r => ptrB r.bk) (.slice a5 (rs.length + 1) cap5) (rs.length + 1) ((rs.map fun r => ptrB r.bk) ++ [ptrB w2.heap.size])) := A5; clear A5; have b5 := HA5.out.kp.at (block_alloc (block_alloc HB2.out)) (fun e => row_ne HB2.out D2 e (by decide) rfl); obtain ⟨y0, y1, y2, y3, y4, y5, y6, y7, zz⟩ := cells8 b5; have zz0 := zz 0; clear zz)
      | go_in)
    go_ret
    have k5 := HA5.out.kp
    have hdlt : ∀ g, vd.ownBlock = some g → g < w2.heap.size := fun g hg => (D2.lt g hg).2
    have hbk : (w5.setCell ⟨bW, 0, none⟩ (.slice a5 (rs.length + 1) cap5)).heap[w2.heap.size]? = some (.cells #[ptrB bx, ptrB w1.heap.size, .pointer none] 132) := block_set_ne (k5.at (block_alloc (block_new w2 _)) (fun e => by have := hdlt _ e; omega)) (by omega) _
    have K6 : Kp (fun k => k = bW ∨ vd.ownBlock = some k) w2 (w5.setCell ⟨bW, 0, none⟩ (.slice a5 (rs.length + 1) cap5)) := ((((Kp.refl _ w2).alloc (.cells #[ptrB bx, ptrB w1.heap.size, .pointer none] 132)).alloc (.cells #[ptrB w2.heap.size] 105)).trans k5 (fun _ _ e => .inr e)).put (.inl rfl) _
    have D6 := (Kp.set1 w5 bW 0 (.slice a5 (rs.length + 1) cap5)).row HA5.out.new (fun g hg e => row_ne b5 HA5.out.new hg (by decide) e)
    have hcl := made_close h hb1 hb2 hX hY (newDk_ok hq) (Nat.zero_le _) K6 hbk ((block_set (j := 0) b5 _).trans rfl) D6 (fun g hg => (HA5.out.fresh g hg).imp id (fun h => by simp at h; omega))
    refine ⟨rfl, ?_, _, _, _, hcl, fun k hk => if_pos hk, .inr ⟨by simp, _, rfl, rfl, rfl⟩⟩
    refine (((Kp.of_below (S := fun k => own k = 1) hb1).trans (T := fun _ => False) (Kp.of_below hb2) (fun _ _ f => f.elim))).trans K6 (fun k _ e => ?_)
    rcases e with rfl | e
    · exact h.cW
    · exact h.cd k e

end Go.Proofs.YtoabedkcieindaaGreatDoor
