import Derived.Test.YtoabedkcieindabGreatDoorQkAI
import Derived.Test.YtoabedkcieindabGreatDoorQkAK
import Derived.Test.YtoabedkcieindabGreatDoorQkAG
import Derived.Lib.Bytealg
namespace Go.Proofs.YtoabedkcieindabGreatDoor
open Go.RowKit Go.Maps Go.Sort Go.Shelf
def behT (b : Int) (s : List (Nm × Nm) × Nm) (e : En) : List (Nm × Nm) × Nm := if b < e.batch ∨ e.op.key = s.2 then s else (if e.op.gone then s.1 else s.1 ++ [(e.op.key, e.op.val)], e.op.key)
def behS (b : Int) (l : Ly) : List (Nm × Nm) × Nm := l.foldl (behT b) ([], [])
theorem behS_gen (b : Int) : ∀ (l : Ly) (s : List (Nm × Nm) × Nm), (l.foldl (behT b) s).1 = s.1 ++ behF b s.2 l
  | [], s => by simp [behF]
  | e :: r, s => by
    rw [List.foldl_cons, behS_gen b r, behF]
    unfold behT
    split
    · rfl
    · split <;> simp
theorem behS_is (b : Int) (l : Ly) : (behS b l).1 = behF b [] l := by unfold behS; rw [behS_gen]; simp
theorem behS_snoc (b : Int) (l : Ly) (x : En) : behS b (l ++ [x]) = behT b (behS b l) x := by simp [behS, List.foldl_append]
theorem behS_pre {b : Int} {l m : Ly} (h : l <+: m) : (behS b l).1 <+: (behS b m).1 := by
  obtain ⟨r, rfl⟩ := h
  unfold behS
  rw [List.foldl_append, behS_gen b r]
  exact List.prefix_append _ _
theorem behF_len (b : Int) : ∀ (l : Ly) (last : Nm), (behF b last l).length ≤ l.length
  | [], _ => by simp [behF]
  | e :: r, last => by
    have h := behF_len b r
    rw [behF]
    have h1 := h last
    have h2 := h e.op.key
    split
    · simp; omega
    · split <;> simp <;> omega
theorem behS_len (b : Int) (l : Ly) : (behS b l).1.length ≤ l.length := by rw [behS_is]; exact behF_len b l []
def TnH (b : Nat) (A B : World) : Prop := Kp (fun k => b ≤ k ∧ ∃ o, A.heap[k]? = some o ∧ (o.isCells = false ∨ (∃ cs z, o = .cells cs 112 z) ∨ ∃ cs z, o = .cells cs 9 z)) A B
theorem TnH.of_below {b : Nat} {A B : World} (h : Below A.heap.size A B) : TnH b A B := Kp.of_below h
theorem TnH.of_tnM {b c : Nat} {A B : World} (h : TnM c A B) (hb : b ≤ c) : TnH b A B := Kp.mono h (fun k ⟨h1, cs, z, h2⟩ => ⟨by omega, _, h2, .inr (.inl ⟨cs, z, rfl⟩)⟩)
theorem TnH.of_grown {b c : Nat} {A B : World} {row : Option Nat} (hg : A.grownBy B row) (hr : ∀ r, row = some r → c ≤ r ∧ ∃ o : Obj, A.heap[r]? = some o ∧ o.isCells = false) (hb : b ≤ c) : TnH b A B :=
  (Kp.refl _ _).grown hg (fun k hk _ => by
    obtain ⟨h1, o, h2, h3⟩ := hr k hk
    exact ⟨by omega, o, h2, .inl h3⟩)
theorem TnH.of_set {b g : Nat} {A : World} {cs : Array Value} {z : Nat × Nat} (hg : A.heap[g]? = some (.cells cs 9 z)) (hb : b ≤ g) (j : Nat) (u : Value) : TnH b A (A.setCell ⟨g, j, none⟩ u) :=
  (Kp.set1 A g j u).mono (fun k hk => by subst hk; exact ⟨hb, _, hg, .inr (.inr ⟨cs, z, rfl⟩)⟩)
structure KrH (Z : Nat → Prop) (b : Nat) (W W' : World) : Prop where
  size : W.heap.size ≤ W'.heap.size
  low : ∀ k, Z k → k < W.heap.size → W'.heap[k]? = W.heap[k]?
  up : ∀ (k : Nat) (o : Obj), b ≤ k → W.heap[k]? = some o → (∀ cs z, o ≠ .cells cs 49 z) → W'.heap[k]? = some o
abbrev aggP (x : Nm × Nm) : Value := .agg #[str x.1, str x.2]
abbrev encP (x : Nm × Nm) : Array Value := #[aggP x]
theorem RoundIn.any {m m' l' : Nat} {P : Program} {l : Nat} {f : FuncId} {tmps : Array Value} {assign body : Code} {w : World} {R : Ending → World → Prop} (h : RoundIn Fence.wide m P l f tmps assign body w R) : RoundIn (Fence.wide.inRound l') m' P l f tmps assign body w R := ⟨h.1, fun c cs _ => h.2 c cs (room_wide _)⟩
structure BhI (Z : Nat → Prop) (b Bb : Nat) (l : Nat) (bt : Int) (J : List (Nm × Nm) → World → Prop) (pre : Ly) (W : World) : Prop where
  j : J (behS bt pre).1 W
  b3 : Boxed W b 271 (.func (.yield l) #[] #[])
  b4 : Boxed W (b + 1) 9 (str (behS bt pre).2)
  bb : Boxed W Bb 3 (.int .i64 bt)
theorem BhI.tn {Z : Nat → Prop} {b Bb l : Nat} {bt : Int} {J : List (Nm × Nm) → World → Prop} {pre : Ly} {A B : World} {c : Nat} (h : BhI Z b Bb l bt J pre A) (k : TnM c A B) (hc : b ≤ c) (hJ : ∀ s A B, J s A → TnH b A B → J s B) : BhI Z b Bb l bt J pre B := by
  have keep : ∀ {i : Nat} {t : TypeId} {v : Value}, Boxed A i t v → t ≠ 112 → Boxed B i t v := fun hb ht => Kp.at k hb (fun ⟨_, cs, z, e⟩ => by
    have e2 := hb.symm.trans e
    simp only [Option.some.injEq, Obj.cells.injEq] at e2
    exact ht e2.2.1)
  exact ⟨hJ _ _ _ h.j (TnH.of_tnM k hc), keep h.b3 (by decide), keep h.b4 (by decide), keep h.bb (by decide)⟩
theorem BhI.grown {Z : Nat → Prop} {b Bb l : Nat} {bt : Int} {J : List (Nm × Nm) → World → Prop} {pre : Ly} {A B : World} {row : Option Nat} {c : Nat} (h : BhI Z b Bb l bt J pre A) (hg : A.grownBy B row) (hr : ∀ r, row = some r → c ≤ r ∧ ∃ o : Obj, A.heap[r]? = some o ∧ o.isCells = false) (hc : b ≤ c) (hJ : ∀ s A B, J s A → TnH b A B → J s B) : BhI Z b Bb l bt J pre B := by
  have keep : ∀ {i : Nat} {t : TypeId} {v : Value}, Boxed A i t v → Boxed B i t v := fun hb => (hg.block _ (lt_of_block hb) (fun e => by
    obtain ⟨_, o, ho, hc⟩ := hr _ e.symm
    rw [show A.heap[_]? = _ from hb] at ho; cases ho; cases hc)).trans hb
  exact ⟨hJ _ _ _ h.j (TnH.of_grown hg hr hc), keep h.b3, keep h.b4, keep h.bb⟩
theorem BhI.below {Z : Nat → Prop} {b Bb l : Nat} {bt : Int} {J : List (Nm × Nm) → World → Prop} {pre : Ly} {A B : World} (h : BhI Z b Bb l bt J pre A) (k : Below A.heap.size A B) (hJ : ∀ s A B, J s A → TnH b A B → J s B) : BhI Z b Bb l bt J pre B :=
  ⟨hJ _ _ _ h.j (TnH.of_below k), (k.block _ h.b3.lt).trans h.b3, (k.block _ h.b4.lt).trans h.b4, (k.block _ h.bb.lt).trans h.bb⟩
def bhT (Bl Bs Bb b Bx l : Nat) (x : En) : Array Value :=
  #[.func (.yield l) #[] #[], .pointer (some ⟨Bs, 0, none⟩), .pointer (some ⟨Bb, 0, none⟩), .pointer (some ⟨b, 0, none⟩), .pointer (some ⟨b + 1, 0, none⟩), .pointer (some ⟨Bx, 0, none⟩), .func (.func 195) #[] #[.pointer (some ⟨Bl, 0, none⟩)], aggE x,
    undef, undef, undef, undef, undef, undef, undef, undef, undef, undef, undef, undef, undef, undef, undef, undef, undef, undef, undef, undef, undef, undef, undef, undef, undef, undef, undef, undef, undef, undef]
end Go.Proofs.YtoabedkcieindabGreatDoor

namespace Go.Proofs.YtoabedkcieindabGreatDoor
open Go.RowKit Go.Maps Go.Sort Go.Shelf
attribute [local go_sem] Oper.semAt_some
set_option maxRecDepth 100000 in
set_option maxHeartbeats 800000 in
theorem behind1_in (l Bl Bs Bb : Nat) (Z : Nat → Prop) (q : Option Addr) (qc : Nat) (xs : List (Sl × Ly)) (bt : Int) (J Jx : List (Nm × Nm) → World → Prop) (W : World) (hJ : ∀ s A B, J s A → TnH W.heap.size A B → J s B) (hJx : ∀ s A B, Jx s A → TnH W.heap.size A B → Jx s B)
    (GP : Nm × Nm → Prop) (hGP : ∀ e ∈ mergeL (xs.map (·.2)), e.op.gone = false → GP (e.op.key, e.op.val)) (hY : ∀ pre x W1, J pre W1 → pre.length < sumL xs → GP x → YieldAt Fence.wide 5 Tryz.prog l (encP x) W1 fun e W' =>
      (e = .returned (.bool true) ∧ J (pre ++ [x]) W' ∧ KrH Z W.heap.size W1 W') ∨ (e = .returned (.bool false) ∧ Jx (pre ++ [x]) W' ∧ KrH Z W.heap.size W1 W'))
    (bs : Boxed W Bs 172 (.func (.func 195) #[] #[.pointer (some ⟨Bl, 0, none⟩)])) (bb : Boxed W Bb 3 (.int .i64 bt)) (b1 : Boxed W Bl 133 (.slice q xs.length qc)) (hp : Lyp W q xs) (hqn : q = none → qc = 0 ∧ xs = []) (hqa : ∀ a, q = some a → ∃ g off, a = ⟨g, off, none⟩) (hZ : ∀ k, Z k → k < W.heap.size) (hZb : Z Bb) (hz : ∀ x ∈ xs, ∀ a, x.1.1 = some a → 0 < x.2.length → Z a.block) (hl : xs.length ≤ 1000000) (h0 : J [] W) :
    CallsIn Fence.wide 6 Tryz.prog 206 #[.func (.yield l) #[] #[], .pointer (some ⟨Bs, 0, none⟩), .pointer (some ⟨Bb, 0, none⟩)] W fun e W' => (∃ v, e = .returned v) ∧
      ((∃ ys, ys = behF bt [] (mergeL (xs.map (·.2))) ∧ J ys W') ∨ (∃ pre, pre <+: behF bt [] (mergeL (xs.map (·.2))) ∧ Jx pre W')) := by
  have hB0 : Below W.heap.size W ((W.alloc (.cells #[.func (.yield l) #[] #[]] 271)).alloc (.cells #[.string ⟨#[]⟩] 9)) := ((Below.refl _ W).alloc (Nat.le_refl _) _).alloc (by simp) _
  have cs : ((W.alloc (.cells #[.func (.yield l) #[] #[]] 271)).alloc (.cells #[.string ⟨#[]⟩] 9)).cell? ⟨Bs, 0, none⟩ = some (.func (.func 195) #[] #[.pointer (some ⟨Bl, 0, none⟩)]) := cell_below hB0 bs.cell
  refine callsIn_of_wp_marks Tryz.func206 rfl trivial ?_ rfl
  simp only [Tryz.ntmps206, List.size_toArray, List.length_cons, List.length_nil, Nat.reduceAdd, Nat.reduceSub, Array.replicate_succ, Array.replicate_zero, List.push_toArray, List.append_toArray, List.nil_append, List.cons_append]
  gi_wp2
  have x3 := (Boxed.new W 271 (.func (.yield l) #[] #[])).alloc (.cells #[.string ⟨#[]⟩] 9)
  have x4 := Boxed.new (W.alloc (.cells #[.func (.yield l) #[] #[]] 271)) 9 (.string ⟨#[]⟩)
  simp only [World.size_alloc] at x4
  have hsz : ((W.alloc (.cells #[.func (.yield l) #[] #[]] 271)).alloc (.cells #[.string ⟨#[]⟩] 9)).heap.size = W.heap.size + 2 := by simp
  generalize (W.alloc (.cells #[.func (.yield l) #[] #[]] 271)).alloc (.cells #[.string ⟨#[]⟩] 9) = W0 at *
  have hN0 : BhI Z W.heap.size Bb l bt J [] W0 := ⟨hJ _ _ _ h0 (TnH.of_below hB0), x3, x4, (hB0.block _ bb.lt).trans bb⟩
  clear cs
  have hlm : (mergeL (xs.map (·.2))).length ≤ sumL xs := by unfold mergeL; rw [merge_len _ _ rfl, sum_flat]; exact Nat.le_refl _
  refine rangeFunc_U (Kr := fun _ => KrM Z (W.heap.size + 2)) rfl (by decide) (gf := 195) (lb := #[.pointer (some ⟨Bl, 0, none⟩)]) rfl trivial (enters_of Tryz.func195 (by kernel_rfl) rfl)
    (merge_seqG Bl (W.heap.size + 2) Z q qc xs W0 ((hB0.block Bl b1.lt).trans b1) (hp.below hB0) hqn hqa (by omega) (fun k hk => by have := hZ k hk; omega) hz hl)
    (fun h k => h.trans k) (fun W o o' ho hc _ => ⟨by simp, fun k hk hlt => World.putObj_heap_other (by have := hZ k hk; omega), fun k cs z hk hkk => (World.putObj_heap_other (by rintro rfl; rw [ho] at hkk; cases hkk; cases hc)).trans hkk⟩) (fun h j o _ hj hc _ => h.others j o hj hc) (Below.refl _ _) (fun _ => rfl)
    (fun pre V => BhI Z W.heap.size Bb l bt J pre V)
    (fun c pre V => c = .ret ∧ Jx (behS bt pre).1 V)
    (fun pre A B row h hg hr => h.grown hg (fun r e => hr r e) (by omega) hJ)
    (fun c pre A B row h hg hr => ⟨h.1, hJx _ _ _ h.2 (TnH.of_grown hg hr (by omega))⟩)
    (fun pre A B h ht => h.tn ht (by omega) hJ)
    (fun c pre A B h ht => ⟨h.1, hJx _ _ _ h.2 (TnH.of_tnM ht (by omega))⟩)
    hN0
    (fun x a' V => ∃ Bx, W.heap.size + 2 ≤ Bx ∧ V.heap[Bx]? = some (Obj.cells #[str x.op.key, str x.op.val, .bool x.op.gone, .int .i64 x.batch] 226) ∧ a' = { tmps := bhT Bl Bs Bb W.heap.size Bx l x, defers := [] })
    (fun x a' _ X Y row hs hg hr => by
      obtain ⟨Bx, k1, k2, k7⟩ := hs
      exact ⟨Bx, k1, (hg.block _ (lt_of_block k2) (fun e => by
        obtain ⟨_, o, ho, hc⟩ := hr _ e.symm
        rw [k2] at ho; cases ho; cases hc)).trans k2, k7⟩)
    ?assign ?body ?done ?stop
  case assign =>
    rintro i pre x V K hN hK
    have hn0 := hN.b4.lt
    gi_wp2
    refine hK _ _ ((KeepsOthers.alloc _ _).from _) (KrM.of_kp (Kp.of_below (S := fun _ => False) ((Below.refl _ V).alloc (Nat.le_refl _) _)) (fun _ _ f => f) (fun _ _ _ _ _ f => f)) (hN.below ((Below.refl _ V).alloc (Nat.le_refl _) _) hJ) ⟨V.heap.size, by omega, block_new _ _, ?_⟩
    rfl
  case body =>
    rintro i pre x a' V hlo _ hN ⟨Bx, hBx, hpx, rfl⟩ hlt hG
    obtain ⟨q0, q1, q2, q3⟩ := cells4' hpx
    have c3 := hN.b3.cell
    have c4 := hN.b4.cell
    have cb := hN.bb.cell
    have z4 := hN.b4.frozen
    have hsn := behS_snoc bt pre x
    have hpl := behS_len bt pre
    have hstay : behT bt (behS bt pre) x = behS bt pre → BhI Z W.heap.size Bb l bt J (pre ++ [x]) V := fun e => by
      rw [← hsn] at e
      exact ⟨by rw [e]; exact hN.j, hN.b3, by rw [e]; exact hN.b4, hN.bb⟩
    unfold bhT
    by_cases h1 : bt < x.batch
    · have HI : Hid (BhI Z W.heap.size Bb l bt J (pre ++ [x]) V) := hstay (by unfold behT; rw [if_pos (.inl h1)])
      clear hstay hsn
      gi_wp2
      exact ⟨KeepsFrom.refl _ _, ⟨Nat.le_refl _, fun _ _ _ => rfl, fun _ _ _ _ h => h⟩, HI.out⟩
    · by_cases h2 : x.op.key = (behS bt pre).2
      · have HI : Hid (BhI Z W.heap.size Bb l bt J (pre ++ [x]) V) := hstay (by unfold behT; rw [if_pos (.inr h2)])
        have hkk : (x.op.key == (behS bt pre).2) = true := by simpa using h2
        clear hstay hsn h2
        gi_wp2
        exact ⟨KeepsFrom.refl _ _, ⟨Nat.le_refl _, fun _ _ _ => rfl, fun _ _ _ _ h => h⟩, HI.out⟩
      · have hkk : (x.op.key == (behS bt pre).2) = false := by simpa using h2
        have hno : ¬ (bt < x.batch ∨ x.op.key = (behS bt pre).2) := fun h => h.elim h1 h2
        have hW1 : (V.setCell ⟨W.heap.size + 1, 0, none⟩ (str x.op.key)).heap[Bx]? = some (Obj.cells #[str x.op.key, str x.op.val, .bool x.op.gone, .int .i64 x.batch] 226) := block_set_ne hpx (by omega) _
        obtain ⟨p0, p1, p2, p3⟩ := cells4' hW1
        have y3 : Boxed (V.setCell ⟨W.heap.size + 1, 0, none⟩ (str x.op.key)) W.heap.size 271 (.func (.yield l) #[] #[]) := block_set_ne hN.b3 (by omega) _
        have y4 : Boxed (V.setCell ⟨W.heap.size + 1, 0, none⟩ (str x.op.key)) (W.heap.size + 1) 9 (str x.op.key) := block_set hN.b4 _
        have hbl := hZ _ hZb
        have yb : Boxed (V.setCell ⟨W.heap.size + 1, 0, none⟩ (str x.op.key)) Bb 3 (.int .i64 bt) := block_set_ne hN.bb (by omega) _
        have yJ := hJ _ _ _ hN.j (TnH.of_set hN.b4 (by omega) 0 (str x.op.key))
        have kv : KeepsFrom W0.heap.size V (V.setCell ⟨W.heap.size + 1, 0, none⟩ (str x.op.key)) := keeps_of_kp (Kp.set1 V (W.heap.size + 1) 0 _) (fun j hj => by subst hj; exact ⟨_, _, _, hN.b4⟩)
        have km : KrM Z (W.heap.size + 2) V (V.setCell ⟨W.heap.size + 1, 0, none⟩ (str x.op.key)) := KrM.of_kp (Kp.set1 V (W.heap.size + 1) 0 _) (fun j hj e => by have := hZ j hj; omega) (fun j _ _ hj _ e => by omega)
        have d3 := y3.cell
        cases hg : x.op.gone with
        | true =>
          have HS : Hid (behS bt (pre ++ [x]) = ((behS bt pre).1, x.op.key)) := by show _ = _; rw [hsn]; unfold behT; rw [if_neg hno, hg]; rfl
          rw [hg] at q2 p2
          clear hstay hsn h2 hno
          gi_wp2
          refine ⟨fun f hf => (by cases hf), ?_⟩
          gi_wp2
          exact ⟨kv, km, by rw [HS.out]; exact yJ, y3, by rw [HS.out]; exact y4, yb⟩
        | false =>
          have HS : Hid (behS bt (pre ++ [x]) = ((behS bt pre).1 ++ [(x.op.key, x.op.val)], x.op.key)) := by show _ = _; rw [hsn]; unfold behT; rw [if_neg hno, hg]; rfl
          rw [hg] at q2 p2
          obtain ⟨fn, tmps, assign, body, hy, hR⟩ := hY (behS bt pre).1 (x.op.key, x.op.val) _ yJ (by omega) (hGP x hG hg)
          clear hstay hsn h2 hno hY
          gi_wp2
          refine (RoundIn.any hR).mono ?_
          rintro er W3 (⟨rfl, hJ3, hk3⟩ | ⟨rfl, hJx3, hk3⟩)
          · have kf3 : KeepsFrom W0.heap.size V W3 := ⟨Nat.le_trans kv.size hk3.size, fun k o hk ho hc => hk3.up k o (by omega) (kv.same k o hk ho hc) (fun cs z e => by subst e; cases hc)⟩
            have km3 : KrM Z (W.heap.size + 2) V W3 := km.trans ⟨hk3.size, hk3.low, fun k cs z hk ho => hk3.up k _ (by omega) ho (fun cs' z' e => by simp only [Obj.cells.injEq] at e; exact absurd e.2.1 (by decide))⟩
            have nP : ∀ {t : TypeId} {v : Value}, t ≠ 49 → ∀ cs z, Obj.cells #[v] t ≠ .cells cs 49 z := fun ht cs z e => by simp only [Obj.cells.injEq] at e; exact ht e.2.1
            have HI : Hid (BhI Z W.heap.size Bb l bt J (pre ++ [x]) W3) := ⟨by rw [HS.out]; exact hJ3, hk3.up _ _ (Nat.le_refl _) y3 (nP (by decide)), by rw [HS.out]; exact hk3.up _ _ (by omega) y4 (nP (by decide)), (hk3.low _ hZb yb.lt).trans yb⟩
            gi_wp2
            exact ⟨kf3, km3, HI.out⟩
          · have kf3 : KeepsFrom W0.heap.size V W3 := ⟨Nat.le_trans kv.size hk3.size, fun k o hk ho hc => hk3.up k o (by omega) (kv.same k o hk ho hc) (fun cs z e => by subst e; cases hc)⟩
            have km3 : KrM Z (W.heap.size + 2) V W3 := km.trans ⟨hk3.size, hk3.low, fun k cs z hk ho => hk3.up k _ (by omega) ho (fun cs' z' e => by simp only [Obj.cells.injEq] at e; exact absurd e.2.1 (by decide))⟩
            gi_wp2
            exact ⟨kf3, km3, rfl, by rw [HS.out]; exact hJx3⟩
  case done =>
    rintro D ys V hD rfl hN hK
    gi_wp2
    refine ⟨by simp, .inl ⟨_, _, rfl, run_takeDeferred hK, ?_⟩⟩
    refine ⟨_, results_none rfl _ _ _, ⟨_, rfl⟩, .inl ⟨_, rfl, ?_⟩⟩
    rw [← behS_is]
    exact hJ _ _ _ hN.j (TnH.of_grown (grownBy_putObj' V D _) (fun r e => by cases e; exact ⟨hD, _, hK, rfl⟩) (by omega))
  case stop =>
    rintro D c pre V hD hpre ⟨rfl, hF⟩ hK
    gi_wp2
    refine ⟨by simp, .inl ⟨_, _, rfl, run_takeDeferred hK, ?_⟩⟩
    refine ⟨_, results_none rfl _ _ _, ⟨_, rfl⟩, .inr ⟨_, by rw [← behS_is]; exact behS_pre hpre, ?_⟩⟩
    exact hJx _ _ _ hF (TnH.of_grown (grownBy_putObj' V D _) (fun r e => by cases e; exact ⟨hD, _, hK, rfl⟩) (by omega))
theorem layBehind_in (bt : Int) (Bl : Nat) (m : Nat) (w : World) :
    CallsIn Fence.wide m Tryz.prog 131 #[.int .i64 bt, .func (.func 195) #[] #[.pointer (some ⟨Bl, 0, none⟩)]] w fun e w' => e = .returned (.func (.func 206) #[] #[.pointer (some ⟨w.heap.size + 1, 0, none⟩), .pointer (some ⟨w.heap.size, 0, none⟩)]) ∧ w' = (w.alloc (.cells #[.int .i64 bt] 3)).alloc (.cells #[.func (.func 195) #[] #[.pointer (some ⟨Bl, 0, none⟩)]] 172) := by
  refine callsIn_wide.2 ?_
  go_enter Tryz.func131, Tryz.ntmps131
  go_wp2
  go_ret
  exact ⟨rfl, rfl⟩
theorem behind_seq (Bl Bs Bb : Nat) (Z : Nat → Prop) (q : Option Addr) (qc : Nat) (xs : List (Sl × Ly)) (bt : Int) (GP : Nm × Nm → Prop) (hGP : ∀ e ∈ mergeL (xs.map (·.2)), e.op.gone = false → GP (e.op.key, e.op.val)) (w : World)
    (bs : Boxed w Bs 172 (.func (.func 195) #[] #[.pointer (some ⟨Bl, 0, none⟩)])) (bb : Boxed w Bb 3 (.int .i64 bt)) (b1 : Boxed w Bl 133 (.slice q xs.length qc)) (hp : Lyp w q xs) (hqn : q = none → qc = 0 ∧ xs = []) (hqa : ∀ a, q = some a → ∃ g off, a = ⟨g, off, none⟩) (hZ : ∀ k, Z k → k < w.heap.size) (hZb : Z Bb) (hz : ∀ x ∈ xs, ∀ a, x.1.1 = some a → 0 < x.2.length → Z a.block) (hl : xs.length ≤ 1000000) :
    SeqU Fence.wide 6 Tryz.prog 206 #[.pointer (some ⟨Bs, 0, none⟩), .pointer (some ⟨Bb, 0, none⟩)] encP (KrH Z) TnH (fun ys => ys = behF bt [] (mergeL (xs.map (·.2)))) (fun pre => pre <+: behF bt [] (mergeL (xs.map (·.2)))) (sumL xs) GP w := fun l J Jx W hW hJ hJx hY h0 =>
  behind1_in l Bl Bs Bb Z q qc xs bt J Jx W hJ hJx GP hGP hY ((hW.block _ bs.lt).trans bs) ((hW.block _ bb.lt).trans bb) ((hW.block _ b1.lt).trans b1) (hp.below hW) hqn hqa (fun k hk => Nat.lt_of_lt_of_le (hZ k hk) hW.size) hZb hz hl h0
end Go.Proofs.YtoabedkcieindabGreatDoor

namespace Go.Proofs.YtoabedkcieindabGreatDoor
open Go.RowKit Go.Maps Go.Sort Go.Shelf
theorem cmp_lt : ∀ a b : List UInt8, (Lib.compareBytes a b < 0 ↔ bytesBefore a b = true)
  | [], [] => by simp [Lib.compareBytes, bytesBefore]
  | [], _ :: _ => by simp [Lib.compareBytes, bytesBefore]
  | _ :: _, [] => by simp [Lib.compareBytes, bytesBefore]
  | a :: r, b :: s => by
    have ih := cmp_lt r s
    simp only [Lib.compareBytes, bytesBefore, Bool.or_eq_true, Bool.and_eq_true, decide_eq_true_eq, beq_iff_eq]
    by_cases h1 : a < b
    · simp [h1]
    · by_cases h2 : b < a
      · have hne : ¬ a = b := by rintro rfl; exact UInt8.lt_irrefl _ h2
        simp [h1, h2, hne]
      · have he : a = b := UInt8.le_antisymm (UInt8.not_lt.1 h2) (UInt8.not_lt.1 h1)
        subst he
        simp [ih]
set_option maxHeartbeats 400000 in
set_option maxRecDepth 100000 in
theorem bcompare_any (a b : Nm) (w : World) : Calls Tryz.prog 340 #[str a, str b] w fun e w' => e = .returned (.int .i64 (Lib.compareBytes a b)) ∧ w' = w := by
  go_enter Tryz.func340, Tryz.ntmps340
  go_wp2
  rw [run_callFunc_extern Tryz.func358 (by kernel_rfl) (by kernel_rfl) (by kernel_rfl) (e := Extern.BytealgCompare.compare) (by kernel_rfl), Lib.run_compareString]
  simp only [Result.andThen]
  rw [Oper.upon_value]
  go_wp2
  go_ret
  exact ⟨rfl, rfl⟩
set_option maxHeartbeats 400000 in
set_option maxRecDepth 100000 in
theorem compare_any (a b : Nm) (w : World) : Calls Tryz.prog 298 #[str a, str b] w fun e w' => e = .returned (.int .i64 (Lib.compareBytes a b)) ∧ w' = w := by
  have h := bcompare_any a b w
  go_enter Tryz.func298, Tryz.ntmps298
  go_wp2_with (go_at_call 340; refine h.mono ?_; rintro e w1 ⟨rfl, rfl⟩)
  go_ret
  exact ⟨rfl, rfl⟩
set_option maxHeartbeats 400000 in
set_option maxRecDepth 100000 in
theorem start1_any (e : En) (key : Nm) (w : World) : Calls Tryz.prog 297 #[.agg #[str e.op.key, str e.op.val, .bool e.op.gone, .int .i64 e.batch], str key] w fun r w' => r = .returned (.int .i64 (Lib.compareBytes e.op.key key)) ∧ Below w.heap.size w w' := by
  have h := fun w1 => compare_any e.op.key key w1
  go_enter Tryz.func297, Tryz.ntmps297
  go_wp2_with (go_at_call 298; refine (h _).mono ?_; rintro e w1 ⟨rfl, rfl⟩)
  go_ret
  exact ⟨rfl, (Below.refl _ w).alloc (Nat.le_refl _) _⟩
def startN (key : Nm) (l : Ly) : Nat := (l.takeWhile fun e => bytesBefore e.op.key key).length
theorem startN_of {key : Nm} : ∀ {l : Ly} {i : Nat}, i ≤ l.length → (∀ k (h : k < l.length), k < i → bytesBefore l[k].op.key key = true) → (∀ h : i < l.length, bytesBefore l[i].op.key key = false) → startN key l = i
  | [], i, h, _, _ => by simp at h; subst h; rfl
  | e :: r, 0, _, _, h0 => by
    have : bytesBefore e.op.key key = false := h0 (by simp)
    simp [startN, this]
  | e :: r, i + 1, h, h1, h0 => by
    have he : bytesBefore e.op.key key = true := h1 0 (by simp) (by omega)
    have ih := startN_of (key := key) (l := r) (i := i) (by simpa using h) (fun k hk hki => h1 (k + 1) (Nat.succ_lt_succ hk) (by omega)) (fun hh => h0 (Nat.succ_lt_succ hh))
    unfold startN at ih ⊢
    rw [List.takeWhile_cons, if_pos he, List.length_cons, ih]
theorem le_lt {a b c : Nm} (h1 : bytesBefore b a = false) (h2 : bytesBefore b c = true) : bytesBefore a c = true := by
  cases h : bytesBefore a c with
  | false => have := le_trans' (a := c) (b := a) (c := b) h h1; rw [this] at h2; cases h2
  | true => rfl
theorem srt_at {l : Ly} (h : srt l) {i j : Nat} (hij : i ≤ j) (hj : j < l.length) : bytesBefore l[j].op.key (l[i]'(by omega)).op.key = false := by
  rcases Nat.lt_or_eq_of_le hij with h1 | rfl
  · exact List.pairwise_iff_getElem.1 h i j (by omega) hj h1
  · exact WideAt.bytes_irrefl _
set_option maxHeartbeats 400000 in
set_option maxRecDepth 20000 in
theorem bsearch_any (q : Option Addr) (qc : Nat) (l : Ly) (key : Nm) (w : World) (hp : Enp w q l) (hl : l.length ≤ 1000000) (hs : srt l) :
    Calls Tryz.prog 296 #[.slice q l.length qc, str key, .func (.func 297) #[] #[]] w fun e w' => ∃ b : Bool, e = .returned (.tuple #[.int .i64 (startN key l), .bool b]) ∧ Below w.heap.size w w' := by
  go_enter Tryz.func296, Tryz.ntmps296
  go_wp2
  go_loopw [9, 10] (fun i j wr => ∃ a b : Nat, a ≤ b ∧ b ≤ l.length ∧ i = .int .i64 a ∧ j = .int .i64 b ∧ (∀ k (h : k < l.length), k < a → bytesBefore l[k].op.key key = true) ∧ (∀ k (h : k < l.length), b ≤ k → bytesBefore l[k].op.key key = false) ∧ Below w.heap.size w wr) (fun i j _ => (intOf j).toNat - (intOf i).toNat)
  case atStart => exact ⟨0, l.length, Nat.zero_le _, Nat.le_refl _, rfl, rfl, fun k _ h => by omega, fun k h1 h2 => by omega, Below.refl _ _⟩
  case round =>
    obtain ⟨a, b, hab, hbl, rfl, rfl, hA, hB, hbw⟩ := hrel
    by_cases hlt : a < b
    · have hm1 : a ≤ (a + b) / 2 ∧ (a + b) / 2 < b := by omega
      obtain ⟨g, off, rfl, c0, c1, c2, c3⟩ := (hp.below hbw) ((a + b) / 2) (by omega)
      have hS1 := start1_any (l[(a + b) / 2]'(by omega)) key wr
      have hcl := cmp_lt (l[(a + b) / 2]'(by omega)).op.key key
      obtain ⟨z, hz⟩ : ∃ z, Lib.compareBytes (l[(a + b) / 2]'(by omega)).op.key key = z := ⟨_, rfl⟩
      rw [hz] at hS1 hcl
      have HC : Hid (z < 0 ↔ bytesBefore (l[(a + b) / 2]'(by omega)).op.key key = true) := hcl
      clear hz hcl
      by_cases hz0 : z < 0
      · go_wp2_with (go_at_call 297; refine hS1.mono ?_; rintro e w1 ⟨rfl, hb1⟩)
        go_roundw
        case rel => exact ⟨(a + b) / 2 + 1, b, by omega, hbl, by go_num, rfl, fun k hk hka => by
            have := srt_at hs (i := k) (j := (a + b) / 2) (by omega) (by omega)
            exact le_lt this (HC.out.1 hz0), hB, hbw.trans (hb1.mono hbw.size)⟩
        case measure => simp [intOf]; omega
      · go_wp2_with (go_at_call 297; refine hS1.mono ?_; rintro e w1 ⟨rfl, hb1⟩)
        go_roundw
        case rel => exact ⟨a, (a + b) / 2, by omega, by omega, rfl, by go_num, hA, fun k hk hka => by
            have := srt_at hs (i := (a + b) / 2) (j := k) (by omega) hk
            have hf : bytesBefore (l[(a + b) / 2]'(by omega)).op.key key = false := by
              cases hx : bytesBefore (l[(a + b) / 2]'(by omega)).op.key key with
              | false => rfl
              | true => have := HC.out.2 hx; omega
            exact le_trans' hf this, hbw.trans (hb1.mono hbw.size)⟩
        case measure => simp [intOf]; omega
    · obtain rfl : a = b := by omega
      have E : Hid (startN key l = a) := startN_of hbl hA (fun h => hB a h (Nat.le_refl _))
      by_cases hal : a < l.length
      · obtain ⟨g, off, rfl, c0, c1, c2, c3⟩ := (hp.below hbw) a hal
        have hS1 := start1_any l[a] key wr
        generalize Lib.compareBytes l[a].op.key key = z at *
        go_wp2_with (go_at_call 297; refine hS1.mono ?_; rintro e w1 ⟨rfl, hb1⟩)
        go_ret2
        exact ⟨z == 0, by rw [E.out]; rfl, hbw.trans (hb1.mono hbw.size)⟩
      · go_wp2
        go_ret2
        exact ⟨false, by rw [E.out]; rfl, hbw⟩
set_option maxHeartbeats 400000 in
set_option maxRecDepth 20000 in
theorem start_any (q : Option Addr) (qc : Nat) (l : Ly) (key : Nm) (w : World) (hp : Enp w q l) (hl : l.length ≤ 1000000) (hs : srt l) :
    Calls Tryz.prog 237 #[.slice q l.length qc, str key] w fun e w' => e = .returned (.int .i64 (startN key l)) ∧ Below w.heap.size w w' := by
  have h := bsearch_any q qc l key w hp hl hs
  go_enter Tryz.func237, Tryz.ntmps237
  go_wp2_with (go_at_call 296; refine h.mono ?_; rintro e w1 ⟨b, rfl, hb1⟩)
  go_ret
  exact ⟨rfl, hb1⟩
def betL (lo hi : Nm) (l : Ly) : Ly := if hi = [] then l.drop (startN lo l) else (l.take (max (startN lo l) (startN hi l))).drop (startN lo l)
theorem startN_le (key : Nm) (l : Ly) : startN key l ≤ l.length := (List.takeWhile_sublist _).length_le
theorem SlAt.sub {w : World} {g off n qc : Nat} {l : Ly} (h : SlAt w (some ⟨g, off, none⟩, n, qc) l) (f t : Nat) (hf : f ≤ t) (ht : t ≤ l.length) : SlAt w (if qc = f then some ⟨g, off, none⟩ else some ⟨g, off + f * 4, none⟩, t - f, qc - f) ((l.take t).drop f) := by
  have hc := h.cap
  simp only at hc
  refine ⟨by simp; omega, by simp; omega, fun e => (by simp only at e; split at e <;> cases e), fun a ha => (by simp only at ha; split at ha <;> exact ⟨_, _, (Option.some.inj ha).symm⟩), fun i hi => ?_⟩
  rw [List.length_drop, List.length_take] at hi
  rw [List.getElem_drop, List.getElem_take]
  obtain ⟨g', off', e, c0, c1, c2, c3⟩ := h.row (f + i) (by omega)
  cases e
  simp only [show ¬ (qc = f) by omega, if_false]
  have ea : off + f * 4 + i * 4 = off + (f + i) * 4 := by rw [Nat.add_mul]; omega
  exact ⟨_, _, rfl, by rw [ea]; exact c0, by rw [ea]; exact c1, by rw [ea]; exact c2, by rw [ea]; exact c3⟩
set_option maxHeartbeats 400000 in
set_option maxRecDepth 20000 in
theorem layBetween_any (s : Sl) (l : Ly) (lo hi : Nm) (w : World) (hp : SlAt w s l) (hl : l.length ≤ 1000000) (hs : srt l) :
    Calls Tryz.prog 171 #[slV s, str lo, str hi] w fun e w' => ∃ (q' : Option Addr) (n' c' : Nat), e = .returned (.slice q' n' c') ∧ SlAt w' (q', n', c') (betL lo hi l) ∧ (∀ a, q' = some a → ∃ b, s.1 = some b ∧ a.block = b.block) ∧ Below w.heap.size w w' := by
  obtain ⟨q, n, qc⟩ := s
  obtain rfl : n = l.length := hp.len
  have hcap := hp.cap
  have h1 := start_any q qc l lo w hp.row hl hs
  have h2 := fun w1 (h : Below w.heap.size w w1) => start_any q qc l hi w1 (hp.row.below h) hl hs
  have n1 := startN_le lo l
  have n2 := startN_le hi l
  simp only at hcap
  rw [show slV (q, l.length, qc) = Value.slice q l.length qc from rfl]
  cases q with
  | none =>
    obtain ⟨hqc, rfl⟩ := hp.nil rfl
    simp only at hqc
    subst hqc
    have e1 : startN lo [] = 0 := rfl
    have e2 : startN hi [] = 0 := rfl
    simp only [e1] at h1
    simp only [e2] at h2
    have eb : betL lo hi [] = [] := by unfold betL; split <;> simp
    rw [eb]
    clear e1 e2 eb n1 n2
    by_cases hh : hi = []
    · subst hh
      go_enter Tryz.func171, Tryz.ntmps171
      go_wp2_with (go_at_call 237; refine h1.mono ?_; rintro e w1 ⟨rfl, hb1⟩)
      go_ret
      exact ⟨none, 0, 0, rfl, hp.below hb1, fun a ha => (by cases ha), hb1⟩
    · have hh' : hi.isEmpty = false := by simpa using hh
      go_enter Tryz.func171, Tryz.ntmps171
      go_wp2_with (first | (go_at_call 237; refine h1.mono ?_; rintro e w1 ⟨rfl, hb1⟩; have h3 := h2 w1 hb1; clear h1 h2) | (go_at_call 237; refine h3.mono ?_; rintro e w2 ⟨rfl, hb2⟩))
      go_ret
      exact ⟨none, 0, 0, rfl, (hp.below hb1).below hb2, fun a ha => (by cases ha), hb1.trans (hb2.mono hb1.size)⟩
  | some a =>
    obtain ⟨g, off, rfl⟩ := hp.pl a rfl
    by_cases hh : hi = []
    · subst hh
      have hsub := hp.sub (startN lo l) l.length n1 (Nat.le_refl _)
      have eb : betL lo [] l = l.drop (startN lo l) := by simp [betL]
      rw [List.take_length] at hsub
      rw [eb]
      clear eb n2
      generalize startN lo l = f at *
      by_cases hqf : qc = f
      · subst hqf
        rw [if_pos rfl, Nat.sub_self, show l.length - qc = 0 by omega] at hsub
        go_enter Tryz.func171, Tryz.ntmps171
        go_wp2_with (go_at_call 237; refine h1.mono ?_; rintro e w1 ⟨rfl, hb1⟩)
        go_ret
        exact ⟨_, _, _, rfl, hsub.below hb1, fun a ha => (by cases ha; exact ⟨_, rfl, rfl⟩), hb1⟩
      · rw [if_neg hqf] at hsub
        go_enter Tryz.func171, Tryz.ntmps171
        go_wp2_with (go_at_call 237; refine h1.mono ?_; rintro e w1 ⟨rfl, hb1⟩)
        go_ret
        exact ⟨_, _, _, rfl, hsub.below hb1, fun a ha => (by cases ha; exact ⟨_, rfl, rfl⟩), hb1⟩
    · have hh' : hi.isEmpty = false := by simpa using hh
      have hsub := hp.sub (startN lo l) (max (startN lo l) (startN hi l)) (Nat.le_max_left _ _) (Nat.max_le.2 ⟨n1, n2⟩)
      have eb : betL lo hi l = (l.take (max (startN lo l) (startN hi l))).drop (startN lo l) := by simp [betL, hh]
      rw [eb]
      clear eb
      generalize startN lo l = f at *
      generalize startN hi l = h at *
      have em : max f h - f = (max (f : Int) (h : Int)).toNat - f := by omega
      rw [em] at hsub
      clear em
      by_cases hqf : qc = f
      · subst hqf
        rw [if_pos rfl, Nat.sub_self] at hsub
        go_enter Tryz.func171, Tryz.ntmps171
        go_wp2_with (first | (go_at_call 237; refine h1.mono ?_; rintro e w1 ⟨rfl, hb1⟩; have h3 := h2 w1 hb1; clear h1 h2) | (go_at_call 237; refine h3.mono ?_; rintro e w2 ⟨rfl, hb2⟩))
        go_ret
        exact ⟨_, _, _, rfl, (hsub.below hb1).below hb2, fun a ha => (by cases ha; exact ⟨_, rfl, rfl⟩), hb1.trans (hb2.mono hb1.size)⟩
      · rw [if_neg hqf] at hsub
        go_enter Tryz.func171, Tryz.ntmps171
        go_wp2_with (first | (go_at_call 237; refine h1.mono ?_; rintro e w1 ⟨rfl, hb1⟩; have h3 := h2 w1 hb1; clear h1 h2) | (go_at_call 237; refine h3.mono ?_; rintro e w2 ⟨rfl, hb2⟩))
        go_ret
        exact ⟨_, _, _, rfl, (hsub.below hb1).below hb2, fun a ha => (by cases ha; exact ⟨_, rfl, rfl⟩), hb1.trans (hb2.mono hb1.size)⟩
end Go.Proofs.YtoabedkcieindabGreatDoor
