import Derived.Test.YtoabedkcieindabGreatDoorQkAM
import Derived.Test.YtoabedkcieindabGreatDoorQkAK
import Derived.StillTactics
import Derived.Test.YtoabedkcieindabGreatDoorLayI
import Derived.Maps.OwnIn
import Derived.Lib.SmallJoins
import Derived.Test.YtoabedkcieindabGreatDoorQkAF
namespace Go.Proofs.YtoabedkcieindabGreatDoor
open Go.RowKit Go.Maps Go.Sort
theorem rp_block {α : Type} {fl : α → List Value} {sz : Nat} (hfl : ∀ x, (fl x).length = sz) {w : World} {b : Nat} {cs : Array Value} {t : TypeId} {z : Nat × Nat} {l : List α} (h : w.heap[b]? = some (.cells cs t z)) (hc : cs = (l.flatMap fl).toArray) : Rp fl sz w (some ⟨b, 0, none⟩) l := by
  intro i hi j u hu
  refine ⟨_, _, rfl, ?_⟩
  have hj : j < sz := by rw [← hfl l[i]]; exact (List.getElem?_eq_some_iff.1 hu).1
  rw [cell_block h, hc]
  simp only [Nat.zero_add, List.getElem?_toArray]
  rw [flatR_at hfl l i j hi hj, hu]
theorem TrAt.take {w : World} {g off n qc : Nat} {l : List Tr} (h : TrAt w (some ⟨g, off, none⟩, n, qc) l) (f : Nat) (hf : f ≤ l.length) : TrAt w (some ⟨g, off, none⟩, f, qc) (l.take f) := by
  have hc := h.cap
  simp only at hc
  refine ⟨by simp; omega, by simp; omega, fun e => (by cases e), fun a ha => ⟨g, off, (Option.some.inj ha).symm⟩, fun i hi j u hu => ?_⟩
  rw [List.length_take] at hi
  rw [List.getElem_take] at hu
  exact h.row i (by omega) j u hu
theorem TrAt.drop {w : World} {g off n qc : Nat} {l : List Tr} (h : TrAt w (some ⟨g, off, none⟩, n, qc) l) (t : Nat) (ht : t ≤ l.length) : TrAt w (if qc = t then some ⟨g, off, none⟩ else some ⟨g, off + t * 3, none⟩, l.length - t, qc - t) (l.drop t) := by
  have hc := h.cap
  simp only at hc
  refine ⟨by simp, by simp; omega, fun e => (by simp only at e; split at e <;> cases e), fun a ha => (by simp only at ha; split at ha <;> exact ⟨_, _, (Option.some.inj ha).symm⟩), fun i hi j u hu => ?_⟩
  rw [List.length_drop] at hi
  rw [List.getElem_drop] at hu
  obtain ⟨g', off', e, c⟩ := h.row (t + i) (by omega) j u hu
  cases e
  simp only [show ¬ (qc = t) by omega, if_false]
  exact ⟨_, _, rfl, by rw [← c]; congr 2; rw [Nat.add_mul]; omega⟩
theorem OwnR.lowT {w : World} {base base' : Nat} {v : Value} {l : List Tr} (h : OwnT w base v l) (hb : base' ≤ base) : OwnT w base' v l := by
  refine ⟨h.1, ?_⟩
  rcases h.2 with hn | ⟨g, cap, cur, hv, hbb, rest⟩
  · exact .inl hn
  · exact .inr ⟨g, cap, cur, hv, Nat.le_trans hb hbb, rest⟩
theorem TrAt.one {w : World} {b bn blv : Nat} {bes : Ly} {ba : Option Addr} {bnn bc : Nat} {z : Nat × Nat} (h : w.heap[b]? = some (.cells #[.int .i64 bn, .int .i64 blv, .slice ba bnn bc] 114 z)) : TrAt w (some ⟨b, 0, none⟩, 1, 1) [(⟨bn, blv, bes⟩, (ba, bnn, bc))] :=
  ⟨rfl, Nat.le_refl _, fun e => (by cases e), fun a ha => ⟨_, _, (Option.some.inj ha).symm⟩, rp_block tbC_len h rfl⟩
set_option maxRecDepth 100000 in
set_option maxHeartbeats 400000 in
theorem replaced_any (g off qc : Nat) (l : List Tr) (f t : Nat) (b : Tr) (w : World) (hs : TrAt w (some ⟨g, off, none⟩, l.length, qc) l) (hb : b.2.2.1 = b.1.es.length) (hbl : b.1.es.length ≤ 1000000) (hft : f ≤ t) (htl : t ≤ l.length) (hl : l.length ≤ 1000) :
    Calls Tryz.prog 72 #[.slice (some ⟨g, off, none⟩) l.length qc, .int .i64 f, .int .i64 t, .agg #[.int .i64 b.1.number, .int .i64 b.1.level, slV b.2]] w fun e w' => ∃ v, e = .returned v ∧ Below w.heap.size w w' ∧ OwnT w' w.heap.size v (l.take f ++ (if b.1.es = [] then [] else [b]) ++ l.drop t) := by
  obtain ⟨⟨bn, blv, bes⟩, ⟨ba, bnn, bc⟩⟩ := b
  simp only at hb hbl
  subst hb
  have hqc := hs.cap
  simp only at hqc
  have hdr := hs.drop t htl
  obtain ⟨dq, hdq⟩ : ∃ dq : Option Addr, (if qc = t then some ⟨g, off, none⟩ else some ⟨g, off + t * 3, none⟩) = dq := ⟨_, rfl⟩
  rw [hdq] at hdr
  have HD : Hid ((if qc = t then some (⟨g, off, none⟩ : Addr) else some ⟨g, off + t * 3, none⟩) = dq) := hdq
  clear hdq
  cases bes with
  | nil =>
    simp only [List.length_nil, if_true, List.append_nil]
    go_enter Tryz.func72, Tryz.ntmps72
    go_wp2
    refine wp_calm ?_
    refine wp_region_E (S := fun _ => True) (by kernel_rfl) ?_
    refine wpAnyE_take (i := 0) (L := 2) (v := .slice (some ⟨g, off, none⟩) l.length qc) rfl rfl (by decide) (by kernel_rfl) (by kernel_rfl) (by kernel_rfl) (by kernel_rfl) (by kernel_rfl) (fun _ _ _ h => h) (Or.inl ⟨by rfl, fun w' hS => ?_⟩) trivial ?_
    · go_simp
    refine wpAnyE_take (i := 1) (L := 2) (v := .int .i64 f) rfl rfl (by decide) (by kernel_rfl) (by kernel_rfl) (by kernel_rfl) (by kernel_rfl) (by kernel_rfl) (fun _ _ _ h => h) (Or.inl ⟨by rfl, fun w' hS => ?_⟩) trivial ?_
    · go_simp
    refine wpAnyE_take (i := 2) (L := 6) (v := .slice (some ⟨g, off, none⟩) f qc) rfl rfl (by decide) (by kernel_rfl) (by kernel_rfl) (by kernel_rfl) (by kernel_rfl) (by kernel_rfl) (fun _ _ _ h => h) (Or.inl ⟨by rfl, fun w' hS => ?_⟩) trivial ?_
    · go_simp; intro h; omega
    refine wpAnyE_take (i := 3) (L := 5) (v := .slice (some ⟨g, off, none⟩) l.length qc) rfl rfl (by decide) (by kernel_rfl) (by kernel_rfl) (by kernel_rfl) (by kernel_rfl) (by kernel_rfl) (fun _ _ _ h => h) (Or.inl ⟨by rfl, fun w' hS => ?_⟩) trivial ?_
    · go_simp
    refine wpAnyE_take (i := 4) (L := 5) (v := .int .i64 t) rfl rfl (by decide) (by kernel_rfl) (by kernel_rfl) (by kernel_rfl) (by kernel_rfl) (by kernel_rfl) (fun _ _ _ h => h) (Or.inl ⟨by rfl, fun w' hS => ?_⟩) trivial ?_
    · go_simp
    refine wpAnyE_take (i := 5) (L := 6) (v := .slice dq (l.length - t) (qc - t)) rfl rfl (by decide) (by kernel_rfl) (by kernel_rfl) (by kernel_rfl) (by kernel_rfl) (by kernel_rfl) (fun _ _ _ h => h) (Or.inl ⟨by rfl, fun w' hS => ?_⟩) trivial ?_
    · go_simp; exact HD.out
    refine wpAnyE_one (i := 6) (by kernel_rfl) rfl (by rfl) (fun K hK => ?_)
    go_simp
    have hB : Below w.heap.size w (((w.alloc (.cells #[.int .i64 bn, .int .i64 blv, .slice ba 0 bc] 114)).alloc (.cells #[.slice (some ⟨g, off, none⟩) f qc, .slice dq (l.length - t) (qc - t)] 108)).drew) := (((Below.refl _ w).alloc (Nat.le_refl _) _).alloc (by simp) _).drew
    have hL : Ltp (((w.alloc (.cells #[.int .i64 bn, .int .i64 blv, .slice ba 0 bc] 114)).alloc (.cells #[.slice (some ⟨g, off, none⟩) f qc, .slice dq (l.length - t) (qc - t)] 108)).drew) (some ⟨w.heap.size + 1, 0, none⟩) [((some ⟨g, off, none⟩, f, qc), l.take f), ((dq, l.length - t, qc - t), l.drop t)] := by
      refine ⟨rp_block slC_len (w := ((w.alloc _).alloc _).drew) (by have := block_new (w.alloc (.cells #[.int .i64 bn, .int .i64 blv, .slice ba 0 bc] 114)) (.cells #[.slice (some ⟨g, off, none⟩) f qc, .slice dq (l.length - t) (qc - t)] 108); rw [World.size_alloc] at this; exact this) rfl, fun x hx => ?_⟩
      simp only [List.mem_cons, List.not_mem_nil, or_false] at hx
      rcases hx with rfl | rfl
      · exact (hs.take f (by omega)).below hB
      · exact hdr.below hB
    refine hK.out _ _ trivial ?_
    clear hK
    have hC := concatT_any (some ⟨w.heap.size + 1, 0, none⟩) 2 _ _ hL (by simp) (by simp [sumT]; omega)
    simp only [List.length_cons, List.length_nil, Nat.zero_add, Nat.reduceAdd] at hC
    refine wpAnyE_one (i := 7) (by kernel_rfl) rfl (by rfl) (fun K hK => ?_)
    go_simp
    refine hC.mono ?_
    rintro e1 w1 ⟨v1, rfl, hb1, ho1⟩
    refine hK.out _ _ trivial ?_
    clear hK
    refine wpAnyE_last (i := 8) (by kernel_rfl) rfl (by rfl) (by kernel_rfl) (by kernel_rfl) (fun K hK => ?_)
    go_simp
    refine hK.out _ _ ?_
    clear hK
    go_wp2
    go_ret
    exact ⟨_, rfl, hB.trans (hb1.mono (by simp; omega)), by
      have := ho1.lowT (base' := w.heap.size) (by simp; omega)
      simpa [catT] using this⟩
  | cons e r =>
    simp only [List.length_cons, reduceCtorEq, if_false] at hbl ⊢
    go_enter Tryz.func72, Tryz.ntmps72
    go_wp2
    refine wp_calm ?_
    have hbx : (w.alloc (.cells #[.int .i64 bn, .int .i64 blv, .slice ba (r.length + 1) bc] 114)).drew.heap[w.heap.size]? = some (.cells #[.int .i64 bn, .int .i64 blv, .slice ba (r.length + 1) bc] 114) := block_new w _
    refine wp_region_E (S := fun w' => w'.heap[w.heap.size]? = some (.cells #[.int .i64 bn, .int .i64 blv, .slice ba (r.length + 1) bc] 114)) (by kernel_rfl) ?_
    refine wpAnyE_take (i := 0) (L := 2) (v := .slice (some ⟨g, off, none⟩) l.length qc) rfl rfl (by decide) (by kernel_rfl) (by kernel_rfl) (by kernel_rfl) (by kernel_rfl) (by kernel_rfl) (fun _ _ _ h => h) (Or.inl ⟨by rfl, fun w' hS => ?_⟩) hbx ?_
    · go_simp
    refine wpAnyE_take (i := 1) (L := 2) (v := .int .i64 f) rfl rfl (by decide) (by kernel_rfl) (by kernel_rfl) (by kernel_rfl) (by kernel_rfl) (by kernel_rfl) (fun _ _ _ h => h) (Or.inl ⟨by rfl, fun w' hS => ?_⟩) hbx ?_
    · go_simp
    refine wpAnyE_take (i := 2) (L := 8) (v := .slice (some ⟨g, off, none⟩) f qc) rfl rfl (by decide) (by kernel_rfl) (by kernel_rfl) (by kernel_rfl) (by kernel_rfl) (by kernel_rfl) (fun _ _ _ h => h) (Or.inl ⟨by rfl, fun w' hS => ?_⟩) hbx ?_
    · go_simp; intro h; omega
    refine wpAnyE_take (i := 3) (L := 4) (v := .agg #[.int .i64 bn, .int .i64 blv, .slice ba (r.length + 1) bc]) rfl rfl (by decide) (by kernel_rfl) (by kernel_rfl) (by kernel_rfl) (by kernel_rfl) (by kernel_rfl) (fun _ _ _ h => h) (Or.inl ⟨by rfl, fun w' hS => ?_⟩) hbx ?_
    · obtain ⟨u0, u1, u2, _⟩ := cells3 hS; go_simp
    refine wpAnyE_take (i := 5) (L := 7) (v := .slice (some ⟨g, off, none⟩) l.length qc) rfl rfl (by decide) (by kernel_rfl) (by kernel_rfl) (by kernel_rfl) (by kernel_rfl) (by kernel_rfl) (fun _ _ _ h => h) (Or.inl ⟨by rfl, fun w' hS => ?_⟩) hbx ?_
    · go_simp
    refine wpAnyE_take (i := 6) (L := 7) (v := .int .i64 t) rfl rfl (by decide) (by kernel_rfl) (by kernel_rfl) (by kernel_rfl) (by kernel_rfl) (by kernel_rfl) (fun _ _ _ h => h) (Or.inl ⟨by rfl, fun w' hS => ?_⟩) hbx ?_
    · go_simp
    refine wpAnyE_take (i := 7) (L := 8) (v := .slice dq (l.length - t) (qc - t)) rfl rfl (by decide) (by kernel_rfl) (by kernel_rfl) (by kernel_rfl) (by kernel_rfl) (by kernel_rfl) (fun _ _ _ h => h) (Or.inl ⟨by rfl, fun w' hS => ?_⟩) hbx ?_
    · go_simp; exact HD.out
    refine wpAnyE_one (i := 4) (by kernel_rfl) rfl (by rfl) (fun K hK => ?_)
    go_simp
    refine hK.out _ _ (block_alloc hbx) ?_
    clear hK
    refine wpAnyE_one (i := 8) (by kernel_rfl) rfl (by rfl) (fun K hK => ?_)
    go_simp
    have hB : Below w.heap.size w ((((w.alloc (.cells #[.int .i64 bn, .int .i64 blv, .slice ba (r.length + 1) bc] 114)).alloc (.cells #[.int .i64 bn, .int .i64 blv, .slice ba (r.length + 1) bc] 114)).alloc (.cells #[.slice (some ⟨g, off, none⟩) f qc, .slice (some ⟨w.heap.size + 1, 0, none⟩) 1 1, .slice dq (l.length - t) (qc - t)] 108)).drew) := ((((Below.refl _ w).alloc (Nat.le_refl _) _).alloc (by simp) _).alloc (by simp; omega) _).drew
    have hL : Ltp ((((w.alloc (.cells #[.int .i64 bn, .int .i64 blv, .slice ba (r.length + 1) bc] 114)).alloc (.cells #[.int .i64 bn, .int .i64 blv, .slice ba (r.length + 1) bc] 114)).alloc (.cells #[.slice (some ⟨g, off, none⟩) f qc, .slice (some ⟨w.heap.size + 1, 0, none⟩) 1 1, .slice dq (l.length - t) (qc - t)] 108)).drew) (some ⟨w.heap.size + 2, 0, none⟩) [((some ⟨g, off, none⟩, f, qc), l.take f), ((some ⟨w.heap.size + 1, 0, none⟩, 1, 1), [(⟨bn, blv, e :: r⟩, (ba, r.length + 1, bc))]), ((dq, l.length - t, qc - t), l.drop t)] := by
      refine ⟨rp_block slC_len (w := (((w.alloc _).alloc _).alloc _).drew) (by have := block_new ((w.alloc (.cells #[.int .i64 bn, .int .i64 blv, .slice ba (r.length + 1) bc] 114)).alloc (.cells #[.int .i64 bn, .int .i64 blv, .slice ba (r.length + 1) bc] 114)) (.cells #[.slice (some ⟨g, off, none⟩) f qc, .slice (some ⟨w.heap.size + 1, 0, none⟩) 1 1, .slice dq (l.length - t) (qc - t)] 108); rw [World.size_alloc, World.size_alloc] at this; exact this) rfl, fun x hx => ?_⟩
      simp only [List.mem_cons, List.not_mem_nil, or_false] at hx
      rcases hx with rfl | rfl | rfl
      · exact (hs.take f (by omega)).below hB
      · exact TrAt.one (w := (((w.alloc _).alloc _).alloc _).drew) (by have := block_new (w.alloc (.cells #[.int .i64 bn, .int .i64 blv, .slice ba (r.length + 1) bc] 114)) (.cells #[.int .i64 bn, .int .i64 blv, .slice ba (r.length + 1) bc] 114); rw [World.size_alloc] at this; exact block_alloc this)
      · exact hdr.below hB
    refine hK.out _ _ (block_alloc (block_alloc (block_new w _))) ?_
    clear hK
    have hC := concatT_any (some ⟨w.heap.size + 2, 0, none⟩) 3 _ _ hL (by simp) (by simp [sumT]; omega)
    simp only [List.length_cons, List.length_nil, Nat.zero_add, Nat.reduceAdd] at hC
    refine wpAnyE_one (i := 9) (by kernel_rfl) rfl (by rfl) (fun K hK => ?_)
    go_simp
    refine hC.mono ?_
    rintro e1 w1 ⟨v1, rfl, hb1, ho1⟩
    refine hK.out _ _ ((hb1.block _ (by simp <;> omega)).trans (block_alloc (block_alloc (block_new w _)))) ?_
    clear hK
    refine wpAnyE_last (i := 10) (by kernel_rfl) rfl (by rfl) (by kernel_rfl) (by kernel_rfl) (fun K hK => ?_)
    go_simp
    refine hK.out _ _ ?_
    clear hK
    go_wp2
    go_ret
    exact ⟨_, rfl, hB.trans (hb1.mono (by simp; omega)), by
      have := ho1.lowT (base' := w.heap.size) (by simp; omega)
      simpa [catT] using this⟩
end Go.Proofs.YtoabedkcieindabGreatDoor

namespace Go.Proofs.YtoabedkcieindabGreatDoor
open Go.RowKit Go.Maps Go.Sort Go.Shelf
attribute [local go_sem] Oper.semAt_some
theorem appR_run {α : Type} {fl : α → List Value} {sz : Nat} {t ts : TypeId} {z : Value} {bytes : Nat} (hinfo : (Tryz.prog.info? t).map (fun i => (i.zero, i.size, i.bytes)) = some (some z, sz, bytes)) (hzs : z.cells.size = sz) (hsz : 0 < sz) (hu : Tryz.prog.underlying ts = some (.slice t)) (hfl : ∀ x, (fl x).length = sz) (hone : ∀ x, ∀ u ∈ fl x, u.oneCell' = true)
    {W : World} {base : Nat} {v : Value} {A L : List α} {g off sc : Nat} (hown : OwnR t fl sz W base v A) (hs : Rp fl sz W (some ⟨g, off, none⟩) L) (hb : base ≤ W.heap.size) (hl : A.length + L.length ≤ 1000000) (hby : bytes ≤ 1000) (ty : TypeId) :
    ∃ v' W', (Builtin.append_ #[ts, ts] ty #[v, .slice (some ⟨g, off, none⟩) L.length sc]).run Tryz.prog W = .ok v' W' ∧ OwnR t fl sz W' base v' (A ++ L) ∧ Kp (fun i => v.ownBlock = some i) W W' ∧ (v'.ownBlock = v.ownBlock ∨ v'.ownBlock = some W.heap.size) := by
  obtain ⟨i0, hi, hz0, hz1, hz2⟩ := info_parts hinfo
  have hm : (A.length + L.length) * bytes ≤ 1000000 * 1000 := Nat.mul_le_mul hl hby
  obtain ⟨v', W', h1, h2, h3, _, h5⟩ := run_append_own_at (P := Tryz.prog) W base ts ty t i0 _ sz bytes hu hi hz0 hz1 hz2 hzs hsz v A.length (A.flatMap fl) hown ⟨g, off, none⟩ L.length sc (L.flatMap fl) (flatR_len hfl L) (hs.cells hfl hsz) (fun u hu => by obtain ⟨y, _, hy⟩ := List.mem_flatMap.1 hu; exact hone y u hy) (by unfold maxLen; omega) (by omega) hb
  exact ⟨v', W', h1, by unfold OwnR; rw [List.length_append, List.flatMap_append]; exact h2, (Kp.refl _ _).grown h3 (fun k hk _ => hk), h5⟩
structure KrB (Z : Nat → Prop) (A B : World) : Prop where
  size : A.heap.size ≤ B.heap.size
  block : ∀ k, Z k → k < A.heap.size → B.heap[k]? = A.heap[k]?
theorem KrB.refl (Z : Nat → Prop) (A : World) : KrB Z A A := ⟨Nat.le_refl _, fun _ _ _ => rfl⟩
theorem KrB.trans {Z : Nat → Prop} {A B C : World} (h : KrB Z A B) (k : KrB Z B C) : KrB Z A C :=
  ⟨Nat.le_trans h.size k.size, fun i hi hA => (k.block i hi (Nat.lt_of_lt_of_le hA h.size)).trans (h.block i hi hA)⟩
theorem KrB.of_kp {Z S : Nat → Prop} {A B : World} (h : Kp S A B) (hz : ∀ i, Z i → ¬ S i) : KrB Z A B := ⟨h.size, fun i hi hA => h.block i hA (hz i hi)⟩
theorem KrB.boxed {Z : Nat → Prop} {A B : World} (h : KrB Z A B) {b : Nat} {t : TypeId} {v : Value} (hb : Boxed A b t v) (hn : Z b) : Boxed B b t v := (h.block b hn hb.lt).trans hb
theorem KrB.tr {Z : Nat → Prop} {A B : World} (h : KrB Z A B) {s : Sl} {l : List Tr} (hs : TrAt A s l) (hn : ∀ a, s.1 = some a → 0 < l.length → Z a.block) : TrAt B s l := by
  refine ⟨hs.len, hs.cap, hs.nil, hs.pl, fun i hi j u hu => ?_⟩
  obtain ⟨g, off, e, c⟩ := hs.row i hi j u hu
  exact ⟨g, off, e, by rw [World.cell?_of_block (h.block g (hn _ e (by omega)) (World.block_lt_of_cell? A _ c))]; exact c⟩
abbrev encT (x : Int × Tr) : Array Value := #[.int .i64 x.1, .agg #[.int .i64 x.2.1.number, .int .i64 x.2.1.level, slV x.2.2]]
def TnB (_ : Nat) (A B : World) : Prop := B = A
set_option maxRecDepth 100000 in
set_option maxHeartbeats 400000 in
theorem back1_in (y Bs : Nat) (Z : Nat → Prop) (q : Option Addr) (qc : Nat) (l : List Tr) (J Jx : List (Int × Tr) → World → Prop) (W : World)
    (hY : ∀ pre x W1, J pre W1 → pre.length < l.length → YieldAt Fence.wide 4 Tryz.prog y (encT x) W1 fun e W' =>
      (e = .returned (.bool true) ∧ J (pre ++ [x]) W' ∧ KrB Z W1 W') ∨ (e = .returned (.bool false) ∧ Jx (pre ++ [x]) W'))
    (b1 : Boxed W Bs 108 (.slice q l.length qc)) (hp : TrAt W (q, l.length, qc) l) (hBs : Z Bs) (hq : ∀ a, q = some a → 0 < l.length → Z a.block) (hl : l.length ≤ 1000000) (h0 : J [] W) :
    CallsIn Fence.wide 5 Tryz.prog 200 #[.func (.yield y) #[] #[], .pointer (some ⟨Bs, 0, none⟩)] W fun e W' => (∃ v, e = .returned v) ∧
      ((∃ xs, xs.map (·.2) = l.reverse ∧ J xs W') ∨ (∃ pre, pre.map (·.2) <+: l.reverse ∧ Jx pre W')) := by
  have c1 := b1.cell
  refine callsIn_of_wp Tryz.func200 rfl trivial ?_ rfl
  simp only [Tryz.ntmps200, List.size_toArray, List.length_cons, List.length_nil, Nat.reduceAdd, Nat.reduceSub, Array.replicate_succ, Array.replicate_zero, List.push_toArray, List.append_toArray, List.nil_append, List.cons_append]
  gi_wp2
  gi_loopw [3] (fun i wr => ∃ (m : Nat) (pre : List (Int × Tr)), i = .int .i64 ((m : Int) - 1) ∧ m ≤ l.length ∧ pre.length = l.length - m ∧ pre.map (·.2) = (l.drop m).reverse ∧ J pre wr ∧ KrB Z W wr) (fun i _ => (intOf i + 1).toNat)
  case atStart => exact ⟨l.length, [], by go_num, Nat.le_refl _, by simp, by simp, h0, KrB.refl _ _⟩
  case round =>
    obtain ⟨m, pre, rfl, hm, hpl, hpm, hJp, hkr⟩ := hrel
    cases m with
    | zero =>
      have HP : Hid (pre.map (·.2) = (l.drop 0).reverse) := hpm
      clear hpm
      gi_wp2
      go_end0
      exact ⟨⟨_, rfl⟩, .inl ⟨pre, by simpa using HP.out, hJp⟩⟩
    | succ m =>
      have hml : m < l.length := hm
      have hpr := hkr.tr hp hq
      obtain ⟨g, off, e, d0⟩ := hpr.row m hml 0 _ rfl
      obtain ⟨_, _, e1, d1⟩ := hpr.row m hml 1 _ rfl
      obtain ⟨_, _, e2, d2⟩ := hpr.row m hml 2 _ rfl
      simp only at e e1 e2
      subst e
      cases e1; cases e2
      have HS : Hid ((pre ++ [((m : Int), l[m])]).map (·.2) = (l.drop m).reverse) := by
        show _ = _
        rw [List.map_append, hpm, List.drop_eq_getElem_cons hml, List.reverse_cons]; rfl
      have HP : Hid ((pre ++ [((m : Int), l[m])]).map (·.2) <+: l.reverse) := by
        show _ <+: _
        rw [HS.out]
        conv => rhs; rw [← List.take_append_drop m l, List.reverse_append]
        exact List.prefix_append _ _
      have hbr := (hkr.boxed b1 hBs).cell
      obtain ⟨fn, tmps, assign, body, hy, hR⟩ := hY pre ((m : Int), l[m]) wr hJp (by omega)
      clear hY hpm
      simp only [Nat.add_zero] at d0
      rw [← Nat.add_assoc] at d1 d2
      rw [show ((m + 1 : Nat) : Int) - 1 = (m : Int) by omega]
      gi_wp2
      refine hR.mono ?_
      rintro er W3 (⟨rfl, hJ3, hk3⟩ | ⟨rfl, hJx3⟩)
      · gi_wp2
        go_roundw
        case rel => exact ⟨m, _, by go_num, by omega, by simp; omega, HS.out, hJ3, hkr.trans hk3⟩
        case measure => simp [intOf]
      · gi_wp2
        refine bodyPost_ret (results_none rfl _ _ _) rfl ?_
        exact ⟨⟨_, rfl⟩, .inr ⟨_, HP.out, hJx3⟩⟩
theorem back_in (q : Option Addr) (n qc : Nat) (m : Nat) (w : World) :
    CallsIn Fence.wide m Tryz.prog 126 #[.slice q n qc] w fun e w' => e = .returned (.func (.func 200) #[] #[.pointer (some ⟨w.heap.size, 0, none⟩)]) ∧ w' = w.alloc (.cells #[.slice q n qc] 108) := by
  refine callsIn_wide.2 ?_
  go_enter Tryz.func126, Tryz.ntmps126
  go_wp2
  go_ret
  exact ⟨rfl, rfl⟩
theorem back_seq (Bs : Nat) (Z : Nat → Prop) (q : Option Addr) (qc : Nat) (l : List Tr) (w : World) (b1 : Boxed w Bs 108 (.slice q l.length qc)) (hp : TrAt w (q, l.length, qc) l) (hBs : Z Bs) (hq : ∀ a, q = some a → 0 < l.length → Z a.block) (hl : l.length ≤ 1000000) :
    SeqT Fence.wide 5 Tryz.prog 200 #[.pointer (some ⟨Bs, 0, none⟩)] encT (KrB Z) TnB (fun xs => xs.map (·.2) = l.reverse) (fun pre => pre.map (·.2) <+: l.reverse) l.length w := fun y J Jx W hW _ _ hY h0 =>
  back1_in y Bs Z q qc l J Jx W hY ((hW.block Bs b1.lt).trans b1) (hp.below hW) hBs hq hl h0
structure NfI (w W : World) (v : Value) (A : List Sl) : Prop where
  box : Boxed W w.heap.size 133 v
  row : OwnL W (w.heap.size + 2) v A
  bel : Below w.heap.size w W
  sz : w.heap.size + 2 ≤ W.heap.size
theorem NfI.stay {w W W' : World} {v : Value} {A : List Sl} (h : NfI w W v A) (k : ∀ (j : Nat) (cs : Array Value) (t : TypeId) (z : Nat × Nat), W.heap[j]? = some (.cells cs t z) → W'.heap[j]? = some (.cells cs t z)) (hb : Below w.heap.size w W') (hz : W.heap.size ≤ W'.heap.size) : NfI w W' v A := by
  refine ⟨k _ _ _ _ h.box, ⟨h.row.1, ?_⟩, hb, Nat.le_trans h.sz hz⟩
  rcases h.row.2 with hn | ⟨g, cap, cur, hv, hbb, hg, rest⟩
  · exact .inl hn
  · exact .inr ⟨g, cap, cur, hv, hbb, k _ _ _ _ hg, rest⟩
theorem NfI.below {w W W' : World} {v : Value} {A : List Sl} (h : NfI w W v A) (k : Below W.heap.size W W') : NfI w W' v A :=
  h.stay (fun j _ _ _ hj => (k.block j (lt_of_block hj)).trans hj) (h.bel.trans (k.mono h.bel.size)) k.size
theorem NfI.grown {w A B : World} {v : Value} {X : List Sl} {row : Option Nat} (h : NfI w A v X) (k : A.grownBy B row) (hr : ∀ r, row = some r → w.heap.size ≤ r ∧ ∃ o : Obj, A.heap[r]? = some o ∧ o.isCells = false) : NfI w B v X := by
  refine h.stay (fun j cs t z hj => (k.block j (lt_of_block hj) (fun e => ?_)).trans hj) (h.bel.trans ⟨k.os, k.tape, k.output, k.size, fun i hi => k.block i (Nat.lt_of_lt_of_le hi h.bel.size) (fun e => by have := (hr i e.symm).1; omega)⟩) k.size
  obtain ⟨_, o, ho, hc⟩ := hr j e.symm
  rw [hj] at ho; cases ho; cases hc
theorem own_cellsL {W : World} {base : Nat} {v : Value} {l : List Sl} (h : OwnL W base v l) {i : Nat} (e : v.ownBlock = some i) : ∃ (cs : Array Value) (z : Nat × Nat), W.heap[i]? = some (Obj.cells cs 112 z) := by
  rcases h.2 with ⟨rfl, _⟩ | ⟨g, cap, cur, rfl, _, hg, _⟩
  · simp [Value.ownBlock] at e
  · obtain rfl : g = i := by simpa [Value.ownBlock] using e
    exact ⟨_, _, hg⟩
theorem OwnR.lowL {w : World} {base base' : Nat} {v : Value} {l : List Sl} (h : OwnL w base v l) (hb : base' ≤ base) : OwnL w base' v l := by
  refine ⟨h.1, ?_⟩
  rcases h.2 with hn | ⟨g, cap, cur, hv, hbb, rest⟩
  · exact .inl hn
  · exact .inr ⟨g, cap, cur, hv, Nat.le_trans hb hbb, rest⟩
theorem NfI.add {w W W' : World} {v v' : Value} {A L : List Sl} (h : NfI w W v A) (ho : OwnL W' (w.heap.size + 2) v' (A ++ L)) (k : Kp (fun i => v.ownBlock = some i) W W') :
    Boxed W' w.heap.size 133 v ∧ NfI w (W'.setCell ⟨w.heap.size, 0, none⟩ v') v' (A ++ L) ∧ Kp (fun i => i = w.heap.size ∨ v.ownBlock = some i) W (W'.setCell ⟨w.heap.size, 0, none⟩ v') := by
  have f7 : Boxed W' w.heap.size 133 v := k.at h.box (fun e => by have := (World.ownsRow.lt h.row _ e).1; omega)
  have k2 : Kp (fun i => i = w.heap.size ∨ v.ownBlock = some i) W (W'.setCell ⟨w.heap.size, 0, none⟩ v') := (k.mono (fun _ e => .inr e)).put (.inl rfl) _
  have ks := Kp.set1 W' w.heap.size 0 v'
  refine ⟨f7, ⟨?_, ho.kept ks (fun g hg e => by subst e; have := (World.ownsRow.lt ho _ hg).1; omega), ?_, Nat.le_trans h.sz k2.size⟩, k2⟩
  · show (W'.setCell ⟨w.heap.size, 0, none⟩ v').heap[w.heap.size]? = _
    rw [block_set f7]; rfl
  · exact ⟨k2.os.trans h.bel.os, k2.tape.trans h.bel.tape, k2.output.trans h.bel.output, Nat.le_trans h.bel.size k2.size, fun i hi => (k2.block i (by have := h.sz; omega) (by
      rintro (e | e)
      · omega
      · have := (World.ownsRow.lt h.row i e).1; omega)).trans (h.bel.block i hi)⟩
def nfT (b Bx : Nat) (q : Option Addr) (n qc : Nat) (x : Int × Tr) : Array Value :=
  #[.slice q n qc, undef, .slice none 0 0, .pointer (some ⟨b, 0, none⟩), undef, .pointer (some ⟨Bx, 0, none⟩), .slice q n qc, .func (.func 200) #[] #[.pointer (some ⟨b + 1, 0, none⟩)], .int .i64 x.1, .agg #[.int .i64 x.2.1.number, .int .i64 x.2.1.level, slV x.2.2], undef, undef, undef, undef, undef, undef]
set_option maxRecDepth 100000 in
set_option maxHeartbeats 400000 in
theorem newestFirst_any (q : Option Addr) (qc : Nat) (l : List Tr) (w : World) (hp : TrAt w (q, l.length, qc) l) (hl : l.length ≤ 100000) :
    Calls Tryz.prog 70 #[.slice q l.length qc] w fun e w' => ∃ v, e = .returned v ∧ Below w.heap.size w w' ∧ OwnL w' w.heap.size v (l.reverse.map (·.2)) := by
  refine (callsIn_wide (n := 6)).1 ?_
  have hfS : Fence.wide.fn 126 := trivial
  refine callsIn_of_wp_marks Tryz.func70 rfl trivial ?_ rfl
  simp only [Tryz.ntmps70, List.size_toArray, List.length_cons, List.length_nil, Nat.reduceAdd, Nat.reduceSub, Array.replicate_succ, Array.replicate_zero, List.push_toArray, List.append_toArray, List.nil_append, List.cons_append]
  gi_wp2_with (gi_at_call 126; refine (back_in q l.length qc _ _).mono ?_; rintro e w2 ⟨rfl, rfl⟩)
  have hB0 : Below w.heap.size w ((w.alloc (.cells #[.slice none 0 0] 133)).alloc (.cells #[.slice q l.length qc] 108)) := ((Below.refl _ w).alloc (Nat.le_refl _) _).alloc (by simp) _
  have x3 := (Boxed.new w 133 (.slice none 0 0)).alloc (.cells #[.slice q l.length qc] 108)
  have x4 := Boxed.new (w.alloc (.cells #[.slice none 0 0] 133)) 108 (.slice q l.length qc)
  simp only [World.size_alloc] at x4
  have hsz : ((w.alloc (.cells #[.slice none 0 0] 133)).alloc (.cells #[.slice q l.length qc] 108)).heap.size = w.heap.size + 2 := by simp
  obtain ⟨W0, hW0⟩ : ∃ W0, (w.alloc (.cells #[.slice none 0 0] 133)).alloc (.cells #[.slice q l.length qc] 108) = W0 := ⟨_, rfl⟩
  rw [hW0] at x3 x4 hB0 hsz ⊢
  clear hW0
  have hN0 : NfI w W0 (.slice none 0 0) [] := ⟨x3, OwnR.nil _ _ _ _ _, hB0, by omega⟩
  refine rangeFunc_T rfl (by decide) (gf := 200) (lb := #[.pointer (some ⟨w.heap.size + 1, 0, none⟩)]) rfl trivial (enters_of Tryz.func200 (by kernel_rfl) rfl)
    (back_seq (w.heap.size + 1) (fun k => k < w.heap.size ∨ k = w.heap.size + 1) q qc l W0 x4 (hp.below hB0) (.inr rfl) (fun a ha h0 => .inl (by obtain ⟨g, off, e, c0⟩ := hp.row 0 h0 0 _ rfl; simp only at e; rw [ha] at e; cases e; exact World.block_lt_of_cell? w _ c0)) (by omega))
    (fun h k => h.trans k) (fun W i o o' hi ho hc _ => ⟨by simp, fun k hk hlt => World.putObj_heap_other (by omega)⟩) (fun h j o hj hc _ => by rw [show _ = _ from h]; exact hj) (Below.refl _ _) (fun _ => rfl)
    (fun pre W => ∃ v, NfI w W v (pre.map (·.2.2)))
    (fun _ _ _ => False)
    (fun pre A B row h hg hr => by obtain ⟨v, h⟩ := h; exact ⟨v, h.grown hg (fun r e => ⟨by have := (hr r e).1; omega, (hr r e).2⟩)⟩)
    (fun _ _ _ _ _ h _ _ => h)
    (fun pre A B h ht => by rw [show _ = _ from ht]; exact h)
    (fun _ _ _ _ h _ => h)
    ⟨_, hN0⟩
    (fun x a' W => ∃ Bx v, w.heap.size + 2 ≤ Bx ∧ W.heap[Bx]? = some (Obj.cells #[.int .i64 x.2.1.number, .int .i64 x.2.1.level, slV x.2.2] 114) ∧ (Boxed W w.heap.size 133 v ∧ v.ownBlock ≠ some Bx) ∧ a' = { tmps := nfT w.heap.size Bx q l.length qc x, defers := [] })
    (fun x a' _ X Y row hs hg hr => by
      obtain ⟨Bx, v, k1, k2, ⟨k3, k4⟩, k7⟩ := hs
      have keep : ∀ {k : Nat} {cs : Array Value} {t : TypeId} {z : Nat × Nat}, X.heap[k]? = some (Obj.cells cs t z) → Y.heap[k]? = some (Obj.cells cs t z) := fun hk => (hg.block _ (lt_of_block hk) (fun e => by
        obtain ⟨_, o, ho, hc⟩ := hr _ e.symm
        rw [hk] at ho; cases ho; cases hc)).trans hk
      exact ⟨Bx, v, k1, keep k2, ⟨keep k3, k4⟩, k7⟩)
    ?assign ?body ?done ?stop
  case assign =>
    rintro i pre x W K ⟨v, hN⟩ hK
    have hn0 := hN.sz
    gi_wp2
    refine hK _ _ ((KeepsOthers.alloc _ _).from _) (KrB.of_kp (Kp.of_below (S := fun _ => False) ((Below.refl _ W).alloc (Nat.le_refl _) _)) (fun _ _ f => f)) ⟨v, hN.below ((Below.refl _ W).alloc (Nat.le_refl _) _)⟩ ⟨W.heap.size, v, by omega, block_new _ _, ⟨hN.box.alloc _, fun e => Nat.lt_irrefl _ (World.ownsRow.lt hN.row _ e).2⟩, ?_⟩
    rfl
  case body =>
    rintro i pre x a' W hlo _ ⟨v, hN⟩ ⟨Bx, v0, hBx, hpx, ⟨ha0, hsa⟩, rfl⟩ hlt
    obtain rfl : v0 = v := by have := ha0.symm.trans hN.box; simpa using this
    have hn0 := hN.sz
    obtain ⟨xi, ⟨xn, xl, xe⟩, ⟨sa, sn, sc⟩⟩ := x
    simp only at hpx
    obtain ⟨q0, q1, q2, _⟩ := cells3 hpx
    have c3 := hN.box.cell
    obtain ⟨av, nv, cv, rfl⟩ : ∃ a n c, v0 = .slice a n c := by obtain ⟨a, c, h⟩ := hN.row.shape; exact ⟨a, _, c, h⟩
    have hNa := hN.below ((Below.refl _ W).alloc (Nat.le_refl _) (.cells #[.slice sa sn sc] 112))
    obtain ⟨v', W', hrun, hown', kp', hat'⟩ := appR_run (sc := 1) Tryz.info112 rfl (by decide) Tryz.underlying133 slC_len slC_one hNa.row (rp_block slC_len (l := [(sa, sn, sc)]) (block_new W _) rfl) hNa.sz (by simp; omega) (by decide) 133
    obtain ⟨a4, n4, c4, rfl⟩ : ∃ a n c, v' = .slice a n c := by obtain ⟨a, c, h⟩ := hown'.shape; exact ⟨a, _, c, h⟩
    obtain ⟨f3, hN4, k4⟩ := hNa.add hown' kp'
    have c3' := f3.cell
    have z3' := f3.frozen
    unfold nfT
    simp only [List.length_cons, List.length_nil, Nat.zero_add] at hrun
    gi_wp2_with (gi_at_builtin; refine wpListIn_run rfl rfl rfl rfl hrun ?_)
    have kt := ((Kp.refl (fun i => i = w.heap.size ∨ (Value.slice av nv cv).ownBlock = some i) W).alloc (.cells #[.slice sa sn sc] 112)).trans k4 (fun i _ s => s)
    refine ⟨keeps_of_kp kt (fun i hi => ?_), KrB.of_kp kt (fun i hi s => ?_), _, by rw [List.map_append]; exact hN4⟩
    · rcases hi with rfl | e
      · exact ⟨_, _, _, hN.box⟩
      · obtain ⟨cs, z, hc⟩ := own_cellsL hN.row e; exact ⟨_, _, _, hc⟩
    · rcases s with rfl | e
      · omega
      · have := (World.ownsRow.lt hN.row i e).1; omega
  case done =>
    rintro D ys W hD hys ⟨v, hN⟩ hK
    have hc := hN.box.cell
    obtain ⟨av, nv, cv, rfl⟩ : ∃ a n c, v = .slice a n c := by obtain ⟨a, c, h⟩ := hN.row.shape; exact ⟨a, _, c, h⟩
    have HY : Hid (ys.map (·.2) = l.reverse) := hys
    clear hys
    gi_wp2
    refine ⟨by simp, .inl ⟨_, _, rfl, run_takeDeferred hK, ?_⟩⟩
    refine ⟨_, results_tmp rfl _ _ _, _, rfl, hN.bel.trans (belowK_b (w := w) (Nat.le_refl _) W D _ _ (by omega) hK rfl rfl), ?_⟩
    rw [← HY.out, List.map_map]
    exact ownsRow_putObj (OwnR.lowL hN.row (by omega)) _ hK rfl
  case stop =>
    rintro D c pre W hD hpre hF
    exact hF.elim
end Go.Proofs.YtoabedkcieindabGreatDoor

namespace Go.Proofs.YtoabedkcieindabGreatDoor
open Go.RowKit Go.Maps Go.Sort Go.Shelf
attribute [local go_sem] Oper.semAt_some
theorem keyedI : Keyed Tryz.prog 3 := int_keyed Tryz.underlying3
theorem vals_in (bs : Nat) (m : Nat) (w : World) :
    CallsIn Fence.wide m Tryz.prog 199 #[.map (some bs)] w fun e w' => e = .returned (.func (.func 287) #[] #[.pointer (some ⟨w.heap.size, 0, none⟩)]) ∧ w' = w.alloc (.cells #[.map (some bs)] 109) := by
  refine callsIn_wide.2 ?_
  go_enter Tryz.func199, Tryz.ntmps199
  go_wp2
  go_ret
  exact ⟨rfl, rfl⟩
abbrev encI (x : Int) : Array Value := #[.int .i64 x]
end Go.Proofs.YtoabedkcieindabGreatDoor

namespace Go.Proofs.YtoabedkcieindabGreatDoor
theorem any_congr' {α : Type} {l m : List α} (h : ∀ b, b ∈ l ↔ b ∈ m) (p : α → Bool) : l.any p = m.any p := by
  rw [Bool.eq_iff_iff, List.any_eq_true, List.any_eq_true]
  exact ⟨fun ⟨x, a, b⟩ => ⟨x, (h x).1 a, b⟩, fun ⟨x, a, b⟩ => ⟨x, (h x).2 a, b⟩⟩
theorem keepV_congr {bs cs : List Int} (h : ∀ b, b ∈ bs ↔ b ∈ cs) : ∀ (l : Ly) (p : Int), keepV bs p l = keepV cs p l
  | [], _ => rfl
  | e :: r, p => by
    rw [keepV, keepV, any_congr' h, keepV_congr h r]
theorem keepA_congr {bs cs : List Int} (h : ∀ b, b ∈ bs ↔ b ∈ cs) (l : Ly) : keepA bs l = keepA cs l := by
  cases l with
  | nil => rfl
  | cons e r => rw [keepA, keepA, keepV_congr h]
theorem seenV_congr {bs cs : List Int} (h : ∀ b, b ∈ bs ↔ b ∈ cs) (lw : Bool) (l : Ly) : seenV bs lw l = seenV cs lw l := by
  unfold seenV; rw [keepA_congr h]
theorem needF_congr {bs cs : List Int} (h : ∀ b, b ∈ bs ↔ b ∈ cs) (lw : Bool) : ∀ (n : Nat) (l : Ly), needF bs lw n l = needF cs lw n l
  | 0, l => by simp [needF]
  | n + 1, [] => by simp [needF]
  | n + 1, e :: r => by rw [needF, needF, seenV_congr h, needF_congr h lw n]
theorem needL_congr {bs cs : List Int} (h : ∀ b, b ∈ bs ↔ b ∈ cs) (lw : Bool) (l : Ly) : needL bs lw l = needL cs lw l := needF_congr h lw _ _
theorem foldl_max_ge : ∀ (l : List Int) (a : Int), a ≤ l.foldl max a ∧ ∀ b ∈ l, b ≤ l.foldl max a
  | [], a => ⟨Int.le_refl _, fun _ h => by cases h⟩
  | x :: r, a => by
    obtain ⟨h1, h2⟩ := foldl_max_ge r (max a x)
    refine ⟨Int.le_trans (Int.le_max_left _ _) h1, fun b hb => ?_⟩
    rcases List.mem_cons.1 hb with rfl | hb
    · exact Int.le_trans (Int.le_max_right _ _) h1
    · exact h2 b hb
theorem foldl_max_mem : ∀ (l : List Int) (a : Int), l.foldl max a = a ∨ l.foldl max a ∈ l
  | [], _ => .inl rfl
  | x :: r, a => by
    rcases foldl_max_mem r (max a x) with h | h
    · rw [List.foldl_cons, h]
      rcases Int.le_total a x with g | g
      · right; rw [Int.max_eq_right g]; simp
      · left; exact Int.max_eq_left g
    · right; rw [List.foldl_cons]; exact List.mem_cons_of_mem _ h
theorem foldl_max_congr {l m : List Int} (h : ∀ b, b ∈ l ↔ b ∈ m) (a : Int) : l.foldl max a = m.foldl max a := by
  have key : ∀ {l m : List Int}, (∀ b, b ∈ l → b ∈ m) → l.foldl max a ≤ m.foldl max a := fun {l m} h => by
    rcases foldl_max_mem l a with e | e
    · rw [e]; exact (foldl_max_ge m a).1
    · exact (foldl_max_ge m a).2 _ (h _ e)
  exact Int.le_antisymm (key fun b hb => (h b).1 hb) (key fun b hb => (h b).2 hb)
theorem Ls.le_lastSnap (s : Ls) {b : Int} (h : b ∈ s.kept) : b ≤ s.lastSnap := (foldl_max_ge _ _).2 b h
theorem Ls.lastSnap_le (s : Ls) {c : Int} (h : ∀ b ∈ s.kept, b ≤ c) (hc : -1 ≤ c) : s.lastSnap ≤ c := by
  rcases foldl_max_mem (s.snaps.map (·.2)) (-1) with e | e
  · unfold Ls.lastSnap; rw [e]; exact hc
  · exact h _ e
end Go.Proofs.YtoabedkcieindabGreatDoor
