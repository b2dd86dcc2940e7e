/- The statements' fresh; scripts of what is done; what is tidied is a batch. -/
import Derived.Test.YtfghgmojnffgnaaGreatKeepE
namespace Go.Proofs.YtfghgmojnffgnaaGreat
open Go.RowKit Go.Maps Go.Sort

theorem below_kp {w w1 w2 : World} (hb : Below w.heap.size w w1) (k : Kp (fun k => w.heap.size ≤ k) w1 w2) : Below w.heap.size w w2 :=
  ((Kp.of_below (S := fun _ => False) hb).trans k (fun i hi s => by omega)).below
theorem below_kp2 {w w1 w2 : World} {U : Nat → Prop} (hb : Below w.heap.size w w1) (k : Kp U w1 w2) (hU : ∀ i, U i → w.heap.size ≤ i) : Below w.heap.size w w2 := below_kp hb (k.mono hU)

set_option maxHeartbeats 1000000 in
theorem fresh_any (q p : Int) (w : World) (hq0 : 0 ≤ q) (hq1 : q ≤ 1048576) (hp0 : 0 ≤ p) (hp2 : p ≤ 2) :
    Calls Tryz.prog 10 #[.int .i64 q, .int .i64 p] w fun e w' => ∃ bx bz d2, e = .returned (.tuple #[.pointer (some ⟨bx, 0, none⟩), .pointer (some ⟨bz, 0, none⟩), .bool true]) ∧ Shop w' (fun k => w.heap.size ≤ k) bx bz d2 ⟨1, [], false, false⟩ ∧ Below w.heap.size w w' ∧ DInv d2 [] ∧ d2.turn = 1 ∧ d2.quota = q.toNat ∧ used d2.files = 0 := by
  have hN := xNew_ok q w (by simp [quotaOk, hq0, hq1])
  go_enter Tryz.func10, Tryz.ntmps10
  go_wp2_with (first
    | (go_at_call 27; refine hN.mono ?_; rintro e w1 ⟨bx, rfl, hX, hb1⟩; clear hN)
    | (go_at_call 21; refine (xOpen_inv bx (newDk q) [] p _ w1 hX (DInv.new q hq1) (by simp [newDk]) (by simp [newDk]) hp0 hp2).mono ?_; rintro e w2 ⟨bz, d2, rfl, hS, k, hD, ht, hq, hu⟩))
  go_ret3
  exact ⟨bx, bz, d2, rfl, hS.mono (fun i _ s => s.elim id (fun h => Nat.le_trans hb1.size h)), below_kp hb1 k, hD, ht, hq, hu⟩

/-- Something that is done: as the cells have it. -/
structure DoV where
  kind : Int
  a : Int
  b : Int
  q : Option Addr
  qc : Nat
  ops : List Ox
structure DoOk (w : World) (o : DoV) : Prop where
  len : o.ops.length ≤ 1048576
  opp : Opp w o.q o.ops
  ox : OxLen o.ops
theorem DoOk.below {w w' : World} {o : DoV} (h : DoOk w o) (hb : Below w.heap.size w w') : DoOk w' o := ⟨h.len, h.opp.below hb, h.ox⟩
def Dop (w : World) (q : Option Addr) (l : List DoV) : Prop := ∀ i (h : i < l.length), ∃ g off, q = some ⟨g, off, none⟩ ∧ w.cell? ⟨g, off + i * 4, none⟩ = some (.int .i64 l[i].kind) ∧ w.cell? ⟨g, off + i * 4 + 1, none⟩ = some (.int .i64 l[i].a) ∧ w.cell? ⟨g, off + i * 4 + 2, none⟩ = some (.int .i64 l[i].b) ∧ w.cell? ⟨g, off + i * 4 + 3, none⟩ = some (.slice l[i].q l[i].ops.length l[i].qc)
theorem Dop.below {w w' : World} {q : Option Addr} {l : List DoV} (h : Dop w q l) (hb : Below w.heap.size w w') : Dop w' q l := fun i hi => by
  obtain ⟨g, off, e, h0, h1, h2, h3⟩ := h i hi
  exact ⟨g, off, e, cell_below hb h0, cell_below hb h1, cell_below hb h2, cell_below hb h3⟩

theorem tidyK_ok (k : Nm) : keyOk (tidyK k) = true := by
  unfold tidyK keyOk
  split
  · rw [List.length_take]; simp; omega
  · split
    · rfl
    · rename_i h1 h2
      have : 1 ≤ k.length := by cases k with | nil => exact absurd rfl h2 | cons _ _ => simp
      simp; omega
theorem tidyV_len (v : Nm) : (tidyV v).length ≤ 64 := by
  unfold tidyV
  split
  · rw [List.length_take]; omega
  · omega
theorem tidyOp_ok (o : Ox) : opOk (tidyOp o) = true := by
  have h1 := tidyK_ok o.key
  have h2 := tidyV_len o.val
  simp only [opOk, tidyOp, h1, Bool.true_and, Bool.or_eq_true]
  exact .inr (decide_eq_true h2)
theorem tidy_ok (l : List Ox) : batchOk (tidyL l) = true := by
  rw [batchOk_iff]
  unfold tidyL
  split
  · refine ⟨by simp, fun o ho => ?_⟩
    obtain rfl := List.mem_singleton.1 ho
    rfl
  · rename_i h
    have : 1 ≤ l.length := by cases l with | nil => exact absurd rfl h | cons _ _ => simp
    refine ⟨by rw [List.length_map, List.length_take]; omega, fun o ho => ?_⟩
    obtain ⟨o', _, rfl⟩ := List.mem_map.1 ho
    exact tidyOp_ok o'
theorem tidy_val (l : List Ox) : ∀ o ∈ tidyL l, o.val.length ≤ 64 := by
  unfold tidyL
  split
  · intro o ho
    obtain rfl := List.mem_singleton.1 ho
    simp
  · intro o ho
    obtain ⟨o', _, rfl⟩ := List.mem_map.1 ho
    exact tidyV_len _
theorem tidy_ox (l : List Ox) : OxLen (tidyL l) := fun o ho => by
  have h1 := opOk_key ((batchOk_iff.1 (tidy_ok l)).2 o ho)
  have h2 := tidy_val l o ho
  omega

theorem Opp.kept {w w' : World} {U : Nat → Prop} {q : Option Addr} {l : List Ox} (h : Opp w q l) (k : Kp U w w') (hq : ∀ a, q = some a → 0 < l.length → ¬ U a.block) : Opp w' q l := fun i hi => by
  obtain ⟨g, off, rfl, c0, c1, c2⟩ := h i hi
  have hgl := World.block_lt_of_cell? w ⟨g, off + i * 3, none⟩ c0
  have hbk := k.block g hgl (hq _ rfl (by omega))
  exact ⟨g, off, rfl, by simp only [World.cell?, hbk] at c0 ⊢; exact c0, by simp only [World.cell?, hbk] at c1 ⊢; exact c1, by simp only [World.cell?, hbk] at c2 ⊢; exact c2⟩
theorem PRowS.step {w w' : World} {U : Nat → Prop} {v : Value} {l : List (Nm × Nm)} (h : PRowS w U v l) (k : Kp U w w') : PRowS w' (fun i => Nw U w i ∧ i < w'.heap.size) v l := by
  obtain ⟨q, c, e, hp, hn⟩ := h
  obtain ⟨q', c', e', hp', _⟩ := PRowS.kept ⟨q, c, e, hp, hn⟩ k
  rw [e] at e'
  cases e'
  refine ⟨q, c, e, hp', fun a ha h0 s => ?_⟩
  rcases s.1 with s | s
  · exact hn a ha h0 s
  · have := Pairp.lt hp a ha h0; omega

end Go.Proofs.YtfghgmojnffgnaaGreat
