import Derived.Test.YtoabedkcieindaaGreatDoorHkBA
import Derived.Test.YtoabedkcieindaaGreatDoorHkBD
namespace Go.Proofs.YtoabedkcieindaaGreatDoor
open Go.RowKit Go.Maps Go.Sort Go.Shelf
def PRowS (w : World) (V : Nat → Prop) (v : Value) (l : List (Nm × Nm)) : Prop := ∃ q c, v = .slice q l.length c ∧ Pairp w q l ∧ ∀ a, q = some a → 0 < l.length → ¬ V a.block
theorem PRowS.below {w w' : World} {V : Nat → Prop} {v : Value} {l : List (Nm × Nm)} (h : PRowS w V v l) (hb : Below w.heap.size w w') : PRowS w' V v l := by
  obtain ⟨q, c, e, hp, hn⟩ := h
  exact ⟨q, c, e, hp.below hb, hn⟩
theorem PRowS.kept {w w' : World} {V : Nat → Prop} {v : Value} {l : List (Nm × Nm)} (h : PRowS w V v l) (k : Kp V w w') : PRowS w' V v l := by
  obtain ⟨q, c, e, hp, hn⟩ := h
  refine ⟨q, c, e, fun i hi => ?_, hn⟩
  obtain ⟨g, off, rfl, c0, c1⟩ := hp i hi
  have hgl := World.block_lt_of_cell? w ⟨g, off + i * 2, none⟩ c0
  have hbk := k.block g hgl (hn _ rfl (by omega))
  exact ⟨g, off, rfl, by simp only [World.cell?, hbk] at c0 ⊢; exact c0, by simp only [World.cell?, hbk] at c1 ⊢; exact c1⟩
theorem Pairp.lt {w : World} {l : List (Nm × Nm)} {q : Option Addr} (hp : Pairp w q l) : ∀ a, q = some a → 0 < l.length → a.block < w.heap.size := fun a ha h0 => by
  obtain ⟨g, off, e, c0, _⟩ := hp 0 h0
  rw [ha] at e
  cases e
  exact World.block_lt_of_cell? w _ c0
theorem PRowS.mono {w : World} {V V' : Nat → Prop} {v : Value} {l : List (Nm × Nm)} (h : PRowS w V v l) (hV : ∀ k, k < w.heap.size → V' k → V k) : PRowS w V' v l := by
  obtain ⟨q, c, e, hp, hn⟩ := h
  exact ⟨q, c, e, hp, fun a ha h0 s => hn a ha h0 (hV _ (Pairp.lt hp a ha h0) s)⟩
theorem PRowS.nil (w : World) (V : Nat → Prop) (c : Nat) : PRowS w V (.slice none 0 c) [] := ⟨none, c, rfl, fun i hi => absurd hi (Nat.not_lt_zero _), fun a ha => by cases ha⟩
set_option maxHeartbeats 2000000 in
set_option maxRecDepth 20000 in
theorem behind_row (V : Nat → Prop) (v0 : Value) (l : List (Nm × Nm)) (qo : Option Addr) (oc : Nat) (ops : List Ox) (w : World) (hV : ∀ k, V k → k < w.heap.size) (hv : PRowS w V v0 l) (hr : rising l) (ho : Opp w qo ops) (hl : l.length + ops.length ≤ 4190000) :
    Calls Tryz.prog 35 #[v0, .slice qo ops.length oc] w fun e w' => ∃ v, e = .returned v ∧ Below w.heap.size w w' ∧ PRowS w' V v (doAll l ops) := by
  go_enter Tryz.func35, Tryz.ntmps35
  go_wp2
  go_loopw [0, 5] (fun v i wr => ∃ k : Nat, k ≤ ops.length ∧ i = .int .i64 k ∧ PRowS wr V v (doAll l (ops.take k)) ∧ Below w.heap.size w wr) (fun _ i _ => ops.length - (intOf i).toNat)
  case atStart => exact ⟨0, Nat.zero_le _, rfl, hv, Below.refl _ _⟩
  case round =>
    obtain ⟨k, hk, rfl, hrow, hB⟩ := hrel
    have hs := hB.size
    by_cases hlt : k < ops.length
    · obtain ⟨g, off, rfl, c0, c1, c2⟩ := (ho.below hB) k hlt
      obtain ⟨q, c, rfl, hp, _⟩ := hrow
      have hml := doAll_len l (ops.take k)
      rw [List.length_take] at hml
      have HS : Hid (doAll l (ops.take (k + 1)) = kdoneL (doAll l (ops.take k)) ops[k]) := by show _ = _; rw [doAll_snoc l hlt, kdoneL_doOp _ (rising_doAll _ hr)]
      generalize doAll l (ops.take k) = M at *
      go_wp2_with (go_at_call 64; refine (kdone_any q c M ops[k] _ hp (by omega)).mono ?_; rintro e w1 ⟨v, rfl, hb, hown⟩)
      go_roundw
      case rel =>
        refine ⟨k + 1, by omega, by go_num, ?_, hB.trans (hb.mono hs)⟩
        rw [HS.out]
        obtain ⟨q', c', e', hp', hn'⟩ := hown.pairp
        exact ⟨q', c', e', hp', fun a ha _ s => by have := (hn' a ha).1; have := hV _ s; omega⟩
      case measure => simp [intOf]; omega
    · rw [List.take_of_length_le (by omega)] at hrow
      go_wp2
      go_ret
      exact ⟨_, rfl, hB, hrow⟩
theorem below_kp {w w1 w2 : World} (hb : Below w.heap.size w w1) (k : Kp (fun k => w.heap.size ≤ k) w1 w2) : Below w.heap.size w w2 :=
  ((Kp.of_below (S := fun _ => False) hb).trans k (fun i hi s => by omega)).below
theorem below_kp2 {w w1 w2 : World} {U : Nat → Prop} (hb : Below w.heap.size w w1) (k : Kp U w1 w2) (hU : ∀ i, U i → w.heap.size ≤ i) : Below w.heap.size w w2 := below_kp hb (k.mono hU)
structure DoV where
  kind : Int
  a : Int
  b : Int
  q : Option Addr
  qc : Nat
  ops : List Ox
structure DoOk (w : World) (o : DoV) : Prop where
  len : o.ops.length ≤ 9223372036854775807
  opp : Opp w o.q o.ops
  ox : OxBig o.ops
theorem DoOk.below {w w' : World} {o : DoV} (h : DoOk w o) (hb : Below w.heap.size w w') : DoOk w' o := ⟨h.len, h.opp.below hb, h.ox⟩
def Dop (w : World) (q : Option Addr) (l : List DoV) : Prop := ∀ i (h : i < l.length), ∃ g off, q = some ⟨g, off, none⟩ ∧ w.cell? ⟨g, off + i * 4, none⟩ = some (.int .i64 l[i].kind) ∧ w.cell? ⟨g, off + i * 4 + 1, none⟩ = some (.int .i64 l[i].a) ∧ w.cell? ⟨g, off + i * 4 + 2, none⟩ = some (.int .i64 l[i].b) ∧ w.cell? ⟨g, off + i * 4 + 3, none⟩ = some (.slice l[i].q l[i].ops.length l[i].qc)
theorem Dop.below {w w' : World} {q : Option Addr} {l : List DoV} (h : Dop w q l) (hb : Below w.heap.size w w') : Dop w' q l := fun i hi => by
  obtain ⟨g, off, e, h0, h1, h2, h3⟩ := h i hi
  exact ⟨g, off, e, cell_below hb h0, cell_below hb h1, cell_below hb h2, cell_below hb h3⟩
theorem tidyK_ok (k : Nm) : keyOk (tidyK k) = true := by
  unfold tidyK keyOk
  split
  · rw [List.length_take]; simp; omega
  · split
    · rfl
    · rename_i h1 h2
      have : 1 ≤ k.length := by cases k with | nil => exact absurd rfl h2 | cons _ _ => simp
      simp; omega
theorem tidyV_len (v : Nm) : (tidyV v).length ≤ 64 := by
  unfold tidyV
  split
  · rw [List.length_take]; omega
  · omega
theorem tidyOp_ok (o : Ox) : opOk (tidyOp o) = true := by
  have h1 := tidyK_ok o.key
  have h2 := tidyV_len o.val
  simp only [opOk, tidyOp, h1, Bool.true_and, Bool.or_eq_true]
  exact .inr (decide_eq_true h2)
theorem tidy_ok (l : List Ox) : batchOk (tidyL l) = true := by
  rw [batchOk_iff]
  unfold tidyL
  split
  · refine ⟨by simp, fun o ho => ?_⟩
    obtain rfl := List.mem_singleton.1 ho
    rfl
  · rename_i h
    have : 1 ≤ l.length := by cases l with | nil => exact absurd rfl h | cons _ _ => simp
    refine ⟨by rw [List.length_map, List.length_take]; omega, fun o ho => ?_⟩
    obtain ⟨o', _, rfl⟩ := List.mem_map.1 ho
    exact tidyOp_ok o'
theorem tidy_val (l : List Ox) : ∀ o ∈ tidyL l, o.val.length ≤ 64 := by
  unfold tidyL
  split
  · intro o ho
    obtain rfl := List.mem_singleton.1 ho
    simp
  · intro o ho
    obtain ⟨o', _, rfl⟩ := List.mem_map.1 ho
    exact tidyV_len _
theorem tidy_ox (l : List Ox) : OxLen (tidyL l) := fun o ho => by
  have h1 := opOk_key ((batchOk_iff.1 (tidy_ok l)).2 o ho)
  have h2 := tidy_val l o ho
  omega
theorem PRowS.step {w w' : World} {U : Nat → Prop} {v : Value} {l : List (Nm × Nm)} (h : PRowS w U v l) (k : Kp U w w') : PRowS w' (fun i => Nw U w i ∧ i < w'.heap.size) v l := by
  obtain ⟨q, c, e, hp, hn⟩ := h
  obtain ⟨q', c', e', hp', _⟩ := PRowS.kept ⟨q, c, e, hp, hn⟩ k
  rw [e] at e'
  cases e'
  refine ⟨q, c, e, hp', fun a ha h0 s => ?_⟩
  rcases s.1 with s | s
  · exact hn a ha h0 s
  · have := Pairp.lt hp a ha h0; omega
theorem Tryz.info63 : (Tryz.prog.info? 63).map (fun i => (i.zero, i.size, i.bytes)) = some (some (.agg #[.int .i64 0, .int .i64 0, .int .i64 0, .slice none 0 0]), 4, 48) := by kernel_rfl
def flatD (l : List DoV) : List Value := l.flatMap fun o => [.int .i64 o.kind, .int .i64 o.a, .int .i64 o.b, .slice o.q o.ops.length o.qc]
theorem flatD_snoc (l : List DoV) (o : DoV) : flatD (l ++ [o]) = flatD l ++ [.int .i64 o.kind, .int .i64 o.a, .int .i64 o.b, .slice o.q o.ops.length o.qc] := by simp [flatD]
def OwnD (w : World) (base : Nat) (v : Value) (l : List DoV) : Prop := w.ownsRow base 63 4 v l.length (flatD l)
theorem flatD_at : ∀ (l : List DoV) (i : Nat) (h : i < l.length), (flatD l)[i * 4]? = some (.int .i64 l[i].kind) ∧ (flatD l)[i * 4 + 1]? = some (.int .i64 l[i].a) ∧ (flatD l)[i * 4 + 2]? = some (.int .i64 l[i].b) ∧ (flatD l)[i * 4 + 3]? = some (.slice l[i].q l[i].ops.length l[i].qc)
  | x :: r, 0, _ => by simp [flatD]
  | x :: r, i + 1, h => by
    obtain ⟨h0, h1, h2, h3⟩ := flatD_at r i (by simpa using h)
    have e : flatD (x :: r) = [.int .i64 x.kind, .int .i64 x.a, .int .i64 x.b, .slice x.q x.ops.length x.qc] ++ flatD r := by simp [flatD]
    rw [e]
    refine ⟨?_, ?_, ?_, ?_⟩
    · rw [show (i + 1) * 4 = i * 4 + 4 by omega, List.getElem?_append_right (by simp)]; simpa using h0
    · rw [show (i + 1) * 4 + 1 = i * 4 + 1 + 4 by omega, List.getElem?_append_right (by simp)]; simpa using h1
    · rw [show (i + 1) * 4 + 2 = i * 4 + 2 + 4 by omega, List.getElem?_append_right (by simp)]; simpa using h2
    · rw [show (i + 1) * 4 + 3 = i * 4 + 3 + 4 by omega, List.getElem?_append_right (by simp)]; simpa using h3
theorem OwnD.dop {w : World} {base : Nat} {v : Value} {l : List DoV} (h : OwnD w base v l) : ∃ q cap, v = .slice q l.length cap ∧ Dop w q l ∧ ∀ a, q = some a → base ≤ a.block ∧ a.block < w.heap.size := by
  rcases h.2 with ⟨hv, hn⟩ | ⟨g, cap, cur, hv, hb, hgg, _⟩
  · exact ⟨none, 0, by rw [hv, hn], fun i hi => by omega, fun a ha => by cases ha⟩
  · refine ⟨_, cap, hv, fun i hi => ?_, fun a ha => by cases ha; exact ⟨hb, lt_of_block hgg⟩⟩
    have hc := World.ownsRow.cells h (g := g) (by rw [hv]; rfl)
    obtain ⟨k0, k1, k2, k3⟩ := flatD_at l i hi
    refine ⟨g, 0, rfl, ?_, ?_, ?_, ?_⟩
    · have := hc _ _ k0; rwa [Addr.add_lit] at this
    · have := hc _ _ k1; rwa [Addr.add_lit, ← Nat.add_assoc] at this
    · have := hc _ _ k2; rwa [Addr.add_lit, ← Nat.add_assoc] at this
    · have := hc _ _ k3; rwa [Addr.add_lit, ← Nat.add_assoc] at this
theorem do_new {W : World} {n : Nat} (h : W.heap.size = n) {a b c d : Value} : ∀ j u, [a, b, c, d][j]? = some u → (W.alloc (.cells #[a, b, c, d] 63)).cell? ((⟨n, 0, none⟩ : Addr).add j) = some u := by
  intro j u hu
  subst h
  rw [Addr.add_lit, Nat.zero_add, cell_block (block_new W _)]
  simpa using hu
theorem Dop.kept {w w' : World} {U : Nat → Prop} {q : Option Addr} {l : List DoV} (h : Dop w q l) (k : Kp U w w') (hq : ∀ a, q = some a → 0 < l.length → ¬ U a.block) : Dop w' q l := fun i hi => by
  obtain ⟨g, off, rfl, c0, c1, c2, c3⟩ := h i hi
  have hgl := World.block_lt_of_cell? w ⟨g, off + i * 4, none⟩ c0
  have hbk := k.block g hgl (hq _ rfl (by omega))
  exact ⟨g, off, rfl, by simp only [World.cell?, hbk] at c0 ⊢; exact c0, by simp only [World.cell?, hbk] at c1 ⊢; exact c1, by simp only [World.cell?, hbk] at c2 ⊢; exact c2, by simp only [World.cell?, hbk] at c3 ⊢; exact c3⟩
def isB (o : DoV) : Bool := decide (o.kind < 1) || decide (5 < o.kind)
theorem filter_snoc {L : List DoV} {k : Nat} (h : k < L.length) : (isB L[k] = true → (L.take (k + 1)).filter isB = (L.take k).filter isB ++ [L[k]]) ∧ (isB L[k] = false → (L.take (k + 1)).filter isB = (L.take k).filter isB) := by
  rw [List.take_succ_eq_append_getElem h, List.filter_append]
  constructor
  · intro e; rw [List.filter_cons_of_pos e]; rfl
  · intro e; rw [List.filter_cons_of_neg (by simp [e])]; simp
set_option maxHeartbeats 2000000 in
set_option maxRecDepth 20000 in
theorem batches_any (q : Option Addr) (qc : Nat) (L : List DoV) (w : World) (hp : Dop w q L) (hl : L.length ≤ 1048576) :
    Calls Tryz.prog 20 #[.slice q L.length qc] w fun e w' => ∃ v, e = .returned v ∧ Below w.heap.size w w' ∧ OwnD w' w.heap.size v (L.filter isB) := by
  obtain ⟨i0, hi0, hz0, hz1, hz2⟩ := info_parts Tryz.info63
  go_enter Tryz.func20, Tryz.ntmps20
  go_wp2
  go_loopw [3, 4] (fun v i wr => ∃ k : Nat, k ≤ L.length ∧ i = .int .i64 k ∧ OwnD wr w.heap.size v ((L.take k).filter isB) ∧ Below w.heap.size w wr) (fun _ i _ => L.length - (intOf i).toNat)
  case atStart => exact ⟨0, Nat.zero_le _, rfl, World.ownsRow_nil _ _ _ _, Below.refl _ _⟩
  case round =>
    obtain ⟨k, hk, rfl, hown, hB⟩ := hrel
    have hs := hB.size
    by_cases hlt : k < L.length
    · obtain ⟨g, off, rfl, c0, c1, c2, c3⟩ := (hp.below hB) k hlt
      obtain ⟨hy, hn⟩ := filter_snoc hlt
      have hml : ((L.take k).filter isB).length ≤ 1048576 := Nat.le_trans (List.length_filter_le _ _) (by rw [List.length_take]; omega)
      cases hb : isB L[k]
      · have HM : Hid ((L.take (k + 1)).filter isB = (L.take k).filter isB) := hn hb
        simp only [isB, Bool.or_eq_false_iff, decide_eq_false_iff_not] at hb
        obtain ⟨b1, b2⟩ := hb
        clear hy hn
        go_wp2
        go_roundw
        case rel => exact ⟨k + 1, by omega, by go_num, by rw [HM.out]; exact hown, hB⟩
        case measure => simp [intOf]; omega
      · have HM : Hid ((L.take (k + 1)).filter isB = (L.take k).filter isB ++ [L[k]]) := hy hb
        clear hy hn
        generalize (L.take k).filter isB = M at *
        have HC : Hid (L[k].kind < 1 ∨ (¬ L[k].kind < 1 ∧ 5 < L[k].kind)) := by
          simp only [isB, Bool.or_eq_true, decide_eq_true_eq] at hb
          show _ ∨ _
          omega
        clear hb
        rcases HC.out with b1 | ⟨b1, b2⟩
        all_goals
          go_wp2_with (first
            | (at_builtin; refine wpList_append_own _ rfl (.tmp 25) (.tmp 30) 26 rfl w.heap.size 63 i0 _ 4 48 Tryz.underlying26 hi0 hz0 hz1 hz2 rfl (by decide) _ M.length (flatD M) rfl (World.ownsRow.alloc hown _) ⟨wr.heap.size, 0, none⟩ 1 1 [.int .i64 L[k].kind, .int .i64 L[k].a, .int .i64 L[k].b, .slice L[k].q L[k].ops.length L[k].qc] rfl rfl (do_new rfl) (by simp [Value.oneCell']) (by unfold maxLen; omega) (by omega) (by simp; omega) ?_; intro v' w2 hown' hgrow _)
            | go_in)
          go_roundw
          case rel =>
            refine ⟨k + 1, by omega, by go_num, ?_, (hB.alloc hs _).grown hgrow (by simp; omega) (fun k hk => (World.ownsRow.lt hown k hk).1)⟩
            unfold OwnD
            rw [HM.out, flatD_snoc, List.length_append]
            exact hown'
          case measure => simp [intOf]; omega
    · have hkl : k = L.length := by omega
      rw [hkl, List.take_of_length_le (Nat.le_refl _)] at hown
      go_wp2
      go_ret
      exact ⟨_, rfl, hB, hown⟩
def DoOut (U : Nat → Prop) (o : DoV) : Prop := ∀ a, o.q = some a → 0 < o.ops.length → ¬ U a.block
theorem kp_below {S : Nat → Prop} {a b c : World} (h : Kp S a b) (k : Below b.heap.size b c) : Kp S a c := h.trans (T := fun _ => False) (Kp.of_below k) (fun _ _ f => f.elim)
end Go.Proofs.YtoabedkcieindaaGreatDoor

namespace Go.Proofs.YtoabedkcieindaaGreatDoor
open Go.RowKit Go.Maps Go.Sort Go.Shelf
set_option maxHeartbeats 400000 in
theorem xOpen_nil (bx : Nat) (d : Dk) (S : Nat → Prop) (policy : Int) (w : World) (hX : XAt w S bx d) (hf : d.files = []) (hok : d.Ok) (hda : d.dead = false) (h0 : 0 ≤ d.turn) (h1 : d.turn ≤ 4611686018427387904) (hp : 0 ≤ policy ∧ policy ≤ 2) :
    Calls Tryz.prog 28 #[.pointer (some ⟨bx, 0, none⟩), .int .i64 policy] w fun e w' => ∃ bz, e = .returned (.tuple #[.pointer (some ⟨bz, 0, none⟩), .int .i64 0]) ∧ Lx w' (Nw S w) bx bz { d with turn := d.turn + 1 } (newLs (d.turn + 1) policy) ∧ Kp S w w' := by
  obtain ⟨bd, g1, g2, g3⟩ := id hX
  obtain ⟨c0, z0⟩ := cells1 g1
  have hlx := lt_of_block g1
  have hO := sOpen_nil bd d (fun k => S k ∧ k ≠ bx) policy w g3 hf hok hda h0 h1 hp
  clear hp h0 h1
  go_enter Tryz.func28, Tryz.ntmps28
  go_wp2_with (go_at_call 59; refine hO.mono ?_; rintro e w1 ⟨T, rfl, hQ, k1⟩; clear hO)
  go_ret2
  obtain ⟨bm, bsn, S', E', s, l, t1, t2, t3, a1, a2, hY⟩ := hQ
  have hz := k1.size
  have hB : Below w1.heap.size w1 (w1.alloc (.cells #[.pointer (some ⟨T, 0, none⟩)] 118)) := (Below.refl _ w1).alloc (Nat.le_refl _) _
  have hY' : Lsy w1 (fun k => S' k ∧ k < w1.heap.size) E' T bd bm bsn s l { d with turn := d.turn + 1 } (newLs (d.turn + 1) policy) := ⟨hY.prog.mono (fun k hk s => ⟨s, hk⟩), hY.at_, fun k e x => hY.dj k e x.1, fun x => hY.nT x.1, fun x => hY.nm x.1, fun x => hY.nn x.1⟩
  refine ⟨_, rfl, ⟨bd, T, bm, bsn, _, E', s, l, block_alloc (k1.at g1 (fun x => x.2 rfl)), block_new w1 _, .inl g2, .inr hz, fun k hk => ?_, hY'.below hB⟩, (k1.mono (fun _ x => x.1)).alloc _⟩
  have hlt : k < w1.heap.size := by
    rcases hk with x | x | rfl | rfl | rfl
    · exact x.2
    · exact hY.at_.bnd k x
    · exact lt_of_block hY.at_.blk
    · exact hY.at_.mem.lt
    · exact hY.at_.snp.lt
  have hb : Nw S w k ∧ k ≠ bx := by
    rcases hk with x | x | rfl | rfl | rfl
    · rcases a1 k x.1 with y | y
      · exact ⟨.inl y.1, y.2⟩
      · exact ⟨.inr y, by omega⟩
    · have := a2 k x; exact ⟨.inr this, by omega⟩
    · exact ⟨.inr t1, by omega⟩
    · exact ⟨.inr t2, by omega⟩
    · exact ⟨.inr t3, by omega⟩
  exact ⟨hb.1, hb.2, by omega⟩
structure Wl (w : World) (U : Nat → Prop) (bx bz : Nat) (lv : Value) (d : Dk) (st : Ls) (M : Mp) (n left : Nat) : Prop where
  shop : Lx w U bx bz d st
  up : ∀ k, U k → k < w.heap.size
  row : PRowS w U lv M
  inv : Lst d st M n
  cnt : n + left ≤ 110
theorem Wl.below {w w' : World} {bx bz : Nat} {lv : Value} {U : Nat → Prop} {d : Dk} {st : Ls} {M : Mp} {n left : Nat} (h : Wl w U bx bz lv d st M n left) (hb : Below w.heap.size w w') : Wl w' U bx bz lv d st M n left :=
  ⟨h.shop.below hb, fun k s => Nat.lt_of_lt_of_le (h.up k s) hb.size, h.row.below hb, h.inv, h.cnt⟩
end Go.Proofs.YtoabedkcieindaaGreatDoor

namespace Go.Proofs.YtoabedkcieindaaGreatDoor
open Go.RowKit Go.Maps Go.Sort Go.Shelf
variable {Q : Sq}
theorem Lsu.of0 {d : Dk} {s : Ls} {M : Mp} (h : Lst d s M 0) (hlo : s.loose = false) (htk : s.taken = 0) : Lsu d s M 0 0 ⟨0, []⟩ := by
  have h1 := h.ents
  have h2 := h.few
  have h3 := h.log
  have h4 := h.next
  have hm : flatM s.mem = [] := List.length_eq_zero_iff.1 (by omega)
  have ht : s.tabs = [] := List.length_eq_zero_iff.1 (by omega)
  have hz : s.log = 0 := by omega
  obtain ⟨bs, m, a, b, c⟩ := h.lin
  exact ⟨⟨bs, m, a, b, c⟩, h.ok, h.stl, h.qu, h.turn, h.pol, h.sn, h.stk, h.mok, h.mop, h.bat, h.rise, h.view, h.srt, h.tok, h.ne, h.lv, h.ents, h.lev, h.few, h.log, by rw [hz] at h4; omega, fun e he => (by rw [hm] at he; cases he), fun x hx => (by rw [ht] at hx; cases hx), fun e => (by rw [hlo] at e; cases e), by rw [htk]; rfl, fun q hq => (by cases hq)⟩
theorem fresh_lg (p : Int) (w : World) (hp : 0 ≤ p ∧ p ≤ 2) :
    Calls Tryz.prog 17 #[.int .i64 1048576, .int .i64 p] w fun e w' => ∃ bx bz, e = .returned (.tuple #[.pointer (some ⟨bx, 0, none⟩), .pointer (some ⟨bz, 0, none⟩), .bool true]) ∧ Lg w' (fun k => w.heap.size ≤ k ∧ k < w'.heap.size) bx bz [] 0 0 ⟨0, []⟩ ∧ Below w.heap.size w w' := by
  have hN := xNew_ok 1048576 w (by decide)
  have hok : (newDk 1048576).Ok := newDk_ok (by decide)
  go_enter Tryz.func17, Tryz.ntmps17
  go_wp2_with (first
    | (go_at_call 32; refine hN.mono ?_; rintro e w1 ⟨bx, rfl, hX, hb1⟩; clear hN)
    | (go_at_call 28; refine (xOpen_nil bx (newDk 1048576) _ p w1 hX rfl hok rfl (by decide) (by decide) hp).mono ?_; rintro e w2 ⟨bz, rfl, hS, k⟩))
  go_ret3
  refine ⟨bx, bz, rfl, ⟨_, _, hS.mono (fun i hi s => ⟨s.elim id (fun h => Nat.le_trans hb1.size h), hi⟩), ?_⟩, below_kp hb1 k⟩
  exact Lsu.of0 (Lst.empty (d := { newDk 1048576 with turn := (newDk 1048576).turn + 1 }) rfl ⟨hok.quota, hok.used, hok.left0, hok.left1, hok.safe, hok.rise, hok.name⟩ ⟨rfl, by decide⟩ (by decide) hp) rfl rfl
theorem Lsu.mlen {d : Dk} {s : Ls} {M : Mp} {n c : Nat} (h : Lsu d s M n c Q) : M.length ≤ n := by
  have hs := h.scan []
  have e : fromL [] M = M := List.filter_eq_self.2 fun x _ => by rw [before_nil]; rfl
  rw [e, scanX_all] at hs
  have h1 := behF_len s.batch (mergeL s.layers) []
  rw [hs] at h1
  have h2 : (mergeL s.layers).length ≤ s.layers.flatten.length := mergeF_len _ _
  have := h.laylen
  omega
theorem fromL_nil (M : Mp) : fromL [] M = M := List.filter_eq_self.2 fun x _ => by rw [before_nil]; rfl
set_option maxHeartbeats 400000 in
theorem holds_lg (bx bz : Nat) (U V : Nat → Prop) (M : Mp) (n c : Nat) (v : Value) (w : World) (h : Lg w U bx bz M n c Q) (hn : n ≤ 110) (hv : PRowS w V v M) :
    Calls Tryz.prog 31 #[.pointer (some ⟨bz, 0, none⟩), v] w fun e w' => e = .returned (.bool true) ∧ Below w.heap.size w w' := by
  have hsc := xScan_lg bx bz U M n c [] 1099511627776 w h hn (by omega) (by omega)
  obtain ⟨d, st, hx, hl⟩ := h
  have hml := hl.mlen
  rw [fromL_nil, List.take_of_length_le (by show _ ≤ 1099511627776; omega)] at hsc
  obtain ⟨q, c, rfl, hp, _⟩ := hv
  clear hx hl
  go_enter Tryz.func31, Tryz.ntmps31
  go_wp2_with (first
    | (go_at_call 37; refine hsc.mono ?_; rintro e w1 ⟨v1, rfl, hb1, ho1⟩; clear hsc; obtain ⟨q1, c1, rfl, hp1, _⟩ := ho1.pairp)
    | (go_at_call 27; refine (ksame_any q1 q c1 c M M _ hp1 (hp.below hb1) (by omega) (by omega)).mono ?_; rintro e w2 ⟨he, n, rfl⟩; rw [decide_eq_true rfl] at he; subst he))
  go_ret
  exact ⟨rfl, ((Kp.of_below (S := fun _ => False) hb1).drewN n).below⟩
end Go.Proofs.YtoabedkcieindaaGreatDoor

namespace Go.Proofs.YtoabedkcieindaaGreatDoor
open Go.RowKit Go.Maps Go.Sort Go.Shelf
variable {Q : Sq}
structure Wg (w : World) (U : Nat → Prop) (bx bz : Nat) (lv : Value) (M : Mp) (left C : Nat) (Q : Sq) : Prop where
  shop : ∃ n c, Lg w U bx bz M n c Q ∧ n + left ≤ 110 ∧ c + left ≤ C
  up : ∀ k, U k → k < w.heap.size
  row : PRowS w U lv M
theorem Wg.below {w w' : World} {bx bz : Nat} {lv : Value} {U : Nat → Prop} {M : Mp} {left C : Nat} (h : Wg w U bx bz lv M left C Q) (hb : Below w.heap.size w w') : Wg w' U bx bz lv M left C Q := by
  obtain ⟨n, c, h1, h2, h3⟩ := h.shop
  exact ⟨⟨n, c, h1.below hb, h2, h3⟩, fun k s => Nat.lt_of_lt_of_le (h.up k s) hb.size, h.row.below hb⟩
theorem Wg.more {w : World} {bx bz : Nat} {lv : Value} {U : Nat → Prop} {M : Mp} {left C C' : Nat} (h : Wg w U bx bz lv M left C Q) (hC : C ≤ C') : Wg w U bx bz lv M left C' Q := by
  obtain ⟨n, c, h1, h2, h3⟩ := h.shop
  exact ⟨⟨n, c, h1, h2, by omega⟩, h.up, h.row⟩
theorem Lg.inv {w : World} {U : Nat → Prop} {bx bz : Nat} {M : Mp} {n c : Nat} (h : Lg w U bx bz M n c Q) : rising M ∧ M.length ≤ n := by
  obtain ⟨d, st, hx, hl⟩ := h
  exact ⟨hl.rise, hl.mlen⟩
set_option maxHeartbeats 1000000 in
set_option maxRecDepth 20000 in
theorem wrote_lg (bx bz : Nat) (lv : Value) (M : Mp) (left C : Nat) (U : Nat → Prop) (q : Option Addr) (qc : Nat) (L : List DoV) (w : World) (hCC : C ≤ 1000000000) (hW : Wg w U bx bz lv M left C Q) (hl : L.length ≤ 1048576) (hL : Dop w q L) (hq : ∀ a, q = some a → 0 < L.length → ¬ U a.block) (hok : ∀ o ∈ L, DoOk w o ∧ DoOut U o) :
    Calls Tryz.prog 19 #[.pointer (some ⟨bz, 0, none⟩), lv, .slice q L.length qc, .int .i64 left] w fun e w' => ∃ v left' U' M', e = .returned (.tuple #[v, .int .i64 ((left' : Nat) : Int), .bool true]) ∧ Wg w' U' bx bz v M' left' C Q ∧ (∀ k, U' k → Nw U w k) ∧ Kp U w w' := by
  go_enter Tryz.func19, Tryz.ntmps19
  go_wp2
  go_loopw [1, 3, 11] (fun v lf i wr => ∃ (k left' : Nat) (U' : Nat → Prop) (M' : Mp), k ≤ L.length ∧ i = .int .i64 k ∧ lf = .int .i64 left' ∧ Wg wr U' bx bz v M' left' C Q ∧ (∀ k, U' k → Nw U w k) ∧ Kp U w wr) (fun _ _ i _ => L.length - (intOf i).toNat)
  case atStart => exact ⟨0, left, U, M, Nat.zero_le _, rfl, rfl, hW, fun k s => .inl s, Kp.refl _ _⟩
  case round =>
    obtain ⟨k, left', U', M', hk, rfl, rfl, hC, hU, kp⟩ := hrel
    have hs := kp.size
    by_cases hlt : k < L.length
    · obtain ⟨g, off, rfl, c0, c1, c2, c3⟩ := (hL.kept kp hq) k hlt
      obtain ⟨hdo, hout⟩ := hok L[k] (List.getElem_mem hlt)
      have hT := tidied_any L[k].q L[k].qc L[k].ops wr (hdo.opp.kept kp hout) hdo.ox (by have := hdo.len; omega)
      have hbk := tidy_ok L[k].ops
      have hox := tidy_ox L[k].ops
      have hb8 := (batchOk_iff.1 hbk).1
      generalize tidyL L[k].ops = T at *
      obtain ⟨n', c', hLg, hcnt, hcc⟩ := hC.shop
      obtain ⟨hrise, hml⟩ := hLg.inv
      by_cases hfit : T.length ≤ left'
      · go_wp2_with (go_at_call 33; refine hT.mono ?_; rintro e w7 ⟨v7, rfl, hb7, ho7⟩; obtain ⟨q7, c7, rfl, hp7, hn7⟩ := ho7.opp; clear hT)
        have hC7 := hC.below hb7
        have hk7 := kp_below kp hb7
        have hsz := hb7.size
        have hnU : ∀ a, q7 = some a → 0 < T.length → ¬ U' a.block := fun a ha _ s => by have := (hn7 a ha).1; have := hC.up _ s; omega
        have hXB := xBatch_lg bx bz U' M' n' c' q7 c7 T w7 (hLg.below hb7) (by omega) hbk (by omega) hox hp7 hnU
        refine hXB.mono ?_
        rintro e w8 ⟨rfl, hS8, k8⟩
        clear hXB
        have hrow8 := hC7.row.step k8
        have hp8 := hp7.kept k8 hnU
        have hk8 : Kp U w w8 := hk7.trans k8 (fun i hi s => (hU i s).elim id (fun h => by omega))
        go_wp2_with (go_at_call 35; refine (behind_row (fun i => Nw U' w7 i ∧ i < w8.heap.size) _ M' q7 c7 T w8 (fun k s => s.2) hrow8 hrise hp8 (by omega)).mono ?_; rintro e w9 ⟨v9, rfl, hb9, hr9⟩)
        go_roundw
        case rel =>
          exact ⟨k + 1, left' - T.length, _, _, by omega, by go_num, by go_num, ⟨⟨_, _, (hS8.mono (V := fun i => Nw U' w7 i ∧ i < w8.heap.size) (fun i hi s => ⟨s, hi⟩)).below hb9, by omega, by omega⟩, fun i s => Nat.lt_of_lt_of_le s.2 hb9.size, hr9⟩, fun i s => s.1.elim (fun u => hU i u) (fun u => .inr (by omega)), kp_below hk8 hb9⟩
        case measure => simp [intOf]; omega
      · have hfit' : left' < T.length := by omega
        go_wp2_with (go_at_call 33; refine hT.mono ?_; rintro e w7 ⟨v7, rfl, hb7, ho7⟩; obtain ⟨q7, c7, rfl, hp7, hn7⟩ := ho7.opp; clear hT)
        go_ret3
        exact ⟨_, left', U', M', rfl, hC.below hb7, hU, kp_below kp hb7⟩
    · go_wp2
      go_ret3
      exact ⟨_, left', U', M', rfl, hC, hU, kp⟩
def lastG (k : Nm) (l : Mp) : Option Nm := l.foldl (fun a p => if p.1 = k then some p.2 else a) none
theorem lastG_snoc (k : Nm) (l : Mp) (p : Nm × Nm) : lastG k (l ++ [p]) = if p.1 = k then some p.2 else lastG k l := by
  unfold lastG; rw [List.foldl_append]; rfl
theorem lastG_acc (k : Nm) : ∀ (l : Mp) (a : Option Nm), rising l → l.foldl (fun a p => if p.1 = k then some p.2 else a) a = (getF k l).or a
  | [], a, _ => by simp [getF]
  | x :: r, a, h => by
    obtain ⟨h1, h2⟩ := List.pairwise_cons.1 h
    rw [List.foldl_cons, getF]
    by_cases e : x.1 = k
    · rw [if_pos e, if_pos e, lastG_acc k r _ h2]
      have : getF k r = none := getF_off fun y hy e' => by
        have := h1 y hy
        rw [e, ← e', WideAt.bytes_irrefl] at this
        cases this
      rw [this]; rfl
    · rw [if_neg e, if_neg e, lastG_acc k r a h2]
theorem lastG_is {k : Nm} {l : Mp} (h : rising l) : lastG k l = getF k l := by unfold lastG; rw [lastG_acc k l none h]; simp
def Qa (b1 b2 : Int) (M : Mp) : Sq := ⟨2, [(1, b1, M), (2, b2, M)]⟩
def Qb (b1 : Int) (M : Mp) : Sq := ⟨2, [(1, b1, M)]⟩
theorem xSnap1 (bx bz : Nat) (U : Nat → Prop) (M : Mp) (n c : Nat) (w : World) (h : Lg w U bx bz M n c ⟨0, []⟩) (hn : n ≤ 110) :
    Calls Tryz.prog 38 #[.pointer (some ⟨bz, 0, none⟩)] w fun e w' => e = .returned (.tuple #[.int .i64 1, .int .i64 0]) ∧ (∃ b, Lg w' U bx bz M n c ⟨1, [(1, b, M)]⟩) ∧ Kp U w w' := by
  refine (xSnap_lg bx bz U M n c w h hn ⟨by decide, by decide⟩).mono ?_
  rintro e w' ⟨rfl, ⟨b, hb⟩, k⟩
  exact ⟨rfl, ⟨b, hb⟩, k⟩
theorem xSnap2 (bx bz : Nat) (U : Nat → Prop) (M : Mp) (n c : Nat) (b : Int) (w : World) (h : Lg w U bx bz M n c ⟨1, [(1, b, M)]⟩) (hn : n ≤ 110) :
    Calls Tryz.prog 38 #[.pointer (some ⟨bz, 0, none⟩)] w fun e w' => e = .returned (.tuple #[.int .i64 2, .int .i64 0]) ∧ (∃ b2, Lg w' U bx bz M n c (Qa b b2 M)) ∧ Kp U w w' := by
  refine (xSnap_lg bx bz U M n c w h hn ⟨by show 1 < 8; decide, by show 1 ≤ 1000000; decide⟩).mono ?_
  rintro e w' ⟨rfl, ⟨b2, hb⟩, k⟩
  exact ⟨rfl, ⟨b2, hb⟩, k⟩
end Go.Proofs.YtoabedkcieindaaGreatDoor
