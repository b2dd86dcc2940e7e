import Derived.Test.YtoabedkcieindaaGreatDoorPkAG
import Derived.Laws.ResultCell
import Derived.Test.YtoabedkcieindaaGreatDoorPkAA
namespace Go.Proofs.YtoabedkcieindaaGreatDoor
open Go.RowKit Go.Maps

abbrev str (n : Nm) : Value := .string ⟨n.toArray⟩

def Opp (w : World) (q : Option Addr) (l : List Ox) : Prop := ∀ i (h : i < l.length), ∃ g off, q = some ⟨g, off, none⟩ ∧ w.cell? ⟨g, off + i * 3, none⟩ = some (str l[i].key) ∧ w.cell? ⟨g, off + i * 3 + 1, none⟩ = some (str l[i].val) ∧ w.cell? ⟨g, off + i * 3 + 2, none⟩ = some (.bool l[i].gone)

def OxLen (l : List Ox) : Prop := ∀ o ∈ l, o.key.length ≤ 1099511627776 ∧ o.val.length ≤ 1099511627776

theorem cell_below {w w' : World} {a : Addr} {v : Value} (hb : Below w.heap.size w w') (h : w.cell? a = some v) : w'.cell? a = some v :=
  (hb.cell (World.block_lt_of_cell? w a h)).trans h

theorem Opp.below {w w' : World} {q : Option Addr} {l : List Ox} (h : Opp w q l) (hb : Below w.heap.size w w') : Opp w' q l := fun i hi => by
  obtain ⟨g, off, e, h1, h2, h3⟩ := h i hi
  exact ⟨g, off, e, cell_below hb h1, cell_below hb h2, cell_below hb h3⟩

set_option maxHeartbeats 400000 in
theorem isKey_any (n : Nm) (w : World) (hn : n.length ≤ 1099511627776) :
    Calls Tryz.prog 158 #[str n] w fun e w' => e = .returned (.bool (keyOk n)) ∧ w' = w := by
  have hs : (⟨n.toArray⟩ : ByteArray).size = n.length := rfl
  have H : Hid (keyOk n = (decide (1 ≤ n.length) && decide (n.length ≤ 16))) := rfl
  go_enter Tryz.func158, Tryz.ntmps158
  go_wp2
  all_goals go_ret
  all_goals (refine ⟨ret_bool ?_, rfl⟩; rw [H.out, Bool.eq_iff_iff]; simp at *; try omega)

theorem take_snoc_all {l : List Ox} {k : Nat} (h : k < l.length) (hr : (l.take k).all opOk = true) : (l.take (k + 1)).all opOk = opOk l[k] := by
  rw [List.take_succ_eq_append_getElem h, List.all_append, hr]; simp

theorem batchOk_bad {l : List Ox} {k : Nat} (h : k < l.length) (hb : opOk l[k] = false) : batchOk l = false := by
  rw [Bool.eq_false_iff, Ne, batchOk_iff]
  intro hh
  have := hh.2 _ (List.getElem_mem h)
  rw [hb] at this
  cases this

set_option maxHeartbeats 1000000 in
theorem isBatch_any (q : Option Addr) (qc : Nat) (l : List Ox) (w : World) (hl : l.length ≤ 1099511627776) (hk : OxLen l) (hp : Opp w q l) :
    Calls Tryz.prog 107 #[.slice q l.length qc] w fun e w' => e = .returned (.bool (batchOk l)) ∧ Below w.heap.size w w' := by
  by_cases h18 : 1 ≤ l.length ∧ l.length ≤ 8
  · obtain ⟨h1, h8⟩ := h18
    go_enter Tryz.func107, Tryz.ntmps107
    go_wp2
    go_loopw [15] (fun i wr => ∃ k : Nat, k ≤ l.length ∧ i = .int .i64 k ∧ Below w.heap.size w wr ∧ (l.take k).all opOk = true) (fun i _ => l.length - (intOf i).toNat)
    case atStart => exact ⟨0, Nat.zero_le _, rfl, Below.refl _ _, rfl⟩
    case round =>
      obtain ⟨k, hk', rfl, hb, hr⟩ := hrel
      have HR : Hid ((l.take k).all opOk = true) := hr
      clear hr
      by_cases hlt : k < l.length
      · obtain ⟨g, off, rfl, c0, c1, c2⟩ := hp.below hb k hlt
        have hkl := hk l[k] (List.getElem_mem hlt)
        have h1' := hkl.1
        have h2' := hkl.2
        have hv : ByteArray.size { data := l[k].val.toArray } = l[k].val.length := rfl
        clear hkl
        go_wp2_with (go_at_call 158; refine (isKey_any _ _ h1').mono ?_; rintro e w' ⟨rfl, rfl⟩)
        · go_roundw
          case rel => exact ⟨k + 1, by omega, by go_num, hb.alloc hb.size _, by rw [take_snoc_all hlt HR.out]; simp [opOk, *]⟩
          case measure => simp [intOf]; omega
        · go_ret
          exact ⟨ret_bool (batchOk_bad hlt (by simp [opOk, *]; omega)).symm, hb.alloc hb.size _⟩
        · go_roundw
          case rel => exact ⟨k + 1, by omega, by go_num, hb.alloc hb.size _, by rw [take_snoc_all hlt HR.out]; simp [opOk, *]; omega⟩
          case measure => simp [intOf]; omega
        · go_ret
          exact ⟨ret_bool (batchOk_bad hlt (by simp [opOk, *])).symm, hb.alloc hb.size _⟩
      · have E : Hid (batchOk l = true) := by
          have := HR.out
          rw [List.take_of_length_le (by omega)] at this
          show batchOk l = true
          rw [batchOk_iff]
          exact ⟨⟨h1, h8⟩, List.all_eq_true.1 this⟩
        go_wp2
        go_ret
        exact ⟨ret_bool E.out.symm, hb⟩
  · have E : Hid (batchOk l = false) := by
      show batchOk l = false
      rw [Bool.eq_false_iff, Ne, batchOk_iff]
      exact fun h => h18 h.1
    have h0 : l.length < 1 ∨ 8 < l.length := by omega
    clear h18
    rcases h0 with h0 | h0
    all_goals
      go_enter Tryz.func107, Tryz.ntmps107
      go_wp2
      go_ret
      exact ⟨ret_bool E.out.symm, Below.refl _ _⟩

set_option maxHeartbeats 1000000 in
theorem sum_any (s : List UInt8) (w : World) (hs : s.length ≤ 1099511627776) :
    Calls Tryz.prog 223 #[str s] w fun e w' => e = .returned (.int .u32 (fnv s)) ∧ w' = w := by
  have hz : (⟨s.toArray⟩ : ByteArray).size = s.length := rfl
  go_enter Tryz.func223, Tryz.ntmps223
  go_wp2
  go_loop [3, 7] (fun n i => ∃ k : Nat, k ≤ s.length ∧ i = .int .i64 k ∧ n = .int .u32 (fnv (s.take k))) (fun _ i => s.length - (intOf i).toNat)
  case atStart => exact ⟨0, Nat.zero_le _, rfl, rfl⟩
  case round =>
    obtain ⟨k, hk', rfl, rfl⟩ := hrel
    by_cases hlt : k < s.length
    · have hn := fnv_lt (s.take k)
      generalize hN : fnv (s.take k) = N at *
      go_wp2
      go_round
      case rel =>
        refine ⟨k + 1, by omega, by go_num, ?_⟩
        rw [List.take_succ_eq_append_getElem hlt, fnv_snoc, hN, ← fnvStep_int N s[k] hn]
        rfl
      case measure => simp [intOf]; omega
    · have E : Hid (s.take k = s) := List.take_of_length_le (by omega)
      go_wp2
      go_ret
      rw [E.out]
      exact ⟨rfl, rfl⟩

theorem ret_u32 {a b : Int} (h : a = b) : Ending.returned (.int .u32 a) = .returned (.int .u32 b) := by rw [h]

abbrev aggOp (o : Ox) : Value := .agg #[str o.key, str o.val, .bool o.gone]

theorem wpList_appB (w : World) {ops : Array Oper} {rest : List Oper} {o : Oper} {ac : Act} {Q : Exit → Act → World → Prop} (hgd : o.guard = none) (s x : Operand)
    (ho : o.op = .call { callee := .builtin .append, args := #[s, x], argTypes := #[91, 91] })
    (n0 : Nat) (v : Value) (l c : List UInt8) (g cp : Nat) (hs : ac.eval s = v) (hx : ac.eval x = .slice (some ⟨g, 0, none⟩) c.length cp) (hn0 : n0 ≤ w.heap.size) (hown : OwnB w n0 v l) (hc : ∀ i (h : i < c.length), w.cell? ⟨g, i, none⟩ = some (encB c[i])) (hlc : l.length + c.length ≤ 4194304)
    (h : ∀ v' w', OwnB w' n0 v' (l ++ c) → Kp (fun i => v.ownBlock = some i) w w' → wpList Tryz.prog ops Q rest (ac.put o.dst v') w') : wpList Tryz.prog ops Q (o :: rest) ac w := by
  obtain ⟨i0, hi, hz0, hz1, hz2⟩ := info_parts Tryz.info5
  refine wpList_append_own _ hgd s x 91 ho n0 5 i0 _ 1 1 Tryz.underlying91 hi hz0 hz1 hz2 rfl (by decide) v l.length (l.map encB) hs hown ⟨g, 0, none⟩ c.length cp (c.map encB) hx (by simp) ?_ (by intro u hu; obtain ⟨c, _, rfl⟩ := List.mem_map.1 hu; rfl) (by unfold maxLen; omega) (by omega) hn0 ?_
  · intro j u hu
    have hj : j < c.length := by simpa using (List.getElem?_eq_some_iff.1 hu).1
    rw [Addr.add_lit, Nat.zero_add, hc j hj]
    rw [List.getElem?_eq_getElem (by simpa using hj)] at hu
    simpa using hu
  · intro v' w' ho' hg' _
    refine h v' w' ?_ ((Kp.refl _ _).grown hg' (fun k hk _ => hk))
    unfold OwnB
    rw [List.length_append, List.map_append]
    exact ho'

theorem wpList_appS (w : World) {ops : Array Oper} {rest : List Oper} {o : Oper} {ac : Act} {Q : Exit → Act → World → Prop} (hgd : o.guard = none) (s x : Operand)
    (ho : o.op = .call { callee := .builtin .append, args := #[s, x], argTypes := #[91, 9] })
    (n0 : Nat) (v : Value) (l c : List UInt8) (hs : ac.eval s = v) (hx : ac.eval x = str c) (hn0 : n0 ≤ w.heap.size) (hown : OwnB w n0 v l) (hlc : l.length + c.length ≤ 4194304)
    (h : ∀ v' w', OwnB w' n0 v' (l ++ c) → Kp (fun i => v.ownBlock = some i) w w' → wpList Tryz.prog ops Q rest (ac.put o.dst v') w') : wpList Tryz.prog ops Q (o :: rest) ac w := by
  refine wpList_plain hgd fun K hK => ?_
  obtain ⟨i, hi, hz, h1, h2⟩ := info_parts Tryz.info5
  have hsz : (⟨c.toArray⟩ : ByteArray).size = c.length := rfl
  have hsc : Lib.strCells ⟨c.toArray⟩ = c.map encB := rfl
  obtain ⟨v', w', hr, ho', hg, _⟩ := Lib.run_append_own_string (P := Tryz.prog) w n0 91 9 o.type 5 i Tryz.underlying91 Tryz.underlying9 hi hz h1 h2 v l.length (l.map encB) hown ⟨c.toArray⟩ (by rw [hsz]; unfold maxLen; omega) (by rw [hsz]; omega) hn0
  unfold Oper.wp execOp
  simp only [ho, resolve, invoke, builtin, Sem.run_bind, Sem.run_pure, Result.andThen_ok, List.map_toArray, List.map_cons, List.map_nil, hs, hx, hr]
  refine hK _ _ (h v' w' ?_ ((Kp.refl _ _).grown hg (fun k hk _ => hk)))
  unfold OwnB
  rw [hsz, hsc] at ho'
  rw [List.length_append, List.map_append]
  exact ho'

theorem OwnB.kept {w w' : World} {base : Nat} {v : Value} {l : List UInt8} {S : Nat → Prop} (h : OwnB w base v l) (k : Kp S w w') (hs : ∀ g, v.ownBlock = some g → ¬ S g) : OwnB w' base v l := k.row h hs

theorem OwnB.alloc {w : World} {base : Nat} {v : Value} {l : List UInt8} (h : OwnB w base v l) (o : Obj) : OwnB (w.alloc o) base v l := h.kept (S := fun _ => False) ((Kp.refl _ _).alloc o) (fun _ _ f => f)

theorem ownB_some {w : World} {base : Nat} {v : Value} {l : List UInt8} (h : OwnB w base v l) : ∃ a n cap, v = .slice a n cap := by
  obtain ⟨a, cap, e⟩ := ownB_shape h; exact ⟨a, _, cap, e⟩

theorem newB (W : World) (b : Nat) (hb : b = W.heap.size) (xs : List Int) (c : List UInt8) (e : xs = c.map fun c => (c.toNat : Int)) (cs : Array Value) (hcs : cs = (xs.map (Value.int .u8)).toArray) (t : TypeId) :
    ∀ i (h : i < c.length), (W.alloc (.cells cs t)).cell? ⟨b, i, none⟩ = some (encB c[i]) := by
  intro i hi
  subst hb
  rw [cell_block (block_new W _), hcs, e]
  simp [encB, hi]

theorem below_own {w w' : World} {v : Value} {l : List UInt8} {n0 : Nat} (hn0 : n0 ≤ w.heap.size) (ho : OwnB w n0 v l) (k : Kp (fun i => v.ownBlock = some i) w w') : Below n0 w w' :=
  ⟨k.os, k.tape, k.output, k.size, fun i hi => k.block i (by omega) (fun e => by have := (ho.lt i e).1; omega)⟩

set_option maxHeartbeats 1000000 in
set_option maxRecDepth 20000 in
theorem appendOp_any (v : Value) (l : List UInt8) (o : Ox) (w : World) (n0 : Nat) (hn0 : n0 ≤ w.heap.size) (hown : OwnB w n0 v l) (ho : opOk o = true) (hl : l.length ≤ 65536) :
    Calls Tryz.prog 166 #[v, aggOp o] w fun e w' => ∃ v', e = .returned v' ∧ OwnB w' n0 v' (l ++ encOp o) ∧ Below n0 w w' := by
  obtain ⟨k1, k2⟩ := opOk_key ho
  have hz1 : (⟨o.key.toArray⟩ : ByteArray).size = o.key.length := rfl
  have hz2 : (⟨o.val.toArray⟩ : ByteArray).size = o.val.length := rfl
  obtain ⟨a, cap, rfl⟩ := ownB_shape hown
  have hgl : ∀ g, (Value.slice a l.length cap).ownBlock = some g → g < w.heap.size := fun g hg => (hown.lt g hg).2
  cases hg : o.gone
  · have hv := opOk_val ho hg
    have E : Hid (encOp o = UInt8.ofNat o.key.length :: UInt8.ofNat o.val.length :: (o.key ++ o.val)) := by show encOp o = _; simp [encOp, hg]
    have hB : Hid ([(o.key.length : Int), (o.val.length : Int)] = [UInt8.ofNat o.key.length, UInt8.ofNat o.val.length].map fun c => (c.toNat : Int)) := by
      show _ = _
      simp only [List.map_cons, List.map_nil, byte_nat (show o.key.length < 256 by omega), byte_nat (show o.val.length < 256 by omega)]
    go_enter Tryz.func166, Tryz.ntmps166
    go_wp2_with (first
      | (at_builtin; refine wpList_appB _ rfl (.tmp 19) (.tmp 28) rfl n0 (.slice a l.length cap) l [UInt8.ofNat o.key.length, UInt8.ofNat o.val.length] (w.heap.size + 1) 2 rfl rfl (by simp; omega) ((hown.alloc _).alloc _) (newB _ _ (by simp) _ _ hB.out _ rfl _) (by simp; omega) ?_; intro v1 w1 hown1 kp1; have hbx := kp1.at (b := w.heap.size) (block_alloc (block_new w _)) (fun e => Nat.lt_irrefl _ (hgl _ e)); have hb1 := below_own (by simp; omega) ((hown.alloc _).alloc _) kp1; obtain ⟨q0, q1, q2, _⟩ := cells3 hbx; obtain ⟨a1, m1, cap1, rfl⟩ := ownB_some hown1; have hs1 := kp1.size; simp only [World.size_alloc] at hs1)
      | (at_builtin; refine wpList_appS w1 rfl (.tmp 30) (.tmp 32) rfl n0 _ _ o.key rfl rfl (by omega) hown1 (by simp; omega) ?_; intro v2 w2 hown2 kp2; have hgl1 : ∀ g, (Value.slice a1 m1 cap1).ownBlock = some g → g ≠ w.heap.size := fun g hg e => row_ne hbx hown1 hg (by decide) e; have hb2 := below_own (by omega) hown1 kp2; have hbx2 := kp2.at hbx (fun e => hgl1 _ e rfl); clear q0 q1 q2; obtain ⟨q0, q1, q2, _⟩ := cells3 hbx2; obtain ⟨a2, m2, cap2, rfl⟩ := ownB_some hown2; have hs2 := kp2.size)
      | (at_builtin; refine wpList_appS w2 rfl (.tmp 34) (.tmp 36) rfl n0 _ _ o.val rfl rfl (by omega) hown2 (by simp; omega) ?_; intro v3 w3 hown3 kp3; have hb3 := below_own (by omega) hown2 kp3; obtain ⟨a3, m3, cap3, rfl⟩ := ownB_some hown3)
      | go_in)
    go_ret
    refine ⟨_, rfl, ?_, (((((Below.refl _ w).alloc hn0 _).alloc (by simp; omega) _).trans hb1).trans hb2).trans hb3⟩
    rw [E.out]
    simpa using hown3
  · have E : Hid (encOp o = UInt8.ofNat (o.key.length + 128) :: o.key) := by show encOp o = _; simp [encOp, hg]
    have hB : Hid ([bits BinOp.or IntKind.u8 (o.key.length : Int) 128] = [UInt8.ofNat (o.key.length + 128)].map fun c => (c.toNat : Int)) := by
      show _ = _
      rw [u8_or _ (by omega), List.map_cons, byte_nat (by omega)]; rfl
    go_enter Tryz.func166, Tryz.ntmps166
    go_wp2_with (first
      | (at_builtin; refine wpList_appB _ rfl (.tmp 7) (.tmp 13) rfl n0 (.slice a l.length cap) l [UInt8.ofNat (o.key.length + 128)] (w.heap.size + 1) 1 rfl rfl (by simp; omega) ((hown.alloc _).alloc _) (newB _ _ (by simp) _ _ hB.out _ rfl _) (by simp; omega) ?_; intro v1 w1 hown1 kp1; have hbx := kp1.at (b := w.heap.size) (block_alloc (block_new w _)) (fun e => Nat.lt_irrefl _ (hgl _ e)); have hb1 := below_own (by simp; omega) ((hown.alloc _).alloc _) kp1; obtain ⟨q0, q1, q2, _⟩ := cells3 hbx; obtain ⟨a1, m1, cap1, rfl⟩ := ownB_some hown1; have hs1 := kp1.size; simp only [World.size_alloc] at hs1)
      | (at_builtin; refine wpList_appS w1 rfl (.tmp 15) (.tmp 17) rfl n0 _ _ o.key rfl rfl (by omega) hown1 (by simp; omega) ?_; intro v2 w2 hown2 kp2; have hb2 := below_own (by omega) hown1 kp2; obtain ⟨a2, m2, cap2, rfl⟩ := ownB_some hown2)
      | go_in)
    go_ret
    refine ⟨_, rfl, ?_, ((((Below.refl _ w).alloc hn0 _).alloc (by simp; omega) _).trans hb1).trans hb2⟩
    rw [E.out]
    simpa using hown2

theorem encBody_snoc {l : List Ox} {k : Nat} (h : k < l.length) : encBody (l.take (k + 1)) = encBody (l.take k) ++ encOp l[k] := by
  unfold encBody; rw [List.take_succ_eq_append_getElem h, List.flatMap_append, List.flatMap_singleton]

theorem kp_from {n : Nat} {w w' : World} (h : Below n w w') : Kp (fun k => n ≤ k) w w' := ⟨h.os, h.tape, h.output, h.size, fun k _ hn => h.block k (by omega)⟩

theorem OwnB.from {w w' : World} {n base : Nat} {v : Value} {l : List UInt8} (h : OwnB w base v l) (k : Below n w w') (hs : ∀ g, v.ownBlock = some g → g < n) : OwnB w' base v l := h.kept (kp_from k) (fun g hg e => by have := hs g hg; omega)

end Go.Proofs.YtoabedkcieindaaGreatDoor

namespace Go.Proofs.YtoabedkcieindaaGreatDoor
open Go.RowKit Go.Maps Go.Sort

def opZ : Ox := ⟨[], [], false⟩
def decOpV (b : List UInt8) : Ox × Nat := (decOp b).getD (opZ, 0)

theorem ret_op {R : Ending → World → Prop} {tm : Array Value} {W : World} {bb : Nat} {a b c v : Value} (h2 : tm.getD 2 undef = .pointer (some ⟨bb, 0, none⟩)) (h3 : tm.getD 3 undef = v) (hb : W.heap[bb]? = some (.cells #[a, b, c] 77))
    (hR : R (.returned (.tuple #[.agg #[a, b, c], v])) W) : bodyPost Tryz.prog Tryz.f323 R Exit.ret { tmps := tm, defers := [] } W := by
  obtain ⟨c0, c1, c2, _⟩ := cells3 hb
  refine bodyPost_ret (v := .tuple #[.agg #[a, b, c], v]) ?_ rfl hR
  rw [results_cell_tmp rfl]
  show ((asAddr (tm.getD 2 undef)).run Tryz.prog W).andThen _ = _
  rw [h2, h3]
  simp [asAddr, loadVar, go_sem, c0, c1, c2]
theorem ext_bytes (l : List UInt8) (i j : Nat) : (⟨l.toArray⟩ : ByteArray).extract i j = ⟨((l.drop i).take (j - i)).toArray⟩ := by
  apply ByteArray.ext
  simp

set_option maxHeartbeats 2000000 in
theorem takeOp_short (l : List UInt8) (w : World) (hl : l.length < 2) :
    Calls Tryz.prog 323 #[str l] w fun e w' => e = .returned (.tuple #[aggOp opZ, .int .i64 0]) ∧ Below w.heap.size w w' := by
  have hz : (⟨l.toArray⟩ : ByteArray).size = l.length := rfl
  go_enter Tryz.func323, Tryz.ntmps323
  go_wp2
  refine ret_op rfl rfl (block_new w _) ?_
  exact ⟨rfl, (Below.refl _ _).alloc (Nat.le_refl _) _⟩

set_option maxHeartbeats 2000000 in
set_option maxRecDepth 20000 in
theorem takeOp_del (c : UInt8) (r : List UInt8) (w : World) (hl : r.length ≤ 1048576) (hr : 1 ≤ r.length) (h1 : 128 ≤ c.toNat) :
    Calls Tryz.prog 323 #[str (c :: r)] w fun e w' => e = .returned (.tuple #[aggOp (decOpV (c :: r)).1, .int .i64 (decOpV (c :: r)).2]) ∧ Below w.heap.size w w' := by
  have hz : (⟨(c :: r).toArray⟩ : ByteArray).size = r.length + 1 := rfl
  have hc0 : (⟨(c :: r).toArray⟩ : ByteArray)[0]'(by rw [hz]; omega) = c := rfl
  have hcl : c.toNat < 256 := c.toNat_lt
  have HA : bits BinOp.and IntKind.u8 (c.toNat : Int) 128 = 128 := by rw [u8_and _ hcl, if_pos h1]
  have HC : bits BinOp.andNot IntKind.u8 (c.toNat : Int) 128 = ((c.toNat - 128 : Nat) : Int) := by rw [u8_clr _ hcl]; congr 1; omega
  by_cases hg : 1 ≤ c.toNat - 128 ∧ c.toNat - 128 ≤ 16 ∧ 1 + (c.toNat - 128) ≤ r.length + 1
  · have HX : Hid (decOpV (c :: r) = (⟨r.take (c.toNat - 128), [], true⟩, 1 + (c.toNat - 128))) := by
      have hb : byteAt (c :: r) 0 = c.toNat := rfl
      simp only [Hid, decOpV, decOp, hb]
      rw [if_pos h1, if_pos (by simpa using hg)]
      rfl
    obtain ⟨g1, g2, g3⟩ := hg
    generalize hk : c.toNat - 128 = k at *
    go_enter Tryz.func323, Tryz.ntmps323
    go_wp2
    go_region
    go_wp2
    go_region
    go_wp2
    have hex : (⟨(c :: r).toArray⟩ : ByteArray).extract 1 (1 + k) = ⟨(r.take k).toArray⟩ := by rw [ext_bytes]; congr 3; omega
    refine ret_op rfl rfl (block_alloc (block_new w _)) ?_
    rw [HX.out, hex]
    exact ⟨rfl, (((Below.refl _ _).alloc (Nat.le_refl _) _).alloc (by simp) _).drew.drew⟩
  · have HX : Hid (decOpV (c :: r) = (opZ, 0)) := by
      have hb : byteAt (c :: r) 0 = c.toNat := rfl
      simp only [Hid, decOpV, decOp, hb]
      rw [if_pos h1, if_neg (by simpa using hg)]
      rfl
    generalize hk : c.toNat - 128 = k at *
    have hg' : k < 1 ∨ 16 < k ∨ r.length + 1 < 1 + k := by omega
    clear hg
    go_enter Tryz.func323, Tryz.ntmps323
    go_wp2
    go_region
    go_wp2
    all_goals first
      | (refine ret_op rfl rfl (block_alloc (block_new w _)) ?_; rw [HX.out]; exact ⟨rfl, (((Below.refl _ _).alloc (Nat.le_refl _) _).alloc (by simp) _).drew⟩)
      | (exfalso; omega)

end Go.Proofs.YtoabedkcieindaaGreatDoor

namespace Go.Proofs.YtoabedkcieindaaGreatDoor
open Go.RowKit Go.Maps Go.Sort

set_option maxHeartbeats 2000000 in
set_option maxRecDepth 20000 in
theorem takeOp_put (c c' : UInt8) (r : List UInt8) (w : World) (hl : r.length ≤ 1048576) (h1 : ¬ 128 ≤ c.toNat) (hg : 1 ≤ c.toNat ∧ c.toNat ≤ 16 ∧ c'.toNat ≤ 64 ∧ 2 + c.toNat + c'.toNat ≤ r.length + 2) :
    Calls Tryz.prog 323 #[str (c :: c' :: r)] w fun e w' => e = .returned (.tuple #[aggOp ⟨r.take c.toNat, (r.drop c.toNat).take c'.toNat, false⟩, .int .i64 ((2 + c.toNat + c'.toNat : Nat) : Int)]) ∧ Below w.heap.size w w' := by
  have hz : (⟨(c :: c' :: r).toArray⟩ : ByteArray).size = r.length + 2 := rfl
  have hc0 : (⟨(c :: c' :: r).toArray⟩ : ByteArray)[0]'(by rw [hz]; omega) = c := rfl
  have hc1 : (⟨(c :: c' :: r).toArray⟩ : ByteArray)[1]'(by rw [hz]; omega) = c' := rfl
  have hcl : c.toNat < 256 := c.toNat_lt
  have hcl' : c'.toNat < 256 := c'.toNat_lt
  have HA : bits BinOp.and IntKind.u8 (c.toNat : Int) 128 = 0 := by rw [u8_and _ hcl, if_neg h1]
  have HC : bits BinOp.andNot IntKind.u8 (c.toNat : Int) 128 = ((c.toNat : Nat) : Int) := by rw [u8_clr _ hcl]; congr 1; omega
  obtain ⟨g1, g2, g3, g4⟩ := hg
  have hex : Hid ((⟨(c :: c' :: r).toArray⟩ : ByteArray).extract 2 (2 + c.toNat) = ⟨(r.take c.toNat).toArray⟩) := by show _ = _; rw [ext_bytes]; congr 3; omega
  have hex2 : Hid ((⟨(c :: c' :: r).toArray⟩ : ByteArray).extract (2 + c.toNat) (2 + c.toNat + c'.toNat) = ⟨((r.drop c.toNat).take c'.toNat).toArray⟩) := by
    show _ = _
    rw [ext_bytes, show 2 + c.toNat = c.toNat + 1 + 1 by omega]
    simp only [List.drop_succ_cons]
    congr 3; omega
  generalize hK : c.toNat = k at *
  generalize hV : c'.toNat = v at *
  go_enter Tryz.func323, Tryz.ntmps323
  go_wp2
  go_region
  go_wp2
  go_region
  go_wp2
  go_region
  go_wp2
  refine ret_op rfl rfl (block_alloc (block_new w _)) ?_
  rw [hex.out, hex2.out]
  exact ⟨rfl, (((Below.refl _ _).alloc (Nat.le_refl _) _).alloc (by simp) _).drew.drew.drew⟩

set_option maxHeartbeats 2000000 in
set_option maxRecDepth 20000 in
theorem takeOp_bad (c c' : UInt8) (r : List UInt8) (w : World) (hl : r.length ≤ 1048576) (h1 : ¬ 128 ≤ c.toNat) (hg : ¬ (1 ≤ c.toNat ∧ c.toNat ≤ 16 ∧ c'.toNat ≤ 64 ∧ 2 + c.toNat + c'.toNat ≤ r.length + 2)) :
    Calls Tryz.prog 323 #[str (c :: c' :: r)] w fun e w' => e = .returned (.tuple #[aggOp opZ, .int .i64 0]) ∧ Below w.heap.size w w' := by
  have hz : (⟨(c :: c' :: r).toArray⟩ : ByteArray).size = r.length + 2 := rfl
  have hc0 : (⟨(c :: c' :: r).toArray⟩ : ByteArray)[0]'(by rw [hz]; omega) = c := rfl
  have hc1 : (⟨(c :: c' :: r).toArray⟩ : ByteArray)[1]'(by rw [hz]; omega) = c' := rfl
  have hcl : c.toNat < 256 := c.toNat_lt
  have hcl' : c'.toNat < 256 := c'.toNat_lt
  have HA : bits BinOp.and IntKind.u8 (c.toNat : Int) 128 = 0 := by rw [u8_and _ hcl, if_neg h1]
  have HC : bits BinOp.andNot IntKind.u8 (c.toNat : Int) 128 = ((c.toNat : Nat) : Int) := by rw [u8_clr _ hcl]; congr 1; omega
  generalize hK : c.toNat = k at *
  generalize hV : c'.toNat = v at *
  rcases (by omega : k < 1 ∨ (1 ≤ k ∧ 16 < k) ∨ (1 ≤ k ∧ k ≤ 16 ∧ 64 < v) ∨ (1 ≤ k ∧ k ≤ 16 ∧ v ≤ 64 ∧ r.length + 2 < 2 + k + v)) with g1 | ⟨g1, g2⟩ | ⟨g1, g2, g3⟩ | ⟨g1, g2, g3, g4⟩
  all_goals
    clear hg
    go_enter Tryz.func323, Tryz.ntmps323
    go_wp2
    go_region
    go_wp2
    go_region
    go_wp2
    refine ret_op rfl rfl (block_alloc (block_new w _)) ?_
    exact ⟨rfl, (((Below.refl _ _).alloc (Nat.le_refl _) _).alloc (by simp) _).drew.drew⟩

theorem takeOp_any (l : List UInt8) (w : World) (hl : l.length ≤ 1048576) :
    Calls Tryz.prog 323 #[str l] w fun e w' => e = .returned (.tuple #[aggOp (decOpV l).1, .int .i64 (decOpV l).2]) ∧ Below w.heap.size w w' := by
  match l, hl with
  | [], _ =>
    have HX : decOpV [] = (opZ, 0) := by
      have hb : byteAt [] 0 = 0 := rfl
      simp only [decOpV, decOp, hb]
      rw [if_neg (by omega), if_neg (by simp)]
      rfl
    rw [HX]
    exact takeOp_short [] w (by simp)
  | [c], _ =>
    have HX : decOpV [c] = (opZ, 0) := by
      have hb : byteAt [c] 0 = c.toNat := rfl
      simp only [decOpV, decOp, hb]
      split
      · rw [if_neg (by simp; omega)]; rfl
      · rw [if_neg (by simp)]; rfl
    rw [HX]
    exact takeOp_short [c] w (by simp)
  | c :: c' :: r', hl =>
    have hl' : r'.length ≤ 1048576 := by simp at hl; omega
    by_cases h1 : 128 ≤ c.toNat
    · exact takeOp_del c (c' :: r') w (by simp at hl ⊢; omega) (by simp) h1
    · have hb : byteAt (c :: c' :: r') 0 = c.toNat := rfl
      have hb1 : byteAt (c :: c' :: r') 1 = c'.toNat := rfl
      by_cases hg : 1 ≤ c.toNat ∧ c.toNat ≤ 16 ∧ c'.toNat ≤ 64 ∧ 2 + c.toNat + c'.toNat ≤ r'.length + 2
      · have HX : decOpV (c :: c' :: r') = (⟨r'.take c.toNat, (r'.drop c.toNat).take c'.toNat, false⟩, 2 + c.toNat + c'.toNat) := by
          simp only [decOpV, decOp, hb, hb1]
          rw [if_neg h1, if_pos (by simp; omega)]
          rw [show 2 + c.toNat = c.toNat + 1 + 1 by omega]
          rfl
        rw [HX]
        exact takeOp_put c c' r' w hl' h1 hg
      · have HX : decOpV (c :: c' :: r') = (opZ, 0) := by
          simp only [decOpV, decOp, hb, hb1]
          rw [if_neg h1, if_neg (by simp; omega)]
          rfl
        rw [HX]
        exact takeOp_bad c c' r' w hl' h1 hg

end Go.Proofs.YtoabedkcieindaaGreatDoor

namespace Go.Proofs.YtoabedkcieindaaGreatDoor

def dig36 (d : Nat) : UInt8 := UInt8.ofNat (if d < 10 then 48 + d else 87 + d)
def val36 (c : UInt8) : Option Nat := if 48 ≤ c.toNat ∧ c.toNat ≤ 57 then some (c.toNat - 48) else if 97 ≤ c.toNat ∧ c.toNat ≤ 122 then some (c.toNat - 87) else none

def digs : Nat → Nat → List UInt8
  | 0, _ => []
  | k + 1, n => if n < 36 then [dig36 n] else digs k (n / 36) ++ [dig36 (n % 36)]
def fmt36 (n : Nat) : List UInt8 := digs 13 n

def par36 (l : List UInt8) : Option Nat := l.foldl (fun s c => match s, val36 c with | some n, some d => some (n * 36 + d) | _, _ => none) (some 0)

theorem val_dig {d : Nat} (h : d < 36) : val36 (dig36 d) = some d := by
  unfold dig36 val36
  split
  · rw [byte_nat (by omega), if_pos (by omega)]; congr 1; omega
  · rw [byte_nat (by omega), if_neg (by omega), if_pos (by omega)]; congr 1; omega

theorem par_snoc (l : List UInt8) (c : UInt8) : par36 (l ++ [c]) = match par36 l, val36 c with | some n, some d => some (n * 36 + d) | _, _ => none := by
  simp [par36]

theorem par_digs : ∀ (k n : Nat), n < 36 ^ k → 0 < k → par36 (digs k n) = some n
  | 0, _, _, h => absurd h (by omega)
  | k + 1, n, h, _ => by
    unfold digs
    split
    · rename_i h1
      show par36 ([] ++ [dig36 n]) = _
      rw [par_snoc, val_dig h1]; simp [par36]
    · rename_i h1
      have hk : 0 < k := by
        rcases Nat.eq_zero_or_pos k with rfl | h2
        · simp at h; omega
        · exact h2
      have hn : n / 36 < 36 ^ k := by rw [Nat.pow_succ] at h; omega
      rw [par_snoc, par_digs k (n / 36) hn hk, val_dig (Nat.mod_lt _ (by omega))]
      simp only [Option.some.injEq]
      omega

theorem digs_len : ∀ (k n : Nat), (digs k n).length ≤ k
  | 0, _ => by simp [digs]
  | k + 1, n => by
    unfold digs
    split
    · simp
    · have := digs_len k (n / 36); simp; omega

theorem digs_pos (k n : Nat) : 1 ≤ (digs (k + 1) n).length := by
  unfold digs
  split <;> simp

theorem dig_name {d : Nat} (h : d < 36) : nameByte (dig36 d) = true := by
  have : ∀ d : Fin 36, nameByte (dig36 d.1) = true := by decide
  exact this ⟨d, h⟩

theorem digs_name : ∀ (k n : Nat), (digs k n).all nameByte = true
  | 0, _ => rfl
  | k + 1, n => by
    unfold digs
    split
    · rename_i h; simp [dig_name h]
    · simp [digs_name k (n / 36), dig_name (Nat.mod_lt n (show 0 < 36 by omega))]

theorem fmt_par {n : Nat} (h : n < 9223372036854775808) : par36 (fmt36 n) = some n := par_digs 13 n (by omega) (by omega)
theorem fmt_inj {n m : Nat} (hn : n < 9223372036854775808) (hm : m < 9223372036854775808) (h : fmt36 n = fmt36 m) : n = m := by
  have := fmt_par hn
  rw [h, fmt_par hm] at this
  exact (Option.some.inj this).symm
theorem fmt_len (n : Nat) : 1 ≤ (fmt36 n).length ∧ (fmt36 n).length ≤ 13 := ⟨digs_pos 12 n, digs_len 13 n⟩

def numOf (p n : Nm) : Option Nat :=
  if p.isPrefixOf n then
    match par36 (n.drop p.length) with
    | some k => if k < 9223372036854775808 ∧ fmt36 k = n.drop p.length then some k else none
    | none => none
  else none

theorem numOf_fmt (p : Nm) {n : Nat} (h : n < 9223372036854775808) : numOf p (p ++ fmt36 n) = some n := by
  have h1 : p.isPrefixOf (p ++ fmt36 n) = true := by simp [List.isPrefixOf_iff_prefix]
  unfold numOf
  rw [if_pos h1]
  simp [fmt_par h, h]

theorem numOf_is {p n : Nm} {k : Nat} (h : numOf p n = some k) : n = p ++ fmt36 k ∧ k < 9223372036854775808 := by
  unfold numOf at h
  split at h
  · rename_i h1
    split at h
    · split at h
      · rename_i h2
        cases h
        obtain ⟨t, rfl⟩ := List.isPrefixOf_iff_prefix.1 h1
        refine ⟨?_, h2.1⟩
        rw [h2.2]; simp
      · cases h
    · cases h
  · cases h

def logP : Nm := [108, 111, 103, 46]
def tabP : Nm := [116, 97, 98, 108, 101, 46]
def manN : Nm := [109, 97, 110, 105, 102, 101, 115, 116]
def begN : Nm := [98, 101, 103, 117, 110]
def lgN (n : Nat) : Nm := logP ++ fmt36 n
def tbN (n : Nat) : Nm := tabP ++ fmt36 n

theorem lgN_ok (n : Nat) : nameOk (lgN n) = true := by
  obtain ⟨h1, h2⟩ := fmt_len n
  have h3 : (fmt36 n).all nameByte = true := digs_name 13 n
  have h4 : logP.all nameByte = true := by decide
  have h5 : (lgN n).length = 4 + (fmt36 n).length := by simp [lgN, logP]; omega
  unfold nameOk
  rw [Bool.and_eq_true, Bool.and_eq_true, decide_eq_true_eq, decide_eq_true_eq]
  refine ⟨⟨by omega, by omega⟩, ?_⟩
  rw [lgN, List.all_append, h3, h4]; rfl
theorem tbN_ok (n : Nat) : nameOk (tbN n) = true := by
  obtain ⟨h1, h2⟩ := fmt_len n
  have h3 : (fmt36 n).all nameByte = true := digs_name 13 n
  have h4 : tabP.all nameByte = true := by decide
  have h5 : (tbN n).length = 6 + (fmt36 n).length := by simp [tbN, tabP]; omega
  unfold nameOk
  rw [Bool.and_eq_true, Bool.and_eq_true, decide_eq_true_eq, decide_eq_true_eq]
  refine ⟨⟨by omega, by omega⟩, ?_⟩
  rw [tbN, List.all_append, h3, h4]; rfl
theorem manN_ok : nameOk manN = true := by decide
theorem begN_ok : nameOk begN = true := by decide

theorem lgN_inj {n m : Nat} (hn : n < 9223372036854775808) (hm : m < 9223372036854775808) (h : lgN n = lgN m) : n = m := fmt_inj hn hm (List.append_cancel_left h)
theorem tbN_inj {n m : Nat} (hn : n < 9223372036854775808) (hm : m < 9223372036854775808) (h : tbN n = tbN m) : n = m := fmt_inj hn hm (List.append_cancel_left h)
theorem log_tab (n m : Nat) : lgN n ≠ tbN m := by intro h; simp [lgN, tbN, logP, tabP] at h
theorem log_man (n : Nat) : lgN n ≠ manN := by intro h; simp [lgN, manN, logP] at h
theorem tab_man (n : Nat) : tbN n ≠ manN := by intro h; simp [tbN, manN, tabP] at h
theorem log_beg (n : Nat) : lgN n ≠ begN := by intro h; simp [lgN, begN, logP] at h
theorem tab_beg (n : Nat) : tbN n ≠ begN := by intro h; simp [tbN, begN, tabP] at h
theorem man_beg : manN ≠ begN := by decide

def oursN (n : Nm) : Bool := (numOf logP n).isSome || (numOf tabP n).isSome || n == manN || n == begN

end Go.Proofs.YtoabedkcieindaaGreatDoor
