/- The program's journal: appendOp, Encode. -/
import Derived.Test.YtfghgmojnffgnaaGreatCodeK
namespace Go.Proofs.YtfghgmojnffgnaaGreat
open Go.RowKit Go.Maps

abbrev aggOp (o : Ox) : Value := .agg #[str o.key, str o.val, .bool o.gone]

theorem wpList_appB (w : World) {ops : Array Oper} {rest : List Oper} {o : Oper} {ac : Act} {Q : Exit → Act → World → Prop} (hgd : o.guard = none) (s x : Operand)
    (ho : o.op = .call { callee := .builtin .append, args := #[s, x], argTypes := #[167, 167] })
    (n0 : Nat) (v : Value) (l c : List UInt8) (g cp : Nat) (hs : ac.eval s = v) (hx : ac.eval x = .slice (some ⟨g, 0, none⟩) c.length cp) (hn0 : n0 ≤ w.heap.size) (hown : OwnB w n0 v l) (hc : ∀ i (h : i < c.length), w.cell? ⟨g, i, none⟩ = some (encB c[i])) (hlc : l.length + c.length ≤ 4194304)
    (h : ∀ v' w', OwnB w' n0 v' (l ++ c) → Kp (fun i => v.ownBlock = some i) w w' → wpList Tryz.prog ops Q rest (ac.put o.dst v') w') : wpList Tryz.prog ops Q (o :: rest) ac w := by
  obtain ⟨i0, hi, hz0, hz1, hz2⟩ := info_parts Tryz.info5
  refine wpList_append_own _ hgd s x 167 ho n0 5 i0 _ 1 1 Tryz.underlying167 hi hz0 hz1 hz2 rfl (by decide) v l.length (l.map encB) hs hown ⟨g, 0, none⟩ c.length cp (c.map encB) hx (by simp) ?_ (by intro u hu; obtain ⟨c, _, rfl⟩ := List.mem_map.1 hu; rfl) (by unfold maxLen; omega) (by omega) hn0 ?_
  · intro j u hu
    have hj : j < c.length := by simpa using (List.getElem?_eq_some_iff.1 hu).1
    rw [Addr.add_lit, Nat.zero_add, hc j hj]
    rw [List.getElem?_eq_getElem (by simpa using hj)] at hu
    simpa using hu
  · intro v' w' ho' hg' _
    refine h v' w' ?_ ((Kp.refl _ _).grown hg' (fun k hk _ => hk))
    unfold OwnB
    rw [List.length_append, List.map_append]
    exact ho'

theorem wpList_appS (w : World) {ops : Array Oper} {rest : List Oper} {o : Oper} {ac : Act} {Q : Exit → Act → World → Prop} (hgd : o.guard = none) (s x : Operand)
    (ho : o.op = .call { callee := .builtin .append, args := #[s, x], argTypes := #[167, 9] })
    (n0 : Nat) (v : Value) (l c : List UInt8) (hs : ac.eval s = v) (hx : ac.eval x = str c) (hn0 : n0 ≤ w.heap.size) (hown : OwnB w n0 v l) (hlc : l.length + c.length ≤ 4194304)
    (h : ∀ v' w', OwnB w' n0 v' (l ++ c) → Kp (fun i => v.ownBlock = some i) w w' → wpList Tryz.prog ops Q rest (ac.put o.dst v') w') : wpList Tryz.prog ops Q (o :: rest) ac w := by
  refine wpList_plain hgd fun K hK => ?_
  obtain ⟨i, hi, hz, h1, h2⟩ := info_parts Tryz.info5
  have hsz : (⟨c.toArray⟩ : ByteArray).size = c.length := rfl
  have hsc : Lib.strCells ⟨c.toArray⟩ = c.map encB := rfl
  obtain ⟨v', w', hr, ho', hg, _⟩ := Lib.run_append_own_string (P := Tryz.prog) w n0 167 9 o.type 5 i Tryz.underlying167 Tryz.underlying9 hi hz h1 h2 v l.length (l.map encB) hown ⟨c.toArray⟩ (by rw [hsz]; unfold maxLen; omega) (by rw [hsz]; omega) hn0
  unfold Oper.wp execOp
  simp only [ho, resolve, invoke, builtin, Sem.run_bind, Sem.run_pure, Result.andThen_ok, List.map_toArray, List.map_cons, List.map_nil, hs, hx, hr]
  refine hK _ _ (h v' w' ?_ ((Kp.refl _ _).grown hg (fun k hk _ => hk)))
  unfold OwnB
  rw [hsz, hsc] at ho'
  rw [List.length_append, List.map_append]
  exact ho'

theorem OwnB.kept {w w' : World} {base : Nat} {v : Value} {l : List UInt8} {S : Nat → Prop} (h : OwnB w base v l) (k : Kp S w w') (hs : ∀ g, v.ownBlock = some g → ¬ S g) : OwnB w' base v l := k.row h hs
theorem OwnB.alloc {w : World} {base : Nat} {v : Value} {l : List UInt8} (h : OwnB w base v l) (o : Obj) : OwnB (w.alloc o) base v l := h.kept (S := fun _ => False) ((Kp.refl _ _).alloc o) (fun _ _ f => f)
theorem ownB_some {w : World} {base : Nat} {v : Value} {l : List UInt8} (h : OwnB w base v l) : ∃ a n cap, v = .slice a n cap := by
  obtain ⟨a, cap, e⟩ := ownB_shape h; exact ⟨a, _, cap, e⟩
theorem newB (W : World) (b : Nat) (hb : b = W.heap.size) (xs : List Int) (c : List UInt8) (e : xs = c.map fun c => (c.toNat : Int)) (cs : Array Value) (hcs : cs = (xs.map (Value.int .u8)).toArray) (t : TypeId) :
    ∀ i (h : i < c.length), (W.alloc (.cells cs t)).cell? ⟨b, i, none⟩ = some (encB c[i]) := by
  intro i hi
  subst hb
  rw [cell_block (block_new W _), hcs, e]
  simp [encB, hi]
theorem below_own {w w' : World} {v : Value} {l : List UInt8} {n0 : Nat} (hn0 : n0 ≤ w.heap.size) (ho : OwnB w n0 v l) (k : Kp (fun i => v.ownBlock = some i) w w') : Below n0 w w' :=
  ⟨k.os, k.tape, k.output, k.size, fun i hi => k.block i (by omega) (fun e => by have := (ho.lt i e).1; omega)⟩

set_option maxHeartbeats 1000000 in
set_option maxRecDepth 20000 in
/-- An op behind a row of bytes that is the caller's own. -/
theorem appendOp_any (v : Value) (l : List UInt8) (o : Ox) (w : World) (n0 : Nat) (hn0 : n0 ≤ w.heap.size) (hown : OwnB w n0 v l) (ho : opOk o = true) (hl : l.length ≤ 65536) :
    Calls Tryz.prog 160 #[v, aggOp o] w fun e w' => ∃ v', e = .returned v' ∧ OwnB w' n0 v' (l ++ encOp o) ∧ Below n0 w w' := by
  obtain ⟨k1, k2⟩ := opOk_key ho
  have hz1 : (⟨o.key.toArray⟩ : ByteArray).size = o.key.length := rfl
  have hz2 : (⟨o.val.toArray⟩ : ByteArray).size = o.val.length := rfl
  obtain ⟨a, cap, rfl⟩ := ownB_shape hown
  have hgl : ∀ g, (Value.slice a l.length cap).ownBlock = some g → g < w.heap.size := fun g hg => (hown.lt g hg).2
  cases hg : o.gone
  · have hv := opOk_val ho hg
    have E : Hid (encOp o = UInt8.ofNat o.key.length :: UInt8.ofNat o.val.length :: (o.key ++ o.val)) := by show encOp o = _; simp [encOp, hg]
    have hB : Hid ([(o.key.length : Int), (o.val.length : Int)] = [UInt8.ofNat o.key.length, UInt8.ofNat o.val.length].map fun c => (c.toNat : Int)) := by
      show _ = _
      simp only [List.map_cons, List.map_nil, byte_nat (show o.key.length < 256 by omega), byte_nat (show o.val.length < 256 by omega)]
    go_enter Tryz.func160, Tryz.ntmps160
    go_wp2_with (first
      | (at_builtin; refine wpList_appB _ rfl (.tmp 19) (.tmp 28) rfl n0 (.slice a l.length cap) l [UInt8.ofNat o.key.length, UInt8.ofNat o.val.length] (w.heap.size + 1) 2 rfl rfl (by simp; omega) ((hown.alloc _).alloc _) (newB _ _ (by simp) _ _ hB.out _ rfl _) (by simp; omega) ?_; intro v1 w1 hown1 kp1; have hbx := kp1.at (b := w.heap.size) (block_alloc (block_new w _)) (fun e => Nat.lt_irrefl _ (hgl _ e)); have hb1 := below_own (by simp; omega) ((hown.alloc _).alloc _) kp1; obtain ⟨q0, q1, q2, _⟩ := cells3 hbx; obtain ⟨a1, m1, cap1, rfl⟩ := ownB_some hown1; have hs1 := kp1.size; simp only [World.size_alloc] at hs1)
      | (at_builtin; refine wpList_appS w1 rfl (.tmp 30) (.tmp 32) rfl n0 _ _ o.key rfl rfl (by omega) hown1 (by simp; omega) ?_; intro v2 w2 hown2 kp2; have hgl1 : ∀ g, (Value.slice a1 m1 cap1).ownBlock = some g → g ≠ w.heap.size := fun g hg e => row_ne hbx hown1 hg (by decide) e; have hb2 := below_own (by omega) hown1 kp2; have hbx2 := kp2.at hbx (fun e => hgl1 _ e rfl); clear q0 q1 q2; obtain ⟨q0, q1, q2, _⟩ := cells3 hbx2; obtain ⟨a2, m2, cap2, rfl⟩ := ownB_some hown2; have hs2 := kp2.size)
      | (at_builtin; refine wpList_appS w2 rfl (.tmp 34) (.tmp 36) rfl n0 _ _ o.val rfl rfl (by omega) hown2 (by simp; omega) ?_; intro v3 w3 hown3 kp3; have hb3 := below_own (by omega) hown2 kp3; obtain ⟨a3, m3, cap3, rfl⟩ := ownB_some hown3)
      | go_in)
    go_ret
    refine ⟨_, rfl, ?_, (((((Below.refl _ w).alloc hn0 _).alloc (by simp; omega) _).trans hb1).trans hb2).trans hb3⟩
    rw [E.out]
    simpa using hown3
  · have E : Hid (encOp o = UInt8.ofNat (o.key.length + 128) :: o.key) := by show encOp o = _; simp [encOp, hg]
    have hB : Hid ([bits BinOp.or IntKind.u8 (o.key.length : Int) 128] = [UInt8.ofNat (o.key.length + 128)].map fun c => (c.toNat : Int)) := by
      show _ = _
      rw [u8_or _ (by omega), List.map_cons, byte_nat (by omega)]; rfl
    go_enter Tryz.func160, Tryz.ntmps160
    go_wp2_with (first
      | (at_builtin; refine wpList_appB _ rfl (.tmp 7) (.tmp 13) rfl n0 (.slice a l.length cap) l [UInt8.ofNat (o.key.length + 128)] (w.heap.size + 1) 1 rfl rfl (by simp; omega) ((hown.alloc _).alloc _) (newB _ _ (by simp) _ _ hB.out _ rfl _) (by simp; omega) ?_; intro v1 w1 hown1 kp1; have hbx := kp1.at (b := w.heap.size) (block_alloc (block_new w _)) (fun e => Nat.lt_irrefl _ (hgl _ e)); have hb1 := below_own (by simp; omega) ((hown.alloc _).alloc _) kp1; obtain ⟨q0, q1, q2, _⟩ := cells3 hbx; obtain ⟨a1, m1, cap1, rfl⟩ := ownB_some hown1; have hs1 := kp1.size; simp only [World.size_alloc] at hs1)
      | (at_builtin; refine wpList_appS w1 rfl (.tmp 15) (.tmp 17) rfl n0 _ _ o.key rfl rfl (by omega) hown1 (by simp; omega) ?_; intro v2 w2 hown2 kp2; have hb2 := below_own (by omega) hown1 kp2; obtain ⟨a2, m2, cap2, rfl⟩ := ownB_some hown2)
      | go_in)
    go_ret
    refine ⟨_, rfl, ?_, ((((Below.refl _ w).alloc hn0 _).alloc (by simp; omega) _).trans hb1).trans hb2⟩
    rw [E.out]
    simpa using hown2

theorem encBody_snoc {l : List Ox} {k : Nat} (h : k < l.length) : encBody (l.take (k + 1)) = encBody (l.take k) ++ encOp l[k] := by
  unfold encBody; rw [List.take_succ_eq_append_getElem h, List.flatMap_append, List.flatMap_singleton]

theorem kp_from {n : Nat} {w w' : World} (h : Below n w w') : Kp (fun k => n ≤ k) w w' := ⟨h.os, h.tape, h.output, h.size, fun k _ hn => h.block k (by omega)⟩
theorem OwnB.from {w w' : World} {n base : Nat} {v : Value} {l : List UInt8} (h : OwnB w base v l) (k : Below n w w') (hs : ∀ g, v.ownBlock = some g → g < n) : OwnB w' base v l := h.kept (kp_from k) (fun g hg e => by have := hs g hg; omega)

set_option maxHeartbeats 2000000 in
set_option maxRecDepth 20000 in
theorem Encode_any (q : Option Addr) (qc : Nat) (l : List Ox) (w : World) (hbo : batchOk l = true) (hp : Opp w q l) :
    Calls Tryz.prog 114 #[.slice q l.length qc] w fun e w' => e = .returned (str (encode l)) ∧ Below w.heap.size w w' := by
  obtain ⟨⟨h1, h8⟩, hop⟩ := batchOk_iff.1 hbo
  obtain ⟨hb1, hb2⟩ := body_len hbo
  obtain ⟨i0, hi, hz0, hz1, hz2⟩ := info_parts Tryz.info5
  go_enter Tryz.func114, Tryz.ntmps114
  go_wp2
  go_loopw [3, 10] (fun v i wr => ∃ k : Nat, k ≤ l.length ∧ i = .int .i64 k ∧ OwnB wr w.heap.size v (encBody (l.take k)) ∧ Below w.heap.size w wr) (fun _ i _ => l.length - (intOf i).toNat)
  case atStart => exact ⟨0, Nat.zero_le _, rfl, World.ownsRow_nil _ _ _ _, Below.refl _ _⟩
  case round =>
    obtain ⟨k, hk, rfl, hown, hb⟩ := hrel
    by_cases hlt : k < l.length
    · obtain ⟨g, off, rfl, c0, c1, c2⟩ := hp.below hb k hlt
      have hlen := encBody_len (l.take k) (fun o ho => hop o (List.mem_of_mem_take ho))
      rw [List.length_take] at hlen
      obtain ⟨a, n, cap, rfl⟩ := ownB_some hown
      have hs := hb.size
      have hA := appendOp_any (.slice a n cap) (encBody (l.take k)) l[k] (wr.alloc (.cells #[str l[k].key, str l[k].val, .bool l[k].gone] 121)) w.heap.size (by simp; omega) (hown.alloc _) (hop _ (List.getElem_mem hlt)) (by omega)
      go_wp2_with (go_at_call 160; refine hA.mono ?_; rintro e w1 ⟨v1, rfl, hown1, hbl1⟩)
      go_roundw
      case rel => exact ⟨k + 1, by omega, by go_num, by rw [encBody_snoc hlt]; exact hown1, (hb.alloc hb.size _).trans hbl1⟩
      case measure => simp [intOf]; omega
    · rw [List.take_of_length_le (by omega)] at hown
      obtain ⟨a, cap, rfl⟩ := ownB_shape hown
      obtain ⟨g, rfl⟩ : ∃ g, a = some ⟨g, 0, none⟩ := by
        rcases hown.2 with ⟨hv, hn⟩ | ⟨g, cap', cur, hv, _⟩
        · omega
        · exact ⟨g, by simpa using (Value.slice.inj hv).1⟩
      have hs := hb.size
      have hgl := (hown.lt g rfl).2
      have HO : Hid (OwnB wr w.heap.size (.slice (some ⟨g, 0, none⟩) (encBody l).length cap) (encBody l)) := hown
      have HF := fnv_lt (encBody l)
      have HE : Hid (encode l = be2 (encBody l).length ++ be4 (fnv (encBody l)) ++ encBody l) := rfl
      have HSU := fun w => sum_any (encBody l) w (by omega)
      clear hown
      generalize hL : (encBody l).length = L at *
      generalize hN : fnv (encBody l) = N at *
      have H2 : Hid ([(L : Int) / 256, (L : Int) % 256] = (be2 L).map fun c => (c.toNat : Int)) := by
        show _ = _
        simp only [be2, List.map_cons, List.map_nil, byte_mod]
        congr 1
        · omega
      have H4 : Hid ([(N : Int) / 16777216, (N : Int) / 65536 % 256, (N : Int) / 256 % 256, (N : Int) % 256] = (be4 N).map fun c => (c.toNat : Int)) := by
        show _ = _
        simp only [be4, List.map_cons, List.map_nil, byte_mod]
        congr 1
        · omega
      go_wp2_with (first
        | (at_make; refine wpList_make_own _ rfl _ _ 167 rfl wr.heap.size 5 i0 (.int .u8 0) 1 Tryz.underlying167 hi hz0 hz1 _ _ _ (6 + L) rfl rfl rfl (by rw [hz2]; omega) (by unfold maxLen; omega) (Nat.le_refl _) ?_; intro w1 hrow1 hg1; have hr1 : OwnB w1 wr.heap.size (.slice (some ⟨wr.heap.size, 0, none⟩) 0 (6 + L)) [] := hrow1; have hs1 := hg1.size; have ho1 : OwnB w1 w.heap.size (.slice (some ⟨g, 0, none⟩) L cap) (encBody l) := HO.out.kept ((Kp.refl (fun _ => False) _).grown hg1 (fun _ e => by cases e)) (fun _ _ f => f))
        | (at_builtin; refine wpList_appB _ rfl (.tmp 22) (.tmp 30) rfl wr.heap.size (.slice (some ⟨wr.heap.size, 0, none⟩) 0 (6 + L)) [] (be2 L) w1.heap.size 2 rfl rfl (by simp; omega) (hr1.alloc _) (newB _ _ (by simp) _ _ H2.out _ rfl _) (by simp [be2]) ?_; intro v2 w2 hown2 kp2; have hbl2 := below_own (by simp; omega) (hr1.alloc _) kp2; have ho2 := (ho1.alloc _).from hbl2 (fun k hk => by cases hk; omega); have hcv2 := conv_bytes ho2; obtain ⟨a2, m2, cap2, rfl⟩ := ownB_some hown2; have hs2 := kp2.size; simp only [World.size_alloc] at hs2)
        | (go_at_call 161; refine (HSU _).mono ?_; rintro e w2 ⟨rfl, rfl⟩)
        | (at_builtin; refine wpList_appB _ rfl (.tmp 35) (.tmp 47) rfl wr.heap.size _ _ (be4 N) w2.heap.size 4 rfl rfl (by simp; omega) (hown2.alloc _) (newB _ _ (by simp) _ _ H4.out _ rfl _) (by simp [be2, be4]) ?_; intro v3 w3 hown3 kp3; have hbl3 := below_own (by simp; omega) (hown2.alloc _) kp3; have ho3 := (ho2.alloc _).from hbl3 (fun k hk => by cases hk; omega); obtain ⟨a3, m3, cap3, rfl⟩ := ownB_some hown3; have hs3 := kp3.size; simp only [World.size_alloc] at hs3; clear hcv2)
        | (at_builtin; refine wpList_appB w3 rfl (.tmp 49) (.tmp 50) rfl wr.heap.size _ _ (encBody l) g cap rfl (by rw [hL]; rfl) (by omega) hown3 (ownB_cells ho3) (by simp [be2, be4, hL]; omega) ?_; intro v4 w4 hown4 kp4; have hbl4 := below_own (by omega) hown3 kp4; have hcv4 := conv_bytes hown4; obtain ⟨a4, m4, cap4, rfl⟩ := ownB_some hown4; have hs4 := kp4.size)
        | go_in)
      go_ret
      refine ⟨?_, (((((hb.trans ((Below.refl _ wr).grown hg1 hs (fun _ e => by cases e))).alloc (by omega) _).trans (hbl2.mono hs)).alloc (by omega) _).trans (hbl3.mono hs)).trans (hbl4.mono hs)⟩
      rw [HE.out]
      simp

end Go.Proofs.YtfghgmojnffgnaaGreat
