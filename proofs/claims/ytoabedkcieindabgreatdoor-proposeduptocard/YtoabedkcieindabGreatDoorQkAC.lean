import Derived.Test.YtoabedkcieindabGreatDoorQkAB
import Derived.Lib.AppendStr
namespace Go.Proofs.YtoabedkcieindabGreatDoor
open Go.RowKit Go.Maps Go.Lib
theorem app_row {P : Program} (w : World) (t ty e : TypeId) (i : TypeInfo) (z : Value) (size bytes : Nat) (ht : P.underlying t = some (.slice e)) (hi : P.info? e = some i) (hz : i.zero = some z)
    (hsize : i.size = size) (hby : i.bytes = bytes) (hzs : z.cells.size = size) (hsz : 0 < size)
    (v : Value) (n : Nat) (xs : List Value) (hown : w.ownsRow 0 e size v n xs)
    (a : Addr) (m c : Nat) (news : List Value) (hl : news.length = m * size) (hnews : ∀ j u, news[j]? = some u → w.cell? (a.add j) = some u) (h1 : ∀ u ∈ news, u.oneCell' = true)
    (h63 : n + m ≤ maxLen) (hbytes : (n + m) * bytes ≤ 140737488355328) :
    ∃ v' w', (Builtin.append_ #[t, t] ty #[v, .slice (some a) m c]).run P w = .ok v' w' ∧ w'.ownsRow 0 e size v' (n + m) (xs ++ news) ∧ w.grownBy w' v.ownBlock ∧
      (∀ g, v'.ownBlock = some g → v.ownBlock = some g ∨ w.heap.size ≤ g) := by
  obtain ⟨v', w', hr, ho, hg, _⟩ := run_append_own (P := P) w 0 t ty e i z size bytes ht hi hz hsize hby hzs hsz v n xs hown a m c news hl hnews h1 h63 hbytes (Nat.zero_le _)
  refine ⟨v', w', hr, ho, hg, ?_⟩
  have hsmall : n + m ≤ 9223372036854775807 := by simp only [maxLen] at h63; omega
  subst hsize
  subst hby
  rcases hown.2 with ⟨hv, hn⟩ | ⟨g, cap, cur, hv, hbg, hgg, hnc, hcm, hcs, htake⟩
  · subst hv; subst hn
    have hx : xs = [] := List.eq_nil_of_length_eq_zero (by simpa using hown.1)
    subst hx
    obtain ⟨v2, w2, hr2, ho2, _, _⟩ := run_append_own (P := P) w w.heap.size t ty e i z i.size i.bytes ht hi hz rfl rfl hzs hsz (.slice none 0 0) 0 [] (World.ownsRow_nil _ _ _ _) a m c news hl hnews h1 h63 hbytes (Nat.le_refl _)
    rw [hr] at hr2
    simp only [Result.ok.injEq] at hr2
    obtain ⟨rfl, rfl⟩ := hr2
    exact fun g hg => .inr (ho2.lt g hg).1
  · subst hv
    by_cases hroom : n + m ≤ cap
    · have hfit : n * i.size + news.length ≤ cur.size := by rw [hl, hcs, ← Nat.add_mul]; exact Nat.mul_le_mul_right _ hroom
      have hr2 := run_append_room (P := P) w t ty e i ht hi g n cap cur hgg a m c news hl hnews h1 hroom hfit
      rw [hr] at hr2
      simp only [Result.ok.injEq] at hr2
      obtain ⟨rfl, _⟩ := hr2
      exact fun g hg => .inl hg
    · have holds : ∀ j u, xs[j]? = some u → w.cell? ((⟨g, 0, none⟩ : Addr).add j) = some u := hown.cells (g := g) rfl
      have hr2 := run_append_grow (P := P) w t ty e i z ht hi hz ⟨g, 0, none⟩ n cap xs hown.1 holds a m c news hl hnews (by omega) (by omega) (growslice_fits (by omega) hbytes)
      rw [hr] at hr2
      simp only [Result.ok.injEq] at hr2
      obtain ⟨rfl, _⟩ := hr2
      exact fun g hg => .inr (by simp only [Value.ownBlock, Option.some.injEq] at hg; omega)
theorem wpList_app {P : Program} (w : World) {ops : Array Oper} {rest : List Oper} {o : Oper} {ac : Act} {Q : Exit → Act → World → Prop} (hgd : o.guard = none) (s x : Operand) (t : TypeId)
    (ho : o.op = .call { callee := .builtin .append, args := #[s, x], argTypes := #[t, t] })
    (e : TypeId) (i : TypeInfo) (z : Value) (size bytes : Nat) (ht : P.underlying t = some (.slice e)) (hi : P.info? e = some i) (hz : i.zero = some z)
    (hsize : i.size = size) (hby : i.bytes = bytes) (hzs : z.cells.size = size) (hsz : 0 < size)
    (v : Value) (n : Nat) (xs : List Value) (hs : ac.eval s = v) (hown : w.ownsRow 0 e size v n xs)
    (ad : Addr) (m c : Nat) (news : List Value) (hx : ac.eval x = .slice (some ad) m c) (hl : news.length = m * size) (hnews : ∀ j u, news[j]? = some u → w.cell? (ad.add j) = some u) (h1 : ∀ u ∈ news, u.oneCell' = true)
    (h63 : n + m ≤ maxLen) (hbytes : (n + m) * bytes ≤ 140737488355328)
    (h : ∀ v' w', w'.ownsRow 0 e size v' (n + m) (xs ++ news) → w.grownBy w' v.ownBlock → (∀ g, v'.ownBlock = some g → v.ownBlock = some g ∨ w.heap.size ≤ g) → wpList P ops Q rest (ac.put o.dst v') w') : wpList P ops Q (o :: rest) ac w := by
  refine wpList_plain hgd fun K hK => ?_
  obtain ⟨v', w', hr, h2, h3, h4⟩ := app_row (P := P) w t o.type e i z size bytes ht hi hz hsize hby hzs hsz v n xs hown ad m c news hl hnews h1 h63 hbytes
  unfold Oper.wp execOp
  simp only [ho, resolve, invoke, builtin, Sem.run_bind, Sem.run_pure, Result.andThen_ok, List.map_toArray, List.map_cons, List.map_nil, hs, hx, hr]
  exact hK _ _ (h v' w' h2 h3 h4)
theorem app_str (w : World) (ty : TypeId) (v : Value) (l c : List UInt8) (hown : OwnB w 0 v l) (hlc : l.length + c.length ≤ 4194304) :
    ∃ v' w', (Builtin.append_ #[123, 9] ty #[v, .string ⟨c.toArray⟩]).run Tryz.prog w = .ok v' w' ∧ OwnB w' 0 v' (l ++ c) ∧ Kp (fun i => v.ownBlock = some i) w w' ∧
      (∀ g, v'.ownBlock = some g → v.ownBlock = some g ∨ w.heap.size ≤ g) := by
  obtain ⟨i, hi, hz, h1, h2⟩ := info_parts Tryz.info5
  have hsz : (⟨c.toArray⟩ : ByteArray).size = c.length := rfl
  have hsc : strCells ⟨c.toArray⟩ = c.map encB := rfl
  obtain ⟨v', w', hr, ho, hg, _⟩ := run_append_own_string (P := Tryz.prog) w 0 123 9 ty 5 i Tryz.underlying123 Tryz.underlying9 hi hz h1 h2 v l.length (l.map encB) hown ⟨c.toArray⟩ (by rw [hsz]; unfold maxLen; omega) (by rw [hsz]; omega) (Nat.zero_le _)
  refine ⟨v', w', hr, ?_, (Kp.refl _ _).grown hg (fun k hk _ => hk), ?_⟩
  · unfold OwnB
    rw [hsz, hsc] at ho
    rw [List.length_append, List.map_append]
    exact ho
  · rcases hown.2 with ⟨hv, hn⟩ | ⟨g, cap, cur, hv, hbg, hgg, hnc, hcm, hcs, htake⟩
    · subst hv
      have hx : l = [] := List.eq_nil_of_length_eq_zero hn
      subst hx
      obtain ⟨v2, w2, hr2, ho2, _, _⟩ := run_append_own_string (P := Tryz.prog) w w.heap.size 123 9 ty 5 i Tryz.underlying123 Tryz.underlying9 hi hz h1 h2 (.slice none 0 0) 0 [] (World.ownsRow_nil _ _ _ _) ⟨c.toArray⟩ (by rw [hsz]; unfold maxLen; omega) (by rw [hsz]; omega) (Nat.le_refl _)
      rw [hr] at hr2
      simp only [Result.ok.injEq] at hr2
      obtain ⟨rfl, rfl⟩ := hr2
      exact fun g hg => .inr (ho2.lt g hg).1
    · subst hv
      by_cases hroom : l.length + c.length ≤ cap
      · have hr2 := run_append_room_string (P := Tryz.prog) w 123 9 ty 5 i Tryz.underlying123 Tryz.underlying9 hi h1 g l.length cap cur hgg ⟨c.toArray⟩ (by rw [hsz]; exact hroom) (by rw [hsz, hcs]; omega)
        rw [hr] at hr2
        simp only [Result.ok.injEq] at hr2
        obtain ⟨rfl, _⟩ := hr2
        exact fun g hg => .inl hg
      · have holds : ∀ j u, (l.map encB)[j]? = some u → w.cell? ((⟨g, 0, none⟩ : Addr).add j) = some u := World.ownsRow.cells hown (g := g) rfl
        have hr2 := run_append_grow_string (P := Tryz.prog) w 123 9 ty 5 i (.int .u8 0) Tryz.underlying123 Tryz.underlying9 hi hz ⟨g, 0, none⟩ l.length cap (l.map encB) (by rw [h1]; simp) holds ⟨c.toArray⟩ (by rw [hsz]; omega) (by rw [hsz]; omega) (growslice_fits (by rw [hsz]; omega) (by rw [hsz, h2]; omega))
        rw [hr] at hr2
        simp only [Result.ok.injEq] at hr2
        obtain ⟨rfl, _⟩ := hr2
        exact fun g hg => .inr (by simp only [Value.ownBlock, Option.some.injEq] at hg; omega)
theorem wpList_app_str (w : World) {ops : Array Oper} {rest : List Oper} {o : Oper} {ac : Act} {Q : Exit → Act → World → Prop} (hgd : o.guard = none) (s x : Operand)
    (ho : o.op = .call { callee := .builtin .append, args := #[s, x], argTypes := #[123, 9] })
    (v : Value) (l c : List UInt8) (hs : ac.eval s = v) (hx : ac.eval x = .string ⟨c.toArray⟩) (hown : OwnB w 0 v l) (hlc : l.length + c.length ≤ 4194304)
    (h : ∀ v' w', OwnB w' 0 v' (l ++ c) → Kp (fun i => v.ownBlock = some i) w w' → (∀ g, v'.ownBlock = some g → v.ownBlock = some g ∨ w.heap.size ≤ g) → wpList Tryz.prog ops Q rest (ac.put o.dst v') w') : wpList Tryz.prog ops Q (o :: rest) ac w := by
  refine wpList_plain hgd fun K hK => ?_
  obtain ⟨v', w', hr, h2, h3, h4⟩ := app_str w o.type v l c hown hlc
  unfold Oper.wp execOp
  simp only [ho, resolve, invoke, builtin, Sem.run_bind, Sem.run_pure, Result.andThen_ok, List.map_toArray, List.map_cons, List.map_nil, hs, hx, hr]
  exact hK _ _ (h v' w' h2 h3 h4)
end Go.Proofs.YtoabedkcieindabGreatDoor

namespace Go.Proofs.YtoabedkcieindabGreatDoor
open Go.RowKit Go.Maps
theorem used_ins (x : Nm × Fl) (fs : List (Nm × Fl)) : used (ins x fs) = used fs + x.2.bytes.length := by
  have := ((ins_perm x fs).map (fun y => y.2.bytes.length)).sum_nat
  simp only [used]
  rw [this]
  simp only [List.map_cons, List.sum_cons]
  omega
theorem upd_none {α : Type} {n : Nm} {f : α → α} {fs : List (Nm × α)} (h : getF n fs = none) : upd n f fs = fs := by
  induction fs with
  | nil => rfl
  | cons x r ih =>
    rw [getF] at h
    split at h
    · cases h
    · rename_i e
      show (if x.1 = n then _ else _) :: upd n f r = _
      rw [if_neg e, ih h]
theorem upd_ins {α : Type} {n : Nm} {f : α → α} {x : α} : ∀ {fs : List (Nm × α)}, getF n fs = none → upd n f (ins (n, x) fs) = ins (n, f x) fs
  | [], _ => by simp [ins, upd]
  | y :: r, h => by
    have h0 := h
    rw [getF] at h
    split at h
    · cases h
    · rename_i e
      rw [ins, ins]
      show upd n f (if bytesBefore n y.1 then _ else _) = if bytesBefore n y.1 then _ else _
      split
      · show (if n = n then _ else _) :: upd n f (y :: r) = _
        rw [if_pos rfl, upd_none h0]
      · show (if y.1 = n then _ else _) :: upd n f (ins (n, x) r) = _
        rw [if_neg e, upd_ins h]
theorem before_trans {a b c : Nm} (h1 : bytesBefore a b = true) (h2 : bytesBefore b c = true) : bytesBefore a c = true := WideShapes.bytes_trans a b c h1 h2
theorem rising_ins {α : Type} {n : Nm} {x : α} : ∀ {fs : List (Nm × α)}, rising fs → getF n fs = none → rising (ins (n, x) fs)
  | [], _, _ => by simp [ins, rising]
  | y :: r, hr, h => by
    rw [getF] at h
    split at h
    · cases h
    · rename_i e
      have hc := List.pairwise_cons.1 hr
      rw [ins]
      split
      · rename_i hb
        refine List.pairwise_cons.2 ⟨fun z hz => ?_, hr⟩
        rcases List.mem_cons.1 hz with rfl | hz
        · exact hb
        · exact before_trans hb (hc.1 z hz)
      · rename_i hb
        refine List.pairwise_cons.2 ⟨fun z hz => ?_, rising_ins hc.2 h⟩
        rcases List.mem_cons.1 ((ins_perm (n, x) r).mem_iff.1 hz) with rfl | hz
        · rcases WideAt.bytes_total y.1 n e with h1 | h1
          · exact h1
          · exact absurd h1 hb
        · exact hc.1 z hz
theorem getF_ins {α : Type} {n : Nm} {x : α} {fs : List (Nm × α)} (hr : rising fs) (h : getF n fs = none) : getF n (ins (n, x) fs) = some x := by
  have hm : (n, x) ∈ ins (n, x) fs := (ins_perm (n, x) fs).mem_iff.2 (List.mem_cons_self ..)
  obtain ⟨k, hk, he⟩ := List.getElem_of_mem hm
  have hri := rising_ins (x := x) hr h
  rw [getF_at hk (by rw [he]) (fun j hj e => by
    have := rising_at hri (i := j) (j := k) (by omega) hk (e.trans (by rw [he]))
    omega), he]
theorem rising_ps {ps : PL} (h : rising (fsOf ps)) : rising ps := by
  unfold rising fsOf at h
  rw [List.pairwise_map] at h
  exact h
theorem write_close {w1 w2 : World} {S : Nat → Prop} {b bm : Nat} {ps : PL} {room room' fuse turn : Int} {k : Nat} {n : Nm} {p : PF} {v' : Value} {c : List UInt8} (hst : PrSt w1 S b bm ps room fuse false turn) (hk : k < ps.length) (hek : ps[k] = (n, p))
    (kp2 : Kp (fun i => p.sv.ownBlock = some i) w1 w2) (hob : OwnB w2 0 v' (p.fl.bytes ++ c)) (hfr : ∀ g, v'.ownBlock = some g → p.sv.ownBlock = some g ∨ w1.heap.size ≤ g) :
    PrSt ((w2.setCell ⟨p.bf, 0, none⟩ v').setCell ⟨b, 1, none⟩ (.int .i64 room')) (Nw S w1) b bm (ps.set k (ps[k].1, ⟨addB c p.fl, p.bf, v'⟩)) room' fuse false turn ∧ Kp S w1 ((w2.setCell ⟨p.bf, 0, none⟩ v').setCell ⟨b, 1, none⟩ (.int .i64 room')) := by
  have hfl := hst.file _ (List.getElem_mem hk)
  have hsf := hst.sf _ (List.getElem_mem hk)
  rw [hek] at hfl hsf
  simp only at hfl hsf
  have hne2 : ∀ g, p.sv.ownBlock = some g → g ≠ p.bf := fun g hg => row_ne hfl.1 hfl.2 hg (by decide)
  have hf2 := kp2.at hfl.1 (fun e => hne2 _ e rfl)
  have k3 : Kp (fun i => i = p.bf ∨ p.sv.ownBlock = some i) w1 (w2.setCell ⟨p.bf, 0, none⟩ v') := (kp2.mono (fun _ h => .inr h)).put (.inl rfl) _
  have h3 := hst.setF k hk ⟨addB c p.fl, p.bf, v'⟩ (by rw [hek]) (w' := w2.setCell ⟨p.bf, 0, none⟩ v') (k3.mono (fun i hi => by rw [hek]; exact hi))
    ⟨(block_set hf2 _).trans rfl, ownsRow_of_block hob (fun g hg => Below.heap_setCell _ _ _ _ (row_ne hf2 hob hg (by decide)))⟩ (fun g hg => by rw [hek]; exact hfr g hg)
  refine ⟨h3.fields (Kp.set1 _ _ _ _) ((block_set h3.blk _).trans rfl), ?_⟩
  refine Kp.put (k3.mono (fun i hi => ?_)) hst.sb _
  rcases hi with rfl | hi
  · exact hsf.1
  · exact hsf.2 i hi
set_option maxHeartbeats 1000000 in
set_option maxRecDepth 20000 in
theorem dWrite_any (b : Nat) (d : Dk) (n : Nm) (c : List UInt8) (S : Nat → Prop) (w : World) (hP : ProgAt w S b d) (hok : d.Ok) (hl : d.files.length ≤ 4194302) (hn : n.length ≤ 1099511627776) (hc : c.length ≤ 1099511627776) :
    Calls Tryz.prog 99 #[.pointer (some ⟨b, 0, none⟩), .string ⟨n.toArray⟩, .string ⟨c.toArray⟩] w fun e w' => e = .returned (.int .i64 (d.write n c).1) ∧ ProgAt w' (Nw S w) b (d.write n c).2 ∧ Kp S w w' := by
  obtain ⟨bm, ps, hst, hfs⟩ := id hP
  have hgf := getF_fs n ps
  rw [hfs] at hgf
  have hdd := isDead_any hst.blk
  have hnm := isName_any ⟨n.toArray⟩ w (by show n.length ≤ _; unfold maxLen; omega)
  have hu1 := hok.used
  have hu2 := hok.quota
  have hml : n.length ≤ maxLen := by unfold maxLen; omega
  have hpl : ps.length ≤ 4194302 := by rw [← fs_len, hfs]; exact hl
  obtain ⟨c0, c1, c2, c3, c8, f0, f1, f2, f3, f9⟩ := cells5 hst.blk
  cases hd : d.dead
  · rw [hd] at hst hdd
    by_cases hk : nameOk n = false
    · have HX : Hid (d.write n c = (1, d)) := by simp [Hid, Dk.write, hd, hk]
      clear hst hgf
      go_enter Tryz.func99, Tryz.ntmps99
      go_wp2_with (first
        | (go_at_call 57; refine hdd.mono ?_; rintro e w' ⟨rfl, rfl⟩)
        | (go_at_call 167; refine hnm.mono ?_; rintro e w' ⟨rfl, rfl⟩; simp only [hk]))
      go_ret
      rw [HX.out]
      exact ⟨rfl, hP.nw, Kp.refl _ _⟩
    · rw [Bool.not_eq_false] at hk
      by_cases hq : d.quota < used d.files + c.length
      · have HX : Hid (d.write n c = (3, d)) := by simp [Hid, Dk.write, hd, hk, hq]
        clear hst hgf
        go_enter Tryz.func99, Tryz.ntmps99
        go_wp2_with (first
          | (go_at_call 57; refine hdd.mono ?_; rintro e w' ⟨rfl, rfl⟩)
          | (go_at_call 167; refine hnm.mono ?_; rintro e w' ⟨rfl, rfl⟩; simp only [hk]))
        go_ret
        rw [HX.out]
        exact ⟨rfl, hP.nw, Kp.refl _ _⟩
      · by_cases hz : d.left = 0
        · have hbl := blows_die hst.blk hz
          have HX : Hid (d.write n c = (4, d.die)) := by simp [Hid, Dk.write, hd, hk, hq, hz]
          clear hgf
          go_enter Tryz.func99, Tryz.ntmps99
          go_wp2_with (first
            | (go_at_call 57; refine hdd.mono ?_; rintro e w' ⟨rfl, rfl⟩)
            | (go_at_call 167; refine hnm.mono ?_; rintro e w' ⟨rfl, rfl⟩; simp only [hk])
            | (go_at_call 110; refine hbl.mono ?_; rintro e w1 ⟨rfl, kp, hb1⟩))
          go_ret
          rw [HX.out]
          exact ⟨rfl, ⟨bm, ps, (hst.fields kp hb1).mono (fun _ _ s => .inl s), hfs⟩, kp.b hst.sb⟩
        · have hbl := blows_go hst.blk hok.left0 hok.left1 hz
          cases hg : getF n ps with
          | none =>
            rw [hg] at hgf
            have HX : Hid (d.write n c = (0, ⟨d.quota, ins (n, ⟨c, 0⟩) d.files, max (d.left - 1) (-1), false, d.turn⟩)) := by simp [Hid, Dk.write, hd, hk, hq, hz, hgf, Dk.burn]
            have hri : rising ps := rising_ps (by rw [hfs]; exact hok.rise)
            have hui := used_ins (n, ⟨c, 0⟩) d.files
            have HG : Hid (getF n d.files = none) := hgf
            clear hgf
            go_enter Tryz.func99, Tryz.ntmps99
            go_wp2_with (first
              | (go_at_call 57; refine hdd.mono ?_; rintro e w' ⟨rfl, rfl⟩; clear hdd)
              | (go_at_call 167; refine hnm.mono ?_; rintro e w' ⟨rfl, rfl⟩; simp only [hk]; clear hnm)
              | (go_at_call 110; refine hbl.mono ?_; rintro e w1 ⟨rfl, kp, hb1⟩; clear hbl; have hst1 := hst.fields kp hb1; have hlk := look hst1.map n hml; rw [hg] at hlk; simp only [ptrOf] at hlk; obtain ⟨r0, r1, r2, r3, r8, r4, r5, r6, r7, r9⟩ := cells5 hst1.blk; have hblt := lt_of_block hst1.blk)
              | (go_at_call 168; refine (add_any (w := w1.alloc (.cells #[.slice none 0 0, .int .i64 0] 125)) ((hst1.below ((Below.refl _ w1).alloc (Nat.le_refl _) _)).mono (T := Nw S w1) (fun _ _ s => .inl s)) n ⟨⟨[], 0⟩, w1.heap.size, .slice none 0 0⟩ hn (by omega) hg ⟨block_new w1 _, World.ownsRow_nil _ _ _ _⟩ (fun x hx => ⟨fun e => by have := lt_of_block (hst1.file x hx).1; simp only at e; omega, fun g hg' => by simp [Value.ownBlock] at hg'⟩) ⟨.inr (Nat.le_refl _), fun g hg' => by simp [Value.ownBlock] at hg'⟩).mono ?_; rintro e w3 ⟨rfl, hst3, kp3⟩; obtain ⟨k, hk', hek⟩ := getF_pos (getF_ins (x := (⟨⟨[], 0⟩, w1.heap.size, .slice none 0 0⟩ : PF)) hri hg); have hfl := hst3.file _ (List.getElem_mem hk'); rw [hek] at hfl; simp only at hfl; obtain ⟨g0, g1, z0, z1⟩ := cells2 hfl.1; obtain ⟨t0, t1, t2, t3, t8, t4, t5, t6, t7, t9⟩ := cells5 hst3.blk; have hbne : b ≠ w1.heap.size := cells_ne hst3.blk hfl.1 (by decide))
              | (at_builtin; refine wpList_app_str w3 rfl (.tmp 44) (.tmp 45) rfl (.slice none 0 0) [] c rfl rfl hfl.2 (by simp; omega) ?_; intro v' w2 hob kp2 hfr; obtain ⟨a', cap', hsv'⟩ := ownB_shape hob; subst hsv'; have hb2 := kp2.at hst3.blk (fun e => by simp [Value.ownBlock] at e); have hf2 := kp2.at hfl.1 (fun e => by simp [Value.ownBlock] at e); obtain ⟨y0, y1, x0, x1⟩ := cells2 hf2; obtain ⟨s0, s1, s2, s3, s8, s4, s5, s6, s7, s9⟩ := cells5 hb2))
            go_ret
            have hcl := write_close (room' := (d.quota : Int) - used d.files - c.length) hst3 hk' hek kp2 hob hfr
            rw [HX.out]
            have e2 : fsOf ((ins (n, (⟨⟨[], 0⟩, w1.heap.size, .slice none 0 0⟩ : PF)) ps).set k ((ins (n, (⟨⟨[], 0⟩, w1.heap.size, .slice none 0 0⟩ : PF)) ps)[k].1, ⟨addB c ⟨[], 0⟩, w1.heap.size, .slice a' ([] ++ c).length cap'⟩)) = ins (n, ⟨c, 0⟩) d.files := by
              rw [fs_upd (p := ⟨⟨[], 0⟩, w1.heap.size, .slice none 0 0⟩) (n := n) (by rw [fs_ins, hfs]; exact rising_ins hok.rise HG.out) hk' hek (addB c) rfl, fs_ins, hfs, upd_ins HG.out]
              simp [addB]
            have kpa : Kp S w' w3 := kpNw ((((kp.b (S := Nw S w') (.inl hst.sb)).alloc _).trans kp3 (fun i hi e => by subst e; exact .inl hst.sm)))
            refine ⟨rfl, ⟨bm, _, ?_, e2⟩, kpNw ((kpa.mono (T := Nw S w') (fun _ s => .inl s)).trans hcl.2 (fun i hi s => s.elim .inl (fun h => .inr (Nat.le_trans kp.size h))))⟩
            show PrSt _ _ _ _ _ ((d.quota : Int) - used (ins (n, ⟨c, 0⟩) d.files)) _ _ _
            rw [show (d.quota : Int) - used (ins (n, ⟨c, 0⟩) d.files) = d.quota - used d.files - c.length by omega]
            exact hcl.1.mono (fun i _ s => by
              rcases s with (s | s) | s
              · exact .inl s
              · exact .inr (Nat.le_trans kp.size s)
              · exact .inr (Nat.le_trans kpa.size s))
          | some p =>
            rw [hg] at hgf
            simp only [Option.map_some] at hgf
            have HX : Hid (d.write n c = (0, ⟨d.quota, upd n (addB c) d.files, max (d.left - 1) (-1), false, d.turn⟩)) := by simp [Hid, Dk.write, hd, hk, hq, hz, hgf, Dk.burn]
            have hlen := bytes_le hok hgf
            have hup := used_upd hok.rise hgf (addB c)
            obtain ⟨k, hk', hek⟩ := getF_pos hg
            clear hgf
            go_enter Tryz.func99, Tryz.ntmps99
            go_wp2_with (first
              | (go_at_call 57; refine hdd.mono ?_; rintro e w' ⟨rfl, rfl⟩; clear hdd)
              | (go_at_call 167; refine hnm.mono ?_; rintro e w' ⟨rfl, rfl⟩; simp only [hk]; clear hnm)
              | (go_at_call 110; refine hbl.mono ?_; rintro e w1 ⟨rfl, kp, hb1⟩; clear hbl; have hst1 := hst.fields kp hb1; have hlk := look hst1.map n hml; rw [hg] at hlk; simp only [ptrOf] at hlk; have hfl := hst1.file _ (List.getElem_mem hk'); rw [hek] at hfl; simp only at hfl; obtain ⟨a, cap, hsv⟩ := ownB_shape hfl.2; obtain ⟨g0, g1, z0, z1⟩ := cells2 hfl.1; rw [hsv] at g0; obtain ⟨r0, r1, r2, r3, r8, r4, r5, r6, r7, r9⟩ := cells5 hst1.blk; have hbne : b ≠ p.bf := cells_ne hst1.blk hfl.1 (by decide))
              | (at_builtin; refine wpList_app_str w1 rfl (.tmp 44) (.tmp 45) rfl p.sv p.fl.bytes c (by rw [hsv]; rfl) rfl hfl.2 (by omega) ?_; intro v' w2 hob kp2 hfr; obtain ⟨a', cap', hsv'⟩ := ownB_shape hob; subst hsv'; have hne2 : ∀ g, p.sv.ownBlock = some g → g ≠ p.bf := fun g hg => row_ne hfl.1 hfl.2 hg (by decide); have hb2 := kp2.at hst1.blk (fun e => row_ne hst1.blk hfl.2 e (by decide) rfl); have hf2 := kp2.at hfl.1 (fun e => hne2 _ e rfl); obtain ⟨y0, y1, x0, x1⟩ := cells2 hf2; obtain ⟨s0, s1, s2, s3, s8, s4, s5, s6, s7, s9⟩ := cells5 hb2))
            go_ret
            have hcl := write_close (room' := (d.quota : Int) - used d.files - c.length) hst1 hk' hek kp2 hob hfr
            have e1 : (d.quota : Int) - used (upd n (addB c) d.files) = d.quota - used d.files - c.length := by simp only [addB, List.length_append] at hup; omega
            simp only [List.length_append] at hcl
            rw [HX.out]
            refine ⟨rfl, ⟨bm, _, ?_, (fs_upd (p' := ⟨addB c p.fl, p.bf, .slice a' (p.fl.bytes.length + c.length) cap'⟩) (by rw [hfs]; exact hok.rise) hk' hek (addB c) rfl).trans (by rw [hfs])⟩, (kp.b hst.sb).trans hcl.2 (fun _ _ s => s)⟩
            show PrSt _ _ _ _ _ ((d.quota : Int) - used (upd n (addB c) d.files)) _ _ _
            rw [e1]
            exact hcl.1.mono (fun i _ s => s.elim .inl (fun h => .inr (Nat.le_trans kp.size h)))
  · rw [hd] at hdd
    have HX : Hid (d.write n c = (4, d)) := by simp [Hid, Dk.write, hd]
    clear hst hgf
    go_enter Tryz.func99, Tryz.ntmps99
    go_wp2_with (go_at_call 57; refine hdd.mono ?_; rintro e w' ⟨rfl, rfl⟩)
    go_ret
    rw [HX.out]
    exact ⟨rfl, hP.nw, Kp.refl _ _⟩
end Go.Proofs.YtoabedkcieindabGreatDoor

namespace Go.Proofs.YtoabedkcieindabGreatDoor
open Go.RowKit Go.Maps
theorem getF_del {α : Type} (n : Nm) (fs : List (Nm × α)) : getF n (del n fs) = none :=
  getF_none (fun k hk e => by
    have hm := List.getElem_mem hk
    have := (List.mem_filter.1 hm).2
    simp [e] at this)
theorem ins_del {α : Type} {n : Nm} {f : α} : ∀ {fs : List (Nm × α)}, rising fs → getF n fs = some f → ins (n, f) (del n fs) = fs
  | [], _, h => by cases h
  | y :: r, hr, h => by
    have hc := List.pairwise_cons.1 hr
    rw [getF] at h
    split at h
    · rename_i e
      obtain ⟨a, x⟩ := y
      simp only at e
      subst e
      simp only [Option.some.injEq] at h
      subst h
      have h1 : del a ((a, x) :: r) = r := by
        have := del_erase hr (k := 0) (by simp)
        simpa using this
      rw [h1]
      cases r with
      | nil => rfl
      | cons z s =>
        rw [ins]
        rw [if_pos (hc.1 z (List.mem_cons_self ..))]
    · rename_i e
      have h1 : del n (y :: r) = y :: del n r := by simp [del, e]
      rw [h1, ins]
      have hny : ¬ bytesBefore n y.1 = true := fun hb => by
        have := hc.1 _ (getF_mem h)
        have h3 := before_trans hb this
        rw [WideAt.bytes_irrefl] at h3
        cases h3
      rw [if_neg hny, ins_del hc.2 h]
set_option maxHeartbeats 2000000 in
set_option maxRecDepth 20000 in
theorem dRename_any (b : Nat) (d : Dk) (n m : Nm) (S : Nat → Prop) (w : World) (hP : ProgAt w S b d) (hok : d.Ok) (hl : d.files.length ≤ 4194302) (hn : n.length ≤ 1099511627776) (hm : m.length ≤ 1099511627776) :
    Calls Tryz.prog 138 #[.pointer (some ⟨b, 0, none⟩), .string ⟨n.toArray⟩, .string ⟨m.toArray⟩] w fun e w' => e = .returned (.int .i64 (d.rename n m).1) ∧ ProgAt w' (Nw S w) b (d.rename n m).2 ∧ Kp S w w' := by
  obtain ⟨bm, ps, hst, hfs⟩ := id hP
  have hgf := getF_fs n ps
  rw [hfs] at hgf
  have hdd := isDead_any hst.blk
  have hnm := isName_any ⟨m.toArray⟩ w (by show m.length ≤ _; unfold maxLen; omega)
  have hu1 := hok.used
  have hu2 := hok.quota
  have hnl : n.length ≤ maxLen := by unfold maxLen; omega
  have hml : m.length ≤ maxLen := by unfold maxLen; omega
  have hpl : ps.length ≤ 4194302 := by rw [← fs_len, hfs]; exact hl
  cases hd : d.dead
  · rw [hd] at hst hdd
    by_cases hk : nameOk m = false
    · have HX : Hid (d.rename n m = (1, d)) := by simp [Hid, Dk.rename, hd, hk]
      clear hst hgf
      go_enter Tryz.func138, Tryz.ntmps138
      go_wp2_with (first
        | (go_at_call 57; refine hdd.mono ?_; rintro e w' ⟨rfl, rfl⟩)
        | (go_at_call 167; refine hnm.mono ?_; rintro e w' ⟨rfl, rfl⟩; simp only [hk]))
      go_ret
      rw [HX.out]
      exact ⟨rfl, hP.nw, Kp.refl _ _⟩
    · rw [Bool.not_eq_false] at hk
      cases hg : getF n ps with
      | none =>
        rw [hg] at hgf
        have HX : Hid (d.rename n m = (2, d)) := by simp [Hid, Dk.rename, hd, hk, hgf]
        have hfd := dfind_none hst n hnl hg
        clear hst hgf
        go_enter Tryz.func138, Tryz.ntmps138
        go_wp2_with (first
          | (go_at_call 57; refine hdd.mono ?_; rintro e w' ⟨rfl, rfl⟩)
          | (go_at_call 167; refine hnm.mono ?_; rintro e w' ⟨rfl, rfl⟩; simp only [hk])
          | (go_at_call 60; refine hfd.mono ?_; rintro e w' ⟨rfl, rfl⟩))
        go_ret
        rw [HX.out]
        exact ⟨rfl, hP.nw, Kp.refl _ _⟩
      | some p =>
        rw [hg] at hgf
        simp only [Option.map_some] at hgf
        have hfd := dfind_some hst n p hnl hg
        by_cases hz : d.left = 0
        · have hbl := blows_die hst.blk hz
          have HX : Hid (d.rename n m = (4, d.die)) := by simp [Hid, Dk.rename, hd, hk, hgf, hz]
          clear hgf
          go_enter Tryz.func138, Tryz.ntmps138
          go_wp2_with (first
            | (go_at_call 57; refine hdd.mono ?_; rintro e w' ⟨rfl, rfl⟩)
            | (go_at_call 167; refine hnm.mono ?_; rintro e w' ⟨rfl, rfl⟩; simp only [hk])
            | (go_at_call 60; refine hfd.mono ?_; rintro e w' ⟨rfl, rfl⟩)
            | (go_at_call 110; refine hbl.mono ?_; rintro e w1 ⟨rfl, kp, hb1⟩))
          go_ret
          rw [HX.out]
          exact ⟨rfl, ⟨bm, ps, (hst.fields kp hb1).mono (fun _ _ s => .inl s), hfs⟩, kp.b hst.sb⟩
        · have hbl := blows_go hst.blk hok.left0 hok.left1 hz
          have hri : rising ps := rising_ps (by rw [hfs]; exact hok.rise)
          have HX : Hid (d.rename n m = (0, ⟨d.quota, ins (m, p.fl) (del m (del n d.files)), max (d.left - 1) (-1), false, d.turn⟩)) := by
            have : moved n m p.fl d.files = ins (m, p.fl) (del m (del n d.files)) := by
              unfold moved
              split
              · rename_i e; subst e
                rw [del_none (getF_del n _), ins_del hok.rise hgf]
              · rfl
            simp [Hid, Dk.rename, hd, hk, hgf, hz, Dk.burn, this]
          obtain ⟨k, hk', hek⟩ := getF_pos hg
          have hud := used_del hok.rise hgf
          have hsp := hst.sf _ (getF_mem hg)
          have hap : ∀ x ∈ del n ps, Apart p x.2 := fun x hx => by
            obtain ⟨hx1, hx2⟩ := List.mem_filter.1 hx
            obtain ⟨j, hj, rfl⟩ := List.getElem_of_mem hx1
            have := apart_at hst.apart hk' hj (fun e => by subst e; simp [hek] at hx2)
            rwa [hek] at this
          have hdl : (del n ps).length ≤ 4194302 := Nat.le_trans (List.length_filter_le _ _) hpl
          have HG : Hid (getF n d.files = some p.fl) := hgf
          clear hgf
          cases hgm : getF m (del n ps) with
          | none =>
            go_enter Tryz.func138, Tryz.ntmps138
            go_wp2_with (first
              | (go_at_call 57; refine hdd.mono ?_; rintro e w' ⟨rfl, rfl⟩; clear hdd)
              | (go_at_call 167; refine hnm.mono ?_; rintro e w' ⟨rfl, rfl⟩; simp only [hk]; clear hnm)
              | (go_at_call 60; refine hfd.mono ?_; rintro e w' ⟨rfl, rfl⟩; clear hfd)
              | (go_at_call 110; refine hbl.mono ?_; rintro e w1 ⟨rfl, kp, hb1⟩; clear hbl; have hst1 := hst.fields kp hb1; obtain ⟨w2, hrun, hm2, kp2⟩ := dropK hst1.map n hnl 0; have hst2 := hst1.delF n kp2 hm2; have hlk := look hst2.map m hml; rw [hgm] at hlk; simp only [ptrOf] at hlk; have hf1 := hst1.file _ (getF_mem hg); have hf2 : FileAt w2 p := ⟨kp2.at hf1.1 (map_ne hst1.map hf1.1), kp2.row hf1.2 (fun g hg' => row_map hst1.map hf1.2 hg')⟩; obtain ⟨r0, r1, r2, r3, r8, r4, r5, r6, r7, r9⟩ := cells5 hst1.blk; obtain ⟨t0, t1, t2, t3, t8, t4, t5, t6, t7, t9⟩ := cells5 hst2.blk)
              | (go_at_call 168; refine (add_any hst2 m p hm (by omega) hgm hf2 hap hsp).mono ?_; rintro e w3 ⟨rfl, hst3, kp3⟩))
            go_ret
            rw [HX.out]
            have hui := used_ins (m, p.fl) (del n d.files)
            simp only at hui
            have hdn : del m (del n d.files) = del n d.files := del_none (by rw [← hfs, ← fs_del, getF_fs, hgm]; rfl)
            rw [hdn]
            refine ⟨rfl, ⟨bm, _, ?_, by rw [fs_ins, fs_del, hfs]⟩, (((kp.b hst.sb).trans kp2 (fun i _ e => by subst e; exact hst.sm))).trans kp3 (fun i _ e => by subst e; exact hst.sm)⟩
            show PrSt _ _ _ _ _ ((d.quota : Int) - used (ins (m, p.fl) (del n d.files))) _ _ _
            rw [show (d.quota : Int) - used (ins (m, p.fl) (del n d.files)) = d.quota - used d.files by omega]
            exact hst3.mono (fun _ _ s => .inl s)
          | some q =>
            have hgq : getF m (del n d.files) = some q.fl := by rw [← hfs, ← fs_del, getF_fs, hgm]; rfl
            have hudq := used_del (rising_del hok.rise) hgq
            have hql : q.fl.bytes.length ≤ 1048576 := by omega
            go_enter Tryz.func138, Tryz.ntmps138
            go_wp2_with (first
              | (go_at_call 57; refine hdd.mono ?_; rintro e w' ⟨rfl, rfl⟩; clear hdd)
              | (go_at_call 167; refine hnm.mono ?_; rintro e w' ⟨rfl, rfl⟩; simp only [hk]; clear hnm)
              | (go_at_call 60; refine hfd.mono ?_; rintro e w' ⟨rfl, rfl⟩; clear hfd)
              | (go_at_call 110; refine hbl.mono ?_; rintro e w1 ⟨rfl, kp, hb1⟩; clear hbl; have hst1 := hst.fields kp hb1; obtain ⟨w2, hrun, hm2, kp2⟩ := dropK hst1.map n hnl 0; have hst2 := hst1.delF n kp2 hm2; have hlk := look hst2.map m hml; rw [hgm] at hlk; simp only [ptrOf] at hlk; have hf1 := hst1.file _ (getF_mem hg); have hf2 : FileAt w2 p := ⟨kp2.at hf1.1 (map_ne hst1.map hf1.1), kp2.row hf1.2 (fun g hg' => row_map hst1.map hf1.2 hg')⟩; obtain ⟨r0, r1, r2, r3, r8, r4, r5, r6, r7, r9⟩ := cells5 hst1.blk; obtain ⟨t0, t1, t2, t3, t8, t4, t5, t6, t7, t9⟩ := cells5 hst2.blk)
              | (go_at_call 209; refine (drop_any hst2 m q hml (hst2.file _ (getF_mem hgm)) hql (by omega) (by omega)).mono ?_; rintro e w4 ⟨rfl, hst4, kp4⟩; have hf4 : FileAt w4 p := ⟨kp4.at hf2.1 (fun e => e.elim (fun e => cells_ne hf2.1 hst2.blk (by decide) e) (fun e => map_ne hst2.map hf2.1 e)), kp4.row hf2.2 (fun g hg' e => e.elim (fun e => row_ne hst2.blk hf2.2 hg' (by decide) e) (fun e => row_map hst2.map hf2.2 hg' e))⟩)
              | (go_at_call 168; refine (add_any hst4 m p hm (Nat.le_trans (List.length_filter_le _ _) (by omega)) (getF_del m _) hf4 (fun x hx => hap x (List.mem_filter.1 hx).1) hsp).mono ?_; rintro e w3 ⟨rfl, hst3, kp3⟩))
            go_ret
            rw [HX.out]
            have hui := used_ins (m, p.fl) (del m (del n d.files))
            simp only at hui
            refine ⟨rfl, ⟨bm, _, ?_, by rw [fs_ins, fs_del, fs_del, hfs]⟩, ((((kp.b hst.sb).trans kp2 (fun i _ e => by subst e; exact hst.sm))).trans kp4 (fun i _ s => s.elim (fun e => e ▸ hst.sb) (fun e => e ▸ hst.sm))).trans kp3 (fun i _ e => by subst e; exact hst.sm)⟩
            show PrSt _ _ _ _ _ ((d.quota : Int) - used (ins (m, p.fl) (del m (del n d.files)))) _ _ _
            rw [show (d.quota : Int) - used (ins (m, p.fl) (del m (del n d.files))) = d.quota - used d.files + q.fl.bytes.length by omega]
            exact hst3.mono (fun _ _ s => .inl s)
  · rw [hd] at hdd hst
    have HX : Hid (d.rename n m = (4, d)) := by simp [Hid, Dk.rename, hd]
    have hfd := dfind_dead hst n
    clear hst hgf
    go_enter Tryz.func138, Tryz.ntmps138
    go_wp2_with (first
      | (go_at_call 57; refine hdd.mono ?_; rintro e w' ⟨rfl, rfl⟩)
      | (go_at_call 60; refine hfd.mono ?_; rintro e w' ⟨rfl, rfl⟩))
    go_ret
    rw [HX.out]
    exact ⟨rfl, hP.nw, Kp.refl _ _⟩
end Go.Proofs.YtoabedkcieindabGreatDoor
