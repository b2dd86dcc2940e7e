/- The program's memory: a map from keys to versions; do. -/
import Derived.Test.YtfghgmojnffgnaaGreatCodeL
namespace Go.Proofs.YtfghgmojnffgnaaGreat
open Go.RowKit Go.Maps

/-- How a version reads. -/
def Rv : Value → Option (DataW Unit × List MemPlace)
  | .agg a => match a.toList with
    | [.string s] => some (.lit (.string s.data.toList), [])
    | _ => none
  | _ => none
abbrev ver (v : Nm) : Value := .agg #[str v]
theorem Rv_ver (v : Nm) : Rv (ver v) = some (.lit (.string v), []) := rfl
theorem Rv_inv {u : Value} {v : Nm} {z : List MemPlace} (h : Rv u = some (.lit (.string v), z)) : u = ver v := by
  unfold Rv at h
  split at h
  · rename_i a
    split at h
    · rename_i s hs
      simp only [Option.some.injEq, Prod.mk.injEq, DataW.lit.injEq, Lit.string.injEq] at h
      have : a = #[.string s] := by rw [← Array.toList_inj, hs]
      rw [this, ← h.1]
    · cases h
  · cases h

def entM (x : Nm × Nm) : Lit × DataW Unit := (.string x.1, .lit (.string x.2))
def datM (m : Mp) : DataW Unit := .map (m.map entM)
def MAt (w : World) (bm : Nat) (m : Mp) : Prop := w.ownsMap Tryz.prog 9 Rv bm m.length (datM m)

theorem at_datM (n : Nm) (z : DataW Unit) : ∀ m : Mp, (datM m).atKey (.string n) z = match getF n m with | none => z | some v => .lit (.string v)
  | [] => rfl
  | x :: r => by
    have ih := at_datM n z r
    simp only [datM, DataW.atKey, List.map_cons, List.find?_cons] at ih ⊢
    rw [getF]
    by_cases e : x.1 = n
    · simp [entM, same_str, e]
    · have : (Lit.string x.1).sameKey (.string n) = false := by rw [same_str]; simpa using e
      simp only [entM, this, if_neg e]
      exact ih
theorem del_datM (n : Nm) (m : Mp) : (datM m).del (.string n) = datM (del n m) := by
  simp only [datM, DataW.del, del, List.filter_map]
  congr 2
theorem ins_datM (x : Nm × Nm) : ∀ m : Mp, DataW.insert (entM x) (m.map entM) = (ins x m).map entM
  | [] => rfl
  | y :: r => by
    rw [List.map_cons, DataW.insert, ins]
    show (if bytesBefore x.1 y.1 then _ else _) = _
    split
    · rfl
    · rw [List.map_cons, ins_datM x r]
theorem put_datM (n v : Nm) (m : Mp) : (datM m).put (.string n) (.lit (.string v)) = datM (ins (n, v) (del n m)) := by
  have h1 := del_datM n m
  simp only [datM, DataW.del, DataW.map.injEq] at h1
  simp only [datM, DataW.put]
  rw [h1]
  exact congrArg _ (ins_datM (n, v) (del n m))

theorem MAt.tight {w : World} {bm k : Nat} {m : Mp} (h : w.ownsMap Tryz.prog 9 Rv bm k (datM m)) : MAt w bm m := by
  obtain ⟨es, c, h1, F, h3, h4⟩ := h
  refine ⟨es, c, h1, F, ?_, h4⟩
  have := congrArg Maps.size h4
  simp only [datM, Maps.size, List.length_map, length_sorted, Array.length_toList] at this
  omega
theorem MAt.kept {w w' : World} {bm : Nat} {m : Mp} {S : Nat → Prop} (h : MAt w bm m) (k : Kp S w w') (hs : ¬ S bm) : MAt w' bm m := ownsMap_of_block h (k.block bm h.lt hs)
theorem MAt.below {w w' : World} {bm : Nat} {m : Mp} (h : MAt w bm m) (k : Below w.heap.size w w') : MAt w' bm m := h.kept (S := fun _ => False) (Kp.of_below k) (fun f => f)
theorem MAt.alloc {w : World} {bm : Nat} {m : Mp} (h : MAt w bm m) (o : Obj) : MAt (w.alloc o) bm m := h.below ((Below.refl _ _).alloc (Nat.le_refl _) _)
theorem MAt.ne {w : World} {bm b : Nat} {m : Mp} {cs : Array Value} {t : TypeId} {z : Nat × Nat} (h : MAt w bm m) (hb : w.heap[b]? = some (.cells cs t z)) : b ≠ bm := by
  rintro rfl
  obtain ⟨es, c, h1, _⟩ := h
  rw [h1] at hb; cases hb
theorem MAt.put {w : World} {bm : Nat} {m : Mp} (h : MAt w bm m) (n v : Nm) (hn : n.length ≤ maxLen) (hl : m.length < maxLen) :
    ∃ w', (Instr.mapUpdate 124 (.map (some bm)) (str n) (ver v)).run Tryz.prog w = .ok () w' ∧ MAt w' bm (ins (n, v) (del n m)) ∧ Kp (fun i => i = bm) w w' := by
  obtain ⟨w', h1, h2, h3⟩ := World.ownsMap.update h keyedS Tryz.underlying124 hl (keyS hn) (d := .lit (.string v)) (ps := []) (val := ver v) (Rv_ver v)
  rw [put_datM n v m] at h2
  exact ⟨w', h1, MAt.tight h2, (Kp.refl _ _).grown h3 (fun k hk _ => by cases hk; rfl)⟩
theorem MAt.drop {w : World} {bm : Nat} {m : Mp} (h : MAt w bm m) (n : Nm) (hn : n.length ≤ maxLen) (ty : TypeId) :
    ∃ w', (Builtin.delete_ #[124, 9] ty #[.map (some bm), str n]).run Tryz.prog w = .ok (.tuple #[]) w' ∧ MAt w' bm (del n m) ∧ Kp (fun i => i = bm) w w' := by
  obtain ⟨w', h1, h2, h3⟩ := World.ownsMap.drop h keyedS Tryz.underlying124 (keyS hn) ty
  rw [del_datM] at h2
  exact ⟨w', h1, MAt.tight h2, (Kp.refl _ _).grown h3.grown (fun k hk _ => by cases hk; rfl)⟩
theorem MAt.look {w : World} {bm : Nat} {m : Mp} (h : MAt w bm m) (n : Nm) (hn : n.length ≤ maxLen) :
    (Instr.lookup 124 (.map (some bm)) (str n) false).run Tryz.prog w = .ok (ver ((getF n m).getD [])) w := by
  obtain ⟨v, z, hrun, hv⟩ := World.ownsMap.lookup h keyedS Tryz.underlying124 (Tryz.zeroValue135 w) (zd := .lit (.string [])) (zp := []) rfl (keyS hn)
  rw [hrun]
  rw [at_datM] at hv
  cases hg : getF n m with
  | none => rw [hg] at hv; rw [Rv_inv hv]; rfl
  | some p => rw [hg] at hv; rw [Rv_inv hv]; rfl

theorem sCl {n : Nm} (h : n.length ≤ 281474976710656) (w : World) : Calls Tryz.prog 76 #[str n] w fun e w' => e = .returned (str n) ∧ Below w.heap.size w w' := sClone_any ⟨n.toArray⟩ w h

theorem doAll_snoc {l : List Ox} {k : Nat} (m : Mp) (h : k < l.length) : doAll m (l.take (k + 1)) = doOp (doAll m (l.take k)) l[k] := by
  rw [List.take_succ_eq_append_getElem h, doAll_append]; rfl

/-- What is held while an op is done. -/
structure Dg (w W : World) (bx bm : Nat) (m : Mp) (o : Ox) : Prop where
  box : W.heap[bx]? = some (.cells #[str o.key, str o.val, .bool o.gone] 121)
  map : MAt W bm m
  kp : Kp (fun i => i = bm) w W
theorem Dg.below {w W W' : World} {bx bm : Nat} {m : Mp} {o : Ox} (h : Dg w W bx bm m o) (k : Below W.heap.size W W') : Dg w W' bx bm m o :=
  ⟨block_at2 h.box k, h.map.below k, h.kp.trans (T := fun _ => False) (Kp.of_below k) (fun _ _ f => f.elim)⟩
theorem Dg.drew {w W : World} {bx bm : Nat} {m : Mp} {o : Ox} (h : Dg w W bx bm m o) : Dg w W.drew bx bm m o := ⟨h.box, h.map, h.kp.drew⟩

set_option maxHeartbeats 2000000 in
set_option maxRecDepth 20000 in
theorem do_any (bm : Nat) (m : Mp) (q : Option Addr) (qc : Nat) (l : List Ox) (w : World) (hm : MAt w bm m) (hml : m.length ≤ 4194304) (hl : l.length ≤ 1048576) (hop : ∀ o ∈ l, opOk o = true) (hp : Opp w q l) :
    Calls Tryz.prog 115 #[.map (some bm), .slice q l.length qc] w fun e w' => e = .returned (.tuple #[]) ∧ MAt w' bm (doAll m l) ∧ Kp (fun i => i = bm) w w' := by
  go_enter Tryz.func115, Tryz.ntmps115
  go_wp2
  go_loopw [8] (fun i wr => ∃ k : Nat, k ≤ l.length ∧ i = .int .i64 k ∧ MAt wr bm (doAll m (l.take k)) ∧ Kp (fun i => i = bm) w wr) (fun i _ => l.length - (intOf i).toNat)
  case atStart => exact ⟨0, Nat.zero_le _, rfl, hm, Kp.refl _ _⟩
  case round =>
    obtain ⟨k, hk, rfl, hmr, hkp⟩ := hrel
    by_cases hlt : k < l.length
    · obtain ⟨g, off, hq, c0, c1, c2⟩ := hp k hlt
      have hgm : g ≠ bm := by
        rintro rfl
        obtain ⟨es, c, h1, _⟩ := hm
        simp [World.cell?, h1] at c0
      have hgl := World.block_lt_of_cell? w ⟨g, off + k * 3, none⟩ c0
      have ce : ∀ a : Addr, a.block = g → wr.cell? a = w.cell? a := fun a ha => by
        have := hkp.block g hgl hgm
        simp only [World.cell?, ha, this]
      subst hq
      have k0 := (ce ⟨g, off + k * 3, none⟩ rfl).trans c0
      have k1 := (ce ⟨g, off + k * 3 + 1, none⟩ rfl).trans c1
      have k2 := (ce ⟨g, off + k * 3 + 2, none⟩ rfl).trans c2
      clear c0 c1 c2 ce
      have ho := hop l[k] (List.getElem_mem hlt)
      obtain ⟨y1, y2⟩ := opOk_key ho
      have hml2 := doAll_len m (l.take k)
      rw [List.length_take] at hml2
      have HS : Hid (doAll m (l.take (k + 1)) = doOp (doAll m (l.take k)) l[k]) := doAll_snoc m hlt
      generalize doAll m (l.take k) = M at *
      cases hg : l[k].gone
      · have hv := opOk_val ho hg
        have HD : Hid (doOp M l[k] = ins (l[k].key, l[k].val) (del l[k].key M)) := by show doOp _ _ = _; simp [doOp, hg]
        rw [hg] at k2
        have hF : Dg w (wr.alloc (.cells #[str l[k].key, str l[k].val, .bool false] 121)) wr.heap.size bm M l[k] := ⟨by rw [hg]; exact block_new _ _, hmr.alloc _, hkp.alloc _⟩
        have hck : l[k].key.length ≤ 281474976710656 := by omega
        have hcv : l[k].val.length ≤ 281474976710656 := by omega
        go_wp2
        replace hF := hF.drew
        go_region_with (go_at_call 76; (first | refine (sCl hck _).mono ?_ | refine (sCl hcv _).mono ?_); rintro e w1 ⟨rfl, hb⟩; replace hF := hF.below hb; have hF' := hF.box; obtain ⟨q0, q1, q2, _⟩ := cells3 hF'; obtain ⟨w2, hrun, hm2, kp2⟩ := hF.map.put l[k].key l[k].val (by unfold maxLen; omega) (by unfold maxLen; omega))
        all_goals go_wp2
        all_goals
          go_roundw
          case rel => exact ⟨k + 1, by omega, by go_num, by rw [HS.out, HD.out]; exact hm2, hF.kp.trans kp2 (fun _ _ e => e)⟩
          case measure => simp [intOf]; omega
      · have HD : Hid (doOp M l[k] = del l[k].key M) := by show doOp _ _ = _; simp [doOp, hg]
        rw [hg] at k2
        obtain ⟨w2, hrun, hm2, kp2⟩ := (hmr.alloc (.cells #[str l[k].key, str l[k].val, .bool true] 121)).drop l[k].key (by unfold maxLen; omega) 0
        go_wp2
        go_roundw
        case rel => exact ⟨k + 1, by omega, by go_num, by rw [HS.out, HD.out]; exact hm2, (hkp.alloc _).trans kp2 (fun _ _ e => e)⟩
        case measure => simp [intOf]; omega
    · rw [List.take_of_length_le (by omega)] at hmr
      go_wp2
      go_end0
      exact ⟨rfl, hmr, hkp⟩

end Go.Proofs.YtfghgmojnffgnaaGreat
