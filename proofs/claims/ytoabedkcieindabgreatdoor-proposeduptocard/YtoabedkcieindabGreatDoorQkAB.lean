import Derived.Test.YtoabedkcieindabGreatDoorQkAA
namespace Go.Proofs.YtoabedkcieindabGreatDoor
open Go.RowKit Go.Maps
structure PF where
  fl : Fl
  bf : Nat
  sv : Value
abbrev PL := List (Nm × PF)
def Rf : Value → Option (DataW Nat × List MemPlace)
  | .pointer none => some (.nil, [])
  | .pointer (some ⟨b, 0, none⟩) => some (.held b, [])
  | _ => none
def ent (x : Nm × PF) : Lit × DataW Nat := (.string x.1, .held x.2.bf)
def datOf (ps : PL) : DataW Nat := .map (ps.map ent)
def fsOf (ps : PL) : List (Nm × Fl) := ps.map fun x => (x.1, x.2.fl)
def FileAt (w : World) (p : PF) : Prop := w.heap[p.bf]? = some (.cells #[p.sv, .int .i64 p.fl.safe] 125) ∧ OwnB w 0 p.sv p.fl.bytes
def Apart (a b : PF) : Prop := a.bf ≠ b.bf ∧ ∀ g, a.sv.ownBlock = some g → b.sv.ownBlock ≠ some g
theorem cells5 {w : World} {b : Nat} {a0 a1 a2 a3 a4 : Value} {t : TypeId} (hb : w.heap[b]? = some (.cells #[a0, a1, a2, a3, a4] t)) :
    w.cell? ⟨b, 0, none⟩ = some a0 ∧ w.cell? ⟨b, 1, none⟩ = some a1 ∧ w.cell? ⟨b, 2, none⟩ = some a2 ∧ w.cell? ⟨b, 3, none⟩ = some a3 ∧ w.cell? ⟨b, 4, none⟩ = some a4 ∧ w.frozen? ⟨b, 0, none⟩ = false ∧ w.frozen? ⟨b, 1, none⟩ = false ∧ w.frozen? ⟨b, 2, none⟩ = false ∧ w.frozen? ⟨b, 3, none⟩ = false ∧ w.frozen? ⟨b, 4, none⟩ = false :=
  ⟨cell_block hb, cell_block hb, cell_block hb, cell_block hb, cell_block hb, frozen_block hb, frozen_block hb, frozen_block hb, frozen_block hb, frozen_block hb⟩
structure PrSt (w : World) (S : Nat → Prop) (bd bm : Nat) (ps : PL) (room fuse : Int) (dead : Bool) (turn : Int) : Prop where
  blk : w.heap[bd]? = some (.cells #[.map (some bm), .int .i64 room, .int .i64 fuse, .bool dead, .int .i64 turn] 117)
  map : w.ownsMap Tryz.prog 9 Rf bm ps.length (datOf ps)
  file : ∀ x ∈ ps, FileAt w x.2
  apart : ps.Pairwise fun x y => Apart x.2 y.2
  sb : S bd
  sm : S bm
  sf : ∀ x ∈ ps, S x.2.bf ∧ ∀ g, x.2.sv.ownBlock = some g → S g
def ProgAt (w : World) (S : Nat → Prop) (bd : Nat) (d : Dk) : Prop := ∃ bm ps, PrSt w S bd bm ps ((d.quota : Int) - used d.files) d.left d.dead d.turn ∧ fsOf ps = d.files
theorem PrSt.mono {w : World} {S T : Nat → Prop} {bd bm : Nat} {ps : PL} {room fuse : Int} {dead : Bool} {turn : Int} (h : PrSt w S bd bm ps room fuse dead turn) (hT : ∀ k, k < w.heap.size → S k → T k) : PrSt w T bd bm ps room fuse dead turn :=
  ⟨h.blk, h.map, h.file, h.apart, hT _ (lt_of_block h.blk) h.sb, hT _ h.map.lt h.sm, fun x hx => ⟨hT _ (lt_of_block (h.file x hx).1) (h.sf x hx).1, fun g hg => hT g ((h.file x hx).2.lt g hg).2 ((h.sf x hx).2 g hg)⟩⟩
theorem PrSt.kept {w w' : World} {S T : Nat → Prop} {bd bm : Nat} {ps : PL} {room fuse : Int} {dead : Bool} {turn : Int} (h : PrSt w S bd bm ps room fuse dead turn) (k : Kp T w w') (hT : ∀ i, S i → ¬ T i) : PrSt w' S bd bm ps room fuse dead turn :=
  ⟨k.at h.blk (hT _ h.sb), ownsMap_of_block h.map (k.block bm h.map.lt (hT _ h.sm)), fun x hx => ⟨k.at (h.file x hx).1 (hT _ (h.sf x hx).1), k.row (h.file x hx).2 (fun g hg => hT _ ((h.sf x hx).2 g hg))⟩, h.apart, h.sb, h.sm, h.sf⟩
theorem PrSt.below {w w' : World} {S : Nat → Prop} {bd bm : Nat} {ps : PL} {room fuse : Int} {dead : Bool} {turn : Int} (h : PrSt w S bd bm ps room fuse dead turn) (k : Below w.heap.size w w') : PrSt w' S bd bm ps room fuse dead turn :=
  h.kept (T := fun _ => False) (Kp.of_below k) (fun _ _ f => f)
theorem ProgAt.mono {w : World} {S T : Nat → Prop} {bd : Nat} {d : Dk} (h : ProgAt w S bd d) (hT : ∀ k, k < w.heap.size → S k → T k) : ProgAt w T bd d := by
  obtain ⟨bm, ps, h1, h2⟩ := h; exact ⟨bm, ps, h1.mono hT, h2⟩
theorem ProgAt.kept {w w' : World} {S T : Nat → Prop} {bd : Nat} {d : Dk} (h : ProgAt w S bd d) (k : Kp T w w') (hT : ∀ i, S i → ¬ T i) : ProgAt w' S bd d := by
  obtain ⟨bm, ps, h1, h2⟩ := h; exact ⟨bm, ps, h1.kept k hT, h2⟩
theorem ProgAt.nw {w w' : World} {S : Nat → Prop} {bd : Nat} {d : Dk} (h : ProgAt w' S bd d) : ProgAt w' (Nw S w) bd d := h.mono (fun _ _ s => .inl s)
theorem getF_fs (n : Nm) : ∀ ps : PL, getF n (fsOf ps) = (getF n ps).map (·.fl)
  | [] => rfl
  | x :: r => by
    show getF n ((x.1, x.2.fl) :: fsOf r) = _
    rw [getF, getF]
    split
    · rfl
    · exact getF_fs n r
theorem same_str (a b : List UInt8) : (Lit.string a).sameKey (.string b) = (a == b) := rfl
theorem at_dat (n : Nm) : ∀ ps : PL, (datOf ps).atKey (.string n) .nil = match getF n ps with | none => .nil | some p => .held p.bf
  | [] => rfl
  | x :: r => by
    have ih := at_dat n r
    simp only [datOf, DataW.atKey, List.map_cons, List.find?_cons] at ih ⊢
    rw [getF]
    by_cases e : x.1 = n
    · simp [ent, same_str, e]
    · have : (Lit.string x.1).sameKey (.string n) = false := by rw [same_str]; simpa using e
      simp only [ent, this, if_neg e]
      exact ih
theorem del_dat (n : Nm) (ps : PL) : (datOf ps).del (.string n) = datOf (del n ps) := by
  simp only [datOf, DataW.del, del, List.filter_map]
  congr 2
theorem ins_dat (x : Nm × PF) : ∀ ps : PL, DataW.insert (ent x) (ps.map ent) = (ins x ps).map ent
  | [] => rfl
  | y :: r => by
    rw [List.map_cons, DataW.insert, ins]
    show (if bytesBefore x.1 y.1 then _ else _) = _
    split
    · rfl
    · rw [List.map_cons, ins_dat x r]
theorem put_dat (n : Nm) (p : PF) (ps : PL) (h : getF n ps = none) : (datOf ps).put (.string n) (.held p.bf) = datOf (ins (n, p) ps) := by
  have h1 := del_dat n ps
  rw [del_none h] at h1
  simp only [datOf, DataW.del, DataW.map.injEq] at h1
  simp only [datOf, DataW.put]
  rw [h1]
  exact congrArg _ (ins_dat (n, p) ps)
theorem keyS {n : Nm} (hn : n.length ≤ maxLen) : keyOf Tryz.prog 9 (.string ⟨n.toArray⟩) = some (.string n) := WideMaps.keyOf_string_mk Tryz.underlying9 (s := ⟨n.toArray⟩) hn
theorem keyedS : Keyed Tryz.prog 9 := string_keyed Tryz.underlying9
theorem Rf_nil {v : Value} {z : List MemPlace} (h : Rf v = some (.nil, z)) : v = .pointer none := by
  unfold Rf at h; split at h <;> simp_all
theorem Rf_held {v : Value} {b : Nat} {z : List MemPlace} (h : Rf v = some (.held b, z)) : v = .pointer (some ⟨b, 0, none⟩) := by
  unfold Rf at h; split at h <;> simp_all
def ptrOf : Option PF → Value
  | none => .pointer none
  | some p => .pointer (some ⟨p.bf, 0, none⟩)
theorem look {w : World} {bm k : Nat} {ps : PL} (h : w.ownsMap Tryz.prog 9 Rf bm k (datOf ps)) (n : Nm) (hn : n.length ≤ maxLen) :
    (Instr.lookup 115 (.map (some bm)) (.string ⟨n.toArray⟩) false).run Tryz.prog w = .ok (ptrOf (getF n ps)) w := by
  obtain ⟨v, z, hrun, hv⟩ := h.lookup keyedS Tryz.underlying115 (Tryz.zeroValue120 w) (zd := .nil) (zp := []) rfl (keyS hn)
  rw [hrun]
  rw [at_dat] at hv
  cases hg : getF n ps with
  | none => rw [hg] at hv; rw [Rf_nil hv]; rfl
  | some p => rw [hg] at hv; rw [Rf_held hv]; rfl
theorem tight {w : World} {bm k : Nat} {ps : PL} (h : w.ownsMap Tryz.prog 9 Rf bm k (datOf ps)) : w.ownsMap Tryz.prog 9 Rf bm ps.length (datOf ps) := by
  obtain ⟨es, c, h1, F, h3, h4⟩ := h
  refine ⟨es, c, h1, F, ?_, h4⟩
  have := congrArg Maps.size h4
  simp only [datOf, Maps.size, List.length_map, length_sorted, Array.length_toList] at this
  omega
theorem store {w : World} {bm : Nat} {ps : PL} (h : w.ownsMap Tryz.prog 9 Rf bm ps.length (datOf ps)) (n : Nm) (p : PF) (hn : n.length ≤ maxLen) (hl : ps.length < maxLen) (hg : getF n ps = none) :
    ∃ w', (Instr.mapUpdate 115 (.map (some bm)) (.string ⟨n.toArray⟩) (.pointer (some ⟨p.bf, 0, none⟩))).run Tryz.prog w = .ok () w' ∧ w'.ownsMap Tryz.prog 9 Rf bm (ins (n, p) ps).length (datOf (ins (n, p) ps)) ∧ Kp (fun i => i = bm) w w' := by
  obtain ⟨w', h1, h2, h3⟩ := h.update keyedS Tryz.underlying115 hl (keyS hn) (d := .held p.bf) (ps := []) (val := .pointer (some ⟨p.bf, 0, none⟩)) rfl
  rw [put_dat n p ps hg] at h2
  exact ⟨w', h1, tight h2, (Kp.refl _ _).grown h3 (fun k hk _ => by cases hk; rfl)⟩
theorem dropK {w : World} {bm : Nat} {ps : PL} (h : w.ownsMap Tryz.prog 9 Rf bm ps.length (datOf ps)) (n : Nm) (hn : n.length ≤ maxLen) (ty : TypeId) :
    ∃ w', (Builtin.delete_ #[115, 9] ty #[.map (some bm), .string ⟨n.toArray⟩]).run Tryz.prog w = .ok (.tuple #[]) w' ∧ w'.ownsMap Tryz.prog 9 Rf bm (del n ps).length (datOf (del n ps)) ∧ Kp (fun i => i = bm) w w' := by
  obtain ⟨w', h1, h2, h3⟩ := h.drop keyedS Tryz.underlying115 (keyS hn) ty
  rw [del_dat] at h2
  exact ⟨w', h1, tight h2, (Kp.refl _ _).grown h3.grown (fun k hk _ => by cases hk; rfl)⟩
theorem map_ne {w : World} {bm b k : Nat} {ps : PL} {cs : Array Value} {t : TypeId} {z : Nat × Nat} (h : w.ownsMap Tryz.prog 9 Rf bm k (datOf ps)) (hb : w.heap[b]? = some (.cells cs t z)) : b ≠ bm := by
  rintro rfl
  obtain ⟨es, c, h1, _⟩ := h
  rw [h1] at hb; cases hb
theorem cells_ne {w : World} {b b' : Nat} {cs cs' : Array Value} {t t' : TypeId} {z z' : Nat × Nat} (hb : w.heap[b]? = some (.cells cs t z)) (hb' : w.heap[b']? = some (.cells cs' t' z')) (ht : t ≠ t') : b ≠ b' := by
  rintro rfl
  rw [hb] at hb'
  simp only [Option.some.injEq, Obj.cells.injEq] at hb'
  exact ht hb'.2.1
theorem row_map {w : World} {bm k : Nat} {ps : PL} {base size n g : Nat} {t : TypeId} {v : Value} {xs : List Value} (h : w.ownsMap Tryz.prog 9 Rf bm k (datOf ps)) (hr : w.ownsRow base t size v n xs) (hg : v.ownBlock = some g) : g ≠ bm := by
  rcases hr.2 with ⟨rfl, _⟩ | ⟨g', cap, cur, rfl, _, hgg, _⟩
  · simp [Value.ownBlock] at hg
  · simp only [Value.ownBlock, Option.some.injEq] at hg
    subst hg
    exact map_ne h hgg
theorem PrSt.fields {w w' : World} {S : Nat → Prop} {bd bm : Nat} {ps : PL} {room fuse room' fuse' : Int} {dead dead' : Bool} {turn turn' : Int} (h : PrSt w S bd bm ps room fuse dead turn) (k : Kp (fun i => i = bd) w w')
    (hb : w'.heap[bd]? = some (.cells #[.map (some bm), .int .i64 room', .int .i64 fuse', .bool dead', .int .i64 turn'] 117)) : PrSt w' S bd bm ps room' fuse' dead' turn' :=
  ⟨hb, ownsMap_of_block h.map (k.block bm h.map.lt (fun e => map_ne h.map h.blk e.symm)), fun x hx => ⟨k.at (h.file x hx).1 (cells_ne (h.file x hx).1 h.blk (by decide)), k.row (h.file x hx).2 (fun g hg => row_ne h.blk (h.file x hx).2 hg (by decide))⟩, h.apart, h.sb, h.sm, h.sf⟩
theorem Apart.symm {a b : PF} (h : Apart a b) : Apart b a := ⟨fun e => h.1 e.symm, fun g hb ha => h.2 g ha hb⟩
theorem apart_at {ps : PL} (h : ps.Pairwise fun x y => Apart x.2 y.2) {i j : Nat} (hi : i < ps.length) (hj : j < ps.length) (hne : i ≠ j) : Apart ps[i].2 ps[j].2 := by
  rcases Nat.lt_or_gt_of_ne hne with h1 | h1
  · exact List.pairwise_iff_getElem.1 h i j hi hj h1
  · exact (List.pairwise_iff_getElem.1 h j i hj hi h1).symm
theorem dat_set (ps : PL) (k : Nat) (hk : k < ps.length) (y : Nm × PF) (hy : ent y = ent ps[k]) : datOf (ps.set k y) = datOf ps := by
  unfold datOf
  rw [List.map_set, hy]
  congr 1
  apply List.ext_getElem
  · simp
  · intro i h1 h2
    rw [List.getElem_set]
    split
    · rename_i e; subst e; simp
    · rfl
theorem PrSt.setF {w w' : World} {S : Nat → Prop} {bd bm : Nat} {ps : PL} {room fuse : Int} {dead : Bool} {turn : Int} (h : PrSt w S bd bm ps room fuse dead turn) (k : Nat) (hk : k < ps.length) (p' : PF) (hbf : p'.bf = ps[k].2.bf)
    (kp : Kp (fun i => i = ps[k].2.bf ∨ ps[k].2.sv.ownBlock = some i) w w') (hf : FileAt w' p') (hs : ∀ g, p'.sv.ownBlock = some g → ps[k].2.sv.ownBlock = some g ∨ w.heap.size ≤ g) :
    PrSt w' (Nw S w) bd bm (ps.set k (ps[k].1, p')) room fuse dead turn := by
  have hm := List.getElem_mem hk
  have hfk := h.file _ hm
  have hoth : ∀ i (hi : i < ps.length), i ≠ k → FileAt w' ps[i].2 := fun i hi hne => by
    have hmi := List.getElem_mem hi
    have ha := apart_at h.apart hi hk hne
    have hfi := h.file _ hmi
    refine ⟨kp.at hfi.1 ?_, kp.row hfi.2 (fun g hg => ?_)⟩
    · rintro (e | e)
      · exact ha.1 e
      · exact row_ne hfi.1 hfk.2 e (by decide) rfl
    · rintro (e | e)
      · exact row_ne hfk.1 hfi.2 hg (by decide) e
      · exact ha.2 g hg e
  have hlt : ∀ i (hi : i < ps.length) g, ps[i].2.sv.ownBlock = some g → g < w.heap.size := fun i hi g hg => ((h.file _ (List.getElem_mem hi)).2.lt g hg).2
  have hap : ∀ i (hi : i < ps.length), i ≠ k → Apart ps[i].2 p' := fun i hi hne => by
    have ha := apart_at h.apart hi hk hne
    refine ⟨by rw [hbf]; exact ha.1, fun g hg e => ?_⟩
    rcases hs g e with e' | e'
    · exact ha.2 g hg e'
    · have := hlt i hi g hg; omega
  refine ⟨kp.at h.blk ?_, ?_, ?_, ?_, .inl h.sb, .inl h.sm, ?_⟩
  · rintro (e | e)
    · exact cells_ne h.blk hfk.1 (by decide) e
    · exact row_ne h.blk hfk.2 e (by decide) rfl
  · rw [List.length_set, dat_set ps k hk _ (by simp [ent, hbf])]
    refine ownsMap_of_block h.map (kp.block bm h.map.lt ?_)
    rintro (e | e)
    · exact map_ne h.map hfk.1 e.symm
    · exact row_map h.map hfk.2 e rfl
  · intro x hx
    obtain ⟨i, hi, rfl⟩ := List.getElem_of_mem hx
    rw [List.getElem_set]
    split
    · exact hf
    · rename_i e; exact hoth i (by simpa using hi) (fun e' => e e'.symm)
  · rw [List.pairwise_iff_getElem]
    intro i j hi hj hij
    rw [List.length_set] at hi hj
    rw [List.getElem_set, List.getElem_set]
    split
    · split
      · omega
      · exact (hap j hj (by omega)).symm
    · split
      · exact hap i hi (by omega)
      · exact apart_at h.apart hi hj (by omega)
  · intro x hx
    obtain ⟨i, hi, rfl⟩ := List.getElem_of_mem hx
    rw [List.getElem_set]
    split
    · refine ⟨.inl (by rw [hbf]; exact (h.sf _ hm).1), fun g hg => ?_⟩
      rcases hs g hg with e | e
      · exact .inl ((h.sf _ hm).2 g e)
      · exact .inr e
    · exact ⟨.inl (h.sf _ (List.getElem_mem (by simpa using hi))).1, fun g hg => .inl ((h.sf _ (List.getElem_mem (by simpa using hi))).2 g hg)⟩
theorem ins_perm {α : Type} (x : Nm × α) : ∀ l : List (Nm × α), (ins x l).Perm (x :: l)
  | [] => List.Perm.refl _
  | y :: r => by
    rw [ins]
    split
    · exact List.Perm.refl _
    · exact ((ins_perm x r).cons y).trans (List.Perm.swap x y r)
theorem PrSt.insF {w w' : World} {S : Nat → Prop} {bd bm : Nat} {ps : PL} {room fuse : Int} {dead : Bool} {turn : Int} (h : PrSt w S bd bm ps room fuse dead turn) (n : Nm) (p : PF) (hfile : FileAt w p) (hap : ∀ x ∈ ps, Apart p x.2) (hS : S p.bf ∧ ∀ g, p.sv.ownBlock = some g → S g)
    (kp : Kp (fun i => i = bm) w w') (hm : w'.ownsMap Tryz.prog 9 Rf bm (ins (n, p) ps).length (datOf (ins (n, p) ps))) : PrSt w' S bd bm (ins (n, p) ps) room fuse dead turn := by
  have hfl : ∀ q : PF, FileAt w q → FileAt w' q := fun q hq => ⟨kp.at hq.1 (map_ne h.map hq.1), kp.row hq.2 (fun g hg => row_map h.map hq.2 hg)⟩
  refine ⟨kp.at h.blk (map_ne h.map h.blk), hm, fun x hx => ?_, ?_, h.sb, h.sm, fun x hx => ?_⟩
  · rcases List.mem_cons.1 ((ins_perm (n, p) ps).mem_iff.1 hx) with rfl | hx
    · exact hfl _ hfile
    · exact hfl _ (h.file x hx)
  · exact ((ins_perm (n, p) ps).pairwise_iff (fun hxy => Apart.symm hxy)).2 (List.pairwise_cons.2 ⟨fun x hx => hap x hx, h.apart⟩)
  · rcases List.mem_cons.1 ((ins_perm (n, p) ps).mem_iff.1 hx) with rfl | hx
    · exact hS
    · exact h.sf x hx
theorem PrSt.delF {w w' : World} {S : Nat → Prop} {bd bm : Nat} {ps : PL} {room fuse : Int} {dead : Bool} {turn : Int} (h : PrSt w S bd bm ps room fuse dead turn) (n : Nm)
    (kp : Kp (fun i => i = bm) w w') (hm : w'.ownsMap Tryz.prog 9 Rf bm (del n ps).length (datOf (del n ps))) : PrSt w' S bd bm (del n ps) room fuse dead turn := by
  have hfl : ∀ q : PF, FileAt w q → FileAt w' q := fun q hq => ⟨kp.at hq.1 (map_ne h.map hq.1), kp.row hq.2 (fun g hg => row_map h.map hq.2 hg)⟩
  have hsub : ∀ x ∈ del n ps, x ∈ ps := fun x hx => (List.mem_filter.1 hx).1
  exact ⟨kp.at h.blk (map_ne h.map h.blk), hm, fun x hx => hfl _ (h.file x (hsub x hx)), h.apart.filter _, h.sb, h.sm, fun x hx => h.sf x (hsub x hx)⟩
end Go.Proofs.YtoabedkcieindabGreatDoor

namespace Go.Proofs.YtoabedkcieindabGreatDoor
open Go.RowKit Go.Maps
set_option maxHeartbeats 400000 in
theorem isDead_any {w : World} {b : Nat} {m r f tn : Value} {dead : Bool} (hb : w.heap[b]? = some (.cells #[m, r, f, .bool dead, tn] 117)) :
    Calls Tryz.prog 57 #[.pointer (some ⟨b, 0, none⟩)] w fun e w' => e = .returned (.bool dead) ∧ w' = w := by
  obtain ⟨c0, c1, c2, c3, c8, f0, f1, f2, f3, f9⟩ := cells5 hb
  clear hb
  go_enter Tryz.func57, Tryz.ntmps57
  go_wp2
  go_ret
  exact ⟨rfl, rfl⟩
set_option maxHeartbeats 400000 in
theorem blows_die {w : World} {b : Nat} {m r tn : Value} {fuse : Int} {dd : Bool} (hb : w.heap[b]? = some (.cells #[m, r, .int .i64 fuse, .bool dd, tn] 117)) (hz : fuse = 0) :
    Calls Tryz.prog 110 #[.pointer (some ⟨b, 0, none⟩)] w fun e w' => e = .returned (.bool true) ∧ Kp (fun i => i = b) w w' ∧ w'.heap[b]? = some (.cells #[m, r, .int .i64 fuse, .bool true, tn] 117) := by
  subst hz
  obtain ⟨c0, c1, c2, c3, c8, f0, f1, f2, f3, f9⟩ := cells5 hb
  have HB : Hid (w.heap[b]? = some (.cells #[m, r, .int .i64 0, .bool dd, tn] 117)) := hb
  clear hb
  go_enter Tryz.func110, Tryz.ntmps110
  go_wp2
  go_ret
  exact ⟨rfl, Kp.set1 _ _ _ _, (block_set HB.out _).trans rfl⟩
set_option maxHeartbeats 400000 in
theorem blows_go {w : World} {b : Nat} {m r tn : Value} {fuse : Int} {dd : Bool} (hb : w.heap[b]? = some (.cells #[m, r, .int .i64 fuse, .bool dd, tn] 117)) (h0 : -1 ≤ fuse) (h1 : fuse ≤ 9223372036854775807) (hz : ¬ fuse = 0) :
    Calls Tryz.prog 110 #[.pointer (some ⟨b, 0, none⟩)] w fun e w' => e = .returned (.bool false) ∧ Kp (fun i => i = b) w w' ∧ w'.heap[b]? = some (.cells #[m, r, .int .i64 (max (fuse - 1) (-1)), .bool dd, tn] 117) := by
  obtain ⟨c0, c1, c2, c3, c8, f0, f1, f2, f3, f9⟩ := cells5 hb
  have HB : Hid (w.heap[b]? = some (.cells #[m, r, .int .i64 fuse, .bool dd, tn] 117)) := hb
  clear hb
  have hz' : (fuse == 0) = false := by simpa using hz
  go_enter Tryz.func110, Tryz.ntmps110
  go_wp2
  go_ret
  exact ⟨rfl, Kp.set1 _ _ _ _, (block_set HB.out _).trans rfl⟩
section find
variable {w : World} {S : Nat → Prop} {bd bm : Nat} {ps : PL} {room fuse : Int} {dead : Bool} {turn : Int}
set_option maxHeartbeats 400000 in
theorem dfind_dead (h : PrSt w S bd bm ps room fuse true turn) (n : Nm) :
    Calls Tryz.prog 60 #[.pointer (some ⟨bd, 0, none⟩), .string ⟨n.toArray⟩] w fun e w' => e = .returned (.tuple #[.pointer none, .int .i64 4]) ∧ w' = w := by
  have hd := isDead_any h.blk
  clear h
  go_enter Tryz.func60, Tryz.ntmps60
  go_wp2_with (go_at_call 57; refine hd.mono ?_; rintro e w' ⟨rfl, rfl⟩)
  go_ret2
  exact ⟨rfl, rfl⟩
set_option maxHeartbeats 400000 in
theorem dfind_none (h : PrSt w S bd bm ps room fuse false turn) (n : Nm) (hn : n.length ≤ maxLen) (hg : getF n ps = none) :
    Calls Tryz.prog 60 #[.pointer (some ⟨bd, 0, none⟩), .string ⟨n.toArray⟩] w fun e w' => e = .returned (.tuple #[.pointer none, .int .i64 2]) ∧ w' = w := by
  have hd := isDead_any h.blk
  have hlk := look h.map n hn
  rw [hg] at hlk
  simp only [ptrOf] at hlk
  obtain ⟨c0, c1, c2, c3, c8, f0, f1, f2, f3, f9⟩ := cells5 h.blk
  clear h
  go_enter Tryz.func60, Tryz.ntmps60
  go_wp2_with (go_at_call 57; refine hd.mono ?_; rintro e w' ⟨rfl, rfl⟩)
  go_ret2
  exact ⟨rfl, rfl⟩
set_option maxHeartbeats 400000 in
theorem dfind_some (h : PrSt w S bd bm ps room fuse false turn) (n : Nm) (p : PF) (hn : n.length ≤ maxLen) (hg : getF n ps = some p) :
    Calls Tryz.prog 60 #[.pointer (some ⟨bd, 0, none⟩), .string ⟨n.toArray⟩] w fun e w' => e = .returned (.tuple #[.pointer (some ⟨p.bf, 0, none⟩), .int .i64 0]) ∧ w' = w := by
  have hd := isDead_any h.blk
  have hlk := look h.map n hn
  rw [hg] at hlk
  simp only [ptrOf] at hlk
  obtain ⟨c0, c1, c2, c3, c8, f0, f1, f2, f3, f9⟩ := cells5 h.blk
  clear h
  go_enter Tryz.func60, Tryz.ntmps60
  go_wp2_with (go_at_call 57; refine hd.mono ?_; rintro e w' ⟨rfl, rfl⟩)
  go_ret2
  exact ⟨rfl, rfl⟩
end find
theorem ownB_shape {w : World} {base : Nat} {v : Value} {l : List UInt8} (h : OwnB w base v l) : ∃ a cap, v = .slice a l.length cap := by
  rcases h.2 with ⟨rfl, hn⟩ | ⟨g, cap, cur, rfl, _⟩
  · exact ⟨none, 0, by rw [hn]⟩
  · exact ⟨_, _, rfl⟩
theorem getF_pos {α : Type} {n : Nm} {f : α} : ∀ {fs : List (Nm × α)}, getF n fs = some f → ∃ k, ∃ h : k < fs.length, fs[k] = (n, f)
  | [], h => by cases h
  | x :: r, h => by
    rw [getF] at h
    split at h
    · rename_i e; subst e; simp only [Option.some.injEq] at h; subst h; exact ⟨0, by simp, rfl⟩
    · obtain ⟨k, hk, e⟩ := getF_pos h
      exact ⟨k + 1, by simpa using hk, by simpa using e⟩
theorem fs_len (ps : PL) : (fsOf ps).length = ps.length := by simp [fsOf]
theorem fs_set (ps : PL) (k : Nat) (y : Nm × PF) : fsOf (ps.set k y) = (fsOf ps).set k (y.1, y.2.fl) := by simp [fsOf, List.map_set]
theorem fs_upd {ps : PL} (hr : rising (fsOf ps)) {k : Nat} {n : Nm} {p p' : PF} (hk : k < ps.length) (he : ps[k] = (n, p)) (f : Fl → Fl) (hf : p'.fl = f p.fl) : fsOf (ps.set k (ps[k].1, p')) = upd n f (fsOf ps) := by
  have hk' : k < (fsOf ps).length := by rw [fs_len]; exact hk
  have h1 : (fsOf ps)[k] = (n, p.fl) := by simp [fsOf, he]
  rw [fs_set, upd_set hr hk' n (by rw [h1]) f, h1, he, hf]
theorem used_set (fs : List (Nm × Fl)) : ∀ (k : Nat) (_ : k < fs.length) (y : Nm × Fl), used (fs.set k y) + fs[k].2.bytes.length = used fs + y.2.bytes.length := by
  induction fs with
  | nil => intro k h; simp at h
  | cons x r ih =>
    intro k h y
    match k, h with
    | 0, _ => simp [used]; omega
    | k + 1, h =>
      have := ih k (by simpa using h) y
      simp only [used, List.set_cons_succ, List.map_cons, List.sum_cons, List.getElem_cons_succ] at this ⊢
      omega
theorem used_upd {fs : List (Nm × Fl)} (hr : rising fs) {n : Nm} {x : Fl} (hg : getF n fs = some x) (f : Fl → Fl) : used (upd n f fs) + x.bytes.length = used fs + (f x).bytes.length := by
  obtain ⟨k, hk, he⟩ := getF_pos hg
  rw [upd_set hr hk n (by rw [he]) f]
  have := used_set fs k hk (n, f fs[k].2)
  rw [he] at this ⊢
  exact this
theorem cells2 {w : World} {b : Nat} {a0 a1 : Value} {t : TypeId} (hb : w.heap[b]? = some (.cells #[a0, a1] t)) :
    w.cell? ⟨b, 0, none⟩ = some a0 ∧ w.cell? ⟨b, 1, none⟩ = some a1 ∧ w.frozen? ⟨b, 0, none⟩ = false ∧ w.frozen? ⟨b, 1, none⟩ = false :=
  ⟨cell_block hb, cell_block hb, frozen_block hb, frozen_block hb⟩
theorem bytes_le {d : Dk} (hok : d.Ok) {n : Nm} {f : Fl} (hg : getF n d.files = some f) : f.bytes.length ≤ 1048576 := by
  obtain ⟨k, hk, he⟩ := getF_pos hg
  have := used_ge d.files k hk
  rw [he] at this
  exact Nat.le_trans this (Nat.le_trans hok.used hok.quota)
set_option maxHeartbeats 1000000 in
theorem dSync_any (b : Nat) (d : Dk) (n : Nm) (S : Nat → Prop) (w : World) (hP : ProgAt w S b d) (hok : d.Ok) (hn : n.length ≤ maxLen) :
    Calls Tryz.prog 62 #[.pointer (some ⟨b, 0, none⟩), .string ⟨n.toArray⟩] w fun e w' => e = .returned (.int .i64 (d.sync n).1) ∧ ProgAt w' (Nw S w) b (d.sync n).2 ∧ Kp S w w' := by
  obtain ⟨bm, ps, hst, hfs⟩ := id hP
  have hgf := getF_fs n ps
  rw [hfs] at hgf
  cases hd : d.dead
  · rw [hd] at hst
    cases hg : getF n ps with
    | none =>
      rw [hg] at hgf
      have HX : Hid (d.sync n = (2, d)) := by simp [Hid, Dk.sync, hd, hgf]
      have hfd := dfind_none hst n hn hg
      clear hst hgf
      go_enter Tryz.func62, Tryz.ntmps62
      go_wp2_with (go_at_call 60; refine hfd.mono ?_; rintro e w' ⟨rfl, rfl⟩)
      go_ret
      rw [HX.out]
      exact ⟨rfl, hP.nw, Kp.refl _ _⟩
    | some p =>
      rw [hg] at hgf
      simp only [Option.map_some] at hgf
      have hfd := dfind_some hst n p hn hg
      by_cases hz : d.left = 0
      · have hbl := blows_die hst.blk hz
        have HX : Hid (d.sync n = (4, d.die)) := by simp [Hid, Dk.sync, hd, hgf, hz]
        clear hgf
        go_enter Tryz.func62, Tryz.ntmps62
        go_wp2_with (first
          | (go_at_call 60; refine hfd.mono ?_; rintro e w' ⟨rfl, rfl⟩)
          | (go_at_call 110; refine hbl.mono ?_; rintro e w1 ⟨rfl, kp, hb1⟩))
        go_ret
        rw [HX.out]
        exact ⟨rfl, ⟨bm, ps, (hst.fields kp hb1).mono (fun _ _ s => .inl s), hfs⟩, kp.b hst.sb⟩
      · have hbl := blows_go hst.blk hok.left0 hok.left1 hz
        have HX : Hid (d.sync n = (0, ⟨d.quota, upd n allSafe d.files, max (d.left - 1) (-1), false, d.turn⟩)) := by simp [Hid, Dk.sync, hd, hgf, hz, Dk.burn]
        obtain ⟨k, hk, hek⟩ := getF_pos hg
        have hlen := bytes_le hok hgf
        have HG : Hid (getF n d.files = some p.fl) := hgf
        clear hgf
        go_enter Tryz.func62, Tryz.ntmps62
        go_wp2_with (first
          | (go_at_call 60; refine hfd.mono ?_; rintro e w' ⟨rfl, rfl⟩; clear hfd)
          | (go_at_call 110; refine hbl.mono ?_; rintro e w1 ⟨rfl, kp, hb1⟩; clear hbl; have hst1 := hst.fields kp hb1; have hfl := hst1.file _ (List.getElem_mem hk); rw [hek] at hfl; obtain ⟨a, cap, hsv⟩ := ownB_shape hfl.2; obtain ⟨c0, c1, z0, z1⟩ := cells2 hfl.1; rw [hsv] at c0))
        go_ret
        have hne : ∀ g, p.sv.ownBlock = some g → g ≠ p.bf := fun g hg => row_ne hfl.1 hfl.2 hg (by decide)
        have hst2 := hst1.setF k hk ⟨allSafe p.fl, p.bf, p.sv⟩ (by rw [hek]) (w' := w1.setCell ⟨p.bf, 1, none⟩ (.int .i64 p.fl.bytes.length)) ((Kp.set1 _ _ _ _).mono (fun i hi => .inl (by rw [hek]; exact hi))) ⟨(block_set hfl.1 _).trans rfl, ownsRow_of_block hfl.2 (fun g hg => Below.heap_setCell _ _ _ _ (hne g hg))⟩ (fun g hg => .inl (by rw [hek]; exact hg))
        have hup := used_upd hok.rise HG.out allSafe
        rw [HX.out]
        refine ⟨rfl, ⟨bm, _, ?_, (fs_upd (p' := ⟨allSafe p.fl, p.bf, p.sv⟩) (by rw [hfs]; exact hok.rise) hk hek allSafe rfl).trans (by rw [hfs])⟩, (kp.b hst.sb).put (by have := (hst.sf _ (List.getElem_mem hk)).1; rw [hek] at this; exact this) _⟩
        have e1 : (d.quota : Int) - used (upd n allSafe d.files) = d.quota - used d.files := by simp only [allSafe] at hup; omega
        show PrSt _ _ _ _ _ ((d.quota : Int) - used (upd n allSafe d.files)) _ _ _
        rw [e1]
        exact hst2.mono (fun i _ s => s.elim .inl (fun h => .inr (Nat.le_trans kp.size h)))
  · rw [hd] at hst
    have HX : Hid (d.sync n = (4, d)) := by simp [Hid, Dk.sync, hd]
    have hfd := dfind_dead hst n
    clear hst hgf
    go_enter Tryz.func62, Tryz.ntmps62
    go_wp2_with (go_at_call 60; refine hfd.mono ?_; rintro e w' ⟨rfl, rfl⟩)
    go_ret
    rw [HX.out]
    exact ⟨rfl, hP.nw, Kp.refl _ _⟩
end Go.Proofs.YtoabedkcieindabGreatDoor

namespace Go.Proofs.YtoabedkcieindabGreatDoor
open Go.RowKit Go.Maps
theorem ownB_cells {w : World} {base g n cap : Nat} {l : List UInt8} (h : OwnB w base (.slice (some ⟨g, 0, none⟩) n cap) l) : ∀ i (hi : i < l.length), w.cell? ⟨g, i, none⟩ = some (encB l[i]) := by
  intro i hi
  obtain ⟨a, c, e⟩ := ownB_shape h
  have hn : n = l.length := by simpa using (Value.slice.inj e).2.1
  subst hn
  have := World.ownsRow.cellAt (size := 1) h i (by omega)
  rw [this]
  simp [hi]
theorem nums_bytes (l : List UInt8) : strOfNums (l.map fun c => (c.toNat : Int)) = ⟨l.toArray⟩ := by
  have : (strOfNums (l.map fun c => (c.toNat : Int))).data.toList = l := by
    rw [strOfNums_data, List.map_map]
    conv => rhs; rw [← List.map_id l]
    apply List.map_congr_left
    intro c _
    simp
  cases h : strOfNums (l.map fun c => (c.toNat : Int)) with
  | mk a => rw [h] at this; simp at this; subst this; simp
theorem conv_bytes {w : World} {base : Nat} {v : Value} {l : List UInt8} (h : OwnB w base v l) : (convert 123 9 v).run Tryz.prog w = .ok (.string ⟨l.toArray⟩) w := by
  obtain ⟨a, cap, rfl⟩ := ownB_shape h
  rcases h.2 with ⟨hv, hn⟩ | ⟨g, cap', cur, hv, _⟩
  · have hl : l = [] := List.eq_nil_of_length_eq_zero hn
    subst hl
    rw [hv]
    exact run_convert_bytes_nil w _ 5 Tryz.underlying123 Tryz.underlying5 _ _ _ Tryz.underlying9
  · obtain ⟨rfl, -, rfl⟩ : a = some ⟨g, 0, none⟩ ∧ True ∧ cap = cap' := by simpa using hv
    rw [run_convert_bytes_arg w _ 5 Tryz.underlying123 Tryz.underlying5 g 0 l.length cap (l.map fun c => (c.toNat : Int)) (by simp) (fun i hi => by
      rw [Nat.zero_add, ownB_cells h i hi]
      simp [encB, List.getD, hi]) _ Tryz.underlying9, nums_bytes]
end Go.Proofs.YtoabedkcieindabGreatDoor

namespace Go.Proofs.YtoabedkcieindabGreatDoor
open Go.RowKit Go.Maps
theorem PrSt.drew {w : World} {S : Nat → Prop} {bd bm : Nat} {ps : PL} {room fuse : Int} {dead : Bool} {turn : Int} (h : PrSt w S bd bm ps room fuse dead turn) : PrSt w.drew S bd bm ps room fuse dead turn := ⟨h.blk, h.map, h.file, h.apart, h.sb, h.sm, h.sf⟩
set_option maxHeartbeats 1000000 in
set_option maxRecDepth 20000 in
theorem drop_any {w : World} {S : Nat → Prop} {bd bm : Nat} {ps : PL} {room fuse : Int} {dead : Bool} {turn : Int} (h : PrSt w S bd bm ps room fuse dead turn) (n : Nm) (p : PF) (hn : n.length ≤ maxLen) (hf : FileAt w p) (hl : p.fl.bytes.length ≤ 1048576) (h0 : -1048576 ≤ room) (h1 : room ≤ 1048576) :
    Calls Tryz.prog 209 #[.pointer (some ⟨bd, 0, none⟩), .string ⟨n.toArray⟩, .pointer (some ⟨p.bf, 0, none⟩)] w fun e w' => e = .returned (.tuple #[]) ∧ PrSt w' S bd bm (del n ps) (room + p.fl.bytes.length) fuse dead turn ∧ Kp (fun i => i = bd ∨ i = bm) w w' := by
  obtain ⟨c0, c1, c2, c3, c8, f0, f1, f2, f3, f9⟩ := cells5 h.blk
  obtain ⟨a, cap, hsv⟩ := ownB_shape hf.2
  obtain ⟨k0, k1, z0, z1⟩ := cells2 hf.1
  rw [hsv] at k0
  have hst1 := (h.fields (Kp.set1 w bd 1 (.int .i64 (room + p.fl.bytes.length))) ((block_set h.blk _).trans rfl)).drew
  obtain ⟨w2, hrun, hm2, kp2⟩ := dropK hst1.map n hn 0
  obtain ⟨q0, q1, q2, q3, q8, _, _, _, _, _⟩ := cells5 hst1.blk
  have HF : Hid (PrSt w2 S bd bm (del n ps) (room + p.fl.bytes.length) fuse dead turn) := hst1.delF n kp2 hm2
  have HK : Hid (Kp (fun i => i = bd ∨ i = bm) w w2) := (((Kp.set1 w bd 1 (.int .i64 (room + p.fl.bytes.length))).mono (fun _ e => Or.inl e)).drew).trans kp2 (fun i _ e => Or.inr e)
  clear hst1 hm2 kp2 h hf hsv
  go_enter Tryz.func209, Tryz.ntmps209
  go_wp2
  go_region
  go_wp2
  go_end0
  exact ⟨rfl, HF.out, HK.out⟩
theorem fs_del (n : Nm) (ps : PL) : fsOf (del n ps) = del n (fsOf ps) := by
  simp only [fsOf, del, List.filter_map]
  congr 1
theorem fs_ins (n : Nm) (p : PF) : ∀ ps : PL, fsOf (ins (n, p) ps) = ins (n, p.fl) (fsOf ps)
  | [] => rfl
  | y :: r => by
    rw [ins]
    show _ = ins (n, p.fl) ((y.1, y.2.fl) :: fsOf r)
    rw [ins]
    show fsOf (if bytesBefore n y.1 then _ else _) = if bytesBefore n y.1 then _ else _
    split
    · rfl
    · show (y.1, y.2.fl) :: fsOf (ins (n, p) r) = _
      rw [fs_ins n p r]
theorem used_del {fs : List (Nm × Fl)} (hr : rising fs) {n : Nm} {x : Fl} (hg : getF n fs = some x) : used (del n fs) + x.bytes.length = used fs := by
  obtain ⟨k, hk, he⟩ := getF_pos hg
  have h1 := del_erase hr hk
  rw [he] at h1
  simp only at h1
  rw [h1]
  have h2 : fs.eraseIdx k = fs.take k ++ fs.drop (k + 1) := List.eraseIdx_eq_take_drop_succ fs k
  have h3 : used fs = used (fs.take k) + used (fs.drop k) := by
    conv => lhs; rw [← List.take_append_drop k fs]
    simp only [used, List.map_append, List.sum_append]
  rw [h2, h3, List.drop_eq_getElem_cons hk, he]
  simp only [used, List.map_append, List.sum_append, List.map_cons, List.sum_cons]
  omega
set_option maxHeartbeats 1000000 in
theorem dRemove_any (b : Nat) (d : Dk) (n : Nm) (S : Nat → Prop) (w : World) (hP : ProgAt w S b d) (hok : d.Ok) (hn : n.length ≤ maxLen) :
    Calls Tryz.prog 140 #[.pointer (some ⟨b, 0, none⟩), .string ⟨n.toArray⟩] w fun e w' => e = .returned (.int .i64 (d.remove n).1) ∧ ProgAt w' (Nw S w) b (d.remove n).2 ∧ Kp S w w' := by
  obtain ⟨bm, ps, hst, hfs⟩ := id hP
  have hgf := getF_fs n ps
  rw [hfs] at hgf
  cases hd : d.dead
  · rw [hd] at hst
    cases hg : getF n ps with
    | none =>
      rw [hg] at hgf
      have HX : Hid (d.remove n = (2, d)) := by simp [Hid, Dk.remove, hd, hgf]
      have hfd := dfind_none hst n hn hg
      clear hst hgf
      go_enter Tryz.func140, Tryz.ntmps140
      go_wp2_with (go_at_call 60; refine hfd.mono ?_; rintro e w' ⟨rfl, rfl⟩)
      go_ret
      rw [HX.out]
      exact ⟨rfl, hP.nw, Kp.refl _ _⟩
    | some p =>
      rw [hg] at hgf
      simp only [Option.map_some] at hgf
      have hfd := dfind_some hst n p hn hg
      by_cases hz : d.left = 0
      · have hbl := blows_die hst.blk hz
        have HX : Hid (d.remove n = (4, d.die)) := by simp [Hid, Dk.remove, hd, hgf, hz]
        clear hgf
        go_enter Tryz.func140, Tryz.ntmps140
        go_wp2_with (first
          | (go_at_call 60; refine hfd.mono ?_; rintro e w' ⟨rfl, rfl⟩)
          | (go_at_call 110; refine hbl.mono ?_; rintro e w1 ⟨rfl, kp, hb1⟩))
        go_ret
        rw [HX.out]
        exact ⟨rfl, ⟨bm, ps, (hst.fields kp hb1).mono (fun _ _ s => .inl s), hfs⟩, kp.b hst.sb⟩
      · have hbl := blows_go hst.blk hok.left0 hok.left1 hz
        have HX : Hid (d.remove n = (0, ⟨d.quota, del n d.files, max (d.left - 1) (-1), false, d.turn⟩)) := by simp [Hid, Dk.remove, hd, hgf, hz, Dk.burn]
        have hlen := bytes_le hok hgf
        have hud := used_del hok.rise hgf
        have hu1 := hok.used
        have hu2 := hok.quota
        clear hgf
        go_enter Tryz.func140, Tryz.ntmps140
        go_wp2_with (first
          | (go_at_call 60; refine hfd.mono ?_; rintro e w' ⟨rfl, rfl⟩; clear hfd)
          | (go_at_call 110; refine hbl.mono ?_; rintro e w1 ⟨rfl, kp, hb1⟩; clear hbl; have hst1 := hst.fields kp hb1)
          | (go_at_call 209; refine (drop_any hst1 n p hn (hst1.file _ (getF_mem hg)) hlen (by omega) (by omega)).mono ?_; rintro e w2 ⟨rfl, hst2, kp2⟩))
        go_ret
        rw [HX.out]
        refine ⟨rfl, ⟨bm, del n ps, ?_, by rw [fs_del, hfs]⟩, (kp.b hst.sb).trans kp2 (fun _ _ s => s.elim (fun e => e ▸ hst.sb) (fun e => e ▸ hst.sm))⟩
        show PrSt _ _ _ _ _ ((d.quota : Int) - used (del n d.files)) _ _ _
        rw [show (d.quota : Int) - used (del n d.files) = d.quota - used d.files + p.fl.bytes.length by omega]
        exact hst2.mono (fun _ _ s => .inl s)
  · rw [hd] at hst
    have HX : Hid (d.remove n = (4, d)) := by simp [Hid, Dk.remove, hd]
    have hfd := dfind_dead hst n
    clear hst hgf
    go_enter Tryz.func140, Tryz.ntmps140
    go_wp2_with (go_at_call 60; refine hfd.mono ?_; rintro e w' ⟨rfl, rfl⟩)
    go_ret
    rw [HX.out]
    exact ⟨rfl, hP.nw, Kp.refl _ _⟩
set_option maxHeartbeats 1000000 in
set_option maxRecDepth 20000 in
theorem add_any {w : World} {S : Nat → Prop} {bd bm : Nat} {ps : PL} {room fuse : Int} {dead : Bool} {turn : Int} (h : PrSt w S bd bm ps room fuse dead turn) (n : Nm) (p : PF) (hn : n.length ≤ 1099511627776) (hl : ps.length ≤ 4194304) (hg : getF n ps = none) (hf : FileAt w p) (hap : ∀ x ∈ ps, Apart p x.2) (hS : S p.bf ∧ ∀ g, p.sv.ownBlock = some g → S g) :
    Calls Tryz.prog 168 #[.pointer (some ⟨bd, 0, none⟩), .string ⟨n.toArray⟩, .pointer (some ⟨p.bf, 0, none⟩)] w fun e w' => e = .returned (.tuple #[]) ∧ PrSt w' S bd bm (ins (n, p) ps) room fuse dead turn ∧ Kp (fun i => i = bm) w w' := by
  obtain ⟨c0, c1, c2, c3, c8, f0, f1, f2, f3, f9⟩ := cells5 h.blk
  go_enter Tryz.func168, Tryz.ntmps168
  go_wp2
  go_region_with (go_at_call 59; refine (sClone_any ⟨n.toArray⟩ w.drew (by show n.length ≤ _; omega)).mono ?_; rintro e w1 ⟨rfl, hb⟩; have hst1 := h.drew.below hb; have hf1 : FileAt w1 p := ⟨block_at2 (w1 := w.drew) hf.1 hb, ownsRow_of_block hf.2 (fun g hg => hb.block g (hf.2.lt g hg).2)⟩; obtain ⟨w2, hrun, hm2, kp2⟩ := store hst1.map n p (by unfold maxLen; omega) (by unfold maxLen; omega) hg; obtain ⟨q0, q1, q2, q3, q8, _, _, _, _, _⟩ := cells5 hst1.blk)
  all_goals go_wp2
  all_goals go_end0
  all_goals exact ⟨rfl, hst1.insF n p hf1 hap hS kp2 hm2, (((Kp.refl _ _).drew).trans (T := fun _ => False) (Kp.of_below (w := w.drew) hb) (fun _ _ f => f.elim)).trans kp2 (fun _ _ e => e)⟩
end Go.Proofs.YtoabedkcieindabGreatDoor
