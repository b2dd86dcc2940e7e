/- append, all that is known of it: the new row, the old one, and where they lie. -/
import Derived.Test.YtoabedkcieindaaGreatDoorApp
import Derived.Deep.RegionLaw
namespace Go.Proofs.YtoabedkcieindaaGreatDoor
open Go.RowKit Go.Maps

structure AppR (w w' : World) (e : TypeId) (size : Nat) (v : Value) (n : Nat) (xs : List Value) (v' : Value) (n' : Nat) (xs' : List Value) : Prop where
  new : w'.ownsRow 0 e size v' n' xs'
  old : w'.ownsRow 0 e size v n xs
  how : (v'.ownBlock = v.ownBlock ∧ Kp (fun i => v.ownBlock = some i) w w') ∨ (Below w.heap.size w w' ∧ ∀ g, v'.ownBlock = some g → w.heap.size ≤ g)

theorem app_row2 {P : Program} (w : World) (t ty e : TypeId) (i : TypeInfo) (z : Value) (size bytes : Nat) (ht : P.underlying t = some (.slice e)) (hi : P.info? e = some i) (hz : i.zero = some z)
    (hsize : i.size = size) (hby : i.bytes = bytes) (hzs : z.cells.size = size) (hsz : 0 < size)
    (v : Value) (n : Nat) (xs : List Value) (hown : w.ownsRow 0 e size v n xs)
    (a : Addr) (m c : Nat) (news : List Value) (hl : news.length = m * size) (hnews : ∀ j u, news[j]? = some u → w.cell? (a.add j) = some u) (h1 : ∀ u ∈ news, u.oneCell' = true)
    (h63 : n + m ≤ maxLen) (hbytes : (n + m) * bytes ≤ 140737488355328) :
    ∃ v' w', (Builtin.append_ #[t, t] ty #[v, .slice (some a) m c]).run P w = .ok v' w' ∧ AppR w w' e size v n xs v' (n + m) (xs ++ news) := by
  obtain ⟨v', w', hr, ho, hg, _⟩ := run_append_own (P := P) w 0 t ty e i z size bytes ht hi hz hsize hby hzs hsz v n xs hown a m c news hl hnews h1 h63 hbytes (Nat.zero_le _)
  refine ⟨v', w', hr, ?_⟩
  have hsmall : n + m ≤ 9223372036854775807 := by simp only [maxLen] at h63; omega
  subst hsize
  subst hby
  rcases hown.2 with ⟨hv, hn⟩ | ⟨g, cap, cur, hv, hbg, hgg, hnc, hcm, hcs, htake⟩
  · subst hv; subst hn
    have hx : xs = [] := List.eq_nil_of_length_eq_zero (by simpa using hown.1)
    subst hx
    obtain ⟨v2, w2, hr2, ho2, _, _⟩ := run_append_own (P := P) w w.heap.size t ty e i z i.size i.bytes ht hi hz rfl rfl hzs hsz (.slice none 0 0) 0 [] (World.ownsRow_nil _ _ _ _) a m c news hl hnews h1 h63 hbytes (Nat.le_refl _)
    rw [hr] at hr2
    simp only [Result.ok.injEq] at hr2
    obtain ⟨rfl, rfl⟩ := hr2
    exact ⟨ho, World.ownsRow_nil _ _ _ _, .inr ⟨(Below.refl _ _).grown hg (Nat.le_refl _) (fun k hk => by cases hk), fun g hg => (ho2.lt g hg).1⟩⟩
  · subst hv
    by_cases hroom : n + m ≤ cap
    · have hfit : n * i.size + news.length ≤ cur.size := by rw [hl, hcs, ← Nat.add_mul]; exact Nat.mul_le_mul_right _ hroom
      have hr2 := run_append_room (P := P) w t ty e i ht hi g n cap cur hgg a m c news hl hnews h1 hroom hfit
      rw [hr] at hr2
      simp only [Result.ok.injEq] at hr2
      obtain ⟨rfl, rfl⟩ := hr2
      refine ⟨ho, ⟨hown.1, .inr ⟨g, cap, _, rfl, hbg, setRow_heap w g cur _ e _ hgg, hnc, hcm, ?_, ?_⟩⟩, .inl ⟨rfl, (Kp.refl _ _).grown hg (fun k hk _ => hk)⟩⟩
      · simp only [List.size_toArray, List.length_append, List.length_take, List.length_drop, Array.length_toList]
        omega
      · rw [htake, List.append_assoc]
        rw [List.take_append_of_le_length (by rw [hown.1]; exact Nat.le_refl _)]
        rw [List.take_of_length_le (by rw [hown.1]; exact Nat.le_refl _)]
    · have holds : ∀ j u, xs[j]? = some u → w.cell? ((⟨g, 0, none⟩ : Addr).add j) = some u := hown.cells (g := g) rfl
      have hr2 := run_append_grow (P := P) w t ty e i z ht hi hz ⟨g, 0, none⟩ n cap xs hown.1 holds a m c news hl hnews (by omega) (by omega) (growslice_fits (by omega) hbytes)
      rw [hr] at hr2
      simp only [Result.ok.injEq] at hr2
      obtain ⟨rfl, rfl⟩ := hr2
      have hb : Below w.heap.size w (w.drew.alloc (.cells (xs.toArray ++ news.toArray ++ Builtin.zeroCells z.cells (grownCap w (n + m) cap e - (n + m))) e)) := ((Below.refl _ w).drew).alloc (Nat.le_refl _) _
      exact ⟨ho, ownsRow_of_block hown (fun g' hg' => hb.block g' (hown.lt g' hg').2), .inr ⟨hb, fun g hg => by simp only [Value.ownBlock, Option.some.injEq] at hg; omega⟩⟩

theorem wpList_app2 {P : Program} (w : World) {ops : Array Oper} {rest : List Oper} {o : Oper} {ac : Act} {Q : Exit → Act → World → Prop} (hgd : o.guard = none) (s x : Operand) (t : TypeId)
    (ho : o.op = .call { callee := .builtin .append, args := #[s, x], argTypes := #[t, t] })
    (e : TypeId) (i : TypeInfo) (z : Value) (size bytes : Nat) (ht : P.underlying t = some (.slice e)) (hi : P.info? e = some i) (hz : i.zero = some z)
    (hsize : i.size = size) (hby : i.bytes = bytes) (hzs : z.cells.size = size) (hsz : 0 < size)
    (v : Value) (n : Nat) (xs : List Value) (hs : ac.eval s = v) (hown : w.ownsRow 0 e size v n xs)
    (ad : Addr) (m c : Nat) (news : List Value) (hx : ac.eval x = .slice (some ad) m c) (hl : news.length = m * size) (hnews : ∀ j u, news[j]? = some u → w.cell? (ad.add j) = some u) (h1 : ∀ u ∈ news, u.oneCell' = true)
    (h63 : n + m ≤ maxLen) (hbytes : (n + m) * bytes ≤ 140737488355328)
    (h : ∀ v' w', AppR w w' e size v n xs v' (n + m) (xs ++ news) → wpList P ops Q rest (ac.put o.dst v') w') : wpList P ops Q (o :: rest) ac w := by
  refine wpList_plain hgd fun K hK => ?_
  obtain ⟨v', w', hr, h2⟩ := app_row2 (P := P) w t o.type e i z size bytes ht hi hz hsize hby hzs hsz v n xs hown ad m c news hl hnews h1 h63 hbytes
  unfold Oper.wp execOp
  simp only [ho, resolve, invoke, builtin, Sem.run_bind, Sem.run_pure, Result.andThen_ok, List.map_toArray, List.map_cons, List.map_nil, hs, hx, hr]
  exact hK _ _ (h v' w' h2)

theorem step_app2 {P : Program} {ops : Array Oper} {o : Oper} {ac : Act} {w : World} {K : Act → World → Prop} {Q : Exit → Act → World → Prop} {E : Prop}
    (hgd : o.guard = none) (s x : Operand) (t : TypeId) (ho : o.op = Op.call { callee := Callee.builtin Builtin.append, args := #[s, x], argTypes := #[t, t] })
    (e : TypeId) (i : TypeInfo) (z : Value) (size bytes : Nat) (ht : P.underlying t = some (.slice e)) (hi : P.info? e = some i) (hz : i.zero = some z)
    (hsize : i.size = size) (hby : i.bytes = bytes) (hzs : z.cells.size = size) (hsz : 0 < size)
    (v : Value) (n : Nat) (xs : List Value) (hs : ac.eval s = v) (hown : w.ownsRow 0 e size v n xs)
    (ad : Addr) (m c : Nat) (news : List Value) (hx : ac.eval x = .slice (some ad) m c) (hl : news.length = m * size) (hnews : ∀ j u, news[j]? = some u → w.cell? (ad.add j) = some u) (h1 : ∀ u ∈ news, u.oneCell' = true)
    (h63 : n + m ≤ maxLen) (hbytes : (n + m) * bytes ≤ 140737488355328)
    (h : ∀ v' w', AppR w w' e size v n xs v' (n + m) (xs ++ news) → K (ac.put o.dst v') w') : if Region.wanted o (yielded ops ac.tmps) = true then Oper.wp P o ac w K Q else E := by
  have hw : Region.wanted o (yielded ops ac.tmps) = true := by simp [Region.wanted, hgd]
  rw [if_pos hw]
  obtain ⟨v', w', hr, h2⟩ := app_row2 (P := P) w t o.type e i z size bytes ht hi hz hsize hby hzs hsz v n xs hown ad m c news hl hnews h1 h63 hbytes
  unfold Oper.wp execOp
  simp only [ho, resolve, invoke, builtin, Sem.run_bind, Sem.run_pure, Result.andThen_ok, List.map_toArray, List.map_cons, List.map_nil, hs, hx, hr]
  exact h v' w' h2

/-- All of a slice's texts are p. -/
def AllP (w : World) (v : Value) (n : Nat) (p : List UInt8) : Prop := ∃ a cap, v = .slice a n cap ∧ ∀ i, i < n → ∃ g, a = some ⟨g, 0, none⟩ ∧ w.cell? ⟨g, i, none⟩ = some (encS p) ∧ ∃ cs z, w.heap[g]? = some (.cells cs 9 z)

theorem allP_of {w : World} {v : Value} {n : Nat} {p : List UInt8} (h : w.ownsRow 0 9 1 v n (List.replicate n (encS p))) : AllP w v n p := by
  rcases h.2 with ⟨hv, hn⟩ | ⟨g, cap, cur, hv, _, hb, h1, h2, _⟩
  · exact ⟨none, 0, by rw [hv, hn], fun i hi => by omega⟩
  · subst hv
    refine ⟨_, cap, rfl, fun i hi => ⟨g, rfl, ?_, _, _, hb⟩⟩
    rw [h.cellAt i (by omega), List.getElem?_replicate, if_pos hi]

theorem AllP.kept {S : Nat → Prop} {w w' : World} {u : Value} {nu : Nat} {p : List UInt8} (h : AllP w u nu p) (kp : Kp S w w') (hs : ∀ g, u.ownBlock = some g → ¬ S g) : AllP w' u nu p := by
  obtain ⟨a, cap, hv, hc⟩ := h
  refine ⟨a, cap, hv, fun i hi => ?_⟩
  obtain ⟨g, rfl, hg, cs, z, hb⟩ := hc i hi
  have hk := kp.block g (lt_of_block hb) (hs g (by rw [hv]; rfl))
  exact ⟨g, rfl, (World.cell?_of_block hk).trans hg, cs, z, hk.trans hb⟩

theorem AllP.ty {S : Nat → Prop} {w w' : World} {u : Value} {nu : Nat} {p : List UInt8} (h : AllP w u nu p) (kp : Kp S w w') (hs : ∀ g cs z, w.heap[g]? = some (.cells cs 9 z) → ¬ S g) : AllP w' u nu p := by
  obtain ⟨a, cap, hv, hc⟩ := h
  refine ⟨a, cap, hv, fun i hi => ?_⟩
  obtain ⟨g, rfl, hg, cs, z, hb⟩ := hc i hi
  have hk := kp.block g (lt_of_block hb) (hs g cs z hb)
  exact ⟨g, rfl, (World.cell?_of_block hk).trans hg, cs, z, hk.trans hb⟩
theorem AllP.new {w : World} {u : Value} {nu : Nat} {p : List UInt8} (h : AllP w u nu p) (o : Obj) : AllP (w.alloc o) u nu p := h.kept (S := fun _ => False) ((Kp.refl _ _).alloc _) (fun _ _ f => f)

theorem AllP.app {w w' : World} {v v' u : Value} {n m nu : Nat} {p : List UInt8} (h : AllP w u nu p) (ha : AppR w w' 9 1 v n (List.replicate n (encS p)) v' (n + m) (List.replicate (n + m) (encS p))) (hle : nu ≤ n + m) : AllP w' u nu p := by
  obtain ⟨a, cap, hv, hc⟩ := h
  refine ⟨a, cap, hv, fun i hi => ?_⟩
  obtain ⟨g, rfl, hg, cs, z, hb⟩ := hc i hi
  refine ⟨g, rfl, ?_⟩
  have hlt := lt_of_block hb
  rcases ha.how with ⟨h1, h2⟩ | ⟨h1, h2⟩
  · by_cases e : v.ownBlock = some g
    · obtain ⟨a2, cap2, hv2, hc2⟩ := allP_of ha.new
      obtain ⟨g2, e2, hg2⟩ := hc2 i (by omega)
      rw [hv2, e2] at h1
      rw [e] at h1
      simp only [Value.ownBlock, Option.some.injEq] at h1
      subst h1
      exact hg2
    · have hk := h2.block g hlt e
      exact ⟨(World.cell?_of_block hk).trans hg, cs, z, hk.trans hb⟩
  · have hk := h1.block g hlt
    exact ⟨(World.cell?_of_block hk).trans hg, cs, z, hk.trans hb⟩

theorem AppR.fresh {w w' : World} {e : TypeId} {size n n' : Nat} {v v' : Value} {xs xs' : List Value} (h : AppR w w' e size v n xs v' n' xs') : ∀ g, v'.ownBlock = some g → v.ownBlock = some g ∨ w.heap.size ≤ g := fun g hg => by
  rcases h.how with ⟨h1, _⟩ | ⟨_, h2⟩
  · exact .inl (h1 ▸ hg)
  · exact .inr (h2 g hg)
theorem AppR.kp {w w' : World} {e : TypeId} {size n n' : Nat} {v v' : Value} {xs xs' : List Value} (h : AppR w w' e size v n xs v' n' xs') : Kp (fun i => v.ownBlock = some i) w w' := by
  rcases h.how with ⟨_, h2⟩ | ⟨h1, _⟩
  · exact h2
  · exact Kp.of_below h1
theorem rep_one (n : Nat) (x : Value) : List.replicate n x ++ [x] = List.replicate (n + 1) x := by rw [show [x] = List.replicate 1 x from rfl, List.replicate_append_replicate]
theorem rep_two (n : Nat) (x : Value) : List.replicate n x ++ [x, x] = List.replicate (n + 2) x := by rw [show [x, x] = List.replicate 2 x from rfl, List.replicate_append_replicate]
theorem rep_three (n : Nat) (x : Value) : List.replicate n x ++ [x, x, x] = List.replicate (n + 3) x := by rw [show [x, x, x] = List.replicate 3 x from rfl, List.replicate_append_replicate]

end Go.Proofs.YtoabedkcieindaaGreatDoor
