import Derived.Test.YtoabedkcieindabGreatDoorQkAE
namespace Go.Proofs.YtoabedkcieindabGreatDoor
theorem getF_doOp' {m : Mp} (h : rising m) (o : Ox) (k : Nm) : getF k (doOp m o) = if k = o.key then (if o.gone then none else some o.val) else getF k m := by
  unfold doOp
  by_cases hk : k = o.key
  · subst hk
    rw [if_pos rfl]
    cases o.gone with
    | true => rw [if_pos rfl, if_pos rfl]; exact getF_del _ _
    | false => rw [if_neg (by simp), if_neg (by simp)]; exact getF_ins (rising_del h) (getF_del _ _)
  · rw [if_neg hk]
    split
    · exact getF_del_ne hk _
    · rw [getF_insOff hk, getF_del_ne hk]
theorem rising_doOp' {m : Mp} (o : Ox) (h : rising m) : rising (doOp m o) := by
  unfold doOp
  split
  · exact rising_del h
  · exact rising_ins (rising_del h) (getF_del _ _)
theorem view_do {n last : Int} (t : Ly) : ∀ (l : List Ox) (m : Mm) (M : Mp), MmOk m → (∀ o ∈ l, o.key ≠ []) → rising M → (∀ k, viewE n (flatM m ++ t) k = getF k M) →
    MmOk (doM n last m l) ∧ rising (doAll M l) ∧ (∀ k, viewE n (flatM (doM n last m l) ++ t) k = getF k (doAll M l)) ∧ (last < n → ∀ c, c ≤ last → ∀ k, viewE c (flatM (doM n last m l) ++ t) k = viewE c (flatM m ++ t) k)
  | [], m, M, hm, _, hr, hv => ⟨hm, hr, hv, fun _ _ _ _ => rfl⟩
  | o :: r, m, M, hm, ho, hr, hv => by
    have hk := ho o (by simp)
    have h1 := fun k => view_do1 (n := n) (last := last) hm hk t k
    obtain ⟨a, b, c, d⟩ := view_do t r (doM1 n last m o) (doOp M o) (doM1_ok hm hk) (fun o' h' => ho o' (by simp [h'])) (rising_doOp' o hr) (fun k => by rw [(h1 k).1, getF_doOp' hr, hv k])
    exact ⟨a, b, c, fun hl x hx k => (d hl x hx k).trans ((h1 k).2 hl x hx)⟩
theorem pick_up {b c : Int} {l : Ly} (h : ∀ e ∈ l, e.batch ≤ b) (hc : b ≤ c) : pickE c l = pickE b l := by
  cases l with
  | nil => rfl
  | cons e r => have := h e (by simp); rw [pick_cons, pick_cons, if_pos (by omega), if_pos this]
theorem view_up {b c : Int} {l : Ly} (h : ∀ e ∈ l, e.batch ≤ b) (hc : b ≤ c) (k : Nm) : viewE c l k = viewE b l k := by
  unfold viewE
  rw [pick_up (l := atK k l) (fun e he => h e (List.mem_filter.1 he).1) hc]
theorem pick_app (c : Int) (l m : Ly) : pickE c (l ++ m) = (pickE c l).or (pickE c m) := by simp only [pickE, List.find?_append]
def keepV (bs : List Int) : Int → Ly → Ly
  | _, [] => []
  | p, e :: r => if bs.any (fun b => decide (e.batch ≤ b) && decide (b < p)) then e :: keepV bs e.batch r else keepV bs e.batch r
def keepA (bs : List Int) : Ly → Ly
  | [] => []
  | e :: r => e :: keepV bs e.batch r
def strip : Ly → Ly
  | [] => []
  | e :: r => match strip r with
    | [] => if e.op.gone then [] else [e]
    | f :: s => e :: f :: s
def seenV (bs : List Int) (lowest : Bool) (l : Ly) : Ly := if lowest then strip (keepA bs l) else keepA bs l
theorem keepV_mem {bs : List Int} : ∀ {p : Int} {l : Ly} {e : En}, e ∈ keepV bs p l → e ∈ l
  | _, [], _, h => h
  | p, f :: r, e, h => by
    rw [keepV] at h
    split at h
    · rcases List.mem_cons.1 h with rfl | h
      · simp
      · exact List.mem_cons_of_mem _ (keepV_mem h)
    · exact List.mem_cons_of_mem _ (keepV_mem h)
theorem pick_keepV {bs : List Int} {c : Int} (hc : c ∈ bs) : ∀ (p : Int) (l : Ly), c < p → pickE c (keepV bs p l) = pickE c l
  | _, [], _ => rfl
  | p, e :: r, hp => by
    rw [keepV, pick_cons]
    by_cases he : e.batch ≤ c
    · rw [if_pos he, if_pos (List.any_eq_true.2 ⟨c, hc, by simp [he, hp]⟩), pick_cons, if_pos he]
    · rw [if_neg he]
      have ih := pick_keepV hc e.batch r (by omega)
      split
      · rw [pick_cons, if_neg he, ih]
      · exact ih
theorem pick_keepA {bs : List Int} {c : Int} {l : Ly} (hc : c ∈ bs ∨ ∀ e ∈ l, e.batch ≤ c) : pickE c (keepA bs l) = pickE c l := by
  cases l with
  | nil => rfl
  | cons e r =>
    rw [keepA, pick_cons, pick_cons]
    by_cases he : e.batch ≤ c
    · rw [if_pos he, if_pos he]
    · rw [if_neg he, if_neg he]
      rcases hc with hc | hc
      · exact pick_keepV hc _ _ (by omega)
      · exact absurd (hc e (by simp)) he
theorem live_strip (c : Int) : ∀ l : Ly, liveE (pickE c (strip l)) = liveE (pickE c l)
  | [] => rfl
  | e :: r => by
    have ih := live_strip c r
    rw [strip, pick_cons]
    split
    · rename_i hr
      have hn : liveE (pickE c r) = none := by rw [← ih, hr]; rfl
      by_cases he : e.batch ≤ c
      · rw [if_pos he]
        cases hg : e.op.gone with
        | true => rw [if_pos rfl]; simp [liveE, pickE, hg]
        | false => rw [if_neg (by simp), pick_cons, if_pos he]
      · rw [if_neg he, hn]
        split
        · rfl
        · rw [pick_cons, if_neg he]; rfl
    · rename_i f s hr
      rw [pick_cons]
      by_cases he : e.batch ≤ c
      · rw [if_pos he, if_pos he]
      · rw [if_neg he, if_neg he, ← hr, ih]
theorem strip_mem : ∀ {l : Ly} {e : En}, e ∈ strip l → e ∈ l
  | [], _, h => h
  | f :: r, e, h => by
    rw [strip] at h
    split at h
    · split at h
      · cases h
      · rcases List.mem_cons.1 h with rfl | h
        · simp
        · cases h
    · rename_i g s hr
      rcases List.mem_cons.1 h with rfl | h
      · simp
      · exact List.mem_cons_of_mem _ (strip_mem (by rw [hr]; exact h))
theorem keepA_mem {bs : List Int} : ∀ {l : Ly} {e : En}, e ∈ keepA bs l → e ∈ l
  | [], _, h => h
  | f :: r, e, h => by
    rw [keepA] at h
    rcases List.mem_cons.1 h with rfl | h
    · simp
    · exact List.mem_cons_of_mem _ (keepV_mem h)
theorem seenV_mem {bs : List Int} {lw : Bool} {l : Ly} {e : En} (h : e ∈ seenV bs lw l) : e ∈ l := by
  unfold seenV at h
  split at h
  · exact keepA_mem (strip_mem h)
  · exact keepA_mem h
def needF (bs : List Int) (lw : Bool) : Nat → Ly → Ly
  | 0, _ => []
  | _, [] => []
  | n + 1, e :: r => seenV bs lw (e :: r.takeWhile fun f => f.op.key == e.op.key) ++ needF bs lw n (r.dropWhile fun f => f.op.key == e.op.key)
def needL (bs : List Int) (lw : Bool) (l : Ly) : Ly := needF bs lw l.length l
theorem atK_all {k : Nm} {l : Ly} (h : ∀ e ∈ l, e.op.key = k) : atK k l = l := List.filter_eq_self.2 fun e he => by rw [h e he]; simp
theorem atK_no {k : Nm} {l : Ly} (h : ∀ e ∈ l, e.op.key ≠ k) : atK k l = [] := List.filter_eq_nil_iff.2 fun e he => by simpa using h e he
theorem while_split {k : Nm} : ∀ {r : Ly}, srt r → (∀ e ∈ r, bytesBefore e.op.key k = false) →
    (∀ e ∈ r.takeWhile fun f => f.op.key == k, e.op.key = k) ∧ (∀ e ∈ r.dropWhile fun f => f.op.key == k, bytesBefore k e.op.key = true)
  | [], _, _ => ⟨fun _ h => (by cases h), fun _ h => (by cases h)⟩
  | e :: r, hs, hk => by
    obtain ⟨h1, h2⟩ := List.pairwise_cons.1 hs
    by_cases he : e.op.key = k
    · obtain ⟨a, b⟩ := while_split h2 (fun f hf => hk f (by simp [hf]))
      have hb : (e.op.key == k) = true := by simpa using he
      rw [List.takeWhile_cons_of_pos (p := fun f : En => f.op.key == k) hb, List.dropWhile_cons_of_pos (p := fun f : En => f.op.key == k) hb]
      refine ⟨fun f hf => ?_, b⟩
      rcases List.mem_cons.1 hf with rfl | hf
      · exact he
      · exact a f hf
    · have hb : ¬ (e.op.key == k) = true := by simpa using he
      rw [List.takeWhile_cons_of_neg (p := fun f : En => f.op.key == k) hb, List.dropWhile_cons_of_neg (p := fun f : En => f.op.key == k) hb]
      have hlt : bytesBefore k e.op.key = true := by
        rcases WideAt.bytes_total _ _ he with h | h
        · rw [hk e (by simp)] at h; cases h
        · exact h
      refine ⟨fun _ h => (by cases h), fun f hf => ?_⟩
      rcases List.mem_cons.1 hf with rfl | hf
      · exact hlt
      · exact lt_le_trans hlt (h1 f hf)
theorem needF_is (bs : List Int) (lw : Bool) : ∀ (n : Nat) (l : Ly), l.length ≤ n → srt l → srt (needF bs lw n l) ∧ (∀ k, atK k (needF bs lw n l) = seenV bs lw (atK k l)) ∧ (∀ e ∈ needF bs lw n l, e ∈ l)
  | 0, l, hn, _ => by
    have : l = [] := List.length_eq_zero_iff.1 (by omega)
    subst this
    refine ⟨List.Pairwise.nil, fun k => ?_, fun _ h => h⟩
    cases lw <;> rfl
  | n + 1, [], _, _ => by
    refine ⟨List.Pairwise.nil, fun k => ?_, fun _ h => h⟩
    cases lw <;> rfl
  | n + 1, e :: r, hn, hs => by
    obtain ⟨h1, h2⟩ := List.pairwise_cons.1 hs
    obtain ⟨a, b⟩ := while_split h2 h1
    have hd : srt (r.dropWhile fun f => f.op.key == e.op.key) := h2.sublist (List.dropWhile_sublist _)
    have hdl : (r.dropWhile fun f => f.op.key == e.op.key).length ≤ n := by
      have := (List.dropWhile_sublist (p := fun f : En => f.op.key == e.op.key) (l := r)).length_le
      simp only [List.length_cons] at hn
      omega
    obtain ⟨k1, k2, k3⟩ := needF_is bs lw n _ hdl hd
    have hv : ∀ f ∈ seenV bs lw (e :: r.takeWhile fun f => f.op.key == e.op.key), f.op.key = e.op.key := fun f hf => by
      rcases List.mem_cons.1 (seenV_mem hf) with rfl | hf
      · rfl
      · exact a f hf
    have hr : r = (r.takeWhile fun f => f.op.key == e.op.key) ++ (r.dropWhile fun f => f.op.key == e.op.key) := (List.takeWhile_append_dropWhile).symm
    rw [needF]
    refine ⟨List.pairwise_append.2 ⟨?_, k1, fun x hx y hy => ?_⟩, fun k => ?_, fun x hx => ?_⟩
    · refine List.pairwise_of_forall_mem_list fun x hx y hy => ?_
      rw [hv x hx, hv y hy]; exact WideAt.bytes_irrefl _
    · rw [hv x hx]; exact lt_asymm (b y (k3 y hy))
    · rw [atK_app, k2]
      by_cases hk : e.op.key = k
      · subst hk
        have h3 : atK e.op.key (r.dropWhile fun f => f.op.key == e.op.key) = [] := atK_no fun f hf h => by
          have := b f hf
          rw [h, WideAt.bytes_irrefl] at this
          cases this
        have h4 : atK e.op.key (e :: r) = e :: r.takeWhile fun f => f.op.key == e.op.key := by
          rw [atK_cons, if_pos rfl]
          conv => lhs; rw [hr]
          rw [atK_app, h3, atK_all a, List.append_nil]
        rw [h3, h4, atK_all hv]
        have : seenV bs lw [] = [] := by cases lw <;> rfl
        rw [this, List.append_nil]
      · have h3 : atK k (e :: r) = atK k (r.dropWhile fun f => f.op.key == e.op.key) := by
          rw [atK_cons, if_neg hk]
          conv => lhs; rw [hr]
          rw [atK_app, atK_no (fun f hf => by rw [a f hf]; exact hk), List.nil_append]
        rw [h3, atK_no (fun f hf => by rw [hv f hf]; exact hk), List.nil_append]
    · rcases List.mem_append.1 hx with hx | hx
      · rcases List.mem_cons.1 (seenV_mem hx) with rfl | hx
        · simp
        · exact List.mem_cons_of_mem _ ((List.takeWhile_sublist _).mem hx)
      · exact List.mem_cons_of_mem _ ((List.dropWhile_sublist _).mem (k3 x hx))
theorem view_need {bs : List Int} {lw : Bool} {l t : Ly} (hs : srt l) {c : Int} (hc : c ∈ bs ∨ ∀ e ∈ l, e.batch ≤ c) (ht : lw = true → t = []) (k : Nm) : viewE c (needL bs lw l ++ t) k = viewE c (l ++ t) k := by
  unfold viewE needL
  rw [atK_app, atK_app, (needF_is bs lw l.length l (Nat.le_refl _) hs).2.1 k]
  have hc' : c ∈ bs ∨ ∀ e ∈ atK k l, e.batch ≤ c := hc.imp id fun h e he => h e (List.mem_filter.1 he).1
  unfold seenV
  cases lw with
  | true =>
    rw [ht rfl, if_pos rfl]
    have : atK k ([] : Ly) = [] := rfl
    rw [this, List.append_nil, List.append_nil, live_strip, pick_keepA hc']
  | false => rw [if_neg (by simp), pick_app, pick_app, pick_keepA hc']
end Go.Proofs.YtoabedkcieindabGreatDoor

namespace Go.Proofs.YtoabedkcieindabGreatDoor
structure Tb where
  number : Nat
  level : Nat
  es : Ly
structure Ls where
  turn : Int
  policy : Int
  mem : Mm
  tabs : List Tb
  next : Nat
  log : Nat
  len : Nat
  batch : Int
  snaps : List (Int × Int)
  taken : Int
  loose : Bool
  stuck : Bool
def Ls.lastSnap (s : Ls) : Int := (s.snaps.map (·.2)).foldl max (-1)
def Ls.kept (s : Ls) : List Int := s.snaps.map (·.2)
def mostT (p : Int) (lv hi : Nat) : Nat := if lv = 0 ∨ p = 0 then 4 else if p = 2 ∧ lv < hi then 4 else 1
def roomT (lv : Nat) : Nat := 4096 * 4 ^ min lv 20
def targetT (p : Int) (lv hi bytes : Nat) : Nat := if mostT p lv hi = 1 ∧ bytes ≤ roomT lv then lv else lv + 1
def sizeL (l : Ly) : Nat := 4 + (l.map fun e => (encOp e.op).length).sum
def crowdF (p : Int) (lv : List Nat) : Nat → Nat → Nat × Nat
  | 0, _ => (0, 0)
  | _, 0 => (0, 0)
  | n + 1, t + 1 =>
    let l := lv.getD t 0
    let f := lv.idxOf l
    if mostT p l (lv.getD 0 0) < t + 1 - f then (f, t + 1) else crowdF p lv n f
def crowd (p : Int) (lv : List Nat) : Nat × Nat := crowdF p lv lv.length lv.length
def newF (ts : List Tb) : List Ly := ts.reverse.map (·.es)
def mergeT (bs : List Int) (ts : List Tb) (f t : Nat) : Ly := needL bs (f == 0) (mergeL (newF ((ts.drop f).take (t - f))))
def replT (ts : List Tb) (f t : Nat) (x : Tb) : List Tb := ts.take f ++ ((if x.es.isEmpty then [] else [x]) ++ ts.drop t)
def shapedF (p : Int) (bs : List Int) : Nat → List Tb → List Tb
  | 0, ts => ts
  | n + 1, ts =>
    let c := crowd p (ts.map (·.level))
    if c.2 = 0 then ts else
    let es := mergeT bs ts c.1 c.2
    let lv := (ts.map (·.level)).getD c.1 0
    let hi := (ts.map (·.level)).getD 0 0
    shapedF p bs n (replT ts c.1 c.2 ⟨0, targetT p lv hi (sizeL es), es⟩)
def shapedX (p : Int) (bs : List Int) (ts : List Tb) : List Tb := shapedF p bs ts.length ts
def lwrite (d : Dk) (n : Nm) (t : List UInt8) : Int × Dk := let r := d.write n t; if r.1 ≠ 0 then r else r.2.sync n
def lreplace (d : Dk) (n : Nm) (t : List UInt8) : Int × Dk := let r := lwrite d begN t; if r.1 ≠ 0 then r else r.2.rename begN n
def Ls.needs (s : Ls) (n : Nm) : Bool := n == manN || n == lgN s.log || s.tabs.any fun t => n == tbN t.number
def sweepF (s : Ls) : List Nm → Dk → Int × Dk
  | [], d => (0, d)
  | n :: r, d => if !oursN n || s.needs n then sweepF s r d else let x := d.remove n; if x.1 ≠ 0 then x else sweepF s r x.2
def sweepX (s : Ls) (d : Dk) : Int × Dk := if d.dead then (4, d) else sweepF s (d.files.map (·.1)) d
def writtenF (next : Nat) : List Tb → Dk → Int × Dk × Nat × List Tb
  | [], d => (0, d, next, [])
  | t :: r, d =>
    if 0 < t.number then let x := writtenF next r d; (x.1, x.2.1, x.2.2.1, t :: x.2.2.2) else
    let y := lwrite d (tbN next) (encLay (t.es.map (·.op)))
    if y.1 ≠ 0 then (y.1, y.2, 0, []) else let x := writtenF (next + 1) r y.2; (x.1, x.2.1, x.2.2.1, { t with number := next } :: x.2.2.2)
def manOf (next log : Nat) (ts : List Tb) : Man := ⟨next, log, ts.map fun t => ⟨t.number, t.level⟩⟩
def Ls.turned (s : Ls) (ts : List Tb) (next log : Nat) : Ls := if log = s.log then { s with tabs := ts, next := next } else { s with tabs := ts, next := next, mem := [], log := log, len := 0, loose := false }
def commitX (d : Dk) (s : Ls) (ts : List Tb) (log : Nat) : Int × Dk × Ls :=
  let x := writtenF s.next ts d
  if x.1 ≠ 0 then (x.1, (sweepX s x.2.1).2, s) else
  let y := lreplace x.2.1 manN (encMan (manOf x.2.2.1 log x.2.2.2))
  if y.1 ≠ 0 then (y.1, (sweepX s y.2).2, s) else
  let s1 := s.turned x.2.2.2 x.2.2.1 log
  (0, (sweepX s1 y.2).2, s1)
def settleX (d : Dk) (s : Ls) (ts : List Tb) (log : Nat) : Int × Dk × Ls :=
  let sh := shapedX s.policy s.kept ts
  if ¬ sh.length < ts.length ∧ log = s.log then (0, d, s) else
  let r := commitX d s sh log
  if r.1 = 3 ∧ sh.length < ts.length ∧ log ≠ s.log then commitX r.2.1 r.2.2 ts log else r
def flushX (d : Dk) (s : Ls) : Int × Dk × Ls :=
  if s.mem.isEmpty then settleX d s s.tabs s.log else
  let es := needL s.kept s.tabs.isEmpty (mergeL [flatM s.mem])
  settleX d s (if es.isEmpty then s.tabs else s.tabs ++ [⟨0, 0, es⟩]) (s.log + 1)
def tendX (d : Dk) (s : Ls) : Int × Dk × Ls :=
  let r := if 4096 ≤ s.len then flushX d s else settleX d s s.tabs s.log
  (if r.1 = 3 then 0 else r.1, r.2)
def Ls.readyX (s : Ls) (d : Dk) : Int := if s.turn ≠ d.turn then 6 else if d.dead then 4 else 0
def Ls.writX (s : Ls) (d : Dk) : Int := if s.readyX d ≠ 0 then s.readyX d else if s.stuck then 7 else 0
def outX (r : Int × Dk × Ls) : Int × Dk × Ls := (if r.2.1.dead then 4 else r.1, r.2)
def lbatchX (d : Dk) (s : Ls) (l : List Ox) : Int × Dk × Ls :=
  if s.writX d ≠ 0 then (s.writX d, d, s) else
  if batchOk l = false then (1, d, s) else
  let w := d.write (lgN s.log) (encode l)
  if w.1 ≠ 0 then (w.1, w.2, { s with stuck := decide (w.1 = 3) }) else
  outX (tendX w.2 { s with loose := true, len := s.len + (encode l).length, batch := s.batch + 1, mem := doM (s.batch + 1) s.lastSnap s.mem l })
def Ls.layers (s : Ls) : List Ly := flatM s.mem :: newF s.tabs
def newLs (turn policy : Int) : Ls := ⟨turn, policy, [], [], 1, 0, 0, 0, [], 0, false, false⟩
end Go.Proofs.YtoabedkcieindabGreatDoor

namespace Go.Proofs.YtoabedkcieindabGreatDoor
open Go.RowKit Go.Maps Go.Sort
theorem Tryz.info226 : (Tryz.prog.info? 226).map (fun i => (i.zero, i.size, i.bytes)) = some (some (.agg #[.string ByteArray.empty, .string ByteArray.empty, .bool false, .int .i64 0]), 4, 48) := by kernel_rfl
abbrev aggE (e : En) : Value := .agg #[str e.op.key, str e.op.val, .bool e.op.gone, .int .i64 e.batch]
def Enp (w : World) (q : Option Addr) (l : Ly) : Prop := ∀ i (h : i < l.length), ∃ g off, q = some ⟨g, off, none⟩ ∧ w.cell? ⟨g, off + i * 4, none⟩ = some (str l[i].op.key) ∧ w.cell? ⟨g, off + i * 4 + 1, none⟩ = some (str l[i].op.val) ∧ w.cell? ⟨g, off + i * 4 + 2, none⟩ = some (.bool l[i].op.gone) ∧ w.cell? ⟨g, off + i * 4 + 3, none⟩ = some (.int .i64 l[i].batch)
theorem Enp.below {w w' : World} {q : Option Addr} {l : Ly} (h : Enp w q l) (hb : Below w.heap.size w w') : Enp w' q l := fun i hi => by
  obtain ⟨g, off, e, h1, h2, h3, h4⟩ := h i hi
  exact ⟨g, off, e, cell_below hb h1, cell_below hb h2, cell_below hb h3, cell_below hb h4⟩
theorem Enp.nil (w : World) (q : Option Addr) : Enp w q [] := fun i hi => by simp at hi
def Tbp (w : World) (q : Option Addr) (l : List Tb) : Prop := ∀ i (h : i < l.length), ∃ g off p cap, q = some ⟨g, off, none⟩ ∧ w.cell? ⟨g, off + i * 3, none⟩ = some (.int .i64 l[i].number) ∧ w.cell? ⟨g, off + i * 3 + 1, none⟩ = some (.int .i64 l[i].level) ∧ w.cell? ⟨g, off + i * 3 + 2, none⟩ = some (.slice p l[i].es.length cap) ∧ l[i].es.length ≤ cap ∧ Enp w p l[i].es
theorem Tbp.below {w w' : World} {q : Option Addr} {l : List Tb} (h : Tbp w q l) (hb : Below w.heap.size w w') : Tbp w' q l := fun i hi => by
  obtain ⟨g, off, p, cap, e, h1, h2, h3, h4, h5⟩ := h i hi
  exact ⟨g, off, p, cap, e, cell_below hb h1, cell_below hb h2, cell_below hb h3, h4, h5.below hb⟩
def LyOk (l : Ly) : Prop := ∀ e ∈ l, opOk e.op = true
theorem encOp_le {o : Ox} (h : opOk o = true) : (encOp o).length ≤ 82 := by
  obtain ⟨k1, k2⟩ := opOk_key h
  cases hg : o.gone
  · have := opOk_val h hg
    simp [encOp, hg]; omega
  · simp [encOp, hg]; omega
set_option maxHeartbeats 400000 in
theorem opSize_any (o : Ox) (w : World) (hk : o.key.length ≤ 1099511627776) (hv : o.gone = false → o.val.length ≤ 1099511627776) :
    Calls Tryz.prog 331 #[aggOp o] w fun e w' => e = .returned (.int .i64 (encOp o).length) ∧ Below w.heap.size w w' := by
  have h1 : (⟨o.key.toArray⟩ : ByteArray).size = o.key.length := rfl
  have h2 : (⟨o.val.toArray⟩ : ByteArray).size = o.val.length := rfl
  cases hg : o.gone
  · have hv' := hv hg
    clear hv
    have H : Hid (((encOp o).length : Int) = 2 + o.key.length + o.val.length) := by show _ = _; simp [encOp, hg]; omega
    go_enter Tryz.func331, Tryz.ntmps331
    go_wp2
    go_ret
    exact ⟨ret_int (by rw [H.out]), (Below.refl _ _).alloc (Nat.le_refl _) _⟩
  · have H : Hid (((encOp o).length : Int) = 1 + o.key.length) := by show _ = _; simp [encOp, hg]; omega
    go_enter Tryz.func331, Tryz.ntmps331
    go_wp2
    go_ret
    exact ⟨ret_int (by rw [H.out]), (Below.refl _ _).alloc (Nat.le_refl _) _⟩
theorem sizeL_snoc {l : Ly} {k : Nat} (h : k < l.length) : sizeL (l.take (k + 1)) = sizeL (l.take k) + (encOp l[k].op).length := by
  unfold sizeL; rw [List.take_succ_eq_append_getElem h]; simp only [List.map_append, List.sum_append, List.map_cons, List.map_nil, List.sum_cons, List.sum_nil]; omega
theorem sizeL_le {l : Ly} (h : LyOk l) : sizeL l ≤ 4 + l.length * 82 := by
  induction l with
  | nil => simp [sizeL]
  | cons e r ih =>
    have := ih (fun x hx => h x (by simp [hx]))
    have := encOp_le (h e (by simp))
    simp [sizeL] at *
    omega
theorem LyOk.take {l : Ly} (h : LyOk l) (k : Nat) : LyOk (l.take k) := fun e he => h e (List.mem_of_mem_take he)
set_option maxHeartbeats 1000000 in
set_option maxRecDepth 20000 in
theorem laySize_any (q : Option Addr) (qc : Nat) (l : Ly) (w : World) (hp : Enp w q l) (ho : LyOk l) (hl : l.length ≤ 4194304) :
    Calls Tryz.prog 272 #[.slice q l.length qc] w fun e w' => e = .returned (.int .i64 (sizeL l)) ∧ Below w.heap.size w w' := by
  go_enter Tryz.func272, Tryz.ntmps272
  go_wp2
  go_loopw [3, 8] (fun n i wr => ∃ k : Nat, k ≤ l.length ∧ i = .int .i64 k ∧ n = .int .i64 (sizeL (l.take k)) ∧ Below w.heap.size w wr) (fun _ i _ => l.length - (intOf i).toNat)
  case atStart => exact ⟨0, Nat.zero_le _, rfl, rfl, Below.refl _ _⟩
  case round =>
    obtain ⟨k, hk, rfl, rfl, hb⟩ := hrel
    by_cases hlt : k < l.length
    · obtain ⟨g, off, rfl, c0, c1, c2, c3⟩ := hp.below hb k hlt
      have hS := sizeL_le (ho.take k)
      have hS1 := sizeL_snoc hlt
      rw [List.length_take] at hS
      have hoo := ho _ (List.getElem_mem hlt)
      have hz := encOp_le hoo
      have hkl := (opOk_key hoo).2
      generalize hN : sizeL (l.take k) = N at *
      have HS1 : Hid (sizeL (l.take (k + 1)) = N + (encOp l[k].op).length) := hS1
      clear hS1
      have hA := opSize_any l[k].op (wr.alloc (.cells #[str l[k].op.key, str l[k].op.val, .bool l[k].op.gone, .int .i64 l[k].batch] 226)) (by omega) (fun hg => by have := opOk_val hoo hg; omega)
      generalize hM : (encOp l[k].op).length = M at *
      go_wp2_with (go_at_call 331; refine hA.mono ?_; rintro e w1 ⟨rfl, hb1⟩)
      go_roundw
      case rel => exact ⟨k + 1, by omega, by go_num, by rw [HS1.out]; go_num, (hb.alloc hb.size _).trans (hb1.mono (by have := hb.size; simp; omega))⟩
      case measure => simp [intOf]; omega
    · have E : Hid (l.take k = l) := List.take_of_length_le (by omega)
      go_wp2
      go_ret
      rw [E.out]
      exact ⟨rfl, hb⟩
theorem encLay_is (l : Ly) : encLay (l.map (·.op)) = sealT (encBody (l.map (·.op))) := rfl
set_option maxHeartbeats 2000000 in
set_option maxRecDepth 20000 in
theorem layEncode_any (q : Option Addr) (qc : Nat) (l : Ly) (w : World) (hp : Enp w q l) (ho : LyOk l) (h0 : l ≠ []) (hl : l.length ≤ 500) :
    Calls Tryz.prog 204 #[.slice q l.length qc] w fun e w' => e = .returned (str (encLay (l.map (·.op)))) ∧ Below w.heap.size w w' := by
  have hml : (l.map (·.op)).length = l.length := by simp
  have hop : ∀ o ∈ l.map (·.op), opOk o = true := fun o h => by obtain ⟨e, he, rfl⟩ := List.mem_map.1 h; exact ho e he
  go_enter Tryz.func204, Tryz.ntmps204
  go_wp2
  go_loopw [3, 8] (fun v i wr => ∃ k : Nat, k ≤ l.length ∧ i = .int .i64 k ∧ OwnB wr w.heap.size v (encBody ((l.map (·.op)).take k)) ∧ Below w.heap.size w wr) (fun _ i _ => l.length - (intOf i).toNat)
  case atStart => exact ⟨0, Nat.zero_le _, rfl, World.ownsRow_nil _ _ _ _, Below.refl _ _⟩
  case round =>
    obtain ⟨k, hk, rfl, hown, hb⟩ := hrel
    have hs := hb.size
    have hlen := encBody_len ((l.map (·.op)).take k) (fun o ho => hop o (List.mem_of_mem_take ho))
    rw [List.length_take, hml] at hlen
    by_cases hlt : k < l.length
    · obtain ⟨g, off, rfl, c0, c1, c2, c3⟩ := hp.below hb k hlt
      obtain ⟨a, n, cap, rfl⟩ := ownB_some hown
      have hA := appendOp_any (.slice a n cap) (encBody ((l.map (·.op)).take k)) l[k].op (wr.alloc (.cells #[str l[k].op.key, str l[k].op.val, .bool l[k].op.gone, .int .i64 l[k].batch] 226)) w.heap.size (by simp; omega) (hown.alloc _) (ho _ (List.getElem_mem hlt)) (by omega)
      go_wp2_with (go_at_call 165; refine hA.mono ?_; rintro e w1 ⟨v1, rfl, hown1, hbl1⟩)
      go_roundw
      case rel => exact ⟨k + 1, by omega, by go_num, by rw [encBody_snoc (by simpa using hlt)]; simpa using hown1, (hb.alloc hb.size _).trans hbl1⟩
      case measure => simp [intOf]; omega
    · rw [List.take_of_length_le (by simp; omega)] at hown hlen
      obtain ⟨a, cap, rfl⟩ := ownB_shape hown
      have hne : 0 < (encBody (l.map (·.op))).length := by have : 0 < l.length := List.length_pos_iff.2 h0; omega
      obtain ⟨g, rfl⟩ : ∃ g, a = some ⟨g, 0, none⟩ := by
        rcases hown.2 with ⟨hv, hn⟩ | ⟨g, cap', cur, hv, _⟩
        · omega
        · exact ⟨g, by simpa using (Value.slice.inj hv).1⟩
      have hS := seal_any g cap w.heap.size (encBody (l.map (·.op))) wr hs hown (by omega)
      have HE : Hid (encLay (l.map (·.op)) = sealT (encBody (l.map (·.op)))) := encLay_is l
      generalize sealT (encBody (l.map (·.op))) = T at *
      go_wp2_with (go_at_call 166; refine hS.mono ?_; rintro e w1 ⟨rfl, hb1⟩)
      go_ret
      rw [HE.out]
      exact ⟨rfl, hb.trans (hb1.mono hs)⟩
end Go.Proofs.YtoabedkcieindabGreatDoor

namespace Go.Proofs.YtoabedkcieindabGreatDoor
open Go.RowKit Go.Maps Go.Sort
theorem str_app (a b : List UInt8) : (⟨a.toArray⟩ ++ ⟨b.toArray⟩ : ByteArray) = ⟨(a ++ b).toArray⟩ := ByteArray.ext (by simp [ByteArray.data_append])
def Dgt (w wr : World) (b : Nat) (suf : List UInt8) : Prop :=
  ∃ cs : Array Value, wr.heap[b]? = some (.cells cs 358) ∧ cs.size = 65 ∧ (∀ j (h : j < suf.length), cs[65 - suf.length + j]? = some (.int .u8 suf[j].toNat)) ∧ Below w.heap.size w wr
theorem Dgt.cell {w wr : World} {b : Nat} {suf : List UInt8} (h : Dgt w wr b suf) (j : Nat) (hj : j < 65) : ∃ v, wr.cell? ⟨b, j, none⟩ = some v ∧ wr.frozen? ⟨b, j, none⟩ = false := by
  obtain ⟨cs, h1, h2, _⟩ := h
  exact ⟨cs[j]'(by omega), by rw [cell_block h1]; exact Array.getElem?_eq_getElem (by omega), frozen_block h1⟩
theorem Dgt.put {w wr : World} {suf : List UInt8} (h : Dgt w wr w.heap.size suf) (c : UInt8) (j : Nat) (hs : suf.length + j = 64) : Dgt w (wr.setCell ⟨w.heap.size, j, none⟩ (.int .u8 c.toNat)) w.heap.size (c :: suf) := by
  obtain ⟨cs, h1, h2, h3, h4⟩ := h
  refine ⟨_, block_set h1 _, by simpa using h2, fun i hi => ?_, ?_⟩
  · rw [List.length_cons, show 65 - (suf.length + 1) + i = j + i by omega]
    match i, hi with
    | 0, _ => rw [Nat.add_zero, Array.getElem?_setIfInBounds_self_of_lt (by omega)]; simp
    | i + 1, hi =>
      rw [Array.getElem?_setIfInBounds_ne (by omega)]
      have := h3 i (by simpa using hi)
      rw [show 65 - suf.length + i = j + (i + 1) by omega] at this
      simpa using this
  · exact ⟨h4.os, h4.tape, h4.output, by have := h4.size; simp [World.setCell]; exact this, fun k hk => (Below.heap_setCell _ _ _ _ (by simp; omega)).trans (h4.block k hk)⟩
theorem Dgt.below {w wr : World} {b : Nat} {suf : List UInt8} (h : Dgt w wr b suf) : Below w.heap.size w wr := by
  obtain ⟨_, _, _, _, h⟩ := h; exact h
theorem Dgt.conv {w wr : World} {suf : List UInt8} (h : Dgt w wr w.heap.size suf) (j : Nat) (hj : j + suf.length = 65) (cap : Nat) :
    (convert 123 9 (.slice (some ⟨w.heap.size, j, none⟩) suf.length cap)).run Tryz.prog wr = .ok (str suf) wr := by
  obtain ⟨cs, h1, h2, h3, h4⟩ := h
  rw [run_convert_bytes_arg wr _ 5 Tryz.underlying123 Tryz.underlying5 w.heap.size j suf.length cap (suf.map fun c => (c.toNat : Int)) (by simp) (fun i hi => by
    rw [cell_block h1, show j + i = 65 - suf.length + i by omega, h3 i hi]
    simp [List.getD, hi]) _ Tryz.underlying9, nums_bytes]
abbrev dig36s : ByteArray := ⟨#[48, 49, 50, 51, 52, 53, 54, 55, 56, 57, 97, 98, 99, 100, 101, 102, 103, 104, 105, 106, 107, 108, 109, 110, 111, 112, 113, 114, 115, 116, 117, 118, 119, 120, 121, 122]⟩
theorem dig36_at (d : Nat) (h : d < 36) (h' : d < dig36s.size) : dig36s[d] = dig36 d := by
  have : ∀ d : Fin 36, dig36s[d.1]'(by have := d.2; exact this) = dig36 d.1 := by decide
  exact this ⟨d, h⟩
theorem digs_step {k n : Nat} (h : 36 ≤ n) : digs (k + 1) n = digs k (n / 36) ++ [dig36 (n % 36)] := by conv => lhs; unfold digs; rw [if_neg (by omega)]
theorem digs_last {k n : Nat} (h : n < 36) : digs (k + 1) n = [dig36 n] := by unfold digs; rw [if_pos h]
theorem dgt0 (w : World) : Dgt w (w.alloc (.cells Tryz.zeroCells358 358)) w.heap.size [] :=
  ⟨_, block_new w _, by kernel_rfl, fun j hj => by simp at hj, (Below.refl _ _).alloc (Nat.le_refl _) _⟩
theorem slice65 (b j n : Nat) (hj : j + n = 65) (h0 : 0 < n) (W : World) :
    (Instr.sliceAt 358 (.pointer (some ⟨b, 0, none⟩)) (some (.int .i64 j)) none none).run Tryz.prog W = .ok (.slice (some ⟨b, j, none⟩) n n) W := by
  have hal : Tryz.prog.arrayLen 358 = 65 := by simp [Program.arrayLen, Tryz.underlying358]
  rw [run_sliceAt_array_l W 358 ⟨b, 0, none⟩ (by simp [Program.arrayLen, Program.elem, Tryz.underlying358]) .i64 j (by omega) (by rw [hal]; omega)]
  go_simp
  omega
theorem isPow2_36 (w : World) : Calls Tryz.prog 310 #[.int .i64 36] w fun e w' => e = .returned (.bool false) ∧ w' = w := by
  go_enter Tryz.func310, Tryz.ntmps310
  go_wp2
  go_ret
  exact ⟨rfl, rfl⟩
set_option maxHeartbeats 2000000 in
set_option maxRecDepth 20000 in
theorem formatBits_any (n : Nat) (w : World) (hn : n < 9223372036854775808) :
    Calls Tryz.prog 243 #[.slice none 0 0, .int .u64 n, .int .i64 36, .bool false, .bool false] w fun e w' => e = .returned (.tuple #[.slice none 0 0, str (fmt36 n)]) ∧ Below w.heap.size w w' := by
  go_enter Tryz.func243, Tryz.ntmps243
  go_wp2_with (go_at_call 310; refine (isPow2_36 _).mono ?_; rintro e w1 ⟨rfl, rfl⟩)
  go_loopw [1, 13] (fun u i wr => ∃ (k m j : Nat) (suf : List UInt8), u = .int .u64 m ∧ i = .int .i64 (j + 1 : Nat) ∧ m < 36 ^ (k + 1) ∧ k + 53 ≤ j + 1 ∧ m < 9223372036854775808 ∧ j + 1 + suf.length = 65 ∧ digs (k + 1) m ++ suf = fmt36 n ∧ Dgt w wr w.heap.size suf) (fun u _ _ => (intOf u).toNat)
  case atStart => exact ⟨12, n, 64, [], rfl, rfl, by omega, by omega, hn, rfl, by simp [fmt36], dgt0 w⟩
  case round =>
    obtain ⟨k, m, j, suf, rfl, rfl, hm, hkj, hmn, hj, hE, hD⟩ := hrel
    have HE : Hid (digs (k + 1) m ++ suf = fmt36 n) := hE
    have HM : Hid (m < 36 ^ (k + 1)) := hm
    clear hE hm
    have ec : ((j + 1 : Nat) : Int) - 1 = j := by omega
    obtain ⟨v0, cv, cf⟩ := hD.cell j (by omega)
    by_cases hge : 36 ≤ m
    · have hk0 : k ≠ 0 := by
        rintro rfl
        have := HM.out
        omega
      obtain ⟨k, rfl⟩ : ∃ k', k = k' + 1 := ⟨k - 1, by omega⟩
      have hdg := dig36_at (m % 36) (Nat.mod_lt _ (by omega)) (Nat.mod_lt _ (by omega))
      have hdv : m / 36 < 36 ^ (k + 1) := by
        have := HM.out
        rw [Nat.pow_succ] at this
        omega
      have HDV : Hid (m / 36 < 36 ^ (k + 1)) := hdv
      clear hdv
      have hmd : ((m : Int) - (m : Int) / 36 * 36) = ((m % 36 : Nat) : Int) := by omega
      have hD1 := hD.put (dig36 (m % 36)) j (by omega)
      have HS : Hid (digs (k + 1) (m / 36) ++ dig36 (m % 36) :: suf = fmt36 n) := by
        show _ = _
        rw [← HE.out, digs_step hge]
        simp
      obtain ⟨j, rfl⟩ : ∃ j', j = j' + 1 := ⟨j - 1, by omega⟩
      go_wp2
      go_roundw
      case rel => exact ⟨k, m / 36, j, dig36 (m % 36) :: suf, by go_num, by go_num, HDV.out, by omega, by omega, by simp; omega, HS.out, hD1⟩
      case measure => simp [intOf]; omega
    · have hdg := dig36_at m (by omega) (by show m < 36; omega)
      have hD1 := hD.put (dig36 m) j (by omega)
      have hsl := slice65 w.heap.size j (dig36 m :: suf).length (by simp; omega) (by simp)
      have hcv := hD1.conv j (by simp; omega) (dig36 m :: suf).length
      have HF : Hid (fmt36 n = dig36 m :: suf) := by
        show _ = _
        rw [← HE.out, digs_last (by omega)]
        rfl
      simp only [List.length_cons] at hcv
      go_wp2
      go_ret2
      rw [HF.out]
      exact ⟨rfl, hD1.below⟩
set_option maxHeartbeats 1000000 in
theorem iFormatInt_any (n : Nat) (w : World) (hn : n < 9223372036854775808) :
    Calls Tryz.prog 175 #[.int .i64 n, .int .i64 36] w fun e w' => e = .returned (str (fmt36 n)) ∧ Below w.heap.size w w' := by
  have hf := fun w => formatBits_any n w hn
  generalize fmt36 n = T at *
  go_enter Tryz.func175, Tryz.ntmps175
  go_wp2_with (go_at_call 243; refine (hf _).mono ?_; rintro e w1 ⟨rfl, hb⟩)
  go_ret
  exact ⟨rfl, hb⟩
set_option maxHeartbeats 1000000 in
theorem FormatInt_any (n : Nat) (w : World) (hn : n < 9223372036854775808) :
    Calls Tryz.prog 111 #[.int .i64 n, .int .i64 36] w fun e w' => e = .returned (str (fmt36 n)) ∧ Below w.heap.size w w' := by
  have hf := fun w => iFormatInt_any n w hn
  generalize fmt36 n = T at *
  go_enter Tryz.func111, Tryz.ntmps111
  go_wp2_with (go_at_call 175; refine (hf _).mono ?_; rintro e w1 ⟨rfl, hb⟩)
  go_ret
  exact ⟨rfl, hb⟩
set_option maxHeartbeats 1000000 in
theorem logName_any (n : Nat) (w : World) (hn : n < 9223372036854775808) :
    Calls Tryz.prog 63 #[.int .i64 n] w fun e w' => e = .returned (str (lgN n)) ∧ Below w.heap.size w w' := by
  have hf := fun w => FormatInt_any n w hn
  have HL : Hid (lgN n = logP ++ fmt36 n) := rfl
  have hl := (fmt_len n).2
  generalize fmt36 n = T at *
  have hz : (⟨T.toArray⟩ : ByteArray).size = T.length := rfl
  go_enter Tryz.func63, Tryz.ntmps63
  go_wp2_with (go_at_call 111; refine (hf _).mono ?_; rintro e w1 ⟨rfl, hb⟩)
  go_ret
  rw [HL.out]
  exact ⟨congrArg (fun s => Ending.returned (.string s)) (str_app logP T), hb⟩
set_option maxHeartbeats 1000000 in
theorem tableName_any (n : Nat) (w : World) (hn : n < 9223372036854775808) :
    Calls Tryz.prog 203 #[.int .i64 n] w fun e w' => e = .returned (str (tbN n)) ∧ Below w.heap.size w w' := by
  have hf := fun w => FormatInt_any n w hn
  have HL : Hid (tbN n = tabP ++ fmt36 n) := rfl
  have hl := (fmt_len n).2
  generalize fmt36 n = T at *
  have hz : (⟨T.toArray⟩ : ByteArray).size = T.length := rfl
  go_enter Tryz.func203, Tryz.ntmps203
  go_wp2_with (go_at_call 111; refine (hf _).mono ?_; rintro e w1 ⟨rfl, hb⟩)
  go_ret
  rw [HL.out]
  exact ⟨congrArg (fun s => Ending.returned (.string s)) (str_app tabP T), hb⟩
end Go.Proofs.YtoabedkcieindabGreatDoor
