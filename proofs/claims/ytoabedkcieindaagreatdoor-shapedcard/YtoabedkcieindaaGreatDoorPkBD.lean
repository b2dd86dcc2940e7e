import Derived.Test.YtoabedkcieindaaGreatDoorPkAK
namespace Go.Proofs.YtoabedkcieindaaGreatDoor

structure Stl (d : Dk) : Prop where
  al : d.dead = false
  lf : d.left < 0

theorem Stl.burn {d : Dk} (h : Stl d) (fs : List (Nm × Fl)) : Stl { d.burn with files := fs } := by
  have := h.lf
  exact ⟨h.al, by simp only [Dk.burn]; omega⟩

theorem Stl.write {d : Dk} (h : Stl d) {n : Nm} (hn : nameOk n = true) (t : List UInt8) : Stl (d.write n t).2 ∧ (d.write n t).2.turn = d.turn ∧ ((d.write n t).1 = 3 ∨ ((d.write n t).1 = 0 ∧ (getF n (d.write n t).2.files).isSome = true)) := by
  have hl := h.lf
  unfold Dk.write
  rw [if_neg (by rw [h.al]; simp), if_neg (by rw [hn]; simp)]
  split
  · exact ⟨h, rfl, Or.inl rfl⟩
  · rw [if_neg (by omega)]
    refine ⟨h.burn _, rfl, Or.inr ⟨rfl, ?_⟩⟩
    simp only
    have hu : ∀ (f : Fl → Fl) (l : List (Nm × Fl)), (getF n l).isSome = true → (getF n (upd n f l)).isSome = true := by
      intro f l
      induction l with
      | nil => intro h; exact h
      | cons x r ih =>
        intro h
        have e : upd n f (x :: r) = (if x.1 = n then (x.1, f x.2) else x) :: upd n f r := rfl
        rw [e]
        by_cases hx : x.1 = n
        · rw [if_pos hx, getF, if_pos hx]; rfl
        · rw [if_neg hx, getF, if_neg hx]
          rw [getF, if_neg hx] at h
          exact ih h
    have hi : ∀ (x : Fl) (l : List (Nm × Fl)), (getF n (ins (n, x) l)).isSome = true := by
      intro x l
      induction l with
      | nil => simp [ins, getF]
      | cons y r ih =>
        rw [ins]
        split
        · simp [getF]
        · rw [getF]
          split
          · rfl
          · exact ih
    split
    · rename_i hs; exact hu _ _ hs
    · exact hi _ _

theorem Stl.sync {d : Dk} (h : Stl d) {n : Nm} (hn : (getF n d.files).isSome = true) : (d.sync n).1 = 0 ∧ Stl (d.sync n).2 ∧ (d.sync n).2.turn = d.turn ∧ (d.sync n).2.files = upd n allSafe d.files := by
  have hl := h.lf
  have hno : ¬ (getF n d.files).isNone = true := by cases hg : getF n d.files with | none => rw [hg] at hn; cases hn | some f => simp
  unfold Dk.sync
  rw [if_neg (by rw [h.al]; simp), if_neg hno, if_neg (by omega)]
  exact ⟨rfl, h.burn _, rfl, rfl⟩

theorem getF_upd_some {n m : Nm} (f : Fl → Fl) : ∀ {l : List (Nm × Fl)}, (getF n l).isSome = true → (getF n (upd m f l)).isSome = true
  | [], h => h
  | x :: r, h => by
    have e : upd m f (x :: r) = (if x.1 = m then (x.1, f x.2) else x) :: upd m f r := rfl
    have e1 : (if x.1 = m then (x.1, f x.2) else x).1 = x.1 := by split <;> rfl
    rw [e, getF]
    rw [getF] at h
    rw [e1]
    split
    · rfl
    · rename_i hx; rw [if_neg hx] at h; exact getF_upd_some f h

theorem Stl.lwrite {d : Dk} (h : Stl d) {n : Nm} (hn : nameOk n = true) (t : List UInt8) : Stl (lwrite d n t).2 ∧ (lwrite d n t).2.turn = d.turn ∧ ((lwrite d n t).1 = 3 ∨ ((lwrite d n t).1 = 0 ∧ (getF n (lwrite d n t).2.files).isSome = true)) := by
  obtain ⟨h1, h2, h3⟩ := h.write hn t
  unfold Go.Proofs.YtoabedkcieindaaGreatDoor.lwrite
  simp only
  rcases h3 with h3 | ⟨h3, h4⟩
  · rw [if_pos (by rw [h3]; decide)]
    exact ⟨h1, h2, Or.inl h3⟩
  · rw [if_neg (by rw [h3]; simp)]
    obtain ⟨a, b, c, e⟩ := h1.sync h4
    exact ⟨b, c.trans h2, Or.inr ⟨a, by rw [e]; exact getF_upd_some _ h4⟩⟩

theorem Stl.rename {d : Dk} (h : Stl d) {n m : Nm} (hm : nameOk m = true) (hn : (getF n d.files).isSome = true) : (d.rename n m).1 = 0 ∧ Stl (d.rename n m).2 ∧ (d.rename n m).2.turn = d.turn := by
  have hl := h.lf
  unfold Dk.rename
  rw [if_neg (by rw [h.al]; simp), if_neg (by rw [hm]; simp)]
  cases hg : getF n d.files with
  | none => rw [hg] at hn; cases hn
  | some f =>
    simp only
    rw [if_neg (by omega)]
    exact ⟨rfl, h.burn _, rfl⟩

theorem Stl.lreplace {d : Dk} (h : Stl d) {n : Nm} (hn : nameOk n = true) (t : List UInt8) : Stl (lreplace d n t).2 ∧ (lreplace d n t).2.turn = d.turn ∧ ((lreplace d n t).1 = 3 ∨ (lreplace d n t).1 = 0) := by
  obtain ⟨h1, h2, h3⟩ := h.lwrite begN_ok t
  unfold Go.Proofs.YtoabedkcieindaaGreatDoor.lreplace
  simp only
  rcases h3 with h3 | ⟨h3, h4⟩
  · rw [if_pos (by rw [h3]; decide)]
    exact ⟨h1, h2, Or.inl h3⟩
  · rw [if_neg (by rw [h3]; simp)]
    obtain ⟨a, b, c⟩ := h1.rename hn h4
    exact ⟨b, c.trans h2, Or.inr a⟩

theorem Stl.remove {d : Dk} (h : Stl d) {n : Nm} (hn : (getF n d.files).isSome = true) : (d.remove n).1 = 0 ∧ Stl (d.remove n).2 ∧ (d.remove n).2.turn = d.turn ∧ (d.remove n).2.files = del n d.files := by
  have hl := h.lf
  have hno : ¬ (getF n d.files).isNone = true := by cases hg : getF n d.files with | none => rw [hg] at hn; cases hn | some f => simp
  unfold Dk.remove
  rw [if_neg (by rw [h.al]; simp), if_neg hno, if_neg (by omega)]
  exact ⟨rfl, h.burn _, rfl, rfl⟩

theorem sweepF_still (s : Ls) : ∀ (ns : List Nm) (d : Dk), Stl d → ns.Nodup → (∀ n ∈ ns, (getF n d.files).isSome = true) →
    (sweepF s ns d).1 = 0 ∧ Stl (sweepF s ns d).2 ∧ (sweepF s ns d).2.turn = d.turn ∧ ∀ n, s.needs n = true → getF n (sweepF s ns d).2.files = getF n d.files
  | [], d, h, _, _ => ⟨rfl, h, rfl, fun _ _ => rfl⟩
  | n :: r, d, h, hd, hs => by
    obtain ⟨h1, h2⟩ := List.nodup_cons.1 hd
    rw [sweepF]
    split
    · exact sweepF_still s r d h h2 (fun m hm => hs m (by simp [hm]))
    · rename_i hn
      obtain ⟨a, b, c, e⟩ := h.remove (hs n (by simp))
      simp only
      rw [if_neg (by rw [a]; simp)]
      obtain ⟨k1, k2, k3, k4⟩ := sweepF_still s r (d.remove n).2 b h2 (fun m hm => by
        rw [e, getF_del_ne (fun he : m = n => h1 (he ▸ hm))]
        exact hs m (by simp [hm]))
      refine ⟨k1, k2, k3.trans c, fun m hm => ?_⟩
      rw [k4 m hm, e, getF_del_ne]
      rintro rfl
      rw [hm] at hn
      simp at hn

theorem getF_name {α : Type} : ∀ {l : List (Nm × α)} {n : Nm}, n ∈ l.map (·.1) → (getF n l).isSome = true
  | [], _, h => by cases h
  | x :: r, n, h => by
    rw [getF]
    split
    · rfl
    · rename_i hx
      rw [List.map_cons] at h
      rcases List.mem_cons.1 h with rfl | h
      · exact absurd rfl hx
      · exact getF_name h

theorem rising_nodup {α : Type} {l : List (Nm × α)} (h : rising l) : (l.map (·.1)).Nodup := by
  unfold rising at h
  refine List.pairwise_map.2 (h.imp fun {x y} hxy he => ?_)
  rw [he, WideAt.bytes_irrefl] at hxy
  cases hxy

theorem loadTab_e {d : Dk} (h : Stl d) (p : Pl) : (loadTab d p).1 = 0 ∨ (loadTab d p).1 = 5 := by
  unfold loadTab
  cases hg : getF (tbN p.number) d.files with
  | none =>
    have hr : d.read (tbN p.number) = ([], 2) := by simp [Dk.read, h.al, hg]
    rw [hr]
    exact Or.inr rfl
  | some f =>
    have hr : d.read (tbN p.number) = (f.bytes, 0) := by simp [Dk.read, h.al, hg]
    rw [hr]
    simp only
    rw [if_neg (by decide), if_neg (by decide)]
    cases decLay f.bytes with
    | none => exact Or.inr rfl
    | some l => exact Or.inl rfl
theorem firstE_is {P : Int → Prop} (h0 : P 0) : ∀ {l : List Int}, (∀ e ∈ l, P e) → P (firstE l)
  | [], _ => h0
  | e :: r, h => by
    rw [firstE]
    split
    · exact h e (by simp)
    · exact firstE_is h0 fun f hf => h f (by simp [hf])
theorem loadTabs_e {d : Dk} (h : Stl d) (s : Ls) : ((loadTabs d s).1 = 0 ∨ (loadTabs d s).1 = 5) ∧ (loadTabs d s).2.turn = s.turn ∧ (loadTabs d s).2.stuck = s.stuck := by
  unfold loadTabs
  cases getF manN d.files with
  | none => exact ⟨Or.inl rfl, rfl, rfl⟩
  | some f =>
    simp only
    cases decMan f.bytes with
    | none => exact ⟨Or.inr rfl, rfl, rfl⟩
    | some m =>
      refine ⟨firstE_is (P := fun e => e = 0 ∨ e = 5) (Or.inl rfl) fun e he => ?_, rfl, rfl⟩
      obtain ⟨x, hx, rfl⟩ := List.mem_map.1 he
      obtain ⟨p, -, rfl⟩ := List.mem_map.1 hx
      exact loadTab_e h p
theorem loadLog_e (d : Dk) (s : Ls) : ((loadLog d s).1 = 0 ∨ (loadLog d s).1 = 5) ∧ (loadLog d s).2.2.turn = s.turn ∧ (loadLog d s).2.2.stuck = s.stuck ∧ (loadLog d s).2.2.log = s.log ∧
    ((loadLog d s).2.2.loose = true → s.loose = false → (getF (lgN s.log) d.files).isSome = true) := by
  unfold loadLog
  cases hg : getF (lgN s.log) d.files with
  | none => exact ⟨Or.inl rfl, rfl, rfl, rfl, fun h1 h2 => by simp only at h1; rw [h2] at h1; cases h1⟩
  | some f =>
    simp only
    cases replF s.batch s.lastSnap f.bytes.length s.mem f.bytes with
    | none => exact ⟨Or.inr rfl, rfl, rfl, rfl, fun _ _ => rfl⟩
    | some x => exact ⟨Or.inl rfl, rfl, rfl, rfl, fun _ _ => rfl⟩

theorem lload_still {d : Dk} (h : Stl d) (hr : rising d.files) (s : Ls) (ht : s.turn = d.turn) (hk : s.stuck = false) (hl : s.loose = false) :
    ((lloadX d s).1 = 0 ∨ (lloadX d s).1 = 3 ∨ (lloadX d s).1 = 5) ∧ Stl (lloadX d s).2.1 ∧ (lloadX d s).2.1.turn = d.turn ∧ (lloadX d s).2.2.turn = d.turn := by
  unfold lloadX
  rw [if_neg (by rw [h.al]; simp)]
  simp only
  obtain ⟨a1, a2, a3⟩ := loadTabs_e h s
  have a4 : (loadTabs d s).2.loose = s.loose := by
    unfold loadTabs
    cases getF manN d.files with
    | none => rfl
    | some f => simp only; cases decMan f.bytes <;> rfl
  rcases a1 with a1 | a1
  · rw [if_neg (by rw [a1]; simp)]
    split
    · exact ⟨Or.inr (Or.inr rfl), h, rfl, a2.trans ht⟩
    · obtain ⟨b1, b2, b3, b4, b5⟩ := loadLog_e d (loadTabs d s).2
      rcases b1 with b1 | b1
      · rw [if_neg (by rw [b1]; simp)]
        have hsw : sweepX (loadLog d (loadTabs d s).2).2.2 d = sweepF (loadLog d (loadTabs d s).2).2.2 (d.files.map (·.1)) d := by
          unfold sweepX; rw [if_neg (by rw [h.al]; simp)]
        obtain ⟨c1, c2, c3, c4⟩ := sweepF_still (loadLog d (loadTabs d s).2).2.2 (d.files.map (·.1)) d h (rising_nodup hr) (fun n hn => getF_name hn)
        rw [← hsw] at c1 c2 c3 c4
        rw [if_neg (by rw [c1]; simp)]
        split
        · unfold rewrX
          simp only
          obtain ⟨e1, e2, e3⟩ := c2.lreplace (lgN_ok (loadLog d (loadTabs d s).2).2.2.log) (jourX (loadLog d (loadTabs d s).2).2.2.mem)
          rcases e3 with e3 | e3
          · rw [if_pos (by rw [e3]; decide)]
            exact ⟨Or.inr (Or.inl e3), e1, e2.trans c3, b2.trans (a2.trans ht)⟩
          · rw [if_neg (by rw [e3]; simp)]
            exact ⟨Or.inl rfl, e1, e2.trans c3, b2.trans (a2.trans ht)⟩
        · unfold lsyncX
          have hw : (loadLog d (loadTabs d s).2).2.2.writX (sweepX (loadLog d (loadTabs d s).2).2.2 d).2 = 0 := by
            have hw0 : (loadLog d (loadTabs d s).2).2.2.readyX (sweepX (loadLog d (loadTabs d s).2).2.2 d).2 = 0 := by
              unfold Ls.readyX
              rw [b2, a2, ht, c3, if_neg (by simp), if_neg (by rw [c2.al]; simp)]
            unfold Ls.writX
            rw [hw0, if_neg (by simp), b3, a3, hk, if_neg (by simp)]
          rw [if_neg (by rw [hw]; simp)]
          split
          · exact ⟨Or.inl rfl, c2, c3, b2.trans (a2.trans ht)⟩
          · rename_i hlo
            have hlo' : (loadLog d (loadTabs d s).2).2.2.loose = true := by simpa using hlo
            have hsome := b5 hlo' (a4.trans hl)
            have hnd : (loadLog d (loadTabs d s).2).2.2.needs (lgN (loadLog d (loadTabs d s).2).2.2.log) = true := by simp [Ls.needs]
            have hf := c4 _ hnd
            rw [b4] at hf hnd ⊢
            obtain ⟨e1, e2, e3, -⟩ := c2.sync (n := lgN (loadTabs d s).2.log) (by rw [hf]; exact hsome)
            simp only
            rw [if_neg (by rw [e1]; simp)]
            exact ⟨Or.inl rfl, e2, e3.trans c3, b2.trans (a2.trans ht)⟩
      · rw [if_pos (by rw [b1]; decide)]
        exact ⟨Or.inr (Or.inr b1), h, rfl, b2.trans (a2.trans ht)⟩
  · rw [if_pos (by rw [a1]; decide)]
    exact ⟨Or.inr (Or.inr a1), h, rfl, a2.trans ht⟩

end Go.Proofs.YtoabedkcieindaaGreatDoor

namespace Go.Proofs.YtoabedkcieindaaGreatDoor

theorem bare_bare (o : Ox) : bare (bare o) = bare o := by
  by_cases h : o.gone = true
  · simp [bare, h]
  · simp [bare, h]
theorem doM1_bare (n last : Int) (m : Mm) (o : Ox) : doM1 n last m (bare o) = doM1 n last m o := by
  unfold doM1
  rw [bare_key, bare_bare]
theorem doM_bare (n last : Int) : ∀ (l : List Ox) (m : Mm), doM n last m (l.map bare) = doM n last m l
  | [], _ => rfl
  | o :: r, m => by
    show doM n last (doM1 n last m (bare o)) (r.map bare) = doM n last (doM1 n last m o) r
    rw [doM1_bare, doM_bare n last r]
theorem doM_app (n last : Int) (m : Mm) (a b : List Ox) : doM n last m (a ++ b) = doM n last (doM n last m a) b := by simp [doM, List.foldl_append]

theorem replF_log (n last : Int) : ∀ (bs : List (List Ox)) (p : List UInt8) (m : Mm) (f : Nat), (∀ b ∈ bs, batchOk b = true) → isCut p → (logOf bs ++ p).length ≤ f →
    replF n last f m (logOf bs ++ p) = some (doM n last m bs.flatten, !p.isEmpty)
  | [], p, m, f, _, hp, hf => by
    have e : logOf [] ++ p = p := rfl
    rw [e] at hf ⊢
    cases p with
    | nil => cases f <;> rfl
    | cons c r =>
      match f with
      | 0 => simp at hf
      | f + 1 =>
        rw [replF]
        rcases isCut_decode hp with h | h
        · simp at h
        · rw [h]; rfl
  | b :: bs, p, m, f, hb, hp, hf => by
    have hl := encode_len b
    rw [logOf_cons, List.append_assoc] at hf ⊢
    match f with
    | 0 => rw [List.length_append] at hf; omega
    | f + 1 =>
      obtain ⟨c, r, hc⟩ : ∃ c r, encode b ++ (logOf bs ++ p) = c :: r := by
        cases he : encode b ++ (logOf bs ++ p) with
        | nil => have h9 := congrArg List.length he; rw [List.length_append] at h9; simp only [List.length_nil] at h9; omega
        | cons c r => exact ⟨c, r, rfl⟩
      have hd := decode_enc (hb b (by simp)) (logOf bs ++ p)
      have hdr : (encode b ++ (logOf bs ++ p)).drop (encode b).length = logOf bs ++ p := List.drop_left
      rw [hc] at hd hdr ⊢
      rw [replF, hd]
      simp only
      rw [hdr, replF_log n last bs p _ f (fun x hx => hb x (by simp [hx])) hp (by simp only [List.length_append] at hf ⊢; omega), doM_bare, List.flatten_cons, doM_app]

theorem pick_now {b : Int} {l : Ly} (h : ∀ e ∈ l, e.batch ≤ b) : pickE b l = l.head? := by
  cases l with
  | nil => rfl
  | cons e r => rw [pick_cons, if_pos (h e (by simp))]; rfl

def zeroE (e : En) : En := ⟨bare e.op, 0⟩
theorem atK_zero (k : Nm) : ∀ l : Ly, atK k (l.map zeroE) = (atK k l).map zeroE
  | [] => rfl
  | e :: r => by
    rw [List.map_cons, atK_cons, atK_cons, atK_zero k r]
    have : (zeroE e).op.key = e.op.key := bare_key e.op
    rw [this]
    split <;> rfl
theorem view_zero {b : Int} {l : Ly} (h : ∀ e ∈ l, e.batch ≤ b) (k : Nm) : viewE 0 (l.map zeroE) k = viewE b l k := by
  unfold viewE
  rw [atK_zero, pick_now (b := b) (l := atK k l) (fun e he => h e (List.mem_filter.1 he).1), pick_now (b := 0) (fun e he => by obtain ⟨x, -, rfl⟩ := List.mem_map.1 he; exact Int.le_refl _)]
  cases atK k l with
  | nil => rfl
  | cons e r =>
    simp only [List.map_cons, List.head?_cons, liveE, zeroE, bare_gone]
    cases hg : e.op.gone with
    | true => rfl
    | false => simp [bare_val hg]

def tabsOf (ps : List Pl) (ts : List (List Ox)) : List Tb := List.zipWith (fun p l => ⟨p.number, p.level, l.map fun o => ⟨bare o, 0⟩⟩) ps ts

structure Says (d : Dk) (m : Man) (ts bs : List (List Ox)) (p : List UInt8) : Prop where
  man : (getF manN d.files = none ∧ m = ⟨1, 0, []⟩) ∨ ∃ f, getF manN d.files = some f ∧ f.bytes = encMan m
  ok : manOk m
  len : ts.length = m.tabs.length
  tab : ∀ (i : Nat) (h : i < m.tabs.length) (h' : i < ts.length), ∃ f, getF (tbN m.tabs[i].number) d.files = some f ∧ f.bytes = encLay ts[i] ∧ layOk [] ts[i] ∧ ts[i] ≠ []
  log : (getF (lgN m.log) d.files = none ∧ bs = [] ∧ p = []) ∨ ∃ f, getF (lgN m.log) d.files = some f ∧ f.bytes = logOf bs ++ p
  bok : ∀ b ∈ bs, batchOk b = true
  cut : isCut p
  may : ∀ x ∈ d.files, oursN x.1 = true ∧ (numOf logP x.1).getD 0 ≤ m.log ∧ (numOf tabP x.1).getD 0 ≤ m.next + m.tabs.length

theorem tabsOf_len {ps : List Pl} {ts : List (List Ox)} (h : ts.length = ps.length) : (tabsOf ps ts).length = ps.length := by simp [tabsOf, h]

theorem firstE_zero : ∀ l : List Tb, firstE (l.map fun _ => (0 : Int)) = 0
  | [] => rfl
  | t :: r => by rw [List.map_cons, firstE, if_neg (by simp), firstE_zero r]

theorem Says.tabs {d : Dk} {m : Man} {ts bs : List (List Ox)} {p : List UInt8} (h : Says d m ts bs p) (hd : Stl d) (turn policy : Int) :
    loadTabs d (newLs turn policy) = (0, { newLs turn policy with next := m.next, log := m.log, tabs := tabsOf m.tabs ts }) := by
  have hl : m.tabs.map (loadTab d) = (tabsOf m.tabs ts).map fun t => ((0 : Int), t) := by
    refine List.ext_getElem (by rw [List.length_map, List.length_map, tabsOf_len h.len]) fun i h1 h2 => ?_
    have hi : i < m.tabs.length := by simpa using h1
    have hi' : i < ts.length := by rw [h.len]; exact hi
    obtain ⟨f, a, b, c, e⟩ := h.tab i hi hi'
    have hr : d.read (tbN m.tabs[i].number) = (f.bytes, 0) := by simp [Dk.read, hd.al, a]
    rw [List.getElem_map, List.getElem_map]
    simp only [tabsOf, List.getElem_zipWith]
    unfold loadTab
    rw [hr]
    simp only
    rw [if_neg (by decide), if_neg (by decide), b, decLay_enc c e]
    simp [List.map_map, Function.comp_def]
  unfold loadTabs
  rcases h.man with ⟨a, b⟩ | ⟨f, a, b⟩
  · rw [a]
    subst b
    rfl
  · rw [a]
    simp only
    rw [b, decMan_enc h.ok]
    simp only
    rw [hl, List.map_map, List.map_map]
    have e1 : (tabsOf m.tabs ts).map ((fun x : Int × Tb => x.1) ∘ fun t => ((0 : Int), t)) = (tabsOf m.tabs ts).map fun _ => (0 : Int) := rfl
    have e2 : (tabsOf m.tabs ts).map ((fun x : Int × Tb => x.2) ∘ fun t => ((0 : Int), t)) = tabsOf m.tabs ts := List.map_id' _
    rw [e1, e2, firstE_zero]

theorem Says.mayH {d : Dk} {m : Man} {ts bs : List (List Ox)} {p : List UInt8} (h : Says d m ts bs p) {s : Ls} (h1 : s.log = m.log) (h2 : s.next = m.next) (h3 : s.tabs.length = m.tabs.length) : s.mayHave (d.files.map (·.1)) = true := by
  unfold Ls.mayHave
  rw [List.all_eq_true]
  intro n hn
  obtain ⟨x, hx, rfl⟩ := List.mem_map.1 hn
  obtain ⟨a, b, c⟩ := h.may x hx
  rw [h1, h2, h3]
  simp [a, b, c]

theorem Says.logs {d : Dk} {m : Man} {ts bs : List (List Ox)} {p : List UInt8} (h : Says d m ts bs p) {s : Ls} (h1 : s.log = m.log) (h2 : s.batch = 0) (h3 : s.snaps = []) (h4 : s.mem = []) :
    (loadLog d s).1 = 0 ∧ (loadLog d s).2.1 = !p.isEmpty ∧ (loadLog d s).2.2.mem = doM 0 (-1) [] bs.flatten ∧ (loadLog d s).2.2.tabs = s.tabs ∧ (loadLog d s).2.2.next = s.next := by
  unfold loadLog
  have hls : s.lastSnap = -1 := by simp [Ls.lastSnap, h3]
  rw [h1]
  rcases h.log with ⟨a, b, c⟩ | ⟨f, a, b⟩
  · rw [a]
    subst b c
    exact ⟨rfl, rfl, h4, rfl, rfl⟩
  · rw [a]
    simp only
    rw [h2, hls, h4, b, replF_log 0 (-1) bs p [] _ h.bok h.cut (Nat.le_refl _)]
    exact ⟨rfl, rfl, rfl, rfl, rfl⟩

theorem layOk_srt : ∀ {last : Nm} {l : List Ox} (_ : layOk last l), (srt (l.map fun o => (⟨bare o, 0⟩ : En))) ∧ ∀ o ∈ l, bytesBefore o.key last = false ∧ opOk o = true
  | _, [], _ => ⟨List.Pairwise.nil, fun _ h => (by cases h)⟩
  | last, o :: r, h => by
    obtain ⟨h1, h2, h3⟩ := h
    obtain ⟨a, b⟩ := layOk_srt h3
    refine ⟨List.pairwise_cons.2 ⟨fun x hx => ?_, a⟩, fun q hq => ?_⟩
    · obtain ⟨q, hq, rfl⟩ := List.mem_map.1 hx
      simp only [bare_key]
      exact (b q hq).1
    · rcases List.mem_cons.1 hq with rfl | hq
      · exact ⟨h2, h1⟩
      · exact ⟨le_trans' h2 (b q hq).1, (b q hq).2⟩

def baseM (ts : List Tb) : Mp := behF 0 [] (mergeL (newF ts))

theorem baseM_is {ts : List Tb} (hs : ∀ t ∈ ts, srt t.es) (hk : ∀ t ∈ ts, ∀ e ∈ t.es, e.op.key ≠ []) : rising (baseM ts) ∧ ∀ k, getF k (baseM ts) = viewE 0 (newF ts).flatten k := by
  have h1 : ∀ l ∈ newF ts, srt l := fun l hl => by
    obtain ⟨t, ht, rfl⟩ := List.mem_map.1 hl
    exact hs t (List.mem_reverse.1 ht)
  have h0 : ∀ k : Nm, bytesBefore k [] = false := fun k => by cases k <;> rfl
  have hb := mergeL_srt h1
  refine ⟨behF_rise _ _ _ hb, fun k => ?_⟩
  unfold baseM
  by_cases hk0 : k = []
  · subst hk0
    rw [getF_off]
    · have : atK [] (newF ts).flatten = [] := atK_no fun e he => by
        obtain ⟨l, hl, hel⟩ := List.mem_flatten.1 he
        obtain ⟨t, ht, rfl⟩ := List.mem_map.1 hl
        exact hk t (List.mem_reverse.1 ht) e hel
      unfold viewE
      rw [this]
      rfl
    · intro x hx h9
      have := behF_key 0 [] _ hb (fun e _ => h0 _) x hx
      rw [h9, WideAt.bytes_irrefl] at this
      cases this
  · rw [behF_get 0 [] _ hb (fun e _ => h0 _) k hk0]
    unfold viewE
    rw [mergeL_at h1 k]

theorem opOk_ne {o : Ox} (h : opOk o = true) : o.key ≠ [] := fun e => by
  have := (opOk_key h).1
  rw [e] at this
  simp at this

def saidM (m : Man) (ts bs : List (List Ox)) : Mp := doAll (baseM (tabsOf m.tabs ts)) bs.flatten

theorem Says.view {d : Dk} {m : Man} {ts bs : List (List Ox)} {p : List UInt8} (h : Says d m ts bs p) :
    MmOk (doM 0 (-1) [] bs.flatten) ∧ rising (saidM m ts bs) ∧ ∀ k, viewE 0 (flatM (doM 0 (-1) [] bs.flatten) ++ (newF (tabsOf m.tabs ts)).flatten) k = getF k (saidM m ts bs) := by
  have ht : ∀ t ∈ tabsOf m.tabs ts, srt t.es ∧ ∀ e ∈ t.es, e.op.key ≠ [] := fun t ht => by
    obtain ⟨i, hi, rfl⟩ := List.mem_iff_getElem.1 ht
    have hi1 : i < m.tabs.length := by rw [tabsOf_len h.len] at hi; exact hi
    have hi2 : i < ts.length := by rw [h.len]; exact hi1
    obtain ⟨-, -, -, c, -⟩ := h.tab i hi1 hi2
    simp only [tabsOf, List.getElem_zipWith]
    obtain ⟨a, b⟩ := layOk_srt c
    refine ⟨a, fun e he => ?_⟩
    obtain ⟨o, ho, rfl⟩ := List.mem_map.1 he
    simp only [bare_key]
    exact opOk_ne (b o ho).2
  obtain ⟨a, b⟩ := baseM_is (fun t h => (ht t h).1) (fun t h => (ht t h).2)
  have hko : ∀ o ∈ bs.flatten, o.key ≠ [] := fun o ho => by
    obtain ⟨l, hl, hol⟩ := List.mem_flatten.1 ho
    have := (batchOk_iff.1 (h.bok l hl)).2
    exact opOk_ne (this o hol)
  obtain ⟨c1, c2, c3, -⟩ := view_do (n := 0) (last := -1) (newF (tabsOf m.tabs ts)).flatten bs.flatten [] (baseM (tabsOf m.tabs ts)) ⟨List.Pairwise.nil, fun _ h => (by cases h)⟩ hko a (fun k => by rw [b k]; rfl)
  exact ⟨c1, c2, c3⟩

end Go.Proofs.YtoabedkcieindaaGreatDoor

namespace Go.Proofs.YtoabedkcieindaaGreatDoor

def needM (m : Man) (n : Nm) : Prop := n = manN ∨ n = lgN m.log ∨ ∃ q ∈ m.tabs, n = tbN q.number
def mayM (m : Man) (n : Nm) : Prop := oursN n = true ∧ (numOf logP n).getD 0 ≤ m.log ∧ (numOf tabP n).getD 0 ≤ m.next + m.tabs.length

theorem Says.keep {d d' : Dk} {m : Man} {ts bs : List (List Ox)} {p : List UInt8} (h : Says d m ts bs p) (hk : ∀ n, needM m n → getF n d'.files = getF n d.files) (hs : ∀ x ∈ d'.files, mayM m x.1) : Says d' m ts bs p where
  man := by rw [hk _ (.inl rfl)]; exact h.man
  ok := h.ok
  len := h.len
  tab := fun i a b => by rw [hk _ (.inr (.inr ⟨_, List.getElem_mem a, rfl⟩))]; exact h.tab i a b
  log := by rw [hk _ (.inr (.inl rfl))]; exact h.log
  bok := h.bok
  cut := h.cut
  may := hs

structure Dur (d : Dk) (m : Man) (ts bs : List (List Ox)) (p : List UInt8) (n : Nat) : Prop where
  says : Says d m ts bs p
  sman : ∀ f, getF manN d.files = some f → f.safe = f.bytes.length
  stab : ∀ q ∈ m.tabs, ∀ f, getF (tbN q.number) d.files = some f → f.safe = f.bytes.length
  le : n ≤ bs.length
  slog : ∀ f, getF (lgN m.log) d.files = some f → (logOf (bs.take n)).length ≤ f.safe ∧ f.safe ≤ f.bytes.length

theorem Dur.keep {d d' : Dk} {m : Man} {ts bs : List (List Ox)} {p : List UInt8} {n : Nat} (h : Dur d m ts bs p n) (hk : ∀ n, needM m n → getF n d'.files = getF n d.files) (hs : ∀ x ∈ d'.files, mayM m x.1) : Dur d' m ts bs p n where
  says := h.says.keep hk hs
  sman := by rw [hk _ (.inl rfl)]; exact h.sman
  stab := fun q hq => by rw [hk _ (.inr (.inr ⟨q, hq, rfl⟩))]; exact h.stab q hq
  le := h.le
  slog := by rw [hk _ (.inr (.inl rfl))]; exact h.slog

theorem getF_crash' (n : Nm) : ∀ (ks : List Int) (fs : List (Nm × Fl)), ∃ k, getF n (crashL ks fs) = (getF n fs).map (kept k)
  | _, [] => ⟨0, by simp [crashL, getF]⟩
  | [], x :: r => by
    obtain ⟨k, hk⟩ := getF_crash' n [] r
    simp only [crashL, getF]
    by_cases e : x.1 = n
    · exact ⟨0, by rw [if_pos e, if_pos e]; rfl⟩
    · exact ⟨k, by rw [if_neg e, if_neg e]; exact hk⟩
  | k0 :: ks, x :: r => by
    obtain ⟨k, hk⟩ := getF_crash' n ks r
    simp only [crashL, getF]
    by_cases e : x.1 = n
    · exact ⟨k0, by rw [if_pos e, if_pos e]; rfl⟩
    · exact ⟨k, by rw [if_neg e, if_neg e]; exact hk⟩
theorem names_crash : ∀ (ks : List Int) (fs : List (Nm × Fl)), (crashL ks fs).map (·.1) = fs.map (·.1)
  | _, [] => by simp [crashL]
  | [], x :: r => by simp only [crashL, List.map_cons, names_crash [] r]
  | _ :: ks, x :: r => by simp only [crashL, List.map_cons, names_crash ks r]
theorem kept_whole {k : Int} {f : Fl} (h : f.safe = f.bytes.length) : kept k f = f := by
  obtain ⟨b, s⟩ := f
  simp only at h
  subst h
  simp [kept]
theorem kept_some (k : Int) {f : Fl} (h : f.safe ≤ f.bytes.length) : ∃ j, f.safe ≤ j ∧ j ≤ f.bytes.length ∧ kept k f = ⟨f.bytes.take j, j⟩ :=
  ⟨f.safe + min k.toNat (f.bytes.length - f.safe), by omega, by omega, rfl⟩

theorem isCut_take {p : List UInt8} (h : isCut p) (j : Nat) : isCut (p.take j) := by
  rcases h with rfl | ⟨b, m, hb, hm, rfl⟩
  · exact .inl (by simp)
  · exact .inr ⟨b, min j m, hb, by omega, by rw [List.take_take]⟩

theorem log_left {bs : List (List Ox)} {p : List UInt8} {n j : Nat} (hb : ∀ b ∈ bs, batchOk b = true) (hp : isCut p) (hn : n ≤ bs.length) (h1 : (logOf (bs.take n)).length ≤ j) :
    ∃ n' p', n ≤ n' ∧ n' ≤ bs.length ∧ isCut p' ∧ (logOf bs ++ p).take j = logOf (bs.take n') ++ p' := by
  by_cases hj : (logOf bs).length ≤ j
  · refine ⟨bs.length, p.take (j - (logOf bs).length), hn, Nat.le_refl _, isCut_take hp _, ?_⟩
    rw [List.take_append, List.take_of_length_le hj, List.take_length]
  · obtain ⟨n', p', a, b, c, e, f⟩ := log_cut bs j hb
    refine ⟨n', p', ?_, a, b, by rw [List.take_append_of_le_length (by omega), c]⟩
    rcases Nat.lt_or_ge n' n with h | h
    · have h2 := f (by omega)
      have h3 : (logOf (bs.take (n' + 1))).length ≤ (logOf (bs.take n)).length := by
        have : bs.take n = bs.take (n' + 1) ++ (bs.drop (n' + 1)).take (n - (n' + 1)) := by
          have h4 : (bs.take n).take (n' + 1) = bs.take (n' + 1) := by rw [List.take_take]; congr 1; omega
          have h5 : (bs.take n).drop (n' + 1) = (bs.drop (n' + 1)).take (n - (n' + 1)) := by rw [List.drop_take]
          rw [← h4, ← h5, List.take_append_drop]
        rw [this, logOf_append, List.length_append]
        omega
      omega
    · exact h

theorem take_bok {bs : List (List Ox)} (h : ∀ b ∈ bs, batchOk b = true) (n : Nat) : ∀ b ∈ bs.take n, batchOk b = true := fun b hb => h b (List.mem_of_mem_take hb)

theorem Dur.crash {d : Dk} {m : Man} {ts bs : List (List Ox)} {p : List UInt8} {n : Nat} (h : Dur d m ts bs p n) (ks : List Int) :
    ∃ n' p', n ≤ n' ∧ n' ≤ bs.length ∧ Dur (d.crash ks) m ts (bs.take n') p' n' := by
  have hfm : ∀ f, getF manN d.files = some f → getF manN (d.crash ks).files = some f := fun f hf => by
    obtain ⟨k, hk⟩ := getF_crash' manN ks d.files
    show getF manN (crashL ks d.files) = _
    rw [hk, hf, Option.map_some, kept_whole (h.sman f hf)]
  have hnm : getF manN d.files = none → getF manN (d.crash ks).files = none := fun hf => by
    obtain ⟨k, hk⟩ := getF_crash' manN ks d.files
    show getF manN (crashL ks d.files) = _
    rw [hk, hf]; rfl
  have hft : ∀ q ∈ m.tabs, ∀ f, getF (tbN q.number) d.files = some f → getF (tbN q.number) (d.crash ks).files = some f := fun q hq f hf => by
    obtain ⟨k, hk⟩ := getF_crash' (tbN q.number) ks d.files
    show getF _ (crashL ks d.files) = _
    rw [hk, hf, Option.map_some, kept_whole (h.stab q hq f hf)]
  have hmay : ∀ x ∈ (d.crash ks).files, oursN x.1 = true ∧ (numOf logP x.1).getD 0 ≤ m.log ∧ (numOf tabP x.1).getD 0 ≤ m.next + m.tabs.length := fun x hx => by
    have : x.1 ∈ d.files.map (·.1) := by rw [← names_crash ks d.files]; exact List.mem_map.2 ⟨x, hx, rfl⟩
    obtain ⟨y, hy, e⟩ := List.mem_map.1 this
    rw [← e]
    exact h.says.may y hy
  have hman : (getF manN (d.crash ks).files = none ∧ m = ⟨1, 0, []⟩) ∨ ∃ f, getF manN (d.crash ks).files = some f ∧ f.bytes = encMan m := by
    rcases h.says.man with ⟨a, b⟩ | ⟨f, a, b⟩
    · exact .inl ⟨hnm a, b⟩
    · exact .inr ⟨f, hfm f a, b⟩
  have hsman : ∀ f, getF manN (d.crash ks).files = some f → f.safe = f.bytes.length := fun f hf => by
    cases hg : getF manN d.files with
    | none => rw [hnm hg] at hf; cases hf
    | some f0 => rw [hfm f0 hg] at hf; cases hf; exact h.sman _ hg
  have hstab : ∀ q ∈ m.tabs, ∀ f, getF (tbN q.number) (d.crash ks).files = some f → f.safe = f.bytes.length := fun q hq f hf => by
    obtain ⟨k, hk⟩ := getF_crash' (tbN q.number) ks d.files
    have hf' : getF (tbN q.number) (crashL ks d.files) = some f := hf
    rw [hk] at hf'
    cases hg : getF (tbN q.number) d.files with
    | none => rw [hg] at hf'; cases hf'
    | some f0 =>
      have hs := h.stab q hq f0 hg
      rw [hg, Option.map_some, kept_whole hs] at hf'
      cases hf'
      exact hs
  obtain ⟨k, hk⟩ := getF_crash' (lgN m.log) ks d.files
  have hk' : getF (lgN m.log) (d.crash ks).files = (getF (lgN m.log) d.files).map (kept k) := hk
  rcases h.says.log with ⟨a, b, c⟩ | ⟨f, a, b⟩
  · subst b c
    rw [a] at hk'
    refine ⟨0, [], by have := h.le; simpa using this, by simp, ⟨⟨hman, h.says.ok, h.says.len, fun i a b => ?_, .inl ⟨hk', by simp, rfl⟩, by simp, .inl rfl, hmay⟩, hsman, hstab, by simp, fun f hf => by rw [hk'] at hf; cases hf⟩⟩
    obtain ⟨f, c, e⟩ := h.says.tab i a b
    exact ⟨f, hft _ (List.getElem_mem a) f c, e⟩
  · obtain ⟨s1, s2⟩ := h.slog f a
    obtain ⟨j, j1, j2, j3⟩ := kept_some k s2
    rw [a, Option.map_some, j3] at hk'
    obtain ⟨n', p', c1, c2, c3, c4⟩ := log_left (j := j) h.says.bok h.says.cut h.le (by omega)
    refine ⟨n', p', c1, c2, ⟨⟨hman, h.says.ok, h.says.len, fun i a b => ?_, .inr ⟨_, hk', by simp only; rw [b, c4]⟩, take_bok h.says.bok n', c3, hmay⟩, hsman, hstab, by rw [List.length_take]; omega, fun g hg => ?_⟩⟩
    · obtain ⟨f, c, e⟩ := h.says.tab i a b
      exact ⟨f, hft _ (List.getElem_mem a) f c, e⟩
    · rw [hk'] at hg
      cases hg
      have hl : (f.bytes.take j).length = j := by rw [List.length_take]; omega
      refine ⟨?_, by simp only; omega⟩
      simp only
      have h6 := congrArg List.length c4
      rw [← b, hl, List.length_append] at h6
      rw [List.take_take, Nat.min_self]
      omega

end Go.Proofs.YtoabedkcieindaaGreatDoor
