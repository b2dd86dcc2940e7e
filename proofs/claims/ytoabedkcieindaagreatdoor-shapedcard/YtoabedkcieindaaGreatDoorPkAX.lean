import Derived.Test.YtoabedkcieindaaGreatDoorPkAW
namespace Go.Proofs.YtoabedkcieindaaGreatDoor
open Go.RowKit Go.Maps Go.Sort

set_option maxHeartbeats 1000000 in
theorem HasPrefix_any (s p : List UInt8) (w : World) (_ : s.length ≤ 1048576) (_ : p.length ≤ 1048576) :
    Calls Tryz.prog 360 #[str s, str p] w fun e w' => e = .returned (.bool (p.isPrefixOf s)) ∧ w' = w := by
  have h1 : (⟨s.toArray⟩ : ByteArray).size = s.length := rfl
  have h2 : (⟨p.toArray⟩ : ByteArray).size = p.length := rfl
  by_cases hle : p.length ≤ s.length
  · have hex : (⟨s.toArray⟩ : ByteArray).extract 0 p.length = ⟨(s.take p.length).toArray⟩ := by rw [ext_bytes]; simp
    have HP : Hid (p.isPrefixOf s = (s.take p.length == p)) := by
      show _ = _
      rw [Bool.eq_iff_iff, List.isPrefixOf_iff_prefix, beq_iff_eq, List.prefix_iff_eq_take]
      exact eq_comm
    go_enter Tryz.func360, Tryz.ntmps360
    go_wp2
    go_ret
    rw [HP.out]
    exact ⟨rfl, rfl⟩
  · have HP : Hid (p.isPrefixOf s = false) := by
      show _ = _
      rw [Bool.eq_false_iff, Ne, List.isPrefixOf_iff_prefix]
      intro h
      exact hle h.length_le
    go_enter Tryz.func360, Tryz.ntmps360
    go_wp2
    go_ret
    rw [HP.out]
    exact ⟨rfl, rfl⟩

set_option maxHeartbeats 1000000 in
theorem iCutPrefix_yes (p r : List UInt8) (w : World) (hs : r.length ≤ 1000000) (hp : p.length ≤ 1000) :
    Calls Tryz.prog 326 #[str (p ++ r), str p] w fun e w' => e = .returned (.tuple #[str r, .bool true]) ∧ w' = w := by
  have h1 : (⟨(p ++ r).toArray⟩ : ByteArray).size = p.length + r.length := by show (p ++ r).length = _; simp
  have h2 : (⟨p.toArray⟩ : ByteArray).size = p.length := rfl
  have hex : (⟨(p ++ r).toArray⟩ : ByteArray).extract p.length (p.length + r.length) = ⟨r.toArray⟩ := by rw [ext_bytes]; congr 1; simp
  have hH := HasPrefix_any (p ++ r) p w (by simp; omega) (by omega)
  have hpp : p.isPrefixOf (p ++ r) = true := by simp [List.isPrefixOf_iff_prefix]
  rw [hpp] at hH
  clear hpp
  generalize p ++ r = s at *
  go_enter Tryz.func326, Tryz.ntmps326
  go_wp2_with (go_at_call 360; refine hH.mono ?_; rintro e w1 ⟨rfl, rfl⟩)
  go_ret2
  exact ⟨rfl, rfl⟩

set_option maxHeartbeats 1000000 in
theorem iCutPrefix_no (p s : List UInt8) (w : World) (hs : s.length ≤ 1000000) (hp : p.length ≤ 1000) (hn : p.isPrefixOf s = false) :
    Calls Tryz.prog 326 #[str s, str p] w fun e w' => e = .returned (.tuple #[str s, .bool false]) ∧ w' = w := by
  have hH := HasPrefix_any s p w (by omega) (by omega)
  rw [hn] at hH
  clear hn
  go_enter Tryz.func326, Tryz.ntmps326
  go_wp2_with (go_at_call 360; refine hH.mono ?_; rintro e w1 ⟨rfl, rfl⟩)
  go_ret2
  exact ⟨rfl, rfl⟩

set_option maxHeartbeats 1000000 in
theorem CutPrefix_yes (p r : List UInt8) (w : World) (hs : r.length ≤ 1000000) (hp : p.length ≤ 1000) :
    Calls Tryz.prog 278 #[str (p ++ r), str p] w fun e w' => e = .returned (.tuple #[str r, .bool true]) ∧ w' = w := by
  have hH := iCutPrefix_yes p r w hs hp
  generalize p ++ r = s at *
  go_enter Tryz.func278, Tryz.ntmps278
  go_wp2_with (go_at_call 326; refine hH.mono ?_; rintro e w1 ⟨rfl, rfl⟩)
  go_ret2
  exact ⟨rfl, rfl⟩

set_option maxHeartbeats 1000000 in
theorem CutPrefix_no (p s : List UInt8) (w : World) (hs : s.length ≤ 1000000) (hp : p.length ≤ 1000) (hn : p.isPrefixOf s = false) :
    Calls Tryz.prog 278 #[str s, str p] w fun e w' => e = .returned (.tuple #[str s, .bool false]) ∧ w' = w := by
  have hH := iCutPrefix_no p s w hs hp hn
  clear hn
  go_enter Tryz.func278, Tryz.ntmps278
  go_wp2_with (go_at_call 326; refine hH.mono ?_; rintro e w1 ⟨rfl, rfl⟩)
  go_ret2
  exact ⟨rfl, rfl⟩

set_option maxHeartbeats 1000000 in
theorem numberOf_own (p : List UInt8) (n : Nat) (w : World) (hp : p.length ≤ 1000) (hn : n < 9223372036854775808) :
    Calls Tryz.prog 217 #[str (p ++ fmt36 n), str p] w fun e w' => e = .returned (.tuple #[.int .i64 n, .bool true]) ∧ Below w.heap.size w w' := by
  have hl := fmt_len n
  have hpar := fmt_par hn
  have hF := fun w => FormatInt_any n w hn
  have hC := CutPrefix_yes p (fmt36 n) w (by omega) hp
  generalize fmt36 n = T at *
  cases T with
  | nil => simp at hl
  | cons c r =>
    have hP := fun w => ParseInt_any c r n w (by simp at hl; omega) hpar hn
    clear hpar hl
    generalize p ++ c :: r = s at *
    generalize c :: r = T at *
    obtain ⟨a, ha⟩ : ∃ a : Int, a = (n : Int) := ⟨_, rfl⟩
    rw [← ha] at hP hF ⊢
    have a0 : 0 ≤ a := by omega
    have a1 : a < 9223372036854775808 := by omega
    clear ha hn
    go_enter Tryz.func217, Tryz.ntmps217
    go_wp2_with (first
      | (go_at_call 278; refine hC.mono ?_; rintro e w1 ⟨rfl, rfl⟩)
      | (go_at_call 279; refine (hP _).mono ?_; rintro e w2 ⟨rfl, hb2⟩)
      | (go_at_call 153; refine (hF _).mono ?_; rintro e w3 ⟨rfl, hb3⟩))
    go_ret2
    exact ⟨rfl, hb2.trans (hb3.mono hb2.size)⟩

set_option maxHeartbeats 1000000 in
theorem numberOf_no (p s : List UInt8) (w : World) (hs : s.length ≤ 1000000) (hp : p.length ≤ 1000) (hn : p.isPrefixOf s = false) :
    Calls Tryz.prog 217 #[str s, str p] w fun e w' => e = .returned (.tuple #[.int .i64 0, .bool false]) ∧ w' = w := by
  have hC := CutPrefix_no p s w hs hp hn
  clear hn
  go_enter Tryz.func217, Tryz.ntmps217
  go_wp2_with (go_at_call 278; refine hC.mono ?_; rintro e w1 ⟨rfl, rfl⟩)
  go_ret2
  exact ⟨rfl, rfl⟩

def Our (s : Nm) : Prop := s = manN ∨ s = begN ∨ ∃ k, k < 9223372036854775808 ∧ (s = lgN k ∨ s = tbN k)

theorem Our.ours {s : Nm} (h : Our s) : oursN s = true := by
  unfold oursN
  rcases h with rfl | rfl | ⟨k, hk, rfl | rfl⟩
  · simp
  · simp
  · simp [lgN, numOf_fmt logP hk]
  · simp [tbN, numOf_fmt tabP hk]

abbrev logL : Value := .string ⟨#[108, 111, 103, 46]⟩
abbrev tabL : Value := .string ⟨#[116, 97, 98, 108, 101, 46]⟩
set_option maxHeartbeats 1000000 in
set_option maxRecDepth 20000 in
theorem isOurs_any (s : Nm) (w : World) (h : Our s) :
    Calls Tryz.prog 218 #[str s] w fun e w' => e = .returned (.bool true) ∧ Below w.heap.size w w' := by
  rcases h with rfl | rfl | ⟨k, hk, rfl | rfl⟩
  · have h1 : Calls Tryz.prog 217 #[.string ⟨#[109, 97, 110, 105, 102, 101, 115, 116]⟩, logL] w _ := numberOf_no logP manN w (by decide) (by decide) (by decide)
    have h2 : Calls Tryz.prog 217 #[.string ⟨#[109, 97, 110, 105, 102, 101, 115, 116]⟩, tabL] w _ := numberOf_no tabP manN w (by decide) (by decide) (by decide)
    show Calls Tryz.prog 218 #[.string ⟨#[109, 97, 110, 105, 102, 101, 115, 116]⟩] w _
    go_enter Tryz.func218, Tryz.ntmps218
    go_wp2_with (first
      | (go_at_call 217; refine h1.mono ?_; rintro e w1 ⟨rfl, rfl⟩; clear h1)
      | (go_at_call 217; refine h2.mono ?_; rintro e w1 ⟨rfl, rfl⟩))
    go_ret
    exact ⟨rfl, Below.refl _ _⟩
  · have h1 : Calls Tryz.prog 217 #[.string ⟨#[98, 101, 103, 117, 110]⟩, logL] w _ := numberOf_no logP begN w (by decide) (by decide) (by decide)
    have h2 : Calls Tryz.prog 217 #[.string ⟨#[98, 101, 103, 117, 110]⟩, tabL] w _ := numberOf_no tabP begN w (by decide) (by decide) (by decide)
    show Calls Tryz.prog 218 #[.string ⟨#[98, 101, 103, 117, 110]⟩] w _
    go_enter Tryz.func218, Tryz.ntmps218
    go_wp2_with (first
      | (go_at_call 217; refine h1.mono ?_; rintro e w1 ⟨rfl, rfl⟩; clear h1)
      | (go_at_call 217; refine h2.mono ?_; rintro e w1 ⟨rfl, rfl⟩))
    go_ret
    exact ⟨rfl, Below.refl _ _⟩
  · have hl := (fmt_len k).2
    have h1 : Calls Tryz.prog 217 #[str (logP ++ fmt36 k), logL] w _ := numberOf_own logP k w (by decide) hk
    have h2 : ∀ w, Calls Tryz.prog 217 #[str (lgN k), tabL] w _ := fun w => numberOf_no tabP (lgN k) w (by unfold lgN; simp [logP]; omega) (by decide) (by simp [lgN, tabP, logP, List.isPrefixOf])
    unfold lgN at *
    generalize logP ++ fmt36 k = s at *
    go_enter Tryz.func218, Tryz.ntmps218
    go_wp2_with (first
      | (go_at_call 217; refine h1.mono ?_; rintro e w1 ⟨rfl, hb1⟩; clear h1)
      | (go_at_call 217; refine (h2 _).mono ?_; rintro e w2 ⟨rfl, rfl⟩))
    go_ret
    exact ⟨rfl, hb1⟩
  · have hl := (fmt_len k).2
    have h1 : ∀ w, Calls Tryz.prog 217 #[str (tabP ++ fmt36 k), tabL] w _ := fun w => numberOf_own tabP k w (by decide) hk
    have h2 : ∀ w, Calls Tryz.prog 217 #[str (tbN k), logL] w _ := fun w => numberOf_no logP (tbN k) w (by unfold tbN; simp [tabP]; omega) (by decide) (by simp [tbN, tabP, logP, List.isPrefixOf])
    unfold tbN at *
    generalize tabP ++ fmt36 k = s at *
    go_enter Tryz.func218, Tryz.ntmps218
    go_wp2_with (first
      | (go_at_call 217; refine (h2 _).mono ?_; rintro e w2 ⟨rfl, rfl⟩; clear h2)
      | (go_at_call 217; refine (h1 _).mono ?_; rintro e w1 ⟨rfl, hb1⟩))
    go_ret
    exact ⟨rfl, hb1⟩

end Go.Proofs.YtoabedkcieindaaGreatDoor

namespace Go.Proofs.YtoabedkcieindaaGreatDoor
open Go.RowKit Go.Maps Go.Sort Go.Shelf

def needsN (log : Nat) (tabs : List Tb) (n : Nm) : Bool := n == manN || n == lgN log || tabs.any fun t => n == tbN t.number

set_option maxHeartbeats 400000 in
set_option maxRecDepth 20000 in
theorem isNeeded_any (T log : Nat) (s : Sl) (l : List Tr) (n : Nm) (w : World) (h6 : w.cell? ⟨T, 6, none⟩ = some (.int .i64 log)) (h4 : w.cell? ⟨T, 4, none⟩ = some (slV s)) (hs : TrAt w s l) (hlg : log < 9223372036854775808) (hnum : ∀ x ∈ l, x.1.number < 9223372036854775808) (hl : l.length ≤ 1000) :
    Calls Tryz.prog 220 #[.pointer (some ⟨T, 0, none⟩), str n] w fun e w' => e = .returned (.bool (needsN log (l.map (·.1)) n)) ∧ Below w.heap.size w w' := by
  obtain ⟨sa, sn, sc⟩ := s
  obtain rfl : sn = l.length := hs.len
  rw [show slV (sa, l.length, sc) = .slice sa l.length sc from rfl] at h4
  have hL := logName_any log w hlg
  by_cases h1 : n = manN
  · subst h1
    have HN : Hid (needsN log (l.map (·.1)) manN = true) := by show _ = _; simp [needsN]
    go_enter Tryz.func220, Tryz.ntmps220
    go_wp2
    go_ret
    exact ⟨by rw [HN.out]; rfl, Below.refl _ _⟩
  · have e1 : (n == [109, 97, 110, 105, 102, 101, 115, 116]) = false := by simpa [manN] using h1
    by_cases h2 : n = lgN log
    · have HN : Hid (needsN log (l.map (·.1)) n = true) := by show _ = _; simp [needsN, h2]
      subst h2
      go_enter Tryz.func220, Tryz.ntmps220
      go_wp2_with (go_at_call 98; refine hL.mono ?_; rintro e w1 ⟨rfl, hb1⟩)
      go_ret
      exact ⟨by rw [HN.out]; rfl, hb1⟩
    · have e2 : (n == lgN log) = false := by simpa using h2
      go_enter Tryz.func220, Tryz.ntmps220
      go_wp2_with (go_at_call 98; refine hL.mono ?_; rintro e w1 ⟨rfl, hb1⟩; have h41 := cell_below hb1 h4)
      go_loopw [23] (fun i wr => ∃ k : Nat, k ≤ l.length ∧ i = .int .i64 k ∧ Below w.heap.size w wr ∧ ((l.map (·.1)).take k).any (fun t => n == tbN t.number) = false) (fun i _ => l.length - (intOf i).toNat)
      case atStart => exact ⟨0, Nat.zero_le _, rfl, hb1, by simp⟩
      case round =>
        obtain ⟨k, hk, rfl, hb, hno⟩ := hrel
        by_cases hlt : k < l.length
        · have hsr := hs.below hb
          obtain ⟨g, off, e, d0⟩ := hsr.row k hlt 0 _ rfl
          obtain ⟨_, _, e', d1⟩ := hsr.row k hlt 1 _ rfl
          obtain ⟨_, _, e'', d2⟩ := hsr.row k hlt 2 _ rfl
          simp only at e e' e''
          subst e
          cases e'; cases e''
          simp only [Nat.add_zero] at d0
          rw [← Nat.add_assoc] at d1 d2
          have hTn := fun (W : World) => tableName_any l[k].1.number W (hnum _ (List.getElem_mem hlt))
          have HS : Hid (((l.map (·.1)).take (k + 1)).any (fun t => n == tbN t.number) = (n == tbN l[k].1.number)) := by
            show _ = _
            rw [List.take_succ_eq_append_getElem (by simpa using hlt), List.any_append, hno]; simp
          clear hno
          by_cases h3 : n = tbN l[k].1.number
          · have HN : Hid (needsN log (l.map (·.1)) n = true) := by
              show _ = _
              unfold needsN
              have : (l.map (·.1)).any (fun t => n == tbN t.number) = true := List.any_eq_true.2 ⟨l[k].1, List.mem_map.2 ⟨_, List.getElem_mem hlt, rfl⟩, by simp [h3]⟩
              rw [this]; simp
            have e3 : (n == tbN l[k].1.number) = true := by simpa using h3
            clear HS
            go_wp2_with (go_at_call 266; refine (hTn _).mono ?_; rintro e w2 ⟨rfl, hb2⟩)
            go_ret
            exact ⟨by rw [HN.out]; rfl, hb.trans (((Below.refl _ wr).alloc (Nat.le_refl _) _).mono hb.size |>.trans (hb2.mono (by have := hb.size; simp; omega)))⟩
          · have e3 : (n == tbN l[k].1.number) = false := by simpa using h3
            have HF : Hid (((l.map (·.1)).take (k + 1)).any (fun t => n == tbN t.number) = false) := by show _ = _; rw [HS.out]; simpa using h3
            clear HS
            go_wp2_with (go_at_call 266; refine (hTn _).mono ?_; rintro e w2 ⟨rfl, hb2⟩)
            go_roundw
            case rel => exact ⟨k + 1, by omega, by go_num, hb.trans (((Below.refl _ wr).alloc (Nat.le_refl _) _).mono hb.size |>.trans (hb2.mono (by have := hb.size; simp; omega))), HF.out⟩
            case measure => simp [intOf]; omega
        · have HN : Hid (needsN log (l.map (·.1)) n = false) := by
            show _ = _
            rw [List.take_of_length_le (by simp; omega)] at hno
            unfold needsN
            rw [hno]
            simp [h1, h2]
          clear hno
          go_wp2
          go_ret
          exact ⟨by rw [HN.out]; rfl, hb⟩

end Go.Proofs.YtoabedkcieindaaGreatDoor

namespace Go.Proofs.YtoabedkcieindaaGreatDoor
open Go.RowKit Go.Maps Go.Sort Go.Shelf

theorem progBelow {w w' : World} {S : Nat → Prop} {b : Nat} {d : Dk} (h : ProgAt w S b d) (k : Below w.heap.size w w') : ProgAt w' S b d := h.kept (T := fun _ => False) (Kp.of_below k) (fun _ _ f => f)

def sweepO (log : Nat) (tabs : List Tb) : List Nm → Dk → Int × Dk
  | [], d => (0, d)
  | n :: r, d => if needsN log tabs n then sweepO log tabs r d else if (d.remove n).1 ≠ 0 then d.remove n else sweepO log tabs r (d.remove n).2
theorem sweepF_own (s : Ls) : ∀ (ns : List Nm) (d : Dk), (∀ n ∈ ns, Our n) → sweepF s ns d = sweepO s.log s.tabs ns d
  | [], _, _ => rfl
  | n :: r, d, h => by
    rw [sweepF, sweepO, (h n (by simp)).ours]
    have hr : ∀ n ∈ r, Our n := fun m hm => h m (by simp [hm])
    simp only [Bool.not_true, Bool.false_or, sweepF_own s r _ hr]
    rfl
theorem sweepO_ok (log : Nat) (tabs : List Tb) : ∀ (ns : List Nm) (d : Dk), d.Ok → (sweepO log tabs ns d).2.Ok ∧ (sweepO log tabs ns d).2.files.length ≤ d.files.length
  | [], d, h => ⟨h, Nat.le_refl _⟩
  | n :: r, d, h => by
    rw [sweepO]
    split
    · exact sweepO_ok log tabs r d h
    · obtain ⟨h1, h2⟩ := remove_ok h n
      split
      · exact ⟨h1, h2⟩
      · obtain ⟨h3, h4⟩ := sweepO_ok log tabs r _ h1
        exact ⟨h3, by omega⟩

set_option maxHeartbeats 400000 in
set_option maxRecDepth 20000 in
theorem sweep_any (T bd log : Nat) (s : Sl) (l : List Tr) (d : Dk) (S : Nat → Prop) (w : World) (h0 : w.cell? ⟨T, 0, none⟩ = some (.pointer (some ⟨bd, 0, none⟩))) (h4 : w.cell? ⟨T, 4, none⟩ = some (slV s)) (h6 : w.cell? ⟨T, 6, none⟩ = some (.int .i64 log)) (hT : ¬ S T) (hs : TrAt w s l) (hsS : ∀ a, s.1 = some a → 0 < l.length → ¬ S a.block)
    (hP : ProgAt w S bd d) (hok : d.Ok) (hfl : d.files.length ≤ 1000000) (hda : d.dead = false) (hour : ∀ n ∈ nmsOf d.files, Our n) (hlen : ∀ n ∈ nmsOf d.files, n.length ≤ 1000) (hlg : log < 9223372036854775808) (hnum : ∀ x ∈ l, x.1.number < 9223372036854775808) (hl : l.length ≤ 1000) :
    Calls Tryz.prog 164 #[.pointer (some ⟨T, 0, none⟩)] w fun e w' => e = .returned (.int .i64 (sweepO log (l.map (·.1)) (nmsOf d.files) d).1) ∧ ProgAt w' (Nw S w) bd (sweepO log (l.map (·.1)) (nmsOf d.files) d).2 ∧ Kp S w w' := by
  have hN := dNames_any bd d S w hP hok (by omega) hda
  have hTl := World.block_lt_of_cell? w _ h0
  generalize hNS : nmsOf d.files = NS at *
  have hnl : NS.length ≤ 1000000 := by rw [← hNS]; simpa [nmsOf] using hfl
  clear hNS
  have hP0 : ProgAt w (fun k => S k ∧ k < w.heap.size) bd d := hP.mono (fun k hk s => ⟨s, hk⟩)
  go_enter Tryz.func164, Tryz.ntmps164
  go_wp2_with (go_at_call 74; refine hN.mono ?_; rintro e w1 ⟨v1, rfl, hb1, ho1⟩; obtain ⟨a1, c1, rfl, hcel⟩ := ownS_shape ho1)
  go_loopw [21] (fun i wr => ∃ (k : Nat) (dk : Dk), k ≤ NS.length ∧ i = .int .i64 k ∧ dk.Ok ∧ sweepO log (l.map (·.1)) NS d = sweepO log (l.map (·.1)) (NS.drop k) dk ∧ ProgAt wr (Nw (fun k => S k ∧ k < w.heap.size) w1) bd dk ∧ Kp (fun k => S k ∧ k < w.heap.size) w1 wr) (fun i _ => NS.length - (intOf i).toNat)
  case atStart => exact ⟨0, d, Nat.zero_le _, rfl, hok, rfl, (progBelow hP0 hb1).nw, Kp.refl _ _⟩
  case round =>
    obtain ⟨k, dk, hk, rfl, hokk, hsw, hPk, hkp⟩ := hrel
    have hz1 := hb1.size
    have keep : ∀ (b : Nat), b < w.heap.size → ¬ S b → wr.heap[b]? = w.heap[b]? := fun b hb hs => (hkp.block b (by omega) (fun h => hs h.1)).trans (hb1.block b hb)
    have h0r : wr.cell? ⟨T, 0, none⟩ = some (.pointer (some ⟨bd, 0, none⟩)) := (World.cell?_of_block (keep T hTl hT)).trans h0
    have h4r : wr.cell? ⟨T, 4, none⟩ = some (slV s) := (World.cell?_of_block (keep T hTl hT)).trans h4
    have h6r : wr.cell? ⟨T, 6, none⟩ = some (.int .i64 log) := (World.cell?_of_block (keep T hTl hT)).trans h6
    have hsr : TrAt wr s l := ⟨hs.len, hs.cap, hs.nil, hs.pl, fun i hi j u hu => by
      obtain ⟨g, off, e, c⟩ := hs.row i hi j u hu
      exact ⟨g, off, e, by rw [World.cell?_of_block (keep g (World.block_lt_of_cell? w _ c) (hsS _ e (by omega)))]; exact c⟩⟩
    have HSW : Hid (sweepO log (l.map (·.1)) NS d = sweepO log (l.map (·.1)) (NS.drop k) dk) := hsw
    clear hsw
    have kpw : Kp S w wr := (Kp.of_below (S := S) hb1).trans hkp (fun i hi s => s.1)
    by_cases hlt : k < NS.length
    · obtain ⟨g, rfl, hgb, cg⟩ := hcel k hlt
      have cgr : wr.cell? ⟨g, k, none⟩ = some (encS NS[k]) := (World.cell?_of_block (hkp.block g (World.block_lt_of_cell? w1 _ cg) (fun h => by omega))).trans cg
      have hO := fun (W : World) => isOurs_any NS[k] W (hour _ (List.getElem_mem hlt))
      have hNd := fun (W : World) (h : Below wr.heap.size wr W) => isNeeded_any T log s l NS[k] W (cell_below h h6r) (cell_below h h4r) (hsr.below h) hlg hnum hl
      have HD : Hid (sweepO log (l.map (·.1)) (NS.drop k) dk = if needsN log (l.map (·.1)) NS[k] then sweepO log (l.map (·.1)) (NS.drop (k + 1)) dk else if (dk.remove NS[k]).1 ≠ 0 then dk.remove NS[k] else sweepO log (l.map (·.1)) (NS.drop (k + 1)) (dk.remove NS[k]).2) := by
        show _ = _
        rw [List.drop_eq_getElem_cons hlt, sweepO]
      have hnk := hlen _ (List.getElem_mem hlt)
      clear hcel
      by_cases hnd : needsN log (l.map (·.1)) NS[k] = true
      · rw [hnd] at hNd
        go_wp2_with (first
          | (go_at_call 218; refine (hO _).mono ?_; rintro e w2 ⟨rfl, hb2⟩)
          | (go_at_call 220; refine (hNd _ hb2).mono ?_; rintro e w3 ⟨rfl, hb3⟩))
        have hb23 : Below wr.heap.size wr w3 := hb2.trans (hb3.mono hb2.size)
        go_roundw
        case rel => exact ⟨k + 1, dk, by omega, by go_num, hokk, by rw [HSW.out, HD.out, if_pos hnd], progBelow hPk hb23, hkp.trans (T := fun _ => False) (Kp.of_below hb23) (fun _ _ f => f.elim)⟩
        case measure => simp [intOf]; omega
      · have hnd' : needsN log (l.map (·.1)) NS[k] = false := by simpa using hnd
        rw [hnd'] at hNd
        have hR := fun (W : World) (h : Below wr.heap.size wr W) => dRemove_any bd dk NS[k] _ W (progBelow hPk h) hokk (by unfold maxLen; omega)
        have hro := (remove_ok hokk NS[k]).1
        have fin : ∀ {w3 w4 : World}, Below wr.heap.size wr w3 → ProgAt w4 (Nw (Nw (fun k => S k ∧ k < w.heap.size) w1) w3) bd (dk.remove NS[k]).2 → Kp (Nw (fun k => S k ∧ k < w.heap.size) w1) w3 w4 → ProgAt w4 (Nw (fun k => S k ∧ k < w.heap.size) w1) bd (dk.remove NS[k]).2 ∧ Kp (fun k => S k ∧ k < w.heap.size) w1 w4 := fun {w3 w4} hb h k3 => by
          have hz3 : w1.heap.size ≤ w3.heap.size := Nat.le_trans hkp.size hb.size
          refine ⟨h.mono (fun k _ h => h.elim id (fun h => .inr (Nat.le_trans hz3 h))), (hkp.trans (T := fun _ => False) (Kp.of_below hb) (fun _ _ f => f.elim)).trans k3 (fun i hi s => s.elim id (fun h => ?_))⟩
          omega
        by_cases hr : (dk.remove NS[k]).1 = 0
        · rw [hr] at hR
          go_wp2_with (first
            | (go_at_call 218; refine (hO _).mono ?_; rintro e w2 ⟨rfl, hb2⟩)
            | (go_at_call 220; refine (hNd _ hb2).mono ?_; rintro e w3 ⟨rfl, hb3⟩; have hb23 : Below wr.heap.size wr w3 := hb2.trans (hb3.mono hb2.size); have h03 := cell_below hb23 h0r)
            | (go_at_call 129; refine (hR _ hb23).mono ?_; rintro e w4 ⟨rfl, hP4, k4⟩))
          obtain ⟨f1, f2⟩ := fin hb23 hP4 k4
          go_roundw
          case rel => exact ⟨k + 1, _, by omega, by go_num, hro, by rw [HSW.out, HD.out, if_neg hnd, if_neg (by simpa using hr)], f1, f2⟩
          case measure => simp [intOf]; omega
        · have HQ : Hid (sweepO log (l.map (·.1)) NS d = dk.remove NS[k]) := by show _ = _; rw [HSW.out, HD.out, if_neg hnd, if_pos hr]
          clear HSW HD
          obtain ⟨rr, hrr⟩ : ∃ rr, (dk.remove NS[k]).1 = rr := ⟨_, rfl⟩
          rw [hrr] at hR hr
          have HRR : Hid ((dk.remove NS[k]).1 = rr) := hrr
          clear hrr
          go_wp2_with (first
            | (go_at_call 218; refine (hO _).mono ?_; rintro e w2 ⟨rfl, hb2⟩)
            | (go_at_call 220; refine (hNd _ hb2).mono ?_; rintro e w3 ⟨rfl, hb3⟩; have hb23 : Below wr.heap.size wr w3 := hb2.trans (hb3.mono hb2.size); have h03 := cell_below hb23 h0r)
            | (go_at_call 129; refine (hR _ hb23).mono ?_; rintro e w4 ⟨rfl, hP4, k4⟩))
          obtain ⟨f1, f2⟩ := fin hb23 hP4 k4
          go_ret
          exact ⟨by rw [HQ.out, HRR.out]; rfl, by rw [HQ.out]; exact f1.mono (fun k _ h => h.elim (fun h => .inl h.1) (fun h => .inr (Nat.le_trans hz1 h))), (Kp.of_below (S := S) hb1).trans f2 (fun i hi s => s.1)⟩
    · have E : Hid (NS.drop k = []) := List.drop_eq_nil_of_le (by omega)
      rw [E.out] at HSW
      go_wp2
      go_ret
      exact ⟨by rw [HSW.out]; rfl, by rw [HSW.out]; exact hPk.mono (fun k _ h => h.elim (fun h => .inl h.1) (fun h => .inr (Nat.le_trans hz1 h))), kpw⟩

end Go.Proofs.YtoabedkcieindaaGreatDoor
