import Derived.WideShapes
import Derived.RowKit
import Derived.Test.YtoabedkcieindabGreatDoorRows
import Derived.WalkKit
import Derived.WalkSpells
import Derived.WalkLawsBesides
import Derived.Maps.OwnSet
import Derived.Maps.Ext
import Derived.Sort.EncStr
import Derived.Deep.QuietTactic
import Derived.BigQuiet
import Derived.Deep.RegionWith
import Derived.Test.YtoabedkcieindabGreatDoorLay
import Derived.Sort.KeysCollected
namespace Go.Proofs.YtoabedkcieindabGreatDoor
abbrev Nm := List UInt8
structure Fl where
  bytes : List UInt8
  safe : Nat
structure Dk where
  quota : Nat
  files : List (Nm × Fl)
  left : Int
  dead : Bool
  turn : Int
def nameByte (c : UInt8) : Bool := (decide (97 ≤ c) && decide (c ≤ 122)) || (decide (48 ≤ c) && decide (c ≤ 57)) || (c == 46)
def nameOk (n : Nm) : Bool := decide (1 ≤ n.length) && decide (n.length ≤ 20) && n.all nameByte
section lists
variable {α β : Type}
def used (fs : List (Nm × Fl)) : Nat := (fs.map fun x => x.2.bytes.length).sum
def getF (n : Nm) : List (Nm × α) → Option α
  | [] => none
  | x :: r => if x.1 = n then some x.2 else getF n r
def ins (x : Nm × α) : List (Nm × α) → List (Nm × α)
  | [] => [x]
  | y :: r => if bytesBefore x.1 y.1 then x :: y :: r else y :: ins x r
def del (n : Nm) (l : List (Nm × α)) : List (Nm × α) := l.filter fun x => !(x.1 == n)
def upd (n : Nm) (f : α → α) (l : List (Nm × α)) : List (Nm × α) := l.map fun x => if x.1 = n then (x.1, f x.2) else x
def rising (l : List (Nm × α)) : Prop := l.Pairwise fun x y => bytesBefore x.1 y.1 = true
end lists
def Dk.burn (d : Dk) : Dk := { d with left := max (d.left - 1) (-1) }
def Dk.die (d : Dk) : Dk := { d with dead := true }
def addB (b : List UInt8) (f : Fl) : Fl := { f with bytes := f.bytes ++ b }
def allSafe (f : Fl) : Fl := { f with safe := f.bytes.length }
def Dk.write (d : Dk) (n : Nm) (b : List UInt8) : Int × Dk :=
  if d.dead then (4, d) else if nameOk n = false then (1, d) else if d.quota < used d.files + b.length then (3, d)
  else if d.left = 0 then (4, d.die) else
  (0, { d.burn with files := if (getF n d.files).isSome then upd n (addB b) d.files else ins (n, ⟨b, 0⟩) d.files })
def Dk.sync (d : Dk) (n : Nm) : Int × Dk :=
  if d.dead then (4, d) else if (getF n d.files).isNone then (2, d) else if d.left = 0 then (4, d.die) else
  (0, { d.burn with files := upd n allSafe d.files })
def moved (n m : Nm) (f : Fl) (l : List (Nm × Fl)) : List (Nm × Fl) := if n = m then l else ins (m, f) (del m (del n l))
def Dk.rename (d : Dk) (n m : Nm) : Int × Dk :=
  if d.dead then (4, d) else if nameOk m = false then (1, d) else
  match getF n d.files with
  | none => (2, d)
  | some f => if d.left = 0 then (4, d.die) else (0, { d.burn with files := moved n m f d.files })
def Dk.remove (d : Dk) (n : Nm) : Int × Dk :=
  if d.dead then (4, d) else if (getF n d.files).isNone then (2, d) else if d.left = 0 then (4, d.die) else
  (0, { d.burn with files := del n d.files })
def Dk.safe (d : Dk) (n : Nm) : Nat × Int :=
  if d.dead then (0, 4) else match getF n d.files with | none => (0, 2) | some f => (f.safe, 0)
def kept (k : Int) (f : Fl) : Fl := let m := f.safe + min k.toNat (f.bytes.length - f.safe); ⟨f.bytes.take m, m⟩
structure Dk.Ok (d : Dk) : Prop where
  quota : d.quota ≤ 1048576
  used : used d.files ≤ d.quota
  left0 : -1 ≤ d.left
  left1 : d.left ≤ 9223372036854775807
  safe : ∀ x ∈ d.files, x.2.safe ≤ x.2.bytes.length
  rise : rising d.files
  name : ∀ x ∈ d.files, x.1.length ≤ 20
end Go.Proofs.YtoabedkcieindabGreatDoor

namespace Go.Proofs.YtoabedkcieindabGreatDoor
structure Ox where
  key : Nm
  val : Nm
  gone : Bool
abbrev Mp := List (Nm × Nm)
def doOp (m : Mp) (o : Ox) : Mp := if o.gone then del o.key m else ins (o.key, o.val) (del o.key m)
def doAll (m : Mp) (l : List Ox) : Mp := l.foldl doOp m
def keyOk (n : Nm) : Bool := decide (1 ≤ n.length) && decide (n.length ≤ 16)
def opOk (o : Ox) : Bool := keyOk o.key && (o.gone || decide (o.val.length ≤ 64))
def batchOk (l : List Ox) : Bool := decide (1 ≤ l.length) && decide (l.length ≤ 8) && l.all opOk
def bare (o : Ox) : Ox := if o.gone then { o with val := [] } else o
def encOp (o : Ox) : List UInt8 := if o.gone then UInt8.ofNat (o.key.length + 128) :: o.key else UInt8.ofNat o.key.length :: UInt8.ofNat o.val.length :: (o.key ++ o.val)
def encBody (l : List Ox) : List UInt8 := l.flatMap encOp
def fnvStep (n : Nat) (c : UInt8) : Nat := (n ^^^ c.toNat) * 16777619 % 4294967296
def fnv (l : List UInt8) : Nat := l.foldl fnvStep 2166136261
def be4 (n : Nat) : List UInt8 := [UInt8.ofNat (n / 16777216), UInt8.ofNat (n / 65536), UInt8.ofNat (n / 256), UInt8.ofNat n]
def be2 (n : Nat) : List UInt8 := [UInt8.ofNat (n / 256), UInt8.ofNat n]
def encode (l : List Ox) : List UInt8 := be2 (encBody l).length ++ be4 (fnv (encBody l)) ++ encBody l
end Go.Proofs.YtoabedkcieindabGreatDoor

namespace Go.Proofs.YtoabedkcieindabGreatDoor
theorem byte_nat {n : Nat} (h : n < 256) : (UInt8.ofNat n).toNat = n := by simp [UInt8.toNat_ofNat']; omega
theorem opOk_key {o : Ox} (h : opOk o = true) : 1 ≤ o.key.length ∧ o.key.length ≤ 16 := by
  simp only [opOk, keyOk, Bool.and_eq_true, decide_eq_true_eq] at h; exact h.1
theorem opOk_val {o : Ox} (h : opOk o = true) (hg : o.gone = false) : o.val.length ≤ 64 := by
  simp only [opOk, hg, Bool.false_or, Bool.and_eq_true, decide_eq_true_eq] at h; exact h.2
theorem encOp_len {o : Ox} (h : opOk o = true) : 2 ≤ (encOp o).length ∧ (encOp o).length ≤ 82 := by
  obtain ⟨k1, k2⟩ := opOk_key h
  cases hg : o.gone with
  | true => simp [encOp, hg]; omega
  | false => have := opOk_val h hg; simp [encOp, hg]; omega
theorem encBody_len : ∀ (l : List Ox), (∀ o ∈ l, opOk o = true) → 2 * l.length ≤ (encBody l).length ∧ (encBody l).length ≤ 82 * l.length
  | [], _ => by simp [encBody]
  | o :: r, h => by
    have e : encBody (o :: r) = encOp o ++ encBody r := by simp [encBody]
    have h1 := encOp_len (h o (by simp))
    have h2 := encBody_len r (fun o' h' => h o' (by simp [h']))
    rw [e, List.length_append, List.length_cons]
    omega
theorem batchOk_iff {l : List Ox} : batchOk l = true ↔ (1 ≤ l.length ∧ l.length ≤ 8) ∧ ∀ o ∈ l, opOk o = true := by
  simp [batchOk, and_assoc]
theorem body_len {l : List Ox} (h : batchOk l = true) : 2 ≤ (encBody l).length ∧ (encBody l).length ≤ 656 := by
  obtain ⟨⟨h1, h2⟩, h3⟩ := batchOk_iff.1 h
  have := encBody_len l h3
  omega
theorem fnvStep_lt (n : Nat) (c : UInt8) : fnvStep n c < 4294967296 := by unfold fnvStep; omega
theorem foldl_snoc {α β : Type} (f : α → β → α) (a : α) (l : List β) (c : β) : (l ++ [c]).foldl f a = f (l.foldl f a) c := by simp
theorem fnv_snoc (l : List UInt8) (c : UInt8) : fnv (l ++ [c]) = fnvStep (fnv l) c := foldl_snoc fnvStep _ l c
theorem fnv_lt (l : List UInt8) : fnv l < 4294967296 := by
  rcases List.eq_nil_or_concat l with rfl | ⟨r, c, rfl⟩
  · simp [fnv]
  · rw [List.concat_eq_append, fnv_snoc]; exact fnvStep_lt _ _
theorem byte_mod (n : Nat) : (UInt8.ofNat n).toNat = n % 256 := by simp [UInt8.toNat_ofNat']
theorem be2_len (n : Nat) : (be2 n).length = 2 := rfl
theorem be4_len (n : Nat) : (be4 n).length = 4 := rfl
theorem encode_len (l : List Ox) : (encode l).length = 6 + (encBody l).length := by simp [encode, be2_len, be4_len]; omega
theorem doAll_append (m : Mp) (a b : List Ox) : doAll m (a ++ b) = doAll (doAll m a) b := by simp [doAll, List.foldl_append]
def logOf (bs : List (List Ox)) : List UInt8 := bs.flatMap encode
theorem logOf_cons (b : List Ox) (bs : List (List Ox)) : logOf (b :: bs) = encode b ++ logOf bs := by simp [logOf]
theorem logOf_append (a b : List (List Ox)) : logOf (a ++ b) = logOf a ++ logOf b := by simp [logOf]
theorem logOf_one (b : List Ox) : logOf [b] = encode b := by simp [logOf]
def isCut (p : List UInt8) : Prop := p = [] ∨ ∃ b m, batchOk b = true ∧ m < (encode b).length ∧ p = (encode b).take m
end Go.Proofs.YtoabedkcieindabGreatDoor

namespace Go.Proofs.YtoabedkcieindabGreatDoor
open Go.RowKit
structure Kp (S : Nat → Prop) (w w' : World) : Prop where
  os : w'.os = w.os
  tape : w'.tape = w.tape
  output : w'.output = w.output
  size : w.heap.size ≤ w'.heap.size
  block : ∀ k, k < w.heap.size → ¬ S k → w'.heap[k]? = w.heap[k]?
theorem Kp.refl (S : Nat → Prop) (w : World) : Kp S w w := ⟨rfl, rfl, rfl, Nat.le_refl _, fun _ _ _ => rfl⟩
theorem Kp.trans {S T : Nat → Prop} {a b c : World} (h : Kp S a b) (k : Kp T b c) (hT : ∀ i, i < a.heap.size → T i → S i) : Kp S a c :=
  ⟨k.os.trans h.os, k.tape.trans h.tape, k.output.trans h.output, Nat.le_trans h.size k.size,
   fun i hi hs => (k.block i (Nat.lt_of_lt_of_le hi h.size) (fun t => hs (hT i hi t))).trans (h.block i hi hs)⟩
theorem Kp.mono {S T : Nat → Prop} {a b : World} (h : Kp S a b) (hT : ∀ i, S i → T i) : Kp T a b :=
  ⟨h.os, h.tape, h.output, h.size, fun i hi hs => h.block i hi (fun s => hs (hT i s))⟩
theorem Kp.drew {S : Nat → Prop} {a w : World} (h : Kp S a w) : Kp S a w.drew := ⟨h.os, h.tape, h.output, h.size, h.block⟩
theorem Kp.alloc {S : Nat → Prop} {a w : World} (h : Kp S a w) (o : Obj) : Kp S a (w.alloc o) :=
  h.trans (T := fun _ => False) ⟨rfl, rfl, rfl, by simp, fun k hk _ => Below.heap_alloc _ _ _ (by omega)⟩ (fun _ _ f => f.elim)
theorem Kp.setCell {S : Nat → Prop} {a w : World} (h : Kp S a w) {p : Addr} (hp : p.block < a.heap.size → S p.block) (u : Value) : Kp S a (w.setCell p u) :=
  h.trans (T := fun i => i = p.block) ⟨rfl, rfl, rfl, by simp [World.setCell], fun k _ hne => Below.heap_setCell _ _ _ _ hne⟩ (fun i hi e => by subst e; exact hp hi)
theorem Kp.grown {S : Nat → Prop} {a w w' : World} {row : Option Nat} (h : Kp S a w) (hg : w.grownBy w' row) (hr : ∀ k, row = some k → k < a.heap.size → S k) : Kp S a w' :=
  h.trans (T := fun i => some i = row) ⟨hg.os, hg.tape, hg.output, hg.size, fun k hk hne => hg.block k hk hne⟩ (fun i hi e => hr i e.symm hi)
theorem Kp.of_below {S : Nat → Prop} {w w' : World} (h : Below w.heap.size w w') : Kp S w w' := ⟨h.os, h.tape, h.output, h.size, fun k hk _ => h.block k hk⟩
theorem Kp.below {w w' : World} (h : Kp (fun _ => False) w w') : Below w.heap.size w w' := ⟨h.os, h.tape, h.output, h.size, fun k hk => h.block k hk (fun f => f)⟩
theorem Kp.at {S : Nat → Prop} {w w' : World} (h : Kp S w w') {b : Nat} {o : Obj} (hb : w.heap[b]? = some o) (hs : ¬ S b) : w'.heap[b]? = some o :=
  (h.block b (Array.getElem?_eq_some_iff.1 hb).1 hs).trans hb
theorem lt_of_block {w : World} {b : Nat} {o : Obj} (hb : w.heap[b]? = some o) : b < w.heap.size := (Array.getElem?_eq_some_iff.1 hb).1
theorem cell_block {w : World} {b j : Nat} {cs : Array Value} {t : TypeId} {z : Nat × Nat} (hb : w.heap[b]? = some (.cells cs t z)) : w.cell? ⟨b, j, none⟩ = cs[j]? := by simp [World.cell?, hb]
theorem frozen_block {w : World} {b j : Nat} {cs : Array Value} {t : TypeId} (hb : w.heap[b]? = some (.cells cs t (0, 0))) : w.frozen? ⟨b, j, none⟩ = false := by simp [World.frozen?, hb]
theorem block_set {w : World} {b j : Nat} {cs : Array Value} {t : TypeId} {z : Nat × Nat} (hb : w.heap[b]? = some (.cells cs t z)) (u : Value) : (w.setCell ⟨b, j, none⟩ u).heap[b]? = some (.cells (cs.setIfInBounds j u) t z) := by
  simp [World.setCell, Array.getElem?_modify, hb]
theorem block_set_ne {w : World} {b j k : Nat} {o : Obj} (hb : w.heap[k]? = some o) (hne : k ≠ b) (u : Value) : (w.setCell ⟨b, j, none⟩ u).heap[k]? = some o := by
  rw [Below.heap_setCell _ _ _ _ hne]; exact hb
theorem block_alloc {w : World} {k : Nat} {o p : Obj} (hb : w.heap[k]? = some o) : (w.alloc p).heap[k]? = some o := by
  rw [Below.heap_alloc _ _ _ (lt_of_block hb)]; exact hb
theorem block_new (w : World) (p : Obj) : (w.alloc p).heap[w.heap.size]? = some p := by
  show (w.heap.push p)[w.heap.size]? = _; simp
theorem ownsRow_of_block {w w' : World} {base : Nat} {e : TypeId} {size : Nat} {v : Value} {n : Nat} {xs : List Value} (h : w.ownsRow base e size v n xs) (hb : ∀ g, v.ownBlock = some g → w'.heap[g]? = w.heap[g]?) : w'.ownsRow base e size v n xs := by
  refine ⟨h.1, ?_⟩
  rcases h.2 with hn | ⟨g, cap, cur, rfl, hbase, hgg, rest⟩
  · exact .inl hn
  · exact .inr ⟨g, cap, cur, rfl, hbase, (hb g rfl).trans hgg, rest⟩
theorem Kp.row {S : Nat → Prop} {w w' : World} (k : Kp S w w') {base : Nat} {e : TypeId} {size : Nat} {v : Value} {n : Nat} {xs : List Value} (h : w.ownsRow base e size v n xs) (hs : ∀ g, v.ownBlock = some g → ¬ S g) : w'.ownsRow base e size v n xs :=
  ownsRow_of_block h (fun g hg => k.block g (h.lt g hg).2 (hs g hg))
theorem ownsMap_of_block {H : Type} {w w' : World} {P : Program} {k : TypeId} {R : Value → Option (DataW H × List MemPlace)} {b n : Nat} {D : DataW H} (h : w.ownsMap P k R b n D) (hb : w'.heap[b]? = w.heap[b]?) : w'.ownsMap P k R b n D := by
  obtain ⟨es, c, h1, r⟩ := h
  exact ⟨es, c, hb.trans h1, r⟩
end Go.Proofs.YtoabedkcieindabGreatDoor

namespace Go.Proofs.YtoabedkcieindabGreatDoor
open Go.RowKit
theorem take_snocB (s : ByteArray) (k : Nat) (h : k < s.size) : s.data.toList.take (k + 1) = s.data.toList.take k ++ [s[k]] := by
  rw [List.take_succ_eq_append_getElem (by simpa using h)]; rfl
theorem ret_bool {a b : Bool} (h : a = b) : Ending.returned (.bool a) = .returned (.bool b) := by rw [h]
theorem ret_int {k : IntKind} {a b : Int} (h : a = b) : Ending.returned (.int k a) = .returned (.int k b) := by rw [h]
theorem nameByte_iff (c : UInt8) : nameByte c = true ↔ ((97 ≤ (c.toNat : Int) ∧ (c.toNat : Int) ≤ 122) ∨ (48 ≤ (c.toNat : Int) ∧ (c.toNat : Int) ≤ 57)) ∨ (c.toNat : Int) = 46 := by
  unfold nameByte
  simp [UInt8.le_iff_toNat_le, ← UInt8.toNat_inj]
  omega
set_option maxHeartbeats 400000 in
theorem isNameByte_any (c : UInt8) (w : World) :
    Calls Tryz.prog 235 #[.int .u8 c.toNat] w fun e w' => e = .returned (.bool (nameByte c)) ∧ w' = w := by
  have hb := nameByte_iff c
  have hc : c.toNat < 256 := c.toNat_lt
  obtain ⟨m, hm⟩ : ∃ m : Nat, m = c.toNat := ⟨_, rfl⟩
  obtain ⟨q, hq⟩ : ∃ q : Bool, q = nameByte c := ⟨_, rfl⟩
  rw [← hm] at hb ⊢; rw [← hm] at hc; rw [← hq] at hb ⊢
  clear hm hq
  have H : Hid (q = true ↔ ((97 ≤ (m : Int) ∧ (m : Int) ≤ 122) ∨ (48 ≤ (m : Int) ∧ (m : Int) ≤ 57)) ∨ (m : Int) = 46) := hb
  clear hb
  go_enter Tryz.func235, Tryz.ntmps235
  go_wp2
  all_goals go_ret
  all_goals (refine ⟨ret_bool ?_, rfl⟩; rw [Bool.eq_iff_iff, H.out]; simp; try omega)
theorem nameOk_bad {l : Nm} {k : Nat} (h : k < l.length) (hb : nameByte l[k] = false) : nameOk l = false := by
  unfold nameOk
  have : l.all nameByte = false := by
    rw [List.all_eq_false]
    exact ⟨l[k], List.getElem_mem h, by simp [hb]⟩
  simp [this]
theorem nameOk_all {l : Nm} (h1 : 1 ≤ l.length) (h2 : l.length ≤ 20) (h : l.all nameByte = true) : nameOk l = true := by
  unfold nameOk; simp only [h, h1, h2, decide_true, Bool.and_self]
theorem nameOk_len {l : Nm} (h : ¬ (1 ≤ l.length ∧ l.length ≤ 20)) : nameOk l = false := by
  unfold nameOk
  by_cases h1 : 1 ≤ l.length
  · have : ¬ l.length ≤ 20 := fun h2 => h ⟨h1, h2⟩
    simp [this]
  · simp [h1]
set_option maxHeartbeats 400000 in
theorem isName_any (s : ByteArray) (w : World) (hs : s.size ≤ maxLen) :
    Calls Tryz.prog 167 #[.string s] w fun e w' => e = .returned (.bool (nameOk s.data.toList)) ∧ w' = w := by
  unfold maxLen at hs
  by_cases h1 : 1 ≤ s.size ∧ s.size ≤ 20
  · obtain ⟨h1, h2⟩ := h1
    go_enter Tryz.func167, Tryz.ntmps167
    go_wp2
    go_loop [14] (fun i => ∃ k : Nat, k ≤ s.size ∧ i = .int .i64 k ∧ (s.data.toList.take k).all nameByte = true) (fun i => s.size - (intOf i).toNat)
    case atStart => exact ⟨0, Nat.zero_le _, rfl, rfl⟩
    case round =>
      obtain ⟨k, hk, rfl, hr⟩ := hrel
      have HR : Hid ((s.data.toList.take k).all nameByte = true) := hr
      clear hr
      by_cases hlt : k < s.size
      · go_wp2_with (go_at_call 235; refine (isNameByte_any _ _).mono ?_; rintro e w' ⟨rfl, rfl⟩)
        · have hb : (!nameByte s[k]) = true := by assumption
          go_ret
          exact ⟨ret_bool (nameOk_bad (l := s.data.toList) (k := k) (by simpa using hlt) (by simp only [Bool.not_eq_true'] at hb; exact hb)).symm, rfl⟩
        · have hb : (!nameByte s[k]) = false := by assumption
          go_round
          case rel => exact ⟨k + 1, by omega, by go_num, by rw [take_snocB s k hlt, List.all_append, HR.out]; simpa using hb⟩
          case measure => simp [intOf]; omega
      · go_wp2
        go_ret
        exact ⟨ret_bool (nameOk_all (by simpa using h1) (by simpa using h2) (by have := HR.out; rwa [List.take_of_length_le (by simp; omega)] at this)).symm, rfl⟩
  · have h0 : s.size < 1 ∨ 20 < s.size := by omega
    have E := nameOk_len (l := s.data.toList) (by simpa using h1)
    have E' : Hid (nameOk s.data.toList = false) := E
    clear E h1
    rcases h0 with h0 | h0
    all_goals
      go_enter Tryz.func167, Tryz.ntmps167
      go_wp2
      go_ret
      exact ⟨ret_bool E'.out.symm, rfl⟩
theorem Kp.set1 (w : World) (b o : Nat) (u : Value) : Kp (fun i => i = b) w (w.setCell ⟨b, o, none⟩ u) := Kp.setCell (S := fun i => i = b) (Kp.refl _ _) (fun _ => rfl) _
def Rowp (w : World) (p : Option Addr) (fs : List (Nm × Fl)) : Prop :=
  ∀ k (h : k < fs.length), ∃ g, p = some ⟨g, 0, none⟩ ∧ w.cell? ⟨g, k * 3, none⟩ = some (.string ⟨fs[k].1.toArray⟩) ∧ w.cell? ⟨g, k * 3 + 1, none⟩ = some (.string ⟨fs[k].2.bytes.toArray⟩) ∧ w.cell? ⟨g, k * 3 + 2, none⟩ = some (.int .i64 fs[k].2.safe)
theorem used_snoc (fs : List (Nm × Fl)) (k : Nat) (h : k < fs.length) : used (fs.take (k + 1)) = used (fs.take k) + fs[k].2.bytes.length := by
  rw [List.take_succ_eq_append_getElem h]; simp only [used, List.map_append, List.sum_append]; simp
theorem used_take (fs : List (Nm × Fl)) (k : Nat) : used (fs.take k) ≤ used fs := by
  conv => rhs; rw [← List.take_append_drop k fs]
  simp only [used, List.map_append, List.sum_append]; omega
theorem getF_none {α : Type} {n : Nm} {fs : List (Nm × α)} (h : ∀ k (hk : k < fs.length), fs[k].1 ≠ n) : getF n fs = none := by
  induction fs with
  | nil => rfl
  | cons x r ih =>
    have h0 := h 0 (by simp)
    simp only [List.getElem_cons_zero] at h0
    rw [getF, if_neg h0]
    exact ih (fun k hk => by have := h (k + 1) (by simpa using hk); simpa using this)
theorem getF_at {α : Type} {n : Nm} {fs : List (Nm × α)} : ∀ {k : Nat} (hk : k < fs.length), fs[k].1 = n → (∀ j (hj : j < k), (fs[j]'(by omega)).1 ≠ n) → getF n fs = some fs[k].2 := by
  induction fs with
  | nil => intro k hk; simp at hk
  | cons x r ih =>
    intro k hk he hne
    match k, hk with
    | 0, _ => rw [getF, if_pos (by simpa using he)]; simp
    | k + 1, hk =>
      have h0 := hne 0 (by omega)
      simp only [List.getElem_cons_zero] at h0
      rw [getF, if_neg h0]
      have := ih (k := k) (by simpa using hk) (by simpa using he) (fun j hj => by have := hne (j + 1) (by omega); simpa using this)
      simpa using this
theorem less_before : ∀ a b : List UInt8, Op.bytesLess a b = bytesBefore a b
  | a, [] => by cases a <;> rfl
  | [], b :: y => rfl
  | a :: x, b :: y => by simp only [Op.bytesLess, bytesBefore, less_before x y]
theorem Rowp.below {w w' : World} {p : Option Addr} {fs : List (Nm × Fl)} (h : Rowp w p fs) (hb : Below w.heap.size w w') : Rowp w' p fs := by
  intro k hk
  obtain ⟨g, rfl, d0, d1, d2⟩ := h k hk
  have hg : g < w.heap.size := World.block_lt_of_cell? w ⟨g, k * 3, none⟩ d0
  exact ⟨g, rfl, (hb.cell (p := ⟨g, k * 3, none⟩) hg).trans d0, (hb.cell (p := ⟨g, k * 3 + 1, none⟩) hg).trans d1, (hb.cell (p := ⟨g, k * 3 + 2, none⟩) hg).trans d2⟩
theorem ownsRow_base {w : World} {base base' : Nat} {e : TypeId} {size : Nat} {v : Value} {n : Nat} {xs : List Value} (h : w.ownsRow base e size v n xs) (hb : base' ≤ base) : w.ownsRow base' e size v n xs := by
  refine ⟨h.1, ?_⟩
  rcases h.2 with hn | ⟨g, cap, cur, rfl, hbase, rest⟩
  · exact .inl hn
  · exact .inr ⟨g, cap, cur, rfl, by omega, rest⟩
def Nw (S : Nat → Prop) (w : World) (k : Nat) : Prop := S k ∨ w.heap.size ≤ k
theorem row_ne {w : World} {b g : Nat} {cs : Array Value} {t t' : TypeId} {z : Nat × Nat} {base size n : Nat} {v : Value} {xs : List Value} (hb : w.heap[b]? = some (.cells cs t z)) (h : w.ownsRow base t' size v n xs) (hg : v.ownBlock = some g) (ht : t ≠ t') : g ≠ b := by
  rintro rfl
  rcases h.2 with ⟨rfl, _⟩ | ⟨g', cap, cur, rfl, _, hgg, _⟩
  · simp [Value.ownBlock] at hg
  · simp only [Value.ownBlock, Option.some.injEq] at hg
    subst hg
    rw [hb] at hgg
    simp only [Option.some.injEq, Obj.cells.injEq] at hgg
    exact ht hgg.2.1
theorem before_ne {a b : Nm} (h : bytesBefore a b = true) : a ≠ b := by rintro rfl; rw [WideAt.bytes_irrefl] at h; cases h
theorem rising_at {α : Type} {fs : List (Nm × α)} (hr : rising fs) {i j : Nat} (hi : i < fs.length) (hj : j < fs.length) (h : fs[i].1 = fs[j].1) : i = j := by
  rcases Nat.lt_trichotomy i j with h1 | h1 | h1
  · exact absurd h (before_ne (List.pairwise_iff_getElem.1 hr i j hi hj h1))
  · exact h1
  · exact absurd h.symm (before_ne (List.pairwise_iff_getElem.1 hr j i hj hi h1))
theorem upd_set {α : Type} {fs : List (Nm × α)} (hr : rising fs) {k : Nat} (hk : k < fs.length) (n : Nm) (hn : fs[k].1 = n) (f : α → α) : upd n f fs = fs.set k (n, f fs[k].2) := by
  subst hn
  apply List.ext_getElem
  · simp [upd]
  · intro i h1 h2
    simp only [upd, List.getElem_map, List.getElem_set]
    split
    · rename_i he
      have := rising_at hr (by simpa [upd] using h1) hk he
      subst this
      simp
    · rename_i he
      rw [if_neg (by rintro rfl; exact he rfl)]
theorem del_erase {α : Type} {fs : List (Nm × α)} (hr : rising fs) {k : Nat} (hk : k < fs.length) : del fs[k].1 fs = fs.eraseIdx k := by
  induction fs generalizing k with
  | nil => simp at hk
  | cons x r ih =>
    match k, hk with
    | 0, _ =>
      simp only [List.getElem_cons_zero, List.eraseIdx_cons_zero, del, List.filter_cons]
      rw [if_neg (by simp)]
      rw [List.filter_eq_self]
      intro y hy
      have := before_ne ((List.pairwise_cons.1 hr).1 y hy)
      simpa using fun e => this e.symm
    | k + 1, hk =>
      have hk' : k < r.length := by simpa using hk
      have := before_ne ((List.pairwise_cons.1 hr).1 r[k] (List.getElem_mem hk'))
      simp only [List.getElem_cons_succ, List.eraseIdx_cons_succ, del, List.filter_cons]
      rw [if_pos (by simpa using this)]
      have := ih (List.pairwise_cons.1 hr).2 hk'
      rw [← this]; rfl
theorem Kp.put {S : Nat → Prop} {a w : World} (h : Kp S a w) {g o : Nat} (hs : S g) (u : Value) : Kp S a (w.setCell ⟨g, o, none⟩ u) := h.setCell (fun _ => hs) u
theorem Kp.b {S : Nat → Prop} {a w : World} {b : Nat} (h : Kp (fun i => i = b) a w) (hs : S b) : Kp S a w := h.mono (fun i hi => by subst hi; exact hs)
theorem used_ge (fs : List (Nm × Fl)) (k : Nat) (h : k < fs.length) : fs[k].2.bytes.length ≤ used fs := by
  have := used_snoc fs k h
  have := used_take fs (k + 1)
  omega
theorem getF_mem {α : Type} {n : Nm} {f : α} : ∀ {fs : List (Nm × α)}, getF n fs = some f → (n, f) ∈ fs
  | [], h => by cases h
  | x :: r, h => by
    rw [getF] at h
    split at h
    · rename_i e; subst e; simp only [Option.some.injEq] at h; subst h; exact List.mem_cons_self ..
    · exact List.mem_cons_of_mem _ (getF_mem h)
theorem Kp.drewN {S : Nat → Prop} {a w : World} (h : Kp S a w) (m : Nat) : Kp S a (w.drewN m) := ⟨h.os, h.tape, h.output, h.size, h.block⟩
def quotaOk (q : Int) : Bool := decide (0 ≤ q) && decide (q ≤ 1048576)
def newDk (q : Int) : Dk := ⟨q.toNat, [], -1, false, 0⟩
theorem block_at2 {w1 w2 : World} {b : Nat} {o : Obj} (hb : w1.heap[b]? = some o) (hbl : Below w1.heap.size w1 w2) : w2.heap[b]? = some o := (hbl.block b (lt_of_block hb)).trans hb
theorem getF_del_ne {α : Type} {n m : Nm} (h : m ≠ n) : ∀ (fs : List (Nm × α)), getF m (del n fs) = getF m fs
  | [] => rfl
  | x :: r => by
    by_cases e : x.1 = n
    · have e' : ¬ x.1 = m := fun e2 => h (e2 ▸ e)
      have : del n (x :: r) = del n r := by simp [del, e]
      rw [this, getF, if_neg e', getF_del_ne h r]
    · have : del n (x :: r) = x :: del n r := by simp [del, e]
      rw [this, getF, getF]
      split
      · rfl
      · exact getF_del_ne h r
theorem del_none {α : Type} {m : Nm} {fs : List (Nm × α)} (h : getF m fs = none) : del m fs = fs := by
  induction fs with
  | nil => rfl
  | cons x r ih =>
    rw [getF] at h
    split at h
    · cases h
    · rename_i e
      have := ih h
      simp only [del, List.filter_cons] at this ⊢
      rw [if_pos (by simpa using e), this]
theorem rising_del {α : Type} {m : Nm} {fs : List (Nm × α)} (h : rising fs) : rising (del m fs) := List.Pairwise.filter _ h
theorem kpNw {S : Nat → Prop} {a w : World} (h : Kp (Nw S a) a w) : Kp S a w := ⟨h.os, h.tape, h.output, h.size, fun k hk hs => h.block k hk (fun n => n.elim hs (fun h => absurd h (by omega)))⟩
theorem cells3 {w : World} {b : Nat} {a0 a1 a2 : Value} {t : TypeId} (hb : w.heap[b]? = some (.cells #[a0, a1, a2] t)) :
    w.cell? ⟨b, 0, none⟩ = some a0 ∧ w.cell? ⟨b, 1, none⟩ = some a1 ∧ w.cell? ⟨b, 2, none⟩ = some a2 ∧ w.frozen? ⟨b, 0, none⟩ = false ∧ w.frozen? ⟨b, 1, none⟩ = false ∧ w.frozen? ⟨b, 2, none⟩ = false :=
  ⟨cell_block hb, cell_block hb, cell_block hb, frozen_block hb, frozen_block hb, frozen_block hb⟩
theorem Tryz.info9 : (Tryz.prog.info? 9).map (fun i => (i.zero, i.size, i.bytes)) = some (some (.string ByteArray.empty), 1, 16) := by kernel_rfl
def encS (l : List UInt8) : Value := .string ⟨l.toArray⟩
def OwnS (w : World) (base : Nat) (v : Value) (l : List (List UInt8)) : Prop := w.ownsRow base 9 1 v l.length (l.map encS)
def nmsOf {α : Type} (L : List (Nm × α)) : List (List UInt8) := L.map (·.1)
theorem one_at (w : World) (u : Value) (t : TypeId) : ∀ i x, [u][i]? = some x → (w.alloc (.cells #[u] t)).cell? ((⟨w.heap.size, 0, none⟩ : Addr).add i) = some x := by
  intro i x hx
  match i, hx with
  | 0, hx => simp at hx; subst hx; simp [Addr.add]
theorem own_snoc1 {w1 : World} {base : Nat} {t : TypeId} {v : Value} {l : List (List UInt8)} {y : List UInt8} (h : w1.ownsRow base t 1 v (l.length + 1) (l.map encS ++ [encS y])) : w1.ownsRow base t 1 v (l ++ [y]).length ((l ++ [y]).map encS) := by
  simpa using h
end Go.Proofs.YtoabedkcieindabGreatDoor

namespace Go.Proofs.YtoabedkcieindabGreatDoor
open Go.RowKit Go.Maps Go.Sort Go.Shelf
theorem slClone_any (s : ByteArray) (w : World) (hlim : s.size ≤ 281474976710656) :
    Calls Tryz.prog 109 #[.string s] w fun e w' => e = .returned (.string s) ∧ Below w.heap.size w w' := Any.stringslite_Clone Tryz.laysM316 s w hlim
set_option maxHeartbeats 400000 in
theorem sClone_any (s : ByteArray) (w : World) (hlim : s.size ≤ 281474976710656) :
    Calls Tryz.prog 59 #[.string s] w fun e w' => e = .returned (.string s) ∧ Below w.heap.size w w' := by
  go_enter Tryz.func59, Tryz.ntmps59
  go_wp2_with (go_at_call 109; refine (slClone_any s w hlim).mono ?_; rintro e w' ⟨rfl, hb⟩)
  go_ret
  exact ⟨rfl, hb⟩
theorem sorts (m : Nat) : AnyZ.SortsIn Tryz.prog Tryz.sorted107_ren Fence.wide m :=
  ⟨fun blk off cap ss W hH hblk hsz => callsIn_wide.2 (AnyM.slices_Sort_string Tryz.sort173 blk off cap ss W hH hblk hsz),
   fun p cap W => callsIn_wide.2 (AnyM.slices_Sort_string_none Tryz.sort173 p cap W)⟩
theorem keys_any (mb : Option Nat) (W : World) : CallsIn Fence.wide 5 Tryz.prog 108 #[.map mb] W fun e w' => e = .returned (.func (.func 174) #[] #[.pointer (some ⟨W.heap.size, 0, none⟩)]) ∧ w' = W.alloc (.cells #[.map mb] 115) :=
  AnyZ.keys_in Tryz.keys108 Fence.wide 5 trivial rfl mb W
set_option maxHeartbeats 1000000 in
theorem sorted_any {H : Type} (b nn : Nat) (D0 : DataW H) (R : Value → Option (DataW H × List MemPlace)) (w : World) (hown : w.ownsMap Tryz.prog 9 R b nn D0) (hmax : Maps.size D0 ≤ maxLen) (hbytes : Maps.size D0 * 16 ≤ 140737488355328) :
    CallsIn Fence.wide 5 Tryz.prog 107 #[.func (.func 174) #[] #[.pointer (some ⟨w.heap.size, 0, none⟩)]] (w.alloc (.cells #[.map (some b)] 115)) fun e w' => ∃ (v : Value) (ss : List (List UInt8)), e = .returned v ∧ ss.Perm (strKeys D0) ∧
      w'.ownsRow (w.alloc (.cells #[.map (some b)] 115)).heap.size 9 1 v ss.length ((ss.mergeSort (fun x y => decide (x ≤ y))).map encStr) ∧ (v = .slice none 0 0 ↔ ss = []) ∧ Below (w.alloc (.cells #[.map (some b)] 115)).heap.size (w.alloc (.cells #[.map (some b)] 115)) w' := by
  have hbl := hown.lt
  have hseq : SeqGives Fence.wide 2 Tryz.prog 174 #[.pointer (some ⟨w.heap.size, 0, none⟩)] encStr (fun ss => ss.Perm (strKeys D0)) (Maps.size D0) (w.alloc (.cells #[.map (some b)] 115)) :=
    AnyZ.keys_gives (ρ := Tryz.keys108_ren) { Tryz.keys108 with } Fence.wide _ trivial rfl (by omega) w.heap.size b nn D0 _ (by simp) (by simp) (by
      obtain ⟨es, clock, hb, Ft, hs, hD⟩ := hown
      exact ⟨es, clock, (Below.heap_alloc _ _ b hbl).trans hb, Ft, hs, hD⟩)
  exact AnyZ.sorted_in Tryz.sorted107 Fence.wide 5 trivial trivial trivial trivial rfl (by omega) (sorts _) (enters_of Tryz.func173 (by kernel_rfl) rfl) 174 #[.pointer (some ⟨w.heap.size, 0, none⟩)] trivial (enters_of Tryz.func174 (by kernel_rfl) rfl) _ _ hmax hbytes _ hseq
theorem Tryz.info5 : (Tryz.prog.info? 5).map (fun i => (i.zero, i.size, i.bytes)) = some (some (.int .u8 0), 1, 1) := by kernel_rfl
def encB (c : UInt8) : Value := .int .u8 c.toNat
def OwnB (w : World) (base : Nat) (v : Value) (l : List UInt8) : Prop := w.ownsRow base 5 1 v l.length (l.map encB)
end Go.Proofs.YtoabedkcieindabGreatDoor
