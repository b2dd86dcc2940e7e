import Derived.Test.YtfghgmojnffgnaaGreatPkAW
set_option maxHeartbeats 4000000
set_option maxRecDepth 20000
namespace Go.Proofs.YtfghgmojnffgnaaGreat
open Go.RowKit Go.Maps Go.Sort
theorem kcells {w : World} {b : Nat} {a0 a1 a2 a3 a4 a5 a6 a7 a8 : Value} {t : TypeId} (hb : w.heap[b]? = some (.cells #[a0, a1, a2, a3, a4, a5, a6, a7, a8] t)) :
   (w.cell? ⟨b, 0, none⟩ = some a0 /\ w.cell? ⟨b, 1, none⟩ = some a1 /\ w.cell? ⟨b, 2, none⟩ = some a2 /\ w.cell? ⟨b, 3, none⟩ = some a3 /\ w.cell? ⟨b, 4, none⟩ = some a4 /\ w.cell? ⟨b, 5, none⟩ = some a5 /\ w.cell? ⟨b, 6, none⟩ = some a6 /\ w.cell? ⟨b, 7, none⟩ = some a7 /\ w.cell? ⟨b, 8, none⟩ = some a8) /\ ∀ j, w.frozen? ⟨b, j, none⟩ = false :=
 ⟨⟨cell_block hb, cell_block hb, cell_block hb, cell_block hb, cell_block hb, cell_block hb, cell_block hb, cell_block hb, cell_block hb⟩, fun _ => frozen_block hb⟩
theorem ocells {w : World} {b : Nat} {a0 a1 a2 a3 a4 a5 a6 a7 a8 a9 b0 b1 b2 b3 b4 : Value} {t : TypeId} (hb : w.heap[b]? = some (.cells #[a0, a1, a2, a3, a4, a5, a6, a7, a8, a9, b0, b1, b2, b3, b4] t)) :
   (w.cell? ⟨b, 0, none⟩ = some a0 /\ w.cell? ⟨b, 1, none⟩ = some a1 /\ w.cell? ⟨b, 2, none⟩ = some a2 /\ w.cell? ⟨b, 5, none⟩ = some a5 /\ w.cell? ⟨b, 6, none⟩ = some a6) /\ ∀ j, w.frozen? ⟨b, j, none⟩ = false :=
 ⟨⟨cell_block hb, cell_block hb, cell_block hb, cell_block hb, cell_block hb⟩, fun _ => frozen_block hb⟩
def shutO (o : One) : One := { o with op := false }
def closeK (k : Kno) : Kno := { k with ones := k.ones.map shutO }
def closeJ (k : Kno) (j : Nat) : Kno := { k with ones := (k.ones.take j).map shutO ++ k.ones.drop j }
theorem closeJ_len (k : Kno) (j : Nat) (h : j <= k.ones.length) : (closeJ k j).ones.length = k.ones.length := by simp [closeJ]; omega
theorem closeJ_at (k : Kno) (j : Nat) (h : j < k.ones.length) : (closeJ k j).ones[j]'(by rw [closeJ_len k j (by omega)]; exact h) = k.ones[j] := by
 simp only [closeJ]
 rw [List.getElem_append_right (by simp; omega)]
 simp [Nat.min_eq_left (Nat.le_of_lt h)]
theorem closeJ_next (k : Kno) (j : Nat) (h : j < k.ones.length) : (closeJ k j).ones.set j (shutO k.ones[j]) = (closeJ k (j + 1)).ones := by
 simp only [closeJ]
 rw [List.set_append_right _ _ (by simp; omega), List.length_map, List.length_take, Nat.min_eq_left (Nat.le_of_lt h), Nat.sub_self, List.drop_eq_getElem_cons h, List.set_cons_zero, List.take_succ_eq_append_getElem h]
 simp only [List.map_append, List.map_cons, List.map_nil, List.append_assoc, List.cons_append, List.nil_append]
section
variable {w : World} {C : Nat -> Prop} {k : Kno} {vh vs : Value}
theorem KnAt.drew (h : KnAt w C k vh vs) : KnAt w.drew C k vh vs := h.kept (V := fun _ => False) ((Kp.refl _ _).drew) (fun _ _ f => f)
theorem kclose_any (h : KnAt w C k vh vs) (hl : k.ones.length <= 4194304) :
   Calls Tryz.prog 97 #[.pointer (some ⟨k.kb, 0, none⟩)] w fun e w' => e = .returned (.tuple #[]) /\ KnAt w' C (closeK k) vh vs /\ Kp C w w' := by
 go_enter Tryz.func97, Tryz.ntmps97
 go_wp2
 go_loopw [2] (fun i wr => ∃ j : Nat, j <= k.ones.length /\ i = .int .i64 j /\ KnAt wr C (closeJ k j) vh vs /\ Kp C w wr) (fun i _ => k.ones.length - (intOf i).toNat)
 case atStart => exact ⟨0, Nat.zero_le _, rfl, by simpa [closeJ] using h, Kp.refl _ _⟩
 case round =>
   obtain ⟨j, hj, rfl, hK, kp⟩ := hrel
   have HBk : wr.heap[k.kb]? = some (knObj (closeJ k j) vh vs) := hK.blk
   obtain ⟨⟨c0, c1, c2, c3, c4, c5, c6, c7, c8⟩, -⟩ := kcells HBk
   clear HBk
   obtain ⟨qs, caps, hvs, hls, hcs, hms, hcell⟩ := row1 hK.rows
   rw [closeJ_len k j hj] at hvs hls hcs
   by_cases hlt : j < k.ones.length
   . have hlt' : j < (closeJ k j).ones.length := by rw [closeJ_len k j hj]; exact hlt
     obtain ⟨g, rfl, hg, c9⟩ := hcell j (by simpa using hlt')
     have hob := hK.one _ (List.getElem_mem hlt')
     have hat := closeJ_at k j hlt
     rw [List.getElem_map, hat] at c9
     rw [hat] at hob
     obtain ⟨vl, a, b, c, d, e, f, hb, -, -⟩ := hob.ex
     have hput := hK.putO j hlt' 5 (.bool false) (shutO k.ones[j]) (by rw [hat]; rfl) (by rw [hat]; rfl) (fun vl a b c0 d e f => by rw [hat]; exact ⟨a, b, c0, d, e, f, rfl⟩)
     rw [hat, closeJ_next k j hlt] at hput
     have HP : Hid (KnAt (wr.setCell ⟨k.ones[j].b, 5, none⟩ (.bool false)) C (closeJ k (j + 1)) vh vs) := hput
     have HC : Hid (C k.ones[j].b) := hob.cb
     have HK : Hid (Kp C w wr) := kp
     obtain ⟨⟨o0, o1, o2, o5, o6⟩, oz⟩ := ocells hb
     have oz5 := oz 5
     rw [hvs] at c8
     unfold ptrB at c9
     clear hput hK kp hob hb hat hcell oz hls hcs hms hvs
     go_wp2
     go_roundw
     case rel => exact ⟨j + 1, by omega, by go_num, HP.out, HK.out.put HC.out _⟩
     case measure => simp [intOf]; omega
   . have hje : j = k.ones.length := by omega
     subst hje
     have HP : Hid (KnAt wr C (closeK k) vh vs) := by simpa [closeJ, closeK, Hid] using hK
     have HK : Hid (Kp C w wr) := kp
     rw [hvs] at c8
     clear hK kp hcell hls hcs hms hvs
     go_wp2
     go_end0
     exact ⟨rfl, HP.out, HK.out⟩
def crashK' (k : Kno) : Kno := { closeK k with crashed := true, dead := false, armed := false }
theorem kcrash_any (h : KnAt w C k vh vs) (hl : k.ones.length <= 4194304) :
   Calls Tryz.prog 96 #[.pointer (some ⟨k.kb, 0, none⟩)] w fun e w' => e = .returned (.tuple #[]) /\ KnAt w' C (crashK' k) vh vs /\ Kp C w w' := by
 have hc := kclose_any h hl
 have hcb := h.cb
 clear h
 go_enter Tryz.func96, Tryz.ntmps96
 go_wp2_with (go_at_call 97; refine hc.mono ?_; rintro e w1 ⟨rfl, hK, kp⟩; clear hc; have HB : w1.heap[k.kb]? = some (knObj (closeK k) vh vs) := hK.blk; have z3 := (kcells HB).2 3; have z6 := (kcells HB).2 6; have z7 := (kcells HB).2 7; obtain ⟨⟨c0, c1, c2, c3, c4, c5, c6, c7, c8⟩, -⟩ := kcells HB; have HK : Hid (KnAt w1 C (closeK k) vh vs) := hK; have HP : Hid (Kp C w w1) := kp; clear hK kp HB)
 go_end0
 have h1 := HK.out.putK (k' := { closeK k with crashed := true }) 3 (.bool true) rfl rfl rfl rfl
 have h2 := h1.putK (k' := { closeK k with crashed := true, dead := false }) 6 (.bool false) rfl rfl rfl rfl
 have h3 := h2.putK (k' := crashK' k) 7 (.bool false) rfl rfl rfl rfl
 exact ⟨rfl, h3, ((HP.out.put hcb _).put hcb _).put hcb _⟩
def roomyK (k : Kno) : Bool := decide (8192 + 64 * (k.bytes + 64 * k.ops) <= k.quota)
theorem roomy_any (h : KnAt w C k vh vs) (hb : k.bytes <= 1099511627776) (ho : k.ops <= 1099511627776) :
   Calls Tryz.prog 133 #[.pointer (some ⟨k.kb, 0, none⟩)] w fun e w' => e = .returned (.bool (roomyK k)) /\ ∃ n, w' = w.drewN n := by
 obtain ⟨⟨c0, c1, c2, c3, c4, c5, c6, c7, c8⟩, -⟩ := kcells h.blk
 have HR : Hid (roomyK k = decide (((k.quota : Nat) : Int) ≥ 8192 + 64 * ((k.bytes : Int) + 64 * (k.ops : Int)))) := by
   show _ = _
   unfold roomyK
   rw [Bool.eq_iff_iff]; simp; omega
 clear h
 go_enter Tryz.func133, Tryz.ntmps133
 go_wp2
 go_quiet (fail)
 go_wp2
 go_ret
 exact ⟨ret_bool (by rw [HR.out]), by first | exact ⟨_, rfl⟩ | exact drewN_two _ _ _⟩
def lens (l : List Ox) : Nat := (l.map fun o => o.key.length + o.val.length).sum
def sizesK (k : Kno) (l : List Ox) : Kno := { k with bytes := k.bytes + lens l, ops := k.ops + l.length }
theorem lens_snoc {l : List Ox} {j : Nat} (h : j < l.length) : lens (l.take (j + 1)) = lens (l.take j) + (l[j].key.length + l[j].val.length) := by
 unfold lens
 rw [List.take_succ_eq_append_getElem h, List.map_append, List.sum_append]
 simp
theorem sizes_any (h : KnAt w C k vh vs) (q : Option Addr) (qc : Nat) (l : List Ox) (hl : l.length <= 4194304) (hp : Opp w q l) (hq : ∀ a, q = some a -> 0 < l.length -> ¬ C a.block) (hb : k.bytes + lens l <= 1099511627776) (ho : k.ops + l.length <= 1099511627776) :
   Calls Tryz.prog 136 #[.pointer (some ⟨k.kb, 0, none⟩), .slice q l.length qc] w fun e w' => e = .returned (.tuple #[]) /\ KnAt w' C (sizesK k l) vh vs /\ Kp (fun i => i = k.kb) w w' := by
 have hne : Hid (∀ a, q = some a -> 0 < l.length -> a.block ≠ k.kb) := fun a ha h0 e => hq a ha h0 (by rw [e]; exact h.cb)
 go_enter Tryz.func136, Tryz.ntmps136
 go_wp2
 go_loopw [4] (fun i wr => ∃ j : Nat, j <= l.length /\ i = .int .i64 j /\ KnAt wr C (sizesK k (l.take j)) vh vs /\ Kp (fun i => i = k.kb) w wr) (fun i _ => l.length - (intOf i).toNat)
 case atStart => exact ⟨0, Nat.zero_le _, rfl, by simpa [sizesK, lens] using h, Kp.refl _ _⟩
 case round =>
   obtain ⟨j, hj, rfl, hK, kp⟩ := hrel
   by_cases hlt : j < l.length
   . obtain ⟨g, off, rfl, d0, d1, d2⟩ := hp j hlt
     have hgne := hne.out _ rfl (by omega)
     simp only at hgne
     have hgl := World.block_lt_of_cell? w ⟨g, off + j * 3, none⟩ d0
     have hbk := kp.block g hgl hgne
     have d0' : wr.cell? ⟨g, off + j * 3, none⟩ = some (str l[j].key) := by simp only [World.cell?, hbk] at d0 ⊢; exact d0
     have d1' : wr.cell? ⟨g, off + j * 3 + 1, none⟩ = some (str l[j].val) := by simp only [World.cell?, hbk] at d1 ⊢; exact d1
     have hsn := lens_snoc hlt
     have hle : lens (l.take (j + 1)) <= lens l := by
       unfold lens
       conv => rhs; rw [<- List.take_append_drop (j + 1) l]
       rw [List.map_append, List.sum_append]; omega
     have hop : (l.take j).length = j := by rw [List.length_take]; omega
     have HB : wr.heap[k.kb]? = some (.cells #[.int .i64 k.quota, vh, .int .i64 k.safe, .bool k.crashed, .int .i64 (k.bytes + lens (l.take j) : Nat), .int .i64 (k.ops + j : Nat), .bool k.dead, .bool k.armed, vs] 113) := by
       have := hK.blk
       simp only [sizesK, hop] at this
       exact this
     have z4 := (kcells HB).2 4
     have z5 := (kcells HB).2 5
     obtain ⟨⟨c0, c1, c2, c3, c4, c5, c6, c7, c8⟩, -⟩ := kcells HB
     have hs1 : (⟨l[j].key.toArray⟩ : ByteArray).size = l[j].key.length := rfl
     have hs2 : (⟨l[j].val.toArray⟩ : ByteArray).size = l[j].val.length := rfl
     have HK : Hid (KnAt wr C (sizesK k (l.take j)) vh vs) := hK
     have HP : Hid (Kp (fun i => i = k.kb) w wr) := kp
     have hE4 : (((k.bytes + lens (l.take (j + 1)) : Nat)) : Int) = ((k.bytes + lens (l.take j) : Nat) : Int) + (l[j].key.length : Int) + (l[j].val.length : Int) := by rw [hsn]; omega
     have hE5 : (((k.ops + (j + 1) : Nat)) : Int) = ((k.ops + j : Nat) : Int) + 1 := by omega
     have hK1 := hK.drew.putK (k' := { sizesK k (l.take j) with bytes := k.bytes + lens (l.take (j + 1)) }) 4 (.int .i64 (k.bytes + lens (l.take (j + 1)) : Nat)) rfl rfl rfl rfl
     have hK2 := hK1.putK (k' := sizesK k (l.take (j + 1))) 5 (.int .i64 (k.ops + (j + 1) : Nat)) rfl rfl rfl (by simp only [sizesK, List.length_take, Nat.min_eq_left (show j + 1 <= l.length from hlt)]; rfl)
     have HK2 : Hid (KnAt ((wr.drew.setCell ⟨k.kb, 4, none⟩ (.int .i64 (((k.bytes + lens (l.take j) : Nat) : Int) + (l[j].key.length : Int) + (l[j].val.length : Int)))).setCell ⟨k.kb, 5, none⟩ (.int .i64 (((k.ops + j : Nat) : Int) + 1))) C (sizesK k (l.take (j + 1))) vh vs) := by
       show KnAt _ _ _ _ _
       rw [<- hE4, <- hE5]
       exact hK2
     clear hK kp d0 d1 d2 hbk hK1 hK2 HB hE4 hE5
     go_wp2
     go_region
     go_wp2
     go_roundw
     case rel => exact ⟨j + 1, by omega, by go_num, HK2.out, ((HP.out.drew).put rfl _).put rfl _⟩
     case measure => simp [intOf]; omega
   . rw [List.take_of_length_le (by omega)] at hK
     go_wp2
     go_end0
     exact ⟨rfl, hK, kp⟩
end
def diedB (k : Kno) (d : Dk) : Bool := if !k.armed || k.dead then k.dead else d.dead
def diedK (k : Kno) (d : Dk) : Kno := if !k.armed || k.dead then k else if d.dead then { k with dead := true, armed := false } else k
def endsB (k : Kno) (d : Dk) (e want : Int) (full : Bool) : Bool := if diedB k d then e == 4 else if e == 3 && full && want == 0 then !roomyK k else e == want
section
variable {w0 w : World} {C D : Nat -> Prop} {bk bx bd : Nat} {vy : Value} {d : Dk} {zs : List (Nat × St)} {k : Kno}
theorem died_any (h : Dv w0 C w D bk bx bd vy d zs k) (hok : d.Ok) (hl : d.files.length <= 4194303) :
   Calls Tryz.prog 132 #[.pointer (some ⟨bk, 0, none⟩)] w fun e w' => e = .returned (.bool (diedB k d)) /\ DvJ w0 C w D bk bx bd vy d zs (diedK k d) w' := by
 obtain ⟨C3, C4, part, vh, vs, h1, h2, h3, h4, h5, h6, h7⟩ := h.dka.ex
 have hX := h7.x
 obtain ⟨⟨c0, c1, c2, c3, c4, c5, c6, c7, c8⟩, -⟩ := kcells h6.blk
 obtain ⟨m0, m1, m2, -⟩ := cells3 h4
 unfold ptrB at m0 m2
 have HH : Hid (Dv w0 C w D bk bx bd vy d zs k) := h
 cases ha : k.armed
 . have HB : Hid (diedB k d = k.dead /\ diedK k d = k) := by simp [Hid, diedB, diedK, ha]
   rw [HB.out.1, HB.out.2]
   rw [ha] at c7
   clear HB h4 h6 h7 hX h
   go_enter Tryz.func132, Tryz.ntmps132
   go_wp2
   go_ret
   exact ⟨rfl, D, fun i s => .inl s, HH.out, Kp.refl _ _⟩
 . rw [ha] at c7
   cases hd : k.dead
   . rw [hd] at c6
     cases hdd : d.dead
     . have HB : Hid (diedB k d = false /\ diedK k d = k) := by simp [Hid, diedB, diedK, ha, hd, hdd]
       rw [HB.out.1, HB.out.2]
       have hN := xNames_any bx d _ w hX hok hl hdd
       have HC : Hid (∀ w1, Below w.heap.size w w1 -> w1.cell? ⟨bk, 2, none⟩ = some (.pointer (some ⟨k.kb, 0, none⟩)) /\ w1.cell? ⟨k.kb, 6, none⟩ = some (.bool false)) := fun w1 hb => ⟨cell_below hb m2, cell_below hb c6⟩
       clear HB h4 h6 h7 hX h
       go_enter Tryz.func132, Tryz.ntmps132
       go_wp2_with (go_at_call 57; refine hN.mono ?_; rintro e w1 ⟨v, rfl, hb, ho⟩; clear hN; obtain ⟨n2, n6⟩ := HC.out w1 hb)
       go_ret
       exact ⟨rfl, D, fun i s => .inl s, HH.out.below hb, Kp.of_below hb⟩
     . have HB : Hid (diedB k d = true /\ diedK k d = { k with dead := true, armed := false }) := by simp [Hid, diedB, diedK, ha, hd, hdd]
       rw [HB.out.1, HB.out.2]
       have hN := (xNames_dead bx d _ w hX hdd).mono (R' := fun e w' => e = .returned (.tuple #[.slice none 0 0, .int .i64 4]) /\ w = w') (fun _ _ ⟨a, b⟩ => ⟨a, b.symm⟩)
       have z6 := (kcells h6.blk).2 6
       have z7 := (kcells h6.blk).2 7
       have HK : Hid (KnAt w C3 k vh vs) := h6
       have HR : Hid (Room w C4 bx bd part d zs) := h7
       have hne : bk ≠ k.kb := fun e => h5.2.1 (by rw [e]; exact h6.cb)
       have H4 : Hid (w.heap[bk]? = some (.cells #[ptrB bx, vy, ptrB k.kb] 100)) := h4
       clear HB h4 h6 h7 hX h
       go_enter Tryz.func132, Tryz.ntmps132
       go_wp2_with (go_at_call 57; refine hN.mono ?_; rintro e w1 ⟨rfl, rfl⟩; clear hN)
       go_ret
       have k1 := HK.out.putK (k' := { k with dead := true }) 6 (.bool true) rfl rfl rfl (by rw [hd]; rfl)
       have k2 := k1.putK (k' := { k with dead := true, armed := false }) 7 (.bool false) rfl rfl rfl rfl
       have kp : Kp C3 w _ := ((Kp.refl C3 w).put (o := 6) HK.out.cb (.bool true)).put (o := 7) HK.out.cb (.bool false)
       obtain ⟨a, b⟩ := Dka.know (k' := { k with dead := true, armed := false }) h1 h2 h3 H4.out h5 (k2.mono (fun i _ s => .inl s)) HR.out kp
       exact ⟨rfl, HH.out.next b a⟩
   . have HB : Hid (diedB k d = true /\ diedK k d = k) := by simp [Hid, diedB, diedK, hd]
     rw [HB.out.1, HB.out.2]
     rw [hd] at c6
     clear HB h4 h6 h7 hX h
     go_enter Tryz.func132, Tryz.ntmps132
     go_wp2
     go_ret
     exact ⟨rfl, D, fun i s => .inl s, HH.out, Kp.refl _ _⟩
theorem diedK_same (k : Kno) (d : Dk) : roomyK (diedK k d) = roomyK k /\ (diedK k d).bytes = k.bytes /\ (diedK k d).ops = k.ops /\ (diedK k d).kb = k.kb := by
 unfold diedK
 split
 . exact ⟨rfl, rfl, rfl, rfl⟩
 . split <;> exact ⟨rfl, rfl, rfl, rfl⟩
theorem ends_any (h : Dv w0 C w D bk bx bd vy d zs k) (hok : d.Ok) (hl : d.files.length <= 4194303) (hb : k.bytes <= 1099511627776) (ho : k.ops <= 1099511627776) (e want : Int) (full : Bool) :
   Calls Tryz.prog 98 #[.pointer (some ⟨bk, 0, none⟩), .int .i64 e, .int .i64 want, .bool full] w fun r w' => r = .returned (.bool (endsB k d e want full)) /\ DvJ w0 C w D bk bx bd vy d zs (diedK k d) w' := by
 have hD := died_any h hok hl
 obtain ⟨hs1, hs2, hs3, hs4⟩ := diedK_same k d
 have HS : Hid (roomyK (diedK k d) = roomyK k) := hs1
 have hb' : (diedK k d).bytes <= 1099511627776 := by omega
 have ho' : (diedK k d).ops <= 1099511627776 := by omega
 clear h hs1 hs2 hs3 hs4
 cases hdi : diedB k d
 . rw [hdi] at hD
   by_cases hc : e = 3 /\ full = true /\ want = 0
   . obtain ⟨rfl, rfl, rfl⟩ := hc
     have HE : Hid (endsB k d 3 0 true = !roomyK k) := by simp [Hid, endsB, hdi]
     rw [HE.out]
     clear HE
     generalize diedK k d = k2 at *
     go_enter Tryz.func98, Tryz.ntmps98
     go_wp2_with (first
       | (go_at_call 132; refine hD.mono ?_; rintro e w1 ⟨rfl, D', hg, hv, hkd⟩; clear hD; obtain ⟨C3, C4, part, vh, vs, h1, h2, h3, h4, h5, h6, h7⟩ := hv.dka.ex; obtain ⟨m0, m1, m2, -⟩ := cells3 h4; unfold ptrB at m2; have hR := roomy_any h6 hb' ho'; clear h4 h5 h6 h7)
       | (go_at_call 133; refine hR.mono ?_; rintro e w2 ⟨rfl, n, hw2⟩; clear hR))
     go_ret
     exact ⟨ret_bool (by rw [HS.out]), D', hg, hv.below (((Kp.refl (fun _ => False) w1).drewN n).below), hkd.drewN n⟩
   . have HE : Hid (endsB k d e want full = (e == want)) := by
       show _ = _
       simp only [endsB, hdi, Bool.false_eq_true, if_false]
       rw [if_neg]
       simpa [and_assoc] using hc
     rw [HE.out]
     clear HE
     generalize diedK k d = k2 at *
     by_cases h3 : e = 3
     . subst h3
       cases full
       . go_enter Tryz.func98, Tryz.ntmps98
         go_wp2_with (go_at_call 132; refine hD.mono ?_; rintro e w1 ⟨rfl, hv⟩; clear hD)
         go_ret
         exact ⟨rfl, hv⟩
       . have hw : ¬ want = 0 := fun e => hc ⟨rfl, rfl, e⟩
         clear hc
         go_enter Tryz.func98, Tryz.ntmps98
         go_wp2_with (go_at_call 132; refine hD.mono ?_; rintro e w1 ⟨rfl, hv⟩; clear hD)
         go_ret
         exact ⟨rfl, hv⟩
     . clear hc
       go_enter Tryz.func98, Tryz.ntmps98
       go_wp2_with (go_at_call 132; refine hD.mono ?_; rintro e w1 ⟨rfl, hv⟩; clear hD)
       go_ret
       exact ⟨rfl, hv⟩
 . rw [hdi] at hD
   have HE : Hid (endsB k d e want full = (e == 4)) := by simp [Hid, endsB, hdi]
   rw [HE.out]
   clear HE
   generalize diedK k d = k2 at *
   go_enter Tryz.func98, Tryz.ntmps98
   go_wp2_with (go_at_call 132; refine hD.mono ?_; rintro e w1 ⟨rfl, hv⟩; clear hD)
   go_ret
   exact ⟨rfl, hv⟩
def shutX (k : Kno) (o : One) : Int × Bool := if o.op = false then (6, true) else if k.dead then (4, true) else (0, false)
theorem shut_any (h : Dv w0 C w D bk bx bd vy d zs k) (j : Nat) (hj : j < k.ones.length) :
   Calls Tryz.prog 103 #[.pointer (some ⟨bk, 0, none⟩), .pointer (some ⟨k.ones[j].b, 0, none⟩)] w fun e w' => e = .returned (.tuple #[.int .i64 (shutX k k.ones[j]).1, .bool (shutX k k.ones[j]).2]) /\ w = w' := by
 obtain ⟨C3, C4, part, vh, vs, h1, h2, h3, h4, h5, h6, h7⟩ := h.dka.ex
 obtain ⟨⟨c0, c1, c2, c3, c4, c5, c6, c7, c8⟩, -⟩ := kcells h6.blk
 obtain ⟨m0, m1, m2, -⟩ := cells3 h4
 obtain ⟨vl, a, b, c, d', e, f, hb, -, -⟩ := (h6.one _ (List.getElem_mem hj)).ex
 obtain ⟨⟨o0, o1, o2, o5, o6⟩, -⟩ := ocells hb
 unfold ptrB at m2
 clear h4 h5 h6 h7 h hb
 generalize k.ones[j] = o at *
 cases ho : o.op
 . have HX : Hid (shutX k o = (6, true)) := by simp [Hid, shutX, ho]
   rw [HX.out]
   rw [ho] at o5
   go_enter Tryz.func103, Tryz.ntmps103
   go_wp2
   go_ret2
   exact ⟨rfl, rfl⟩
 . rw [ho] at o5
   cases hd : k.dead
   . have HX : Hid (shutX k o = (0, false)) := by simp [Hid, shutX, ho, hd]
     rw [HX.out]
     rw [hd] at c6
     go_enter Tryz.func103, Tryz.ntmps103
     go_wp2
     go_ret2
     exact ⟨rfl, rfl⟩
   . have HX : Hid (shutX k o = (4, true)) := by simp [Hid, shutX, ho, hd]
     rw [HX.out]
     rw [hd] at c6
     go_enter Tryz.func103, Tryz.ntmps103
     go_wp2
     go_ret2
     exact ⟨rfl, rfl⟩
end
end Go.Proofs.YtfghgmojnffgnaaGreat
