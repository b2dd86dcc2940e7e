import Derived.Test.YtfghgmojnffgnaaGreatPkBQ
import Derived.Test.YtfghgmojnffgnaaGreatPkBR
import Derived.Test.YtfghgmojnffgnaaGreatPkBS
import Derived.Test.YtfghgmojnffgnaaGreatPkBT
import Derived.Test.YtfghgmojnffgnaaGreatPkBU
import Derived.Test.YtfghgmojnffgnaaGreatPkBV
import Derived.Test.YtfghgmojnffgnaaGreatPkBW
import Derived.Test.YtfghgmojnffgnaaGreatPkAZ
set_option maxHeartbeats 4000000
set_option maxRecDepth 20000
namespace Go.Proofs.YtfghgmojnffgnaaGreat.M
open Go.RowKit Go.Maps Go.Sort
structure OpV where
 K : Int
 D : Int
 A : Int
 B : Value
 S : Nm
 T : Nm
 qo : Option Addr
 oc : Nat
 os : List Ox
 q : Option Addr
 qc : Nat
 ks : List Int
 old : Bool
def OpV.cells (o : OpV) : Array Value := #[.int .i64 o.K, .int .i64 o.D, .int .i64 o.A, o.B, str o.S, str o.T, .slice o.qo o.os.length o.oc, .slice o.q o.ks.length o.qc, .bool o.old]
def OpV.wt (o : OpV) : Nat := 1 + o.S.length + o.T.length + lens o.os + o.os.length
structure OpOk (w : World) (own : Nat -> Nat) (o : OpV) : Prop where
 d0 : -9223372036854775808 <= o.D
 d1 : o.D <= 9223372036854775807
 a1 : o.A <= 9223372036854775807
 s : o.S.length <= 1048576
 t : o.T.length <= 1048576
 kl : o.ks.length <= 4194304
 ints : Intp w o.q o.ks
 q0 : o.q = none -> o.ks = [] /\ o.qc = 0
 q1 : ∀ a, o.q = some a -> 0 < o.ks.length -> own a.block = 0 /\ a.block < w.heap.size
 ol : o.os.length <= 1048576
 oll : lens o.os <= 1048576
 opp : Opp w o.qo o.os
 oq0 : o.qo = none -> o.os = [] /\ o.oc = 0
 oq1 : ∀ a, o.qo = some a -> 0 < o.os.length -> own a.block = 0 /\ a.block < w.heap.size
theorem OpOk.step {w w' : World} {own own' : Nat -> Nat} {o : OpV} (h : OpOk w own o) (kp : Kp (fun k => own k ≠ 0) w w') (ho : ∀ k, k < w.heap.size -> own' k = own k) : OpOk w' own' o :=
 ⟨h.d0, h.d1, h.a1, h.s, h.t, h.kl, h.ints.kept kp (fun a ha h0 e => e (h.q1 a ha h0).1), h.q0, fun a ha h0 => ⟨(ho _ (h.q1 a ha h0).2).trans (h.q1 a ha h0).1, Nat.lt_of_lt_of_le (h.q1 a ha h0).2 kp.size⟩, h.ol, h.oll, h.opp.kept kp (fun a ha h0 e => e (h.oq1 a ha h0).1), h.oq0, fun a ha h0 => ⟨(ho _ (h.oq1 a ha h0).2).trans (h.oq1 a ha h0).1, Nat.lt_of_lt_of_le (h.oq1 a ha h0).2 kp.size⟩⟩
theorem lens_mem : ∀ {l : List Ox} {x : Ox}, x ∈ l -> x.key.length + x.val.length <= lens l
 | [], _, h => by cases h
 | y :: r, x, h => by
   have e : lens (y :: r) = y.key.length + y.val.length + lens r := by simp [lens]
   rcases List.mem_cons.1 h with rfl | h
   . omega
   . have := lens_mem h; omega
theorem oxlen {l : List Ox} (h : lens l <= 1048576) : OxLen l := fun x hx => by
 have := lens_mem hx
 exact ⟨by omega, by omega⟩
section
variable {w w' : World} {own : Nat -> Nat} {bW N : Nat} {rs : List DR} {ts : List TX} {nxt : Nat} {vd vt vm : Value} {zz : PX}
theorem step_quiet' (h : Inv w own bW N rs ts nxt vd vt vm zz) (hs : ∀ r ∈ rs, r.dx = r.dy) (kb : Below w.heap.size w w') {M : Nat} (hM : N + 1 <= M) : StepM w own bW M rs ts nxt zz w' := (step_quiet h hs kb).more hM
theorem stepM_behind {w1 : World} {M : Nat} (k : Below w.heap.size w w1) (h : StepM w1 (recolor own w 0) bW M rs ts nxt zz w') : StepM w own bW M rs ts nxt zz w' := by
 obtain ⟨kp, own', rs', ts', nxt', vd', vt', vm', zz', L⟩ := h
 have hs := k.size
 refine ⟨(Kp.of_below k).trans kp (fun i hi e => ?_), own', rs', ts', nxt', vd', vt', vm', zz', L.inv, fun i hi => ?_, L.len, L.sync, L.tlen, L.plen, L.nx⟩
 . rw [recolor_old hi] at e; exact e
 . rw [L.old i (by omega), recolor_old hi]
theorem do_plain (h : Inv w own bW N rs ts nxt vd vt vm zz) (i : Nat) (hi : i < rs.length) (hkn : rs[i].kn = none) (hsy : ∀ r ∈ rs, r.dx = r.dy) (hN : N <= 4194300) (hts : ts.length <= 16777216) (hnx : nxt <= 1099511627770) (o : OpV) (ho : OpOk w own o) (h2 : 2 <= o.K) (h8 : o.K <= 8) :
   Calls Tryz.prog 24 #[ptrB bW, ptrB rs[i].bk, .agg o.cells] w fun e w' => e = .returned (.bool true) /\ StepM w own bW (N + o.wt) rs ts nxt zz w' := by
 have hs := ho.s
 have ht := ho.t
 have hw : N + 1 <= N + o.wt := by unfold OpV.wt; omega
 have H : Calls Tryz.prog 24 #[ptrB bW, ptrB rs[i].bk, .agg o.cells] w fun e w' => e = .returned (.bool true) /\ Step w own bW N rs ts nxt zz w' := by
   unfold OpV.cells
   rcases (by omega : o.K = 2 \/ o.K = 3 \/ o.K = 4 \/ o.K = 5 \/ o.K = 6 \/ o.K = 7 \/ o.K = 8) with e | e | e | e | e | e | e <;> rw [e]
   . exact plain_write h i hi hkn hsy hN _ _ (by omega) (by omega) _ _ _ _ _ _
   . exact plain_sync h i hi hkn hsy hN _ _ (by omega) _ _ _ _ _ _
   . exact plain_rename h i hi hkn hsy hN _ _ (by omega) (by omega) _ _ _ _ _ _
   . exact plain_remove h i hi hkn hsy hN _ _ (by omega) _ _ _ _ _ _
   . exact plain_read h i hi hkn hsy hN _ _ (by omega) _ _ _ _ _ _
   . exact plain_safe h i hi hkn hsy hN _ _ (by omega) _ _ _ _ _ _
   . cases hd : rs[i].dx.dead
     . exact plain_names_alive h i hi hkn hd hsy hN hts hnx _ _ _ _ _ _ _ _
     . exact plain_names_dead h i hi hkn hd hsy hts hnx _ _ _ _ _ _ _ _
 exact H.mono (fun e w' h => ⟨h.1, h.2.more hw⟩)
theorem Cw.ne {i k : Nat} (h : Cw own i w k) : own k ≠ 0 := by rcases h.1 with s | s | s <;> omega
theorem do_power (h : Inv w own bW N rs ts nxt vd vt vm zz) (i : Nat) (hi : i < rs.length) (hsy : ∀ r ∈ rs, r.dx = r.dy) (hN : N <= 4194000) (o : OpV) (ho : OpOk w own o) (h2 : 9 <= o.K) (h8 : o.K <= 10) :
   Calls Tryz.prog 62 #[ptrB rs[i].bk, .agg o.cells] w fun e w' => e = .returned (.bool true) /\ StepM w own bW (N + o.wt) rs ts nxt zz w' := by
 have hw : N + 1 <= N + o.wt := by unfold OpV.wt; omega
 rcases hkn : rs[i].kn with _ | q
 . have H : Calls Tryz.prog 62 #[ptrB rs[i].bk, .agg o.cells] w fun e w' => e = .returned (.bool true) /\ Step w own bW N rs ts nxt zz w' := by
     unfold OpV.cells
     rcases (by omega : o.K = 9 \/ o.K = 10) with e | e <;> rw [e]
     . exact power_fuse h i hi hkn hsy _ _ _ ho.a1 _ _ _ _ _
     . exact power_crash h i hi hkn hsy (by omega) _ _ _ _ _ ho.kl ho.ints ho.q0 ho.q1 _ _ _ _ _
   exact H.mono (fun e w' h => ⟨h.1, h.2.more hw⟩)
 . have hk := (h.disk i hi).2 q hkn
   have hd := h.dka i hi hkn
   have ht := hk.turn
   have h9 := hk.ones
   have H : Calls Tryz.prog 62 #[ptrB rs[i].bk, .agg o.cells] w (Out w (Cw own i w) rs[i].bk rs[i].bx q.bd (ptrB rs[i].bY) q.d q.k 0 0) := by
     unfold OpV.cells
     rcases (by omega : o.K = 9 \/ o.K = 10) with e | e <;> rw [e]
     . exact power_fuseK hd (fun k s => s.2) hk.inv _ _ _ _ _ _ _ _ ho.a1
     . exact power_crashK hd (fun k s => s.2) hk.inv (by omega) (by omega) _ _ _ _ _ _ _ _ _ _ ho.kl ho.ints ho.q0 (fun a ha h0 => ⟨fun s => s.ne (ho.q1 a ha h0).1, (ho.q1 a ha h0).2⟩)
   exact H.mono (fun e w' hO => h.outK hsy i hi hO ht hk.bytes hk.ops h9 (by omega) (by omega) (by omega))
theorem do_open (h : Inv w own bW N rs ts nxt vd vt vm zz) (i : Nat) (hi : i < rs.length) (hsy : ∀ r ∈ rs, r.dx = r.dy) (hN : N <= 1048576) (o : OpV) (hK : o.K = 11) :
   Calls Tryz.prog 63 #[ptrB rs[i].bk, .agg o.cells] w fun e w' => e = .returned (.bool true) /\ StepM w own bW (N + o.wt) rs ts nxt zz w' := by
 have hw : N + 1 <= N + o.wt := by unfold OpV.wt; omega
 rcases hkn : rs[i].kn with _ | q
 . have hd := (h.disk i hi).1 hkn
   have hxy := hsy _ (List.getElem_mem hi)
   have hY := hd.y
   rw [<- hxy] at hY
   have H := lopenP (C := Cw own i w) (C4 := fun k => own k = 4 + 3 * i /\ k < w.heap.size) (C5 := fun k => own k = 5 + 3 * i) hd.blk ⟨.inl hd.ck, lt_of_block hd.blk⟩ (fun k s => ⟨.inr (.inl s.1), s.2⟩) (fun k s t => by have := s.1; omega) (fun s => by have := s.1; have := hd.ck; omega) (hd.x.mono (fun k hk s => ⟨s, hk⟩)) hY hd.okx hd.fx.2.1 (by have := hd.fx.2.2; omega) (fun k s => s.2) (.int .i64 o.D) o.B (str o.S) (str o.T) (.slice o.qo o.os.length o.oc) (.slice o.q o.ks.length o.qc) (.bool o.old) o.A
   unfold OpV.cells
   rw [hK]
   refine H.mono ?_
   rintro e w' (⟨rfl, hb⟩ | ⟨bd, k, hO, e1, e2, e3⟩)
   . exact ⟨rfl, step_quiet' h hsy hb hw⟩
   . exact h.outK hsy i hi hO hd.fx.2.2 (by omega) (by omega) (by rw [e3]; simp) hw (by omega) (by omega)
 . have hk := (h.disk i hi).2 q hkn
   have ht := hk.turn
   have h9 := hk.ones
   have hb := hk.bytes
   have ho := hk.ops
   unfold OpV.cells
   rw [hK]
   exact (lopenK (h.dka i hi hkn) (fun k s => s.2) hk.inv (by omega) (by omega) (by omega) (by omega) (.int .i64 o.D) o.B (str o.S) (str o.T) (.slice o.qo o.os.length o.oc) (.slice o.q o.ks.length o.qc) (.bool o.old) o.A).mono (fun e w' hO => h.outK hsy i hi hO ht hb ho h9 hw (by omega) (by omega))
theorem which {P : Prop} (old : Bool) (n : Nat) (hn : 0 < n) (ha : old = false -> ∀ j, j + 1 = n -> P) (hb : old = true -> ∀ j, j + 1 = n -> n <= 1 -> P) (hc : old = true -> ∀ j, j + 2 = n -> P) : P := by
 cases old
 . exact ha rfl (n - 1) (by omega)
 . by_cases h1 : n <= 1
   . exact hb rfl (n - 1) (by omega) h1
   . exact hc rfl (n - 2) (by omega)
theorem do_store (h : Inv w own bW N rs ts nxt vd vt vm zz) (i : Nat) (hi : i < rs.length) {q : KR} (hkn : rs[i].kn = some q) (hn : 0 < q.k.ones.length) (hsy : ∀ r ∈ rs, r.dx = r.dy) (hN : N <= 1048576) (hps : zz.ps.length <= 16777216) (hnx : nxt <= 1099511627770) (o : OpV) (ho : OpOk w own o) (h2 : 12 <= o.K) (h8 : o.K <= 17) :
   Calls Tryz.prog 64 #[ptrB bW, ptrB rs[i].bk, .agg o.cells] w fun e w' => e = .returned (.bool true) /\ StepM w own bW (N + o.wt) rs ts nxt zz w' := by
 have hk := (h.disk i hi).2 q hkn
 have ht := hk.turn
 have h9 := hk.ones
 have hb := hk.bytes
 have hop := hk.ops
 have hd := h.dka i hi hkn
 have hw : N + 1 <= N + o.wt := by unfold OpV.wt; omega
 have hC : ∀ k, Cw own i w k -> k < w.heap.size := fun k s => s.2
 have hq : ∀ a, o.qo = some a -> 0 < o.os.length -> ¬ Cw own i w a.block /\ a.block < w.heap.size := fun a ha h0 => ⟨fun s => s.ne (ho.oq1 a ha h0).1, (ho.oq1 a ha h0).2⟩
 have hon : q.k.ones.length <= 4194000 := by omega
 have hb2 : q.k.bytes <= 2097152 := by omega
 have ho2 : q.k.ops <= 1048576 := by omega
 have hfin : ∀ {dy db : Nat}, dy <= o.wt -> db <= o.wt -> ∀ e w', Out w (Cw own i w) rs[i].bk rs[i].bx q.bd (ptrB rs[i].bY) q.d q.k dy db e w' -> e = .returned (.bool true) /\ StepM w own bW (N + o.wt) rs ts nxt zz w' := fun h1 h2 e w' hO => h.outK hsy i hi hO ht hb hop h9 hw (by omega) (by omega)
 have hwt : 1 <= o.wt /\ o.S.length + o.T.length <= o.wt /\ o.os.length <= o.wt /\ lens o.os <= o.wt := by unfold OpV.wt; omega
 have hs := ho.s
 have hT := ho.t
 have hol : o.os.length <= 4194304 := by have := ho.ol; omega
 unfold OpV.cells
 rcases (by omega : o.K = 12 \/ o.K = 13 \/ o.K = 14 \/ o.K = 15 \/ o.K = 16 \/ o.K = 17) with e | e | e | e | e | e <;> rw [e]
 . refine which o.old _ hn (fun e j hj => ?_) (fun e j hj h1 => ?_) (fun e j hj => ?_) <;> rw [e]
   . exact (st_put_a hd hC hk.inv bW j hj hon _ _ _ _ _ _ _ _ _ hol ho.opp ho.oq0 hs hT hb2 ho2).mono (hfin (by omega) (by omega))
   . exact (st_put_b hd hC hk.inv bW j hj h1 hon _ _ _ _ _ _ _ _ _ hol ho.opp ho.oq0 hs hT hb2 ho2).mono (hfin (by omega) (by omega))
   . exact (st_put_c hd hC hk.inv bW j hj hon _ _ _ _ _ _ _ _ _ hol ho.opp ho.oq0 hs hT hb2 ho2).mono (hfin (by omega) (by omega))
 . refine which o.old _ hn (fun e j hj => ?_) (fun e j hj h1 => ?_) (fun e j hj => ?_) <;> rw [e]
   . exact (st_del_a hd hC hk.inv bW j hj hon _ _ _ _ _ _ _ _ _ hol ho.opp ho.oq0 hs hb2 ho2).mono (hfin (by omega) (by omega))
   . exact (st_del_b hd hC hk.inv bW j hj h1 hon _ _ _ _ _ _ _ _ _ hol ho.opp ho.oq0 hs hb2 ho2).mono (hfin (by omega) (by omega))
   . exact (st_del_c hd hC hk.inv bW j hj hon _ _ _ _ _ _ _ _ _ hol ho.opp ho.oq0 hs hb2 ho2).mono (hfin (by omega) (by omega))
 . refine which o.old _ hn (fun e j hj => ?_) (fun e j hj h1 => ?_) (fun e j hj => ?_) <;> rw [e]
   . exact (st_bat_a hd hC hk.inv bW j hj hon _ _ _ _ _ _ _ _ _ ho.ol ho.oll (oxlen ho.oll) ho.opp ho.oq0 hq hb2 ho2).mono (hfin (by omega) (by omega))
   . exact (st_bat_b hd hC hk.inv bW j hj h1 hon _ _ _ _ _ _ _ _ _ ho.ol ho.oll (oxlen ho.oll) ho.opp ho.oq0 hq hb2 ho2).mono (hfin (by omega) (by omega))
   . exact (st_bat_c hd hC hk.inv bW j hj hon _ _ _ _ _ _ _ _ _ ho.ol ho.oll (oxlen ho.oll) ho.opp ho.oq0 hq hb2 ho2).mono (hfin (by omega) (by omega))
 . refine which o.old _ hn (fun e j hj => ?_) (fun e j hj h1 => ?_) (fun e j hj => ?_) <;> rw [e]
   . rcases shut_cases q.k (q.k.ones[j]'(by omega)) with ⟨R, e⟩ | e
     . exact (st_getS_a hd hC hk.inv bW j hj hon _ _ _ _ _ _ _ _ _ hs R (fun _ => e)).mono (hfin (by omega) (by omega))
     . exact (st_getO_a hd hC hk.inv bW j hj hon _ _ _ _ _ _ _ _ _ hs hb2 ho2 (fun _ => e)).mono (hfin (by omega) (by omega))
   . rcases shut_cases q.k (q.k.ones[j]'(by omega)) with ⟨R, e⟩ | e
     . exact (st_getS_b hd hC hk.inv bW j hj h1 hon _ _ _ _ _ _ _ _ _ hs R (fun _ => e)).mono (hfin (by omega) (by omega))
     . exact (st_getO_b hd hC hk.inv bW j hj h1 hon _ _ _ _ _ _ _ _ _ hs hb2 ho2 (fun _ => e)).mono (hfin (by omega) (by omega))
   . rcases shut_cases q.k (q.k.ones[j]'(by omega)) with ⟨R, e⟩ | e
     . exact (st_getS_c hd hC hk.inv bW j hj hon _ _ _ _ _ _ _ _ _ hs R (fun _ => e)).mono (hfin (by omega) (by omega))
     . exact (st_getO_c hd hC hk.inv bW j hj hon _ _ _ _ _ _ _ _ _ hs hb2 ho2 (fun _ => e)).mono (hfin (by omega) (by omega))
 . have hkeep : ∀ {w2 w' : World} {vl : Value}, Below w.heap.size w w2 -> (∀ g, vl.ownBlock = some g -> w.heap.size + 1 <= g) -> Kp (fun k => recolor own w 0 k = 1 \/ vl.ownBlock = some k) w2 w' -> ∀ b, b < w2.heap.size -> (Cw own i w b \/ b = w.heap.size) -> w'.heap[b]? = w2.heap[b]? := fun hb hge kp b hlt hc => by
     refine kp.block b hlt ?_
     rintro (s | s)
     . rcases hc with hc | hc
       . rw [recolor_old hc.2] at s
         rcases hc.1 with c | c | c <;> omega
       . rw [recolor_new (by omega)] at s
         cases s
     . have := hge b s
       rcases hc with hc | hc
       . have := hc.2; omega
       . omega
   have hal : ∀ j (hj : j < q.k.ones.length), shutX q.k q.k.ones[j] = (0, false) -> q.d.dead = false := fun j hj e => by rw [<- hk.inv.dead]; exact (shut_open e).2
   have hll : ∀ j (hj : j < q.k.ones.length), shutX q.k q.k.ones[j] = (0, false) -> q.k.ones[j].l.length <= 4194000 := fun j hj e => by
     have hz : j < q.zs.length := by rw [hk.inv.zlen]; exact hj
     have h3 := (hk.inv.open' j hj hz (shut_open e).1).2.2.1
     have h4 := (hk.inv.mok q.zs[j] (List.getElem_mem hz)).2
     rw [h3] at h4
     have h5 := wtM_len q.k.ones[j].l
     unfold cost at h4
     omega
   have hN1 : ∀ j (hj : j < q.k.ones.length), shutX q.k q.k.ones[j] = (0, false) -> o.A < 0 -> ∀ (hj' : j < q.k.ones.length) w2 ql qc, Below w.heap.size w w2 -> Pairp w2 ql q.k.ones[j].l -> Calls Tryz.prog 105 #[.pointer (some ⟨bW, 0, none⟩), .pointer (some ⟨rs[i].bk, 0, none⟩), .slice none 0 0, .int .i64 1, .slice ql q.k.ones[j].l.length qc, str o.S, str o.T, .int .i64 o.A] w2 fun e w' => e = .returned (.bool true) /\ StepM w own bW N rs ts nxt zz w' /\ ∀ b, b < w2.heap.size -> (Cw own i w b \/ b = w.heap.size) -> w'.heap[b]? = w2.heap[b]? := fun j hj e hA _ w2 ql qc hb _ =>
     (lscans_neg h hsy hps hnx i hi hkn (hal j hj e) hb ql _ qc o.S o.T o.A hA).mono (fun e w' hp => ⟨hp.1, hp.2.1, hkeep hb (fun g hg => by cases hg) hp.2.2⟩)
   have hO1 : ∀ j (hj : j < q.k.ones.length), shutX q.k q.k.ones[j] = (0, false) -> 0 <= o.A -> ∀ (hj' : j < q.k.ones.length) w2 ap cp ql qc, Below w.heap.size w w2 -> OwnP w2 (w.heap.size + 1) (.slice ap (scanY q.k.ones[j].l o.S o.T o.A).length cp) (scanY q.k.ones[j].l o.S o.T o.A) -> Pairp w2 ql q.k.ones[j].l -> Calls Tryz.prog 105 #[.pointer (some ⟨bW, 0, none⟩), .pointer (some ⟨rs[i].bk, 0, none⟩), .slice ap (scanY q.k.ones[j].l o.S o.T o.A).length cp, .int .i64 0, .slice ql q.k.ones[j].l.length qc, str o.S, str o.T, .int .i64 o.A] w2 fun e w' => e = .returned (.bool true) /\ StepM w own bW N rs ts nxt zz w' /\ ∀ b, b < w2.heap.size -> (Cw own i w b \/ b = w.heap.size) -> w'.heap[b]? = w2.heap[b]? := fun j hj e hA _ w2 ap cp ql qc hb hP hpl =>
     (lscans_pos h hsy hps hnx i hi hkn (hal j hj e) hb ap cp ql qc q.k.ones[j].l o.S o.T o.A (ownsRow_base hP (by omega)) hpl (hll j hj e) hA ho.a1).mono (fun e w' hp => ⟨hp.1, hp.2.1, hkeep hb (fun g hg => (World.ownsRow.lt hP g hg).1) hp.2.2⟩)
   have hq2 : ∀ (e : Ending) (w' : World), (e = .returned (.bool true) /\ StepM w own bW N rs ts nxt zz w') -> e = .returned (.bool true) /\ StepM w own bW (N + o.wt) rs ts nxt zz w' := fun e w' hp => ⟨hp.1, hp.2.more (by omega)⟩
   refine which o.old _ hn (fun e j hj => ?_) (fun e j hj h1 => ?_) (fun e j hj => ?_) <;> rw [e]
   . rcases shut_cases q.k (q.k.ones[j]'(by omega)) with ⟨R, e⟩ | e
     . exact (st_scanS_a hd hC hk.inv bW j hj hon _ _ _ _ _ _ _ _ _ R (fun _ => e)).mono (hfin (by omega) (by omega))
     . by_cases hA : o.A < 0
       . exact (st_scanN_a hd hC hk.inv bW j hj hon _ _ _ _ _ _ _ _ _ hA (fun _ => e) (hN1 j (by omega) e hA)).mono hq2
       . exact (st_scanO_a hd hC hk.inv bW j hj hon _ _ _ _ _ _ _ _ _ (by omega) ho.a1 hb2 ho2 (fun _ => e) (hO1 j (by omega) e (by omega))).mono hq2
   . rcases shut_cases q.k (q.k.ones[j]'(by omega)) with ⟨R, e⟩ | e
     . exact (st_scanS_b hd hC hk.inv bW j hj h1 hon _ _ _ _ _ _ _ _ _ R (fun _ => e)).mono (hfin (by omega) (by omega))
     . by_cases hA : o.A < 0
       . exact (st_scanN_b hd hC hk.inv bW j hj h1 hon _ _ _ _ _ _ _ _ _ hA (fun _ => e) (hN1 j (by omega) e hA)).mono hq2
       . exact (st_scanO_b hd hC hk.inv bW j hj h1 hon _ _ _ _ _ _ _ _ _ (by omega) ho.a1 hb2 ho2 (fun _ => e) (hO1 j (by omega) e (by omega))).mono hq2
   . rcases shut_cases q.k (q.k.ones[j]'(by omega)) with ⟨R, e⟩ | e
     . exact (st_scanS_c hd hC hk.inv bW j hj hon _ _ _ _ _ _ _ _ _ R (fun _ => e)).mono (hfin (by omega) (by omega))
     . by_cases hA : o.A < 0
       . exact (st_scanN_c hd hC hk.inv bW j hj hon _ _ _ _ _ _ _ _ _ hA (fun _ => e) (hN1 j (by omega) e hA)).mono hq2
       . exact (st_scanO_c hd hC hk.inv bW j hj hon _ _ _ _ _ _ _ _ _ (by omega) ho.a1 hb2 ho2 (fun _ => e) (hO1 j (by omega) e (by omega))).mono hq2
 . refine which o.old _ hn (fun e j hj => ?_) (fun e j hj h1 => ?_) (fun e j hj => ?_) <;> rw [e]
   . exact (st_syn_a hd hC hk.inv bW j hj hon _ _ _ _ _ _ _ _ _ hb2 ho2).mono (hfin (by omega) (by omega))
   . exact (st_syn_b hd hC hk.inv bW j hj h1 hon _ _ _ _ _ _ _ _ _ hb2 ho2).mono (hfin (by omega) (by omega))
   . exact (st_syn_c hd hC hk.inv bW j hj hon _ _ _ _ _ _ _ _ _ hb2 ho2).mono (hfin (by omega) (by omega))
end
theorem looks_any {w : World} {own : Nat -> Nat} {bW N : Nat} {rs : List DR} {ts : List TX} {nxt : Nat} {vd vt vm : Value} {zz : PX} (h : Inv w own bW N rs ts nxt vd vt vm zz) (hts : ts.length <= 16777216) (hps : zz.ps.length <= 16777216) (hnx : nxt <= 1099511627776) :
   Calls Tryz.prog 26 #[ptrB bW] w fun e w' => e = .returned (.bool true) /\ Below w.heap.size w w' := by
 obtain ⟨vp, vq, ps⟩ := zz
 obtain ⟨c0, c1, c2, c3, c4, c5, c6, c7, hz⟩ := cells8 h.blk
 have hbl := lt_of_block h.blk
 obtain ⟨at_, capt, rfl, ht1, ht2, ht3, hct⟩ := row1 h.rowt
 obtain ⟨am, capm, rfl, hm1, hm2, hm3, hcm⟩ := row1 h.rowm
 have hrp : w.ownsRow 0 33 1 vp ps.length (ps.map (·.v)) := h.rowp
 have hrq : w.ownsRow 0 3 1 vq ps.length (ps.map fun t => .int .i64 t.m) := h.rowq
 have htx := h.text
 have hpx : ∀ t ∈ ps, PairsAt w (fun g => own g = 2) t /\ t.m <= nxt := h.pair
 clear h
 obtain ⟨ap, capp, rfl, hp1, hp2, hp3, hcp⟩ := row1 hrp
 obtain ⟨aq, capq, rfl, hq1, hq2, hq3, hcq⟩ := row1 hrq
 have HL1 : Hid ((ts.map (·.v)).length = ts.length) := by simp [Hid]
 have HL2 : Hid ((ts.map fun t => Value.int .i64 t.m).length = ts.length) := by simp [Hid]
 have HL3 : Hid ((ps.map (·.v)).length = ps.length) := by simp [Hid]
 have HL4 : Hid ((ps.map fun t => Value.int .i64 t.m).length = ps.length) := by simp [Hid]
 simp only at hps c1 c4
 have h0 : ((ps.length : Int) : Int) = ps.length := rfl
 unfold ptrB
 clear hz ht1 ht2 ht3 hm1 hm2 hm3 hp1 hp2 hp3 hq1 hq2 hq3 hrp hrq h0
 go_enter Tryz.func26, Tryz.ntmps26
 go_wp2
 go_loopw [3] (fun i w3 => ∃ j : Nat, j <= ps.length /\ i = .int .i64 j /\ Below w.heap.size w w3) (fun i _ => ps.length - (intOf i).toNat)
 case atStart => exact ⟨0, Nat.zero_le _, rfl, Below.refl _ _⟩
 case round =>
   obtain ⟨w3, rfl⟩ : ∃ w3, w3 = wr := ⟨_, rfl⟩
   obtain ⟨j, hj, rfl, hb3⟩ := hrel
   have hs3 := hb3.size
   by_cases hlt : j < ps.length
   . have d1 := (hb3.cell (p := ⟨bW, 1, none⟩) hbl).trans c1
     have d2 := (hb3.cell (p := ⟨bW, 4, none⟩) hbl).trans c4
     obtain ⟨gt, rfl, hgt, hcell⟩ := hcp j (by rw [HL3.out]; exact hlt)
     obtain ⟨gm, rfl, hgm, hcelm⟩ := hcq j (by rw [HL4.out]; exact hlt)
     rw [List.getElem_map] at hcell hcelm
     obtain ⟨⟨a, n, cap, hv, hn, hcs⟩, hmn⟩ := hpx ps[j] (List.getElem_mem hlt)
     rw [hv] at hcell
     have hc1 := (hb3.cell (p := ⟨gt, j, none⟩) hgt).trans hcell
     have hc2 := (hb3.cell (p := ⟨gm, j, none⟩) hgm).trans hcelm
     have hmb : ps[j].m <= 1099511627776 := by omega
     generalize hM : ps[j].m = M at *
     have HC1 : Hid (w.cell? ⟨bW, 1, none⟩ = some (.slice (some ⟨gt, 0, none⟩) ps.length capp)) := c1
     have HCE : Hid (w.cell? ⟨gt, j, none⟩ = some (.slice a n cap)) := hcell
     clear hcell hcelm hct hcm hcp hcq htx hpx hv hM c0 c1 c2 c3 c4 c5 c6 c7
     go_wp2_with (go_at_call 65; refine (text_any M hmb _).mono ?_; rintro e w4 ⟨rfl, hb4⟩)
     have hB4 : Below w.heap.size w w4 := hb3.trans (hb4.mono hs3)
     clear d1 d2 hc1 hc2 hb4
     go_loopw [5] (fun i w5 => ∃ k : Nat, k <= n /\ i = .int .i64 k /\ Below w.heap.size w w5) (fun i _ => n - (intOf i).toNat)
     case atStart => exact ⟨0, Nat.zero_le _, rfl, hB4⟩
     case round =>
       obtain ⟨w5, rfl⟩ : ∃ w5, w5 = wr := ⟨_, rfl⟩
       obtain ⟨k, hk, rfl, hb5⟩ := hrel
       have e1 := (hb5.cell (p := ⟨bW, 1, none⟩) hbl).trans HC1.out
       have e2 := (hb5.cell (p := ⟨gt, j, none⟩) hgt).trans HCE.out
       by_cases hkn : k < n
       . obtain ⟨g, rfl, _, hcg, hcg'⟩ := hcs k hkn
         have hglt := World.block_lt_of_cell? w ⟨g, k * 2, none⟩ hcg
         have x1 := (hb5.cell (p := ⟨g, k * 2, none⟩) hglt).trans hcg
         have x2 := (hb5.cell (p := ⟨g, k * 2 + 1, none⟩) hglt).trans hcg'
         have HB5 : Hid (Below w.heap.size w w5) := hb5
         unfold encS at x1 x2
         clear hcs hcg hcg' hb5
         go_wp2
         go_roundw
         case rel => exact ⟨k + 1, by omega, by go_num, HB5.out⟩
         case measure => simp [intOf]; omega
       . clear hcs
         go_wp2
         go_roundw
         case rel => exact ⟨j + 1, by omega, by go_num, hb5⟩
         case measure => simp [intOf]; omega
   . have d1 := (hb3.cell (p := ⟨bW, 1, none⟩) hbl).trans c1
     have d2 := (hb3.cell (p := ⟨bW, 2, none⟩) hbl).trans c2
     clear hcp hcq hpx c0 c1 c2 c4 c5 c7
     go_wp2
     go_loopw [6] (fun i w2 => i = .int .i64 0 /\ w2 = w3) (fun _ _ => 0)
     case atStart => exact ⟨rfl, rfl⟩
     case round =>
       obtain ⟨rfl, rfl⟩ := hrel
       go_wp2
       go_loopw [9] (fun i w3 => ∃ j : Nat, j <= ts.length /\ i = .int .i64 j /\ Below w.heap.size w w3) (fun i _ => ts.length - (intOf i).toNat)
       case atStart => exact ⟨0, Nat.zero_le _, rfl, hb3⟩
       case round =>
         clear d1 d2 hb3 hs3
         obtain ⟨w6, rfl⟩ : ∃ w6, w6 = wr := ⟨_, rfl⟩
         clear hlt hj
         obtain ⟨j, hj, rfl, hb3⟩ := hrel
         have hs3 := hb3.size
         have d1 := (hb3.cell (p := ⟨bW, 3, none⟩) hbl).trans c3
         have d2 := (hb3.cell (p := ⟨bW, 6, none⟩) hbl).trans c6
         by_cases hlt : j < ts.length
         . obtain ⟨gt, rfl, hgt, hcell⟩ := hct j (by rw [HL1.out]; exact hlt)
           obtain ⟨gm, rfl, hgm, hcelm⟩ := hcm j (by rw [HL2.out]; exact hlt)
           rw [List.getElem_map] at hcell hcelm
           obtain ⟨⟨a, n, cap, hv, hn, hcs⟩, hmn⟩ := htx ts[j] (List.getElem_mem hlt)
           rw [hv] at hcell
           have hc1 := (hb3.cell (p := ⟨gt, j, none⟩) hgt).trans hcell
           have hc2 := (hb3.cell (p := ⟨gm, j, none⟩) hgm).trans hcelm
           have hmb : ts[j].m <= 1099511627776 := by omega
           generalize hM : ts[j].m = M at *
           clear hcell hcelm hct hcm htx hv hM c3 c6
           go_wp2_with (go_at_call 65; refine (text_any M hmb _).mono ?_; rintro e w4 ⟨rfl, hb4⟩)
           have hB4 : Below w.heap.size w w4 := hb3.trans (hb4.mono hs3)
           have e1 := (hb4.cell (p := ⟨bW, 3, none⟩) (by show bW < _; omega)).trans d1
           have e2 := (hb4.cell (p := ⟨gt, j, none⟩) (by show gt < _; omega)).trans hc1
           clear d1 d2 hc1 hc2 hb4
           go_loopw [11] (fun i w5 => ∃ k : Nat, k <= n /\ i = .int .i64 k /\ w5 = w4) (fun i _ => n - (intOf i).toNat)
           case atStart => exact ⟨0, Nat.zero_le _, rfl, rfl⟩
           case round =>
             obtain ⟨k, hk, rfl, hw5⟩ := hrel
             subst hw5
             by_cases hkn : k < n
             . obtain ⟨g, rfl, _, hcg⟩ := hcs k hkn
               have hglt := World.block_lt_of_cell? w ⟨g, k, none⟩ hcg
               have hcg4 := (hB4.cell (p := ⟨g, k, none⟩) hglt).trans hcg
               unfold encS at hcg4
               clear hcs hcg
               go_wp2
               go_roundw
               case rel => exact ⟨k + 1, by omega, by go_num, trivial⟩
               case measure => simp [intOf]; omega
             . go_wp2
               go_roundw
               case rel => exact ⟨j + 1, by omega, by go_num, hB4⟩
               case measure => simp [intOf]; omega
         . go_wp2
           go_ret
           exact ⟨rfl, hb3⟩
end Go.Proofs.YtfghgmojnffgnaaGreat.M
