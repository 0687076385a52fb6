/-
 The document's bank beside what a law's function holds; results in two blocks.
-/
import Derived.Test.YthbldjnpnligpaaDoorB38
import Derived.Test.YthbldjnpnligpaaDoorB40
import Derived.Test.YthbldjnpnligpaaDoorB25
import Derived.Test.YthbldjnpnligpaaDoorB26
import Derived.Test.YthbldjnpnligpaaDoorB42
import Derived.Test.YthbldjnpnligpaaDoorB35
import Derived.Test.YthbldjnpnligpaaDoorB06
import Derived.Test.YthbldjnpnligpaaDoorB27
import Derived.Test.YthbldjnpnligpaaDoorB41
import Derived.Test.YthbldjnpnligpaaDoorB21
namespace Go.Proofs.YthbldjnpnligpaaDoor
set_option linter.unusedSimpArgs false
set_option linter.unusedVariables false
set_option maxRecDepth 100000
open Go.RowKit
section
variable {w w' : World} {G G' : Nat → Prop} {cs cs' : List Value} {S S' : DS} {l l' : List Bool} {t : Nat}
theorem RS.disk_run {w0 : World} {N : Nat → Prop} {X : List (Nat × Nat × List Bool)} (h : RS w0 w G N X cs S l t) {f : FuncId} {args : Array Value} {E : List Value → Ending} {S1 : DS} (hs : S1.laid.length = S.laid.length)
 (hc : ∀ H, Rf w H ((cs.drop 0).take 5) S → Calls Tryd.prog f args w fun e w' => ∃ ds, e = E ds ∧ RThen H w w' ds S1) :
 Calls Tryd.prog f args w fun e w' => ∃ ds, e = E ds ∧ (ds.length = 5 ∧ ∀ v ∈ ds, v.oneCell' = true) ∧ Below w.heap.size w w' ∧ RS w0 w' G N X (cs.take 0 ++ ds ++ cs.drop (0 + 5)) S1 l t := by
 obtain ⟨H, h1, h2, h3, h4, h5⟩ := h
 obtain ⟨dc, e1, e2, e3⟩ := h1.disk
 rw [e1] at e2
 refine (hc H e2).mono ?_
 rintro e w' ⟨ds, rfl, ht⟩
 have k := h1.setDisk ht hs
 refine ⟨ds, rfl, ht.1.five, ht.2, fun j => (H j ∨ w.heap.size ≤ j) ∧ j < w'.heap.size, k.1.keep (fun j hg hl => ⟨rfl, hg, hl⟩), fun j hj => ⟨?_, hj.2⟩, fun j hj => ⟨?_, (h3 j hj).2.1, Nat.lt_of_lt_of_le (h3 j hj).2.2 ht.2.size⟩, fun m hm => ⟨⟨.inl (h4 m hm).1, Nat.lt_of_lt_of_le (h4 m hm).2.lt ht.2.size⟩, (h4 m hm).2.stays ht.2⟩, below_then h5 ht.2⟩
 · rcases hj.1 with h6 | h6
   · exact (h2 j h6).1
   · exact .inr (Nat.le_trans h5.size h6)
 · rintro ⟨h6 | h6, _⟩
   · exact (h3 j hj).1 h6
   · have := (h3 j hj).2.2; omega
theorem RS.bank_run {w0 : World} {N : Nat → Prop} (h : RS w0 w G N [] cs S l t) {f : FuncId} {args : Array Value} {E : List Value → Ending} {S1 : DS} {l1 : List Bool}
 (hc : ∀ H, RB w H cs S l t → Calls Tryd.prog f args w fun e w' => ∃ ds, e = E ds ∧ RBThen H w w' ds S1 l1 t) :
 Calls Tryd.prog f args w fun e w' => ∃ ds, e = E ds ∧ (ds.length = 7 ∧ ∀ v ∈ ds, v.oneCell' = true) ∧ Below w.heap.size w w' ∧ RS w0 w' G N [] ds S1 l1 t := by
 obtain ⟨H, h1, h2, h3, h4, h5⟩ := h
 refine (hc H h1).mono ?_
 rintro e w' ⟨ds, rfl, hR, hb⟩
 exact ⟨ds, rfl, hR.len, hb, rs_then h2 h3 h5 hR hb⟩
end
end Go.Proofs.YthbldjnpnligpaaDoor

/-
 Sep's laws with what is found by itself left out: short to write.
-/

namespace Go.Proofs.YthbldjnpnligpaaDoor
set_option linter.unusedSimpArgs false
set_option linter.unusedVariables false
set_option maxRecDepth 100000
open Go.RowKit
class TyC (P : Program) (t : TypeId) (n : outParam Nat) : Prop where
 out : Ty P t n
class TyO (P : Program) (t : TypeId) : Prop where
 out : Ty1 P t
section
variable {B : Nat} {I : (Nat → Prop) → World → Prop} {w w' : World} {L L' : List Ent} {T : List Sli}
variable {P : Program} {ops : Array Oper} {rest : List Oper} {o : Oper} {a : Act} {Q : Exit → Act → World → Prop} {g off n m : Nat} {t e : TypeId} {vs us ws : List Value} {v : Value} {x y : Operand}
theorem s_box (h : Sep B I w L T) (hv : Vals n vs) (hk : ∀ w' g, Sep B I w' (⟨g, t, n, vs⟩ :: L) T → wpList P ops Q rest (a.put o.dst (.pointer (some ⟨g, 0, none⟩))) w')
 (hgd : o.guard = none := by rfl) (ho : o.op = Op.box t x := by rfl) (hx : a.eval x = .agg vs.toArray := by rfl) : wpList P ops Q (o :: rest) a w := sep_box h hgd ho hx hv hk
theorem s_boxd (d : Tmp) (h : Sep B I w L T) (hv : Vals n vs) (hk : ∀ w' g, Sep B I w' (⟨g, t, n, vs⟩ :: L) T → wpList P ops Q rest (a.put o.dst (.pointer (some ⟨g, 0, none⟩))) w')
 (hd : o.dst = some d := by rfl) (hgd : o.guard = none := by rfl) (ho : o.op = Op.box t x := by rfl) (hx : a.eval x = .agg vs.toArray := by rfl) : wpList P ops Q (o :: rest) a w := sep_box h hgd ho hx hv hk
theorem s_al (h : Sep B I w L T) (hr : (∀ w, (Instr.alloc t true (.tuple #[])).run P w = .ok (.pointer (some ⟨w.heap.size, 0, none⟩)) (w.alloc (.cells vs.toArray t))) ∧ Vals n vs)
 (hk : ∀ w' g, Sep B I w' (⟨g, t, n, vs⟩ :: L) T → wpList P ops Q rest (a.put o.dst (.pointer (some ⟨g, 0, none⟩))) w') (hgd : o.guard = none := by rfl) (ho : o.op = Op.alloc t := by rfl) : wpList P ops Q (o :: rest) a w := sep_alloc h hgd ho hr hk
theorem s_ald (d : Tmp) (h : Sep B I w L T) (hr : (∀ w, (Instr.alloc t true (.tuple #[])).run P w = .ok (.pointer (some ⟨w.heap.size, 0, none⟩)) (w.alloc (.cells vs.toArray t))) ∧ Vals n vs)
 (hk : ∀ w' g, Sep B I w' (⟨g, t, n, vs⟩ :: L) T → wpList P ops Q rest (a.put o.dst (.pointer (some ⟨g, 0, none⟩))) w') (hd : o.dst = some d := by rfl) (hgd : o.guard = none := by rfl) (ho : o.op = Op.alloc t := by rfl) : wpList P ops Q (o :: rest) a w := sep_alloc h hgd ho hr hk
theorem s_ld [hT : TyC P t n] (h : Sep B I w L T) (hk : wpList P ops Q rest (a.put o.dst (.agg vs.toArray)) w) (hgd : o.guard = none := by rfl) (ho : o.op = Op.load t x := by rfl) (hx : a.eval x = .pointer (some ⟨g, 0, none⟩) := by rfl)
 (hm : (⟨g, e, n, vs⟩ : Ent) ∈ L := by repeat (first | exact List.Mem.head _ | apply List.Mem.tail)) : wpList P ops Q (o :: rest) a w := sep_loadw h hgd ho hx hm hT.out hk
theorem s_ldp [hT : TyC P t n] (h : Sep B I w L T) (hu : us = (vs.drop off).take n) (hl : us.length = n) (hk : wpList P ops Q rest (a.put o.dst (.agg us.toArray)) w) (hgd : o.guard = none := by rfl) (ho : o.op = Op.load t x := by rfl) (hx : a.eval x = .pointer (some ⟨g, off, none⟩) := by rfl)
 (hm : (⟨g, e, m, vs⟩ : Ent) ∈ L := by repeat (first | exact List.Mem.head _ | apply List.Mem.tail)) : wpList P ops Q (o :: rest) a w := sep_load h hgd ho hx hm hT.out hu hl hk
theorem s_ld1 [hT : TyO P t] (h : Sep B I w L T) (hv : vs[off]? = some v) (hk : wpList P ops Q rest (a.put o.dst v) w) (hgd : o.guard = none := by rfl) (ho : o.op = Op.load t x := by rfl) (hx : a.eval x = .pointer (some ⟨g, off, none⟩) := by rfl)
 (hm : (⟨g, e, m, vs⟩ : Ent) ∈ L := by repeat (first | exact List.Mem.head _ | apply List.Mem.tail)) : wpList P ops Q (o :: rest) a w := sep_load1 h hgd ho hx hm hT.out hv hk
theorem s_st [hT : TyC P t n] (h : Sep B I w L T) (hv : Vals n us) (hk : ∀ w', Sep B I w' L' T → wpList P ops Q rest (a.put o.dst undef) w') (hgd : o.guard = none := by rfl) (ho : o.op = Op.store t x y := by rfl) (hx : a.eval x = .pointer (some ⟨g, 0, none⟩) := by rfl) (hy : a.eval y = .agg us.toArray := by rfl)
 (hup : Upd L g e n vs us L' := by repeat (first | exact Upd.head | apply Upd.tail)) : wpList P ops Q (o :: rest) a w := sep_storew h hgd ho hx hy hup hT.out hv hk
theorem s_stp [hT : TyC P t n] (ws : List Value) (h : Sep B I w L T) (hv : Vals n us) (hw : ws = vs.take off ++ us ++ vs.drop (off + n)) (hk : ∀ w', Sep B I w' L' T → wpList P ops Q rest (a.put o.dst undef) w') (hgd : o.guard = none := by rfl) (ho : o.op = Op.store t x y := by rfl) (hx : a.eval x = .pointer (some ⟨g, off, none⟩) := by rfl) (hy : a.eval y = .agg us.toArray := by rfl)
 (hup : Upd L g e m vs ws L' := by repeat (first | exact Upd.head | apply Upd.tail)) (hle : off + n ≤ m := by omega) : wpList P ops Q (o :: rest) a w := sep_store h hgd ho hx hy hup hT.out hv hw hle hk
theorem s_st1 [hT : TyO P t] (ws : List Value) (h : Sep B I w L T) (hw : ws = vs.set off v) (hk : ∀ w', Sep B I w' L' T → wpList P ops Q rest (a.put o.dst undef) w') (hgd : o.guard = none := by rfl) (ho : o.op = Op.store t x y := by rfl) (hx : a.eval x = .pointer (some ⟨g, off, none⟩) := by rfl) (hy : a.eval y = v := by rfl) (hc : v.cells = #[v] := by rfl) (h1 : v.oneCell' = true := by rfl)
 (hup : Upd L g e m vs ws L' := by repeat (first | exact Upd.head | apply Upd.tail)) (hle : off < m := by omega) : wpList P ops Q (o :: rest) a w := sep_store1 h hgd ho hx hy hc h1 hup hT.out.2 hw hle hk
theorem s_bld (V : Value) (hr : ∀ w, (Instr.build t #[]).run P w = .ok V w) (hk : wpList P ops Q rest (a.put o.dst V) w) (hw : Region.wanted o (yielded ops a.tmps) = true := by rfl) (ho : o.op = Op.build t #[] := by rfl) : wpList P ops Q (o :: rest) a w := wpList_build0 hw t ho V hr hk
theorem s_two [hT0 : TyC P t n] {t1 e1 e2 : TypeId} {n1 g1 g2 : Nat} {u0 u1 u2 : List Value} [hT1 : TyC P t1 n1] {id : Nat} {o0 o1 o2 : Oper} {l : List Oper} {s0 s1 x0 x1 x2 : Tmp} (h : Sep B I w L T)
 (hk : ∀ w', Sep B I w' L' T → wpList P (o0 :: o1 :: o2 :: l).toArray Q l ((a.put (some s0) (.agg u0.toArray)).put (some s1) (.agg u1.toArray)) w')
 (hm : P.follows .mixedOrders = true := by kernel_rfl) (hO : twoOrders (o0 :: o1 :: o2 :: l).toArray = true := by kernel_rfl) (g0 : o0.guard = none := by rfl) (g1' : o1.guard = none := by rfl) (g2' : o2.guard = none := by rfl)
 (d0 : o0.dst = some s0 := by rfl) (d1 : o1.dst = some s1 := by rfl) (d2 : o2.dst = none := by rfl) (hs : s0 ≠ s1 := by decide) (p0 : o0.op = Op.load t (.tmp x0) := by rfl) (p1 : o1.op = Op.load t1 (.tmp x1) := by rfl) (p2 : o2.op = Op.store t (.tmp x2) (.tmp s0) := by rfl)
 (hx : x0 ≠ s1 ∧ x1 ≠ s0 ∧ x2 ≠ s0 ∧ x2 ≠ s1 := by decide) (hz : s0 < a.tmps.size := by exact of_decide_eq_true (by kernel_rfl))
 (e0 : a.eval (.tmp x0) = .pointer (some ⟨g, 0, none⟩) := by rfl) (e1' : a.eval (.tmp x1) = .pointer (some ⟨g1, 0, none⟩) := by rfl) (e2' : a.eval (.tmp x2) = .pointer (some ⟨g2, 0, none⟩) := by rfl)
 (m0 : (⟨g, e, n, u0⟩ : Ent) ∈ L := by repeat (first | exact List.Mem.head _ | apply List.Mem.tail)) (m1 : (⟨g1, e1, n1, u1⟩ : Ent) ∈ L := by repeat (first | exact List.Mem.head _ | apply List.Mem.tail))
 (hup : Upd L g2 e2 n u2 u0 L' := by repeat (first | exact Upd.head | apply Upd.tail)) (he : e1 ≠ e2 := by decide) : (Code.region id (o0 :: o1 :: o2 :: l).toArray true).wp P Q a w := by
 have hup' := hup
 obtain ⟨P', R', hL, _⟩ := hup'
 have m2 : (⟨g2, e2, n, u2⟩ : Ent) ∈ L := by rw [hL]; simp
 have b0 := h.blk _ m0
 have b1 := h.blk _ m1
 have b2 := h.blk _ m2
 refine wp_region_two hm hO g0 g1' g2' s0 s1 hs d0 d1 d2 x0 x1 x2 t t1 p0 p1 p2 hx hz g g1 g2 n n1 e0 e1' e2' hT0.out.1 hT0.out.2 hT1.out.1 hT1.out.2 b0.1 b1.1 b2.1 b0.2.2.1 b1.2.2.1 b2.2.2.1 b0.2.2.2 (fun e => ?_) fun w' h1 h2 _ => hk w' (h.upd hup h2 h1 b0.2.2)
 have k1 := b1.1
 have k2 := b2.1
 unfold Blk at k1 k2
 simp only at k1 k2 e
 rw [e, k2] at k1
 injection k1 with k1
 injection k1 with _ k1
 exact he k1.symm
end
end Go.Proofs.YthbldjnpnligpaaDoor

/-
 The document's bank: the law's model of an act, by Sep.
-/

namespace Go.Proofs.YthbldjnpnligpaaDoor
set_option linter.unusedSimpArgs false
set_option linter.unusedVariables false
set_option maxRecDepth 100000
open Go.RowKit
section
variable {w w' : World} {G G' : Nat → Prop} {cs cs' : List Value} {S S' : DS} {l l' : List Bool} {t : Nat}
theorem ty_act : Ty Tryd.prog 45 40 := ⟨fun w => isAgg_struct (show Tryd.prog.underlying 45 = some (.struct (Tryd.prog.fieldsOf 45)) by kernel_rfl) w, fun w => sizeOf_run (by kernel_rfl) w⟩
theorem ty_told : Ty Tryd.prog 49 40 := ⟨fun w => isAgg_struct (show Tryd.prog.underlying 49 = some (.struct (Tryd.prog.fieldsOf 49)) by kernel_rfl) w, fun w => sizeOf_run (by kernel_rfl) w⟩
theorem al_told : (∀ w, (Instr.alloc 49 true (.tuple #[])).run Tryd.prog w = .ok (.pointer (some ⟨w.heap.size, 0, none⟩)) (w.alloc (.cells Told.zero.vs.toArray 49))) ∧ Vals 40 Told.zero.vs := ⟨fun w => by kernel_rfl, Told.vs_len Pt.zero_ok, Told.vs_one _⟩
theorem build_told0 (w : World) : (Instr.build 49 #[]).run Tryd.prog w = .ok (.agg Told.zero.vs.toArray) w := by kernel_rfl
theorem ty1_intz : Ty1 Tryd.prog 3 := ⟨fun w => by kernel_rfl, fun w => sizeOf_run (by kernel_rfl) w⟩
theorem ty1_strz : Ty1 Tryd.prog 9 := ⟨fun w => by kernel_rfl, fun w => sizeOf_run (by kernel_rfl) w⟩
theorem ty1_errz : Ty1 Tryd.prog 47 := ⟨fun w => by kernel_rfl, fun w => sizeOf_run (by kernel_rfl) w⟩
theorem ty1_bytz : Ty1 Tryd.prog 43 := ⟨fun w => by kernel_rfl, fun w => sizeOf_run (by kernel_rfl) w⟩
theorem conv_bz {w : World} {a : Option Addr} {n c : Nat} {xs : List Int} (h : Bs w a c xs) (hn : n = xs.length) : (convert 43 9 (.slice a n c)).run Tryd.prog w = .ok (.string (strOfNums xs)) w :=
 h.conv n hn 43 5 Tryd.underlying43 Tryd.underlying5 9 Tryd.underlying9
theorem wpList_conv_r {P : Program} {w : World} {ops : Array Oper} {rest : List Oper} {o : Oper} {a : Act} {Q : Exit → Act → World → Prop} {s d : TypeId} {x : Operand} {V v : Value} (hgd : o.guard = none) (ho : o.op = Op.convert s d x) (hx : a.eval x = V) (hr : (convert s d V).run P w = .ok v w) (hk : wpList P ops Q rest (a.put o.dst v) w) : wpList P ops Q (o :: rest) a w := by
 refine wpList_plain hgd fun K hK => ?_
 unfold Oper.wp execOp
 simp only [ho, hx, Sem.run_bind, Sem.run_pure, Result.andThen_ok, hr]
 exact hK _ _ hk
theorem sep_ret_cc {B : Nat} {I : (Nat → Prop) → World → Prop} {L : List Ent} {T : List Sli} {P : Program} {a : Act} {fn : Func} {R : Ending → World → Prop} {p q : Tmp} {g n g' n' : Nat} {us us' : List Value} {t e t' e' : TypeId} (h : Sep B I w L T) (hf : fn.results = #[.cell p t, .cell q t']) (hd : a.defers = []) (hp : a.tmps.getD p undef = .pointer (some ⟨g, 0, none⟩)) (hq : a.tmps.getD q undef = .pointer (some ⟨g', 0, none⟩)) (hT : Ty P t n) (hT' : Ty P t' n') (hm : (⟨g, e, n, us⟩ : Ent) ∈ L) (hm' : (⟨g', e', n', us'⟩ : Ent) ∈ L)
 (hR : R (.returned (.tuple #[.agg us.toArray, .agg us'.toArray])) w) : bodyPost P fn R .ret a w := by
 refine bodyPost_ret_by (v := .tuple #[.agg us.toArray, .agg us'.toArray]) ?_ hd hR
 have hr := sep_load_run h hT hm
 have hr' := sep_load_run h hT' hm'
 rw [Array.getD_eq_getD_getElem?] at hp hq
 simp [results, hf, hp, hq, asAddr, Sem.run_bind, hr, hr']
instance : TyC Tryd.prog 36 7 := ⟨ty_rbank⟩
instance : TyC Tryd.prog 30 5 := ⟨ty_rdisk⟩
instance : TyC Tryd.prog 42 35 := ⟨ty_ptrz⟩
instance : TyC Tryd.prog 46 2 := ⟨ty_two⟩
instance : TyC Tryd.prog 45 40 := ⟨ty_act⟩
instance : TyC Tryd.prog 49 40 := ⟨ty_told⟩
instance : TyO Tryd.prog 3 := ⟨ty1_intz⟩
instance : TyO Tryd.prog 9 := ⟨ty1_strz⟩
instance : TyO Tryd.prog 47 := ⟨ty1_errz⟩
instance : TyO Tryd.prog 43 := ⟨ty1_bytz⟩
theorem s_cc {B : Nat} {I : (Nat → Prop) → World → Prop} {L : List Ent} {T : List Sli} {P : Program} {a : Act} {fn : Func} {R : Ending → World → Prop} {p q : Tmp} {g n g' n' : Nat} {us us' : List Value} {t e t' e' : TypeId} [hT : TyC P t n] [hT' : TyC P t' n'] (h : Sep B I w L T) (hR : R (.returned (.tuple #[.agg us.toArray, .agg us'.toArray])) w)
 (hf : fn.results = #[.cell p t, .cell q t'] := by rfl) (hd : a.defers = [] := by rfl) (hp : a.tmps.getD p undef = .pointer (some ⟨g, 0, none⟩) := by rfl) (hq : a.tmps.getD q undef = .pointer (some ⟨g', 0, none⟩) := by rfl)
 (hm : (⟨g, e, n, us⟩ : Ent) ∈ L := by repeat (first | exact List.Mem.head _ | apply List.Mem.tail)) (hm' : (⟨g', e', n', us'⟩ : Ent) ∈ L := by repeat (first | exact List.Mem.head _ | apply List.Mem.tail)) : bodyPost P fn R .ret a w := sep_ret_cc h hf hd hp hq hT.out hT'.out hm hm' hR
section
variable {q : Pt} (hq : q.ok)
include hq
theorem tv_at (l : List Value) (i : Nat) (v : Value) : (q.vs ++ l).set (35 + i) v = q.vs ++ l.set i v := by
 have hl := Pt.vs_len hq
 rw [List.set_append, if_neg (by omega), hl, Nat.add_sub_cancel_left]
theorem tv_e (b : List Int) (g0 g1 : Bool) (n : Nat) (e e' : Int) : (Told.mk q b g0 g1 n e).vs.set 39 (.int .i64 e') = (Told.mk q b g0 g1 n e').vs := tv_at hq _ 4 _
theorem tv_n (b : List Int) (g0 g1 : Bool) (n n' : Nat) (e : Int) : (Told.mk q b g0 g1 n e).vs.set 38 (.int .i64 (n' : Int)) = (Told.mk q b g0 g1 n' e).vs := tv_at hq _ 3 _
theorem tv_b (b b' : List Int) (g0 g1 : Bool) (n : Nat) (e : Int) : (Told.mk q b g0 g1 n e).vs.set 35 (.string (strOfNums b')) = (Told.mk q b' g0 g1 n e).vs := tv_at hq _ 0 _
theorem tv_g (b : List Int) (g0 g1 h0 h1 : Bool) (n : Nat) (e : Int) : (Told.mk q b h0 h1 n e).vs = (Told.mk q b g0 g1 n e).vs.take 36 ++ twoB h0 h1 ++ (Told.mk q b g0 g1 n e).vs.drop (36 + 2) := by
 have hl := Pt.vs_len hq
 show q.vs ++ (Told.mk q b h0 h1 n e).rest = (q.vs ++ (Told.mk q b g0 g1 n e).rest).take 36 ++ twoB h0 h1 ++ (q.vs ++ (Told.mk q b g0 g1 n e).rest).drop (36 + 2)
 rw [List.take_append, List.drop_append, hl, List.take_of_length_le (by omega), List.drop_eq_nil_of_le (by omega)]
 simp [twoB, Told.rest]
end
theorem tv_p {q q' : Pt} (hq : q.ok) (hq' : q'.ok) (b : List Int) (g0 g1 : Bool) (n : Nat) (e : Int) : (Told.mk q' b g0 g1 n e).vs = (Told.mk q b g0 g1 n e).vs.take 0 ++ q'.vs ++ (Told.mk q b g0 g1 n e).vs.drop (0 + 35) := by
 have hl := Pt.vs_len hq
 show q'.vs ++ _ = List.take 0 _ ++ q'.vs ++ (q.vs ++ _).drop (0 + 35)
 rw [List.drop_append, hl, List.drop_eq_nil_of_le (by omega)]
 simp [Told.rest]
theorem tz_mk : Told.zero = ⟨Pt.zero, [], false, false, 0, 0⟩ := rfl
theorem slB_bs {n : Nat} {xs : List Int} {b : Option Addr} {c : Nat} {w : World} (h : slB n xs (.slice b n c) w) : Bs w b c xs := by
 obtain ⟨a2, c2, h1, h2⟩ := h
 cases h1
 exact h2
theorem tvals {t : Told} (h : t.p.ok) : Vals 40 t.vs := ⟨Told.vs_len h, Told.vs_one _⟩
structure MF (cs : List Value) (x : ActK) (q : Pt) (av pv tz zb zd dv : List Value) : Prop where
 cv : Vals 7 cs
 va : Vals 40 av
 vp : Vals 35 pv
 dl : dv.length = 5
 zv : Vals 40 tz
 ae : x.cells = av
 pe : q.vs = pv
 de : dv = (cs.drop 0).take 5
 te : tz = Told.zero.vs
 c0 : av[0]? = some (.int .i64 x.kind)
 c1 : av[1]? = some (.int .i64 x.copies)
 c3 : av[3]? = some (.int .i64 x.at')
 c5 : av[39]? = some (.slice x.ba x.bs.length x.bc)
 al : (∀ w, (Instr.alloc 36 true (.tuple #[])).run Tryd.prog w = .ok (.pointer (some ⟨w.heap.size, 0, none⟩)) (w.alloc (.cells zb.toArray 36))) ∧ Vals 7 zb
 ad : (∀ w, (Instr.alloc 30 true (.tuple #[])).run Tryd.prog w = .ok (.pointer (some ⟨w.heap.size, 0, none⟩)) (w.alloc (.cells zd.toArray 30))) ∧ Vals 5 zd
 at' : (∀ w, (Instr.alloc 49 true (.tuple #[])).run Tryd.prog w = .ok (.pointer (some ⟨w.heap.size, 0, none⟩)) (w.alloc (.cells tz.toArray 49))) ∧ Vals 40 tz
 bt : ∀ w, (Instr.build 49 #[]).run Tryd.prog w = .ok (.agg tz.toArray) w
theorem mod_pack (h : RB w G cs S l 7) {x : ActK} (hx : x.p.ok) {q : Pt} (hq : q.ok) : ∃ av pv tz zb zd dv, MF cs x q av pv tz zb zd dv := by
 have hcv := Vals.bank h
 obtain ⟨hc0, hc1, hc2, hc3, hc5⟩ := ActK.cells_at hx
 exact ⟨_, _, _, _, _, _, hcv, ⟨ActK.cells_len hx, ActK.cells_one x⟩, ⟨Pt.vs_len hq, Pt.vs_one _⟩, by simp [hcv.1], al_told.2, rfl, rfl, rfl, rfl, hc0, hc1, hc3, hc5, al_rbank1, al_rdisk1, al_told, build_told0⟩
theorem Vals.setD {ds : List Value} (hc : Vals 7 cs) (hd : Vals 5 ds) : Vals 7 (cs.take 0 ++ ds ++ cs.drop (0 + 5)) := Vals.setDisk hc hd
set_option maxHeartbeats 40000000 in
theorem mod_none (h : RB w G cs S l 7) (hln : S.ws.length ≤ 700000) (x : ActK) (hx : x.p.ok) (hxB : Bs w x.ba x.bc x.bs) (hxl : x.bs.length ≤ 300) (q : Pt) (hq : q.ok) (kd : Int) (hno : kd < 1 ∨ 9 < kd) (hk : x.kind = kd) : Calls Tryd.prog 13 #[.agg cs.toArray, .agg x.cells.toArray, .agg q.vs.toArray] w fun e w' => ∃ cs', e = .returned (.tuple #[.agg cs'.toArray, .agg (Told.zero).vs.toArray]) ∧ RBThen G w w' cs' S l 7 := by
 obtain ⟨av, pv, tz, zb, zd, dv, M⟩ := mod_pack h hx hq
 have hc0 := M.c0
 rw [hk] at hc0
 have HC0 : Hid _ := hc0
 have hs := h.sep
 have hk1 : ¬ kd = 1 := by omega
 have hb1 : (kd == 1) = false := by simp; omega
 have hk2 : ¬ kd = 2 := by omega
 have hb2 : (kd == 2) = false := by simp; omega
 have hk3 : ¬ kd = 3 := by omega
 have hb3 : (kd == 3) = false := by simp; omega
 have hk4 : ¬ kd = 4 := by omega
 have hb4 : (kd == 4) = false := by simp; omega
 have hk5 : ¬ kd = 5 := by omega
 have hb5 : (kd == 5) = false := by simp; omega
 have hk6 : ¬ kd = 6 := by omega
 have hb6 : (kd == 6) = false := by simp; omega
 have hk7 : ¬ kd = 7 := by omega
 have hb7 : (kd == 7) = false := by simp; omega
 have hk8 : ¬ kd = 8 := by omega
 have hb8 : (kd == 8) = false := by simp; omega
 have hk9 : ¬ kd = 9 := by omega
 have hb9 : (kd == 9) = false := by simp; omega
 rw [M.ae, M.pe]
 clear h hq hx hxl hln hk hc0
 clear hno
 go_enter Tryd.func13, Tryd.ntmps13
 go_wp2_with (first
  | (refine s_boxd 3 hs M.cv ?_; clear hs; intro w1 gK hs)
  | (refine s_boxd 4 hs M.va ?_; clear hs; intro w1 gA hs)
  | (refine s_box hs M.vp ?_; clear hs; intro w1 gP hs)
  | (refine s_ald 6 hs M.al ?_; clear hs; intro w1 gR hs)
  | (refine s_ald 7 hs M.at' ?_; clear hs; intro w1 gS hs)
  | (refine s_ald 8 hs M.at' ?_; clear hs; intro w1 gT hs)
  | (refine s_bld _ M.bt ?_)
  | (refine s_st hs M.zv ?_; clear hs; intro w1 hs)
  | (refine s_ld1 hs HC0.out ?_))
 refine s_two hs ?_
 clear hs
 intro w2 hs
 simp only [Act.put, sTA, sT0, sT1]
 go_wp2_with (first
  | (refine s_st hs M.zv ?_; clear hs; intro w1 hs))
 exact s_cc (us := cs) (us' := tz) hs ⟨cs, by rw [M.te], hs.rdone⟩
set_option maxHeartbeats 40000000 in
theorem mod_read (h : RB w G cs S l 7) (hln : S.ws.length ≤ 700000) (x : ActK) (hx : x.p.ok) (hxB : Bs w x.ba x.bc x.bs) (hxl : x.bs.length ≤ 300) (q : Pt) (hq : q.ok) (hk : x.kind = 2) : Calls Tryd.prog 13 #[.agg cs.toArray, .agg x.cells.toArray, .agg q.vs.toArray] w fun e w' => ∃ cs', e = .returned (.tuple #[.agg cs'.toArray, .agg ({ Told.zero with b := (readK S q).1, e := (readK S q).2 } : Told).vs.toArray]) ∧ RBThen G w w' cs' S l 7 := by
 obtain ⟨av, pv, tz, zb, zd, dv, M⟩ := mod_pack h hx hq
 have hc0 := M.c0
 rw [hk] at hc0
 have HC0 : Hid _ := hc0
 have hs := h.sep
 have hrd : ∀ u, Below w.heap.size w u → Calls Tryd.prog 59 #[.agg cs.toArray, .agg pv.toArray] u fun e w' => ∃ a c, e = .returned (.tuple #[.slice a (readK S q).1.length c, .int .i64 (readK S q).2]) ∧ NewB u.heap.size w' a c (readK S q).1 ∧ Below u.heap.size u w' := fun u hu => by rw [← M.pe]; exact rrd_run (h.stays hu) (by omega) q hq
 obtain ⟨R, hR⟩ : ∃ R, R = (readK S q).1 := ⟨_, rfl⟩
 obtain ⟨E, hE⟩ : ∃ E, E = (readK S q).2 := ⟨_, rfl⟩
 obtain ⟨t1, ht1⟩ : ∃ t1, t1 = (Told.mk Pt.zero R false false 0 0).vs := ⟨_, rfl⟩
 obtain ⟨t2, ht2⟩ : ∃ t2, t2 = (Told.mk Pt.zero R false false 0 E).vs := ⟨_, rfl⟩
 have HW1 : Hid (t1 = tz.set 35 (.string (strOfNums R))) := by show _ = _; rw [M.te, tz_mk, tv_b Pt.zero_ok, ht1]
 have HW2 : Hid (t2 = t1.set 39 (.int .i64 E)) := by show _ = _; rw [ht1, tv_e Pt.zero_ok, ht2]
 have HT2 : Hid (t2 = ({ Told.zero with b := R, e := E } : Told).vs) := ht2
 have htv2 : Vals 40 t2 := by rw [ht2]; exact tvals Pt.zero_ok
 obtain ⟨n, hn⟩ : ∃ n, n = R.length := ⟨_, rfl⟩
 have HN : Hid (n = R.length) := hn
 rw [← hR, ← hE, ← hn] at hrd
 rw [← hR, ← hE]
 rw [M.ae, M.pe]
 clear h hq hx hxl hln hk hc0
 clear hR hE ht1 ht2 hn
 go_enter Tryd.func13, Tryd.ntmps13
 go_wp2_with (first
  | (refine s_boxd 3 hs M.cv ?_; clear hs; intro w1 gK hs)
  | (refine s_boxd 4 hs M.va ?_; clear hs; intro w1 gA hs)
  | (refine s_box hs M.vp ?_; clear hs; intro w1 gP hs)
  | (refine s_ald 6 hs M.al ?_; clear hs; intro w1 gR hs)
  | (refine s_ald 7 hs M.at' ?_; clear hs; intro w1 gS hs)
  | (refine s_ald 8 hs M.at' ?_; clear hs; intro w1 gT hs)
  | (refine s_bld _ M.bt ?_)
  | (refine s_st hs M.zv ?_; clear hs; intro w1 hs)
  | (refine s_ld1 hs HC0.out ?_)
  | (refine s_ld hs ?_)
  | (go_at_call 59; go_must (refine (hrd _ hs.rbel).mono ?_); rintro e w1 ⟨ra, rc, rfl, hN, hb1⟩; replace hs := hs.stays hb1; have hcb := conv_bz hN.1 HN.out; clear hb1 hN)
  | (refine wpList_conv_r (by rfl) rfl (by rfl) hcb ?_)
  | (refine s_st1 (v := .string (strOfNums R)) t1 hs HW1.out ?_; clear hs; intro w1 hs)
  | (refine s_st1 (v := .int .i64 E) t2 hs HW2.out ?_; clear hs; intro w1 hs))
 refine s_two hs ?_
 clear hs
 intro w2 hs
 simp only [Act.put, sTA, sT0, sT1]
 go_wp2_with (first
  | (refine s_st hs htv2 ?_; clear hs; intro w1 hs))
 exact s_cc (us := cs) (us' := t2) hs ⟨cs, by rw [HT2.out], hs.rdone⟩
set_option maxHeartbeats 40000000 in
theorem mod_look (h : RB w G cs S l 7) (hln : S.ws.length ≤ 700000) (x : ActK) (hx : x.p.ok) (hxB : Bs w x.ba x.bc x.bs) (hxl : x.bs.length ≤ 300) (q : Pt) (hq : q.ok) (hk : x.kind = 3) : Calls Tryd.prog 13 #[.agg cs.toArray, .agg x.cells.toArray, .agg q.vs.toArray] w fun e w' => ∃ cs', e = .returned (.tuple #[.agg cs'.toArray, .agg ({ Told.zero with g0 := (lookK S q).1.1, g1 := (lookK S q).1.2, e := (lookK S q).2 } : Told).vs.toArray]) ∧ RBThen G w w' cs' S l 7 := by
 obtain ⟨av, pv, tz, zb, zd, dv, M⟩ := mod_pack h hx hq
 have hc0 := M.c0
 rw [hk] at hc0
 have HC0 : Hid _ := hc0
 have hs := h.sep
 have hlk : ∀ u, Below w.heap.size w u → Calls Tryd.prog 60 #[.agg cs.toArray, .agg pv.toArray] u fun e w' => e = .returned (.tuple #[.agg (twoB (lookK S q).1.1 (lookK S q).1.2).toArray, .int .i64 (lookK S q).2]) ∧ Below u.heap.size u w' := fun u hu => by rw [← M.pe]; exact rlk_run (h.stays hu) (by omega) q hq
 obtain ⟨X, hX⟩ : ∃ X, X = (lookK S q).1.1 := ⟨_, rfl⟩
 obtain ⟨Y, hY⟩ : ∃ Y, Y = (lookK S q).1.2 := ⟨_, rfl⟩
 obtain ⟨E, hE⟩ : ∃ E, E = (lookK S q).2 := ⟨_, rfl⟩
 rw [← hX, ← hY, ← hE] at hlk
 rw [← hX, ← hY, ← hE]
 have hxy : Vals 2 (twoB X Y) := ⟨rfl, twoB_one _ _⟩
 obtain ⟨t1, ht1⟩ : ∃ t1, t1 = (Told.mk Pt.zero [] X Y 0 0).vs := ⟨_, rfl⟩
 obtain ⟨t2, ht2⟩ : ∃ t2, t2 = (Told.mk Pt.zero [] X Y 0 E).vs := ⟨_, rfl⟩
 have HW1 : Hid (t1 = tz.take 36 ++ twoB X Y ++ tz.drop (36 + 2)) := by show _ = _; rw [M.te, tz_mk, ← tv_g Pt.zero_ok, ht1]
 have HW2 : Hid (t2 = t1.set 39 (.int .i64 E)) := by show _ = _; rw [ht1, tv_e Pt.zero_ok, ht2]
 have HT2 : Hid (t2 = ({ Told.zero with g0 := X, g1 := Y, e := E } : Told).vs) := ht2
 have htv2 : Vals 40 t2 := by rw [ht2]; exact tvals Pt.zero_ok
 obtain ⟨tb, htb⟩ : ∃ tb, tb = twoB X Y := ⟨_, rfl⟩
 rw [← htb] at hlk hxy HW1
 rw [M.ae, M.pe]
 clear h hq hx hxl hln hk hc0
 clear hX hY hE ht1 ht2 htb
 go_enter Tryd.func13, Tryd.ntmps13
 go_wp2_with (first
  | (refine s_boxd 3 hs M.cv ?_; clear hs; intro w1 gK hs)
  | (refine s_boxd 4 hs M.va ?_; clear hs; intro w1 gA hs)
  | (refine s_box hs M.vp ?_; clear hs; intro w1 gP hs)
  | (refine s_ald 6 hs M.al ?_; clear hs; intro w1 gR hs)
  | (refine s_ald 7 hs M.at' ?_; clear hs; intro w1 gS hs)
  | (refine s_ald 8 hs M.at' ?_; clear hs; intro w1 gT hs)
  | (refine s_bld _ M.bt ?_)
  | (refine s_st hs M.zv ?_; clear hs; intro w1 hs)
  | (refine s_ld1 hs HC0.out ?_)
  | (refine s_ld hs ?_)
  | (go_at_call 60; go_must (refine (hlk _ hs.rbel).mono ?_); rintro e w1 ⟨rfl, hb1⟩; replace hs := hs.stays hb1; clear hb1)
  | (refine s_al hs al_two1 ?_; clear hs; intro w1 gB hs)
  | (refine s_stp t1 hs hxy HW1.out ?_; clear hs; intro w1 hs)
  | (refine s_st hs hxy ?_; clear hs; intro w1 hs)
  | (refine s_st1 (v := .int .i64 E) t2 hs HW2.out ?_; clear hs; intro w1 hs))
 refine s_two hs ?_
 clear hs
 intro w2 hs
 simp only [Act.put, sTA, sT0, sT1]
 go_wp2_with (first
  | (refine s_st hs htv2 ?_; clear hs; intro w1 hs))
 exact s_cc (us := cs) (us' := t2) hs ⟨cs, by rw [HT2.out], hs.rdone⟩
set_option maxHeartbeats 40000000 in
theorem mod_heal (h : RB w G cs S l 7) (hln : S.ws.length ≤ 700000) (x : ActK) (hx : x.p.ok) (hxB : Bs w x.ba x.bc x.bs) (hxl : x.bs.length ≤ 300) (q : Pt) (hq : q.ok) (hk : x.kind = 4) : Calls Tryd.prog 13 #[.agg cs.toArray, .agg x.cells.toArray, .agg q.vs.toArray] w fun e w' => ∃ cs', e = .returned (.tuple #[.agg cs'.toArray, .agg ({ Told.zero with n := (healK S q).1.2, e := (healK S q).2 } : Told).vs.toArray]) ∧ RBThen G w w' cs' (healK S q).1.1 l 7 := by
 obtain ⟨av, pv, tz, zb, zd, dv, M⟩ := mod_pack h hx hq
 have hc0 := M.c0
 rw [hk] at hc0
 have HC0 : Hid _ := hc0
 have hs := h.sep
 have hhe : ∀ u N, RS w u G N [] cs S l 7 → Calls Tryd.prog 61 #[.agg cs.toArray, .agg pv.toArray] u fun e w' => ∃ ds, e = .returned (.tuple #[.agg ds.toArray, .int .i64 ((healK S q).1.2 : Int), .int .i64 (healK S q).2]) ∧ Vals 7 ds ∧ Below u.heap.size u w' ∧ RS w w' G N [] ds (healK S q).1.1 l 7 := fun u N hu => hu.bank_run (E := fun ds => .returned (.tuple #[.agg ds.toArray, .int .i64 ((healK S q).1.2 : Int), .int .i64 (healK S q).2])) (fun H hH => by rw [← M.pe]; exact rheal_run hH (by omega) q hq)
 obtain ⟨nn, hnn⟩ : ∃ nn, nn = (healK S q).1.2 := ⟨_, rfl⟩
 obtain ⟨E, hE⟩ : ∃ E, E = (healK S q).2 := ⟨_, rfl⟩
 obtain ⟨S1, hS1⟩ : ∃ S1, S1 = (healK S q).1.1 := ⟨_, rfl⟩
 rw [← hnn, ← hE, ← hS1] at hhe
 rw [← hnn, ← hE, ← hS1]
 obtain ⟨t1, ht1⟩ : ∃ t1, t1 = (Told.mk Pt.zero [] false false nn 0).vs := ⟨_, rfl⟩
 obtain ⟨t2, ht2⟩ : ∃ t2, t2 = (Told.mk Pt.zero [] false false nn E).vs := ⟨_, rfl⟩
 have HW1 : Hid (t1 = tz.set 38 (.int .i64 (nn : Int))) := by show _ = _; rw [M.te, tz_mk, tv_n Pt.zero_ok, ht1]
 have HW2 : Hid (t2 = t1.set 39 (.int .i64 E)) := by show _ = _; rw [ht1, tv_e Pt.zero_ok, ht2]
 have HT2 : Hid (t2 = ({ Told.zero with n := nn, e := E } : Told).vs) := ht2
 have htv2 : Vals 40 t2 := by rw [ht2]; exact tvals Pt.zero_ok
 rw [M.ae, M.pe]
 clear h hq hx hxl hln hk hc0
 clear hnn hE hS1 ht1 ht2
 go_enter Tryd.func13, Tryd.ntmps13
 go_wp2_with (first
  | (refine s_boxd 3 hs M.cv ?_; clear hs; intro w1 gK hs)
  | (refine s_boxd 4 hs M.va ?_; clear hs; intro w1 gA hs)
  | (refine s_box hs M.vp ?_; clear hs; intro w1 gP hs)
  | (refine s_ald 6 hs M.al ?_; clear hs; intro w1 gR hs)
  | (refine s_ald 7 hs M.at' ?_; clear hs; intro w1 gS hs)
  | (refine s_ald 8 hs M.at' ?_; clear hs; intro w1 gT hs)
  | (refine s_bld _ M.bt ?_)
  | (refine s_st hs M.zv ?_; clear hs; intro w1 hs)
  | (refine s_ld1 hs HC0.out ?_)
  | (refine s_ld hs ?_)
  | (go_at_call 61; go_must (refine (hhe _ _ hs.rs).mono ?_); rintro e w1 ⟨ds, rfl, hd7, hb1, hR⟩; replace hs := hs.rturn hb1 hR; clear hb1 hR)
  | (refine s_al hs M.al ?_; clear hs; intro w1 gH hs)
  | (refine s_st hs hd7 ?_; clear hs; intro w1 hs)
  | (refine s_st1 (v := .int .i64 (nn : Int)) t1 hs HW1.out ?_; clear hs; intro w1 hs)
  | (refine s_st1 (v := .int .i64 E) t2 hs HW2.out ?_; clear hs; intro w1 hs))
 refine s_two hs ?_
 clear hs
 intro w2 hs
 simp only [Act.put, sTA, sT0, sT1]
 go_wp2_with (first
  | (refine s_st hs htv2 ?_; clear hs; intro w1 hs))
 exact s_cc (us := ds) (us' := t2) hs ⟨ds, by rw [HT2.out], hs.rdone⟩
set_option maxHeartbeats 40000000 in
theorem mod_rot (h : RB w G cs S l 7) (hln : S.ws.length ≤ 700000) (x : ActK) (hx : x.p.ok) (hxB : Bs w x.ba x.bc x.bs) (hxl : x.bs.length ≤ 300) (q : Pt) (hq : q.ok) (hk : x.kind = 6) : Calls Tryd.prog 13 #[.agg cs.toArray, .agg x.cells.toArray, .agg q.vs.toArray] w fun e w' => ∃ cs', e = .returned (.tuple #[.agg cs'.toArray, .agg ({ Told.zero with e := (S.rot x.at' x.bs).2 } : Told).vs.toArray]) ∧ RBThen G w w' cs' (S.rot x.at' x.bs).1 l 7 := by
 obtain ⟨av, pv, tz, zb, zd, dv, M⟩ := mod_pack h hx hq
 have hc0 := M.c0
 rw [hk] at hc0
 have HC0 : Hid _ := hc0
 have hs := h.sep
 obtain ⟨sz, hok⟩ := h.ok
 have hdk : ∀ u N, RS w u G N [] cs S l 7 → Calls Tryd.prog 63 #[.agg dv.toArray, .int .i64 x.at', .slice x.ba x.bs.length x.bc] u fun e w' => ∃ ds, e = .returned (.tuple #[.agg ds.toArray, .int .i64 (S.rot x.at' x.bs).2]) ∧ Vals 5 ds ∧ Below u.heap.size u w' ∧ RS w w' G N [] (cs.take 0 ++ ds ++ cs.drop (0 + 5)) (S.rot x.at' x.bs).1 l 7 := fun u N hu => hu.disk_run (E := fun ds => .returned (.tuple #[.agg ds.toArray, .int .i64 (S.rot x.at' x.bs).2])) (rot_laid _ _) (fun H hH => by rw [M.de]; exact rrot_run hH x.at' x.ba x.bc x.bs (hxB.stays hu.bel))
 obtain ⟨S1, hS1⟩ : ∃ S1, S1 = (S.rot x.at' x.bs).1 := ⟨_, rfl⟩
 rw [← hS1] at hdk
 rw [← hS1]
 obtain ⟨E, hE⟩ : ∃ E, E = (S.rot x.at' x.bs).2 := ⟨_, rfl⟩
 rw [← hE] at hdk
 rw [← hE]
 obtain ⟨t2, ht2⟩ : ∃ t2, t2 = (Told.mk Pt.zero [] false false 0 E).vs := ⟨_, rfl⟩
 have HW2 : Hid (t2 = tz.set 39 (.int .i64 E)) := by show _ = _; rw [M.te, tz_mk, tv_e Pt.zero_ok, ht2]
 have HT2 : Hid (t2 = ({ Told.zero with e := E } : Told).vs) := ht2
 have htv2 : Vals 40 t2 := by rw [ht2]; exact tvals Pt.zero_ok
 rw [M.ae, M.pe]
 clear h hq hx hxl hln hk hc0
 clear hS1 hok
 clear hE ht2
 go_enter Tryd.func13, Tryd.ntmps13
 go_wp2_with (first
  | (refine s_boxd 3 hs M.cv ?_; clear hs; intro w1 gK hs)
  | (refine s_boxd 4 hs M.va ?_; clear hs; intro w1 gA hs)
  | (refine s_box hs M.vp ?_; clear hs; intro w1 gP hs)
  | (refine s_ald 6 hs M.al ?_; clear hs; intro w1 gR hs)
  | (refine s_ald 7 hs M.at' ?_; clear hs; intro w1 gS hs)
  | (refine s_ald 8 hs M.at' ?_; clear hs; intro w1 gT hs)
  | (refine s_bld _ M.bt ?_)
  | (refine s_st hs M.zv ?_; clear hs; intro w1 hs)
  | (refine s_ld1 hs HC0.out ?_)
  | (refine s_ld1 hs M.c3 ?_)
  | (refine s_ld1 hs M.c5 ?_)
  | (refine s_ldp hs M.de M.dl ?_)
  | (go_at_call 63; go_must (refine (hdk _ _ hs.rs).mono ?_); rintro e w1 ⟨ds, rfl, hd5, hb1, hR⟩; replace hs := hs.rturn hb1 hR; have hcn := Vals.setD M.cv hd5; obtain ⟨cn, hcne⟩ : ∃ cn, cn = cs.take 0 ++ ds ++ cs.drop (0 + 5) := ⟨_, rfl⟩; have HCN : Hid (cn = cs.take 0 ++ ds ++ cs.drop (0 + 5)) := hcne; rw [← hcne] at hs hcn; clear hb1 hR hcne)
  | (refine s_al hs M.ad ?_; clear hs; intro w1 gD hs)
  | (refine s_stp cn hs hd5 HCN.out ?_; clear hs; intro w1 hs)
  | (refine s_st hs hd5 ?_; clear hs; intro w1 hs)
  | (refine s_ld hs ?_)
  | (refine s_st1 (v := .int .i64 E) t2 hs HW2.out ?_; clear hs; intro w1 hs))
 refine s_two hs ?_
 clear hs
 intro w2 hs
 simp only [Act.put, sTA, sT0, sT1]
 go_wp2_with (first
  | (refine s_st hs htv2 ?_; clear hs; intro w1 hs))
 exact s_cc (us := cn) (us' := t2) hs ⟨cn, by rw [HT2.out], hs.rdone⟩
set_option maxHeartbeats 40000000 in
theorem mod_fuse (h : RB w G cs S l 7) (hln : S.ws.length ≤ 700000) (x : ActK) (hx : x.p.ok) (hxB : Bs w x.ba x.bc x.bs) (hxl : x.bs.length ≤ 300) (q : Pt) (hq : q.ok) (hat : x.at' ≤ 9223372036854775807) (hk : x.kind = 7) : Calls Tryd.prog 13 #[.agg cs.toArray, .agg x.cells.toArray, .agg q.vs.toArray] w fun e w' => ∃ cs', e = .returned (.tuple #[.agg cs'.toArray, .agg (Told.zero).vs.toArray]) ∧ RBThen G w w' cs' (S.fuse x.at') l 7 := by
 obtain ⟨av, pv, tz, zb, zd, dv, M⟩ := mod_pack h hx hq
 have hc0 := M.c0
 rw [hk] at hc0
 have HC0 : Hid _ := hc0
 have hs := h.sep
 obtain ⟨sz, hok⟩ := h.ok
 have hdk : ∀ u N, RS w u G N [] cs S l 7 → Calls Tryd.prog 64 #[.agg dv.toArray, .int .i64 x.at'] u fun e w' => ∃ ds, e = .returned (.agg ds.toArray) ∧ Vals 5 ds ∧ Below u.heap.size u w' ∧ RS w w' G N [] (cs.take 0 ++ ds ++ cs.drop (0 + 5)) (S.fuse x.at') l 7 := fun u N hu => hu.disk_run (E := fun ds => .returned (.agg ds.toArray)) (rfl) (fun H hH => by rw [M.de]; exact rfuse_run hH x.at' hat)
 obtain ⟨S1, hS1⟩ : ∃ S1, S1 = (S.fuse x.at') := ⟨_, rfl⟩
 rw [← hS1] at hdk
 rw [← hS1]
 rw [M.ae, M.pe]
 clear h hq hx hxl hln hk hc0
 clear hS1 hok
 go_enter Tryd.func13, Tryd.ntmps13
 go_wp2_with (first
  | (refine s_boxd 3 hs M.cv ?_; clear hs; intro w1 gK hs)
  | (refine s_boxd 4 hs M.va ?_; clear hs; intro w1 gA hs)
  | (refine s_box hs M.vp ?_; clear hs; intro w1 gP hs)
  | (refine s_ald 6 hs M.al ?_; clear hs; intro w1 gR hs)
  | (refine s_ald 7 hs M.at' ?_; clear hs; intro w1 gS hs)
  | (refine s_ald 8 hs M.at' ?_; clear hs; intro w1 gT hs)
  | (refine s_bld _ M.bt ?_)
  | (refine s_st hs M.zv ?_; clear hs; intro w1 hs)
  | (refine s_ld1 hs HC0.out ?_)
  | (refine s_ld1 hs M.c3 ?_)
  | (refine s_ld1 hs M.c5 ?_)
  | (refine s_ldp hs M.de M.dl ?_)
  | (go_at_call 64; go_must (refine (hdk _ _ hs.rs).mono ?_); rintro e w1 ⟨ds, rfl, hd5, hb1, hR⟩; replace hs := hs.rturn hb1 hR; have hcn := Vals.setD M.cv hd5; obtain ⟨cn, hcne⟩ : ∃ cn, cn = cs.take 0 ++ ds ++ cs.drop (0 + 5) := ⟨_, rfl⟩; have HCN : Hid (cn = cs.take 0 ++ ds ++ cs.drop (0 + 5)) := hcne; rw [← hcne] at hs hcn; clear hb1 hR hcne)
  | (refine s_stp cn hs hd5 HCN.out ?_; clear hs; intro w1 hs))
 refine s_two hs ?_
 clear hs
 intro w2 hs
 simp only [Act.put, sTA, sT0, sT1]
 go_wp2_with (first
  | (refine s_st hs M.zv ?_; clear hs; intro w1 hs))
 exact s_cc (us := cn) (us' := tz) hs ⟨cn, by rw [M.te], hs.rdone⟩
set_option maxHeartbeats 40000000 in
theorem mod_crash (h : RB w G cs S l 7) (hln : S.ws.length ≤ 700000) (x : ActK) (hx : x.p.ok) (hxB : Bs w x.ba x.bc x.bs) (hxl : x.bs.length ≤ 300) (q : Pt) (hq : q.ok) (hk : x.kind = 8) : Calls Tryd.prog 13 #[.agg cs.toArray, .agg x.cells.toArray, .agg q.vs.toArray] w fun e w' => ∃ cs', e = .returned (.tuple #[.agg cs'.toArray, .agg (Told.zero).vs.toArray]) ∧ RBThen G w w' cs' (S.crash []) l 7 := by
 obtain ⟨av, pv, tz, zb, zd, dv, M⟩ := mod_pack h hx hq
 have hc0 := M.c0
 rw [hk] at hc0
 have HC0 : Hid _ := hc0
 have hs := h.sep
 obtain ⟨sz, hok⟩ := h.ok
 have hdk : ∀ u N, RS w u G N [] cs S l 7 → Calls Tryd.prog 65 #[.agg dv.toArray, .slice none 0 0] u fun e w' => ∃ ds, e = .returned (.agg ds.toArray) ∧ Vals 5 ds ∧ Below u.heap.size u w' ∧ RS w w' G N [] (cs.take 0 ++ ds ++ cs.drop (0 + 5)) (S.crash []) l 7 := fun u N hu => hu.disk_run (E := fun ds => .returned (.agg ds.toArray)) (crash_laid hok []) (fun H hH => by rw [M.de]; exact rcrash_run hH (by omega) none 0 [] (.inl rfl) (by simp))
 obtain ⟨S1, hS1⟩ : ∃ S1, S1 = (S.crash []) := ⟨_, rfl⟩
 rw [← hS1] at hdk
 rw [← hS1]
 rw [M.ae, M.pe]
 clear h hq hx hxl hln hk hc0
 clear hS1 hok
 go_enter Tryd.func13, Tryd.ntmps13
 go_wp2_with (first
  | (refine s_boxd 3 hs M.cv ?_; clear hs; intro w1 gK hs)
  | (refine s_boxd 4 hs M.va ?_; clear hs; intro w1 gA hs)
  | (refine s_box hs M.vp ?_; clear hs; intro w1 gP hs)
  | (refine s_ald 6 hs M.al ?_; clear hs; intro w1 gR hs)
  | (refine s_ald 7 hs M.at' ?_; clear hs; intro w1 gS hs)
  | (refine s_ald 8 hs M.at' ?_; clear hs; intro w1 gT hs)
  | (refine s_bld _ M.bt ?_)
  | (refine s_st hs M.zv ?_; clear hs; intro w1 hs)
  | (refine s_ld1 hs HC0.out ?_)
  | (refine s_ld1 hs M.c3 ?_)
  | (refine s_ld1 hs M.c5 ?_)
  | (refine s_ldp hs M.de M.dl ?_)
  | (go_at_call 65; go_must (refine (hdk _ _ hs.rs).mono ?_); rintro e w1 ⟨ds, rfl, hd5, hb1, hR⟩; replace hs := hs.rturn hb1 hR; have hcn := Vals.setD M.cv hd5; obtain ⟨cn, hcne⟩ : ∃ cn, cn = cs.take 0 ++ ds ++ cs.drop (0 + 5) := ⟨_, rfl⟩; have HCN : Hid (cn = cs.take 0 ++ ds ++ cs.drop (0 + 5)) := hcne; rw [← hcne] at hs hcn; clear hb1 hR hcne)
  | (refine s_stp cn hs hd5 HCN.out ?_; clear hs; intro w1 hs))
 refine s_two hs ?_
 clear hs
 intro w2 hs
 simp only [Act.put, sTA, sT0, sT1]
 go_wp2_with (first
  | (refine s_st hs M.zv ?_; clear hs; intro w1 hs))
 exact s_cc (us := cn) (us' := tz) hs ⟨cn, by rw [M.te], hs.rdone⟩
set_option maxHeartbeats 40000000 in
theorem mod_flush (h : RB w G cs S l 7) (hln : S.ws.length ≤ 700000) (x : ActK) (hx : x.p.ok) (hxB : Bs w x.ba x.bc x.bs) (hxl : x.bs.length ≤ 300) (q : Pt) (hq : q.ok) (hk : x.kind = 9) : Calls Tryd.prog 13 #[.agg cs.toArray, .agg x.cells.toArray, .agg q.vs.toArray] w fun e w' => ∃ cs', e = .returned (.tuple #[.agg cs'.toArray, .agg ({ Told.zero with e := S.flush.2 } : Told).vs.toArray]) ∧ RBThen G w w' cs' S.flush.1 l 7 := by
 obtain ⟨av, pv, tz, zb, zd, dv, M⟩ := mod_pack h hx hq
 have hc0 := M.c0
 rw [hk] at hc0
 have HC0 : Hid _ := hc0
 have hs := h.sep
 obtain ⟨sz, hok⟩ := h.ok
 have hdk : ∀ u N, RS w u G N [] cs S l 7 → Calls Tryd.prog 66 #[.agg dv.toArray] u fun e w' => ∃ ds, e = .returned (.tuple #[.agg ds.toArray, .int .i64 S.flush.2]) ∧ Vals 5 ds ∧ Below u.heap.size u w' ∧ RS w w' G N [] (cs.take 0 ++ ds ++ cs.drop (0 + 5)) S.flush.1 l 7 := fun u N hu => hu.disk_run (E := fun ds => .returned (.tuple #[.agg ds.toArray, .int .i64 S.flush.2])) (flush_laid hok) (fun H hH => by rw [M.de]; exact rflush_run hH (by omega))
 obtain ⟨S1, hS1⟩ : ∃ S1, S1 = S.flush.1 := ⟨_, rfl⟩
 rw [← hS1] at hdk
 rw [← hS1]
 obtain ⟨E, hE⟩ : ∃ E, E = S.flush.2 := ⟨_, rfl⟩
 rw [← hE] at hdk
 rw [← hE]
 obtain ⟨t2, ht2⟩ : ∃ t2, t2 = (Told.mk Pt.zero [] false false 0 E).vs := ⟨_, rfl⟩
 have HW2 : Hid (t2 = tz.set 39 (.int .i64 E)) := by show _ = _; rw [M.te, tz_mk, tv_e Pt.zero_ok, ht2]
 have HT2 : Hid (t2 = ({ Told.zero with e := E } : Told).vs) := ht2
 have htv2 : Vals 40 t2 := by rw [ht2]; exact tvals Pt.zero_ok
 rw [M.ae, M.pe]
 clear h hq hx hxl hln hk hc0
 clear hS1 hok
 clear hE ht2
 go_enter Tryd.func13, Tryd.ntmps13
 go_wp2_with (first
  | (refine s_boxd 3 hs M.cv ?_; clear hs; intro w1 gK hs)
  | (refine s_boxd 4 hs M.va ?_; clear hs; intro w1 gA hs)
  | (refine s_box hs M.vp ?_; clear hs; intro w1 gP hs)
  | (refine s_ald 6 hs M.al ?_; clear hs; intro w1 gR hs)
  | (refine s_ald 7 hs M.at' ?_; clear hs; intro w1 gS hs)
  | (refine s_ald 8 hs M.at' ?_; clear hs; intro w1 gT hs)
  | (refine s_bld _ M.bt ?_)
  | (refine s_st hs M.zv ?_; clear hs; intro w1 hs)
  | (refine s_ld1 hs HC0.out ?_)
  | (refine s_ld1 hs M.c3 ?_)
  | (refine s_ld1 hs M.c5 ?_)
  | (refine s_ldp hs M.de M.dl ?_)
  | (go_at_call 66; go_must (refine (hdk _ _ hs.rs).mono ?_); rintro e w1 ⟨ds, rfl, hd5, hb1, hR⟩; replace hs := hs.rturn hb1 hR; have hcn := Vals.setD M.cv hd5; obtain ⟨cn, hcne⟩ : ∃ cn, cn = cs.take 0 ++ ds ++ cs.drop (0 + 5) := ⟨_, rfl⟩; have HCN : Hid (cn = cs.take 0 ++ ds ++ cs.drop (0 + 5)) := hcne; rw [← hcne] at hs hcn; clear hb1 hR hcne)
  | (refine s_al hs M.ad ?_; clear hs; intro w1 gD hs)
  | (refine s_stp cn hs hd5 HCN.out ?_; clear hs; intro w1 hs)
  | (refine s_st hs hd5 ?_; clear hs; intro w1 hs)
  | (refine s_ld hs ?_)
  | (refine s_st1 (v := .int .i64 E) t2 hs HW2.out ?_; clear hs; intro w1 hs))
 refine s_two hs ?_
 clear hs
 intro w2 hs
 simp only [Act.put, sTA, sT0, sT1]
 go_wp2_with (first
  | (refine s_st hs htv2 ?_; clear hs; intro w1 hs))
 exact s_cc (us := cn) (us' := t2) hs ⟨cn, by rw [HT2.out], hs.rdone⟩
end
end Go.Proofs.YthbldjnpnligpaaDoor
