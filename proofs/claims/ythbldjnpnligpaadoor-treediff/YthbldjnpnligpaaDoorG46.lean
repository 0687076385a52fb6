/-
  TreeDiff: 'b, other := a, plain', in all its orders.
-/
import Derived.Test.YthbldjnpnligpaaDoorG45
import Derived.Test.YthbldjnpnligpaaDoorG43
import Derived.Test.YthbldjnpnligpaaDoorG40
namespace Go.Proofs.YthbldjnpnligpaaDoor
set_option linter.unusedSimpArgs false
set_option linter.unusedVariables false
set_option maxRecDepth 100000
open Go.RowKit

theorem evp (A : Act) (d e : Nat) (v : Value) (h : d < A.tmps.size) : (A.put (some d) v).eval (.tmp e) = if d = e then v else A.eval (.tmp e) := by
  show (A.tmps.setIfInBounds d v).getD e undef = if d = e then v else A.tmps.getD e undef
  by_cases he : d = e
  · subst he
    simp [Array.getD_eq_getD_getElem?, h]
  · rw [if_neg he]
    simp [Array.getD_eq_getD_getElem?, Array.getElem?_setIfInBounds_ne he]
theorem szp (A : Act) (d : Nat) (v : Value) : (A.put (some d) v).tmps.size = A.tmps.size := by simp [Act.put]
theorem pnone (A : Act) (v : Value) : A.put none v = A := rfl
theorem pcm (A : Act) (i j : Nat) (v u : Value) (h : i ≠ j) : (A.put (some i) v).put (some j) u = (A.put (some j) u).put (some i) v := by
  unfold Act.put
  simp [Array.setIfInBounds_comm _ _ h]
def r10o0 : Oper := { dst := some 60, op := Go.Op.load 42 (Go.Operand.tmp 8), type := 42, pos := "law.go:272", after := #[], guard := none }
theorem r10d0 : r10o0.dst = some 60 := rfl
def r10o1 : Oper := { dst := some 61, op := Go.Op.load 65 (Go.Operand.tmp 9), type := 65, pos := "law.go:272", after := #[{ on := 4, ground := Go.Ground.gcOnly Go.Departure.lateStores }], guard := none }
theorem r10d1 : r10o1.dst = some 61 := rfl
def r10o2 : Oper := { dst := some 11, op := Go.Op.alloc 42, type := 0, pos := "law.go:272", after := #[], guard := none }
theorem r10d2 : r10o2.dst = some 11 := rfl
def r10o3 : Oper := { dst := some 12, op := Go.Op.alloc 65, type := 0, pos := "law.go:272", after := #[], guard := none }
theorem r10d3 : r10o3.dst = some 12 := rfl
def r10o4 : Oper := { dst := none, op := Go.Op.store 42 (Go.Operand.tmp 11) (Go.Operand.tmp 60), type := 0, pos := "law.go:272", after := #[{ on := 2, ground := Go.Ground.data }, { on := 0, ground := Go.Ground.data }, { on := 0, ground := Go.Ground.phase }, { on := 1, ground := Go.Ground.textOnly Go.Departure.lateStores }, { on := 2, ground := Go.Ground.phase }, { on := 3, ground := Go.Ground.phase }], guard := none }
theorem r10d4 : r10o4.dst = none := rfl
def r10o5 : Oper := { dst := none, op := Go.Op.store 65 (Go.Operand.tmp 12) (Go.Operand.tmp 61), type := 0, pos := "law.go:272", after := #[{ on := 3, ground := Go.Ground.data }, { on := 1, ground := Go.Ground.data }, { on := 4, ground := Go.Ground.chain }, { on := 0, ground := Go.Ground.phase }, { on := 1, ground := Go.Ground.phase }, { on := 2, ground := Go.Ground.phase }, { on := 3, ground := Go.Ground.phase }, { on := 4, ground := Go.Ground.phase }], guard := none }
theorem r10d5 : r10o5.dst = none := rfl
def r10ops : Array Oper := #[r10o0, r10o1, r10o2, r10o3, r10o4, r10o5]

@[irreducible] def Stp (P : Program) (ops : Array Oper) (o : Oper) (a : Act) (w : World) (K : Act → World → Prop) (Q : Exit → Act → World → Prop) (E : Prop) : Prop := if Region.wanted o (yielded ops a.tmps) = true then Oper.wp P o a w K Q else E
section
variable {P : Program} {md : Region.Mode} {ops : Array Oper} {o : Oper} {a : Act} {w : World} {K : Act → World → Prop} {Q : Exit → Act → World → Prop} {E : Prop} {B : Nat} {I : (Nat → Prop) → World → Prop} {L L' : List Ent} {T : List Sli} {t e : TypeId} {n g : Nat} {vs us : List Value} {x y : Operand}
theorem Stp.mk (h : if Region.wanted o (yielded ops a.tmps) = true then Oper.wp P o a w K Q else E) : Stp P ops o a w K Q E := by unfold Stp; exact h
theorem AR.cons {fuel : Nat} {listed : Array Bool} {i : Nat} {rs : List Nat} (ho : ops[i]? = some o)
    (h : ∀ K' : Act → World → Prop, (∀ a w, wpAny P md ops Q fuel (listed.setIfInBounds i true) a w → K' a w) → Stp P ops o a w K' Q (K' (a.put o.dst undef) w))
    (hs : AllReady P md ops Q fuel listed a w rs) : AllReady P md ops Q fuel listed a w (i :: rs) := AllReady.cons ho (fun K hK => by have := h K hK; unfold Stp at this; exact this) hs
theorem stp_loadw (h : Sep B I w L T) (hgd : o.guard = none) (ho : o.op = Op.load t x) (hx : a.eval x = .pointer (some ⟨g, 0, none⟩)) (hm : (⟨g, e, n, vs⟩ : Ent) ∈ L) (hT : Ty P t n)
    (hk : K (a.put o.dst (.agg vs.toArray)) w) : Stp P ops o a w K Q E := Stp.mk (sep_step_loadw h hgd ho hx hm hT hk)
theorem stp_storew (h : Sep B I w L T) (hgd : o.guard = none) (ho : o.op = Op.store t x y) (hx : a.eval x = .pointer (some ⟨g, 0, none⟩)) (hy : a.eval y = .agg us.toArray) (hup : Upd L g e n vs us L') (hT : Ty P t n) (hv : Vals n us)
    (hk : ∀ w', Sep B I w' L' T → K (a.put o.dst undef) w') : Stp P ops o a w K Q E := Stp.mk (sep_step_storew h hgd ho hx hy hup hT hv hk)
theorem stp_alloc (h : Sep B I w L T) (hgd : o.guard = none) (ho : o.op = Op.alloc t) (hr : (∀ w, (Instr.alloc t true (.tuple #[])).run P w = .ok (.pointer (some ⟨w.heap.size, 0, none⟩)) (w.alloc (.cells vs.toArray t))) ∧ Vals n vs)
    (hk : ∀ w' g, Sep B I w' (⟨g, t, n, vs⟩ :: L) T → K (a.put o.dst (.pointer (some ⟨g, 0, none⟩))) w') : Stp P ops o a w K Q E := Stp.mk (sep_step_alloc h hgd ho hr hk)
end
set_option maxHeartbeats 40000000 in
theorem r10_run {B : Nat} {I : (Nat → Prop) → World → Prop} {A : Act} {w : World} {gP gL gA tA nA : Nat} {qv pv vA zv zp : List Value}
    (hs : Sep B I w [⟨gL, 65, 16, pv⟩, ⟨gP, 42, 35, qv⟩, ⟨gA, tA, nA, vA⟩] [])
    (h8 : A.eval (.tmp 8) = .pointer (some ⟨gP, 0, none⟩)) (h9 : A.eval (.tmp 9) = .pointer (some ⟨gL, 0, none⟩)) (hsz : Nat.ble 62 A.tmps.size = true)
    (ty_ptr : Ty Tryd.prog 42 35) (ty_plain : Ty Tryd.prog 65 16) (hqv : Vals 35 qv) (hpv : Vals 16 pv)
    (hap0 : (∀ w, (Instr.alloc 42 true (.tuple #[])).run Tryd.prog w = .ok (.pointer (some ⟨w.heap.size, 0, none⟩)) (w.alloc (.cells zv.toArray 42))) ∧ Vals 35 zv)
    (hap1 : (∀ w, (Instr.alloc 65 true (.tuple #[])).run Tryd.prog w = .ok (.pointer (some ⟨w.heap.size, 0, none⟩)) (w.alloc (.cells zp.toArray 65))) ∧ Vals 16 zp) :
    wpAny Tryd.prog .any r10ops (midQ fun a' w' => ∃ gX gY, a' = (((A.put (some 60) (.agg qv.toArray)).put (some 61) (.agg pv.toArray)).put (some 11) (.pointer (some ⟨gX, 0, none⟩))).put (some 12) (.pointer (some ⟨gY, 0, none⟩)) ∧ Sep B I w' [⟨gY, 65, 16, pv⟩, ⟨gX, 42, 35, qv⟩, ⟨gL, 65, 16, pv⟩, ⟨gP, 42, 35, qv⟩, ⟨gA, tA, nA, vA⟩] []) r10ops.size (Array.replicate r10ops.size false) A w := by
  have hl := Nat.le_of_ble_eq_true hsz
  have s1 : 60 < A.tmps.size := by omega
  have s2 : 61 < A.tmps.size := by omega
  have s3 : 11 < A.tmps.size := by omega
  have s4 : 12 < A.tmps.size := by omega
  clear hl hsz
  refine wpAny_ready (rs := [0, 1, 2, 3]) (by kernel_rfl) (by simp) (AR.cons (o := r10o0) rfl (fun K hK => stp_loadw (g := gP) (vs := qv) hs rfl rfl (by simp [pnone, evp, szp, h8, h9, s1, s2, s3, s4]) (by repeat (first | exact List.Mem.head _ | apply List.Mem.tail)) ty_ptr (hK _ _ ?_)) (AR.cons (o := r10o1) rfl (fun K hK => stp_loadw (g := gL) (vs := pv) hs rfl rfl (by simp [pnone, evp, szp, h8, h9, s1, s2, s3, s4]) (by repeat (first | exact List.Mem.head _ | apply List.Mem.tail)) ty_plain (hK _ _ ?_)) (AR.cons (o := r10o2) rfl (fun K hK => stp_alloc hs rfl rfl hap0 (fun w1 gX hs => hK _ _ ?_)) (AR.cons (o := r10o3) rfl (fun K hK => stp_alloc hs rfl rfl hap1 (fun w1 gY hs => hK _ _ ?_)) AllReady.nil))))
  · simp only [r10d0, r10d1, r10d2, r10d3, r10d4, r10d5, pnone]
    refine wpAny_ready (rs := [1, 2, 3]) (by kernel_rfl) (by simp) (AR.cons (o := r10o1) rfl (fun K hK => stp_loadw (g := gL) (vs := pv) hs rfl rfl (by simp [pnone, evp, szp, h8, h9, s1, s2, s3, s4]) (by repeat (first | exact List.Mem.head _ | apply List.Mem.tail)) ty_plain (hK _ _ ?_)) (AR.cons (o := r10o2) rfl (fun K hK => stp_alloc hs rfl rfl hap0 (fun w1 gX hs => hK _ _ ?_)) (AR.cons (o := r10o3) rfl (fun K hK => stp_alloc hs rfl rfl hap1 (fun w1 gY hs => hK _ _ ?_)) AllReady.nil)))
    · simp only [r10d0, r10d1, r10d2, r10d3, r10d4, r10d5, pnone]
      refine wpAny_ready (rs := [2, 3]) (by kernel_rfl) (by simp) (AR.cons (o := r10o2) rfl (fun K hK => stp_alloc hs rfl rfl hap0 (fun w1 gX hs => hK _ _ ?_)) (AR.cons (o := r10o3) rfl (fun K hK => stp_alloc hs rfl rfl hap1 (fun w1 gY hs => hK _ _ ?_)) AllReady.nil))
      · simp only [r10d0, r10d1, r10d2, r10d3, r10d4, r10d5, pnone]
        refine wpAny_ready (rs := [3]) (by kernel_rfl) (by simp) (AR.cons (o := r10o3) rfl (fun K hK => stp_alloc hs rfl rfl hap1 (fun w1 gY hs => hK _ _ ?_)) AllReady.nil)
        simp only [r10d0, r10d1, r10d2, r10d3, r10d4, r10d5, pnone]
        refine wpAny_ready (rs := [4]) (by kernel_rfl) (by simp) (AR.cons (o := r10o4) rfl (fun K hK => stp_storew (g := gX) (us := qv) hs rfl rfl (by simp [pnone, evp, szp, h8, h9, s1, s2, s3, s4]) (by simp [pnone, evp, szp, h8, h9, s1, s2, s3, s4]) (by repeat (first | exact Upd.head | apply Upd.tail)) ty_ptr hqv (fun w1 hs => hK _ _ ?_)) AllReady.nil)
        simp only [r10d0, r10d1, r10d2, r10d3, r10d4, r10d5, pnone]
        refine wpAny_ready (rs := [5]) (by kernel_rfl) (by simp) (AR.cons (o := r10o5) rfl (fun K hK => stp_storew (g := gY) (us := pv) hs rfl rfl (by simp [pnone, evp, szp, h8, h9, s1, s2, s3, s4]) (by simp [pnone, evp, szp, h8, h9, s1, s2, s3, s4]) (by repeat (first | exact Upd.head | apply Upd.tail)) ty_plain hpv (fun w1 hs => hK _ _ ?_)) AllReady.nil)
        simp only [r10d0, r10d1, r10d2, r10d3, r10d4, r10d5, pnone]
        refine wpAny_done (by kernel_rfl) ?_ _
        exact ⟨gX, gY, rfl, hs⟩
      · simp only [r10d0, r10d1, r10d2, r10d3, r10d4, r10d5, pnone]
        refine wpAny_ready (rs := [2]) (by kernel_rfl) (by simp) (AR.cons (o := r10o2) rfl (fun K hK => stp_alloc hs rfl rfl hap0 (fun w1 gX hs => hK _ _ ?_)) AllReady.nil)
        simp only [r10d0, r10d1, r10d2, r10d3, r10d4, r10d5, pnone]
        refine wpAny_ready (rs := [4]) (by kernel_rfl) (by simp) (AR.cons (o := r10o4) rfl (fun K hK => stp_storew (g := gX) (us := qv) hs rfl rfl (by simp [pnone, evp, szp, h8, h9, s1, s2, s3, s4]) (by simp [pnone, evp, szp, h8, h9, s1, s2, s3, s4]) (by repeat (first | exact Upd.head | apply Upd.tail)) ty_ptr hqv (fun w1 hs => hK _ _ ?_)) AllReady.nil)
        simp only [r10d0, r10d1, r10d2, r10d3, r10d4, r10d5, pnone]
        refine wpAny_ready (rs := [5]) (by kernel_rfl) (by simp) (AR.cons (o := r10o5) rfl (fun K hK => stp_storew (g := gY) (us := pv) hs rfl rfl (by simp [pnone, evp, szp, h8, h9, s1, s2, s3, s4]) (by simp [pnone, evp, szp, h8, h9, s1, s2, s3, s4]) (by repeat (first | exact Upd.head | apply Upd.tail)) ty_plain hpv (fun w1 hs => hK _ _ ?_)) AllReady.nil)
        simp only [r10d0, r10d1, r10d2, r10d3, r10d4, r10d5, pnone]
        refine wpAny_done (by kernel_rfl) ?_ _
        replace hs := hs.swapL
        exact ⟨gX, gY, by rw [pcm _ 12 11 _ _ (by decide)], hs⟩
    · simp only [r10d0, r10d1, r10d2, r10d3, r10d4, r10d5, pnone]
      refine wpAny_ready (rs := [1, 3]) (by kernel_rfl) (by simp) (AR.cons (o := r10o1) rfl (fun K hK => stp_loadw (g := gL) (vs := pv) hs rfl rfl (by simp [pnone, evp, szp, h8, h9, s1, s2, s3, s4]) (by repeat (first | exact List.Mem.head _ | apply List.Mem.tail)) ty_plain (hK _ _ ?_)) (AR.cons (o := r10o3) rfl (fun K hK => stp_alloc hs rfl rfl hap1 (fun w1 gY hs => hK _ _ ?_)) AllReady.nil))
      · simp only [r10d0, r10d1, r10d2, r10d3, r10d4, r10d5, pnone]
        refine wpAny_ready (rs := [3]) (by kernel_rfl) (by simp) (AR.cons (o := r10o3) rfl (fun K hK => stp_alloc hs rfl rfl hap1 (fun w1 gY hs => hK _ _ ?_)) AllReady.nil)
        simp only [r10d0, r10d1, r10d2, r10d3, r10d4, r10d5, pnone]
        refine wpAny_ready (rs := [4]) (by kernel_rfl) (by simp) (AR.cons (o := r10o4) rfl (fun K hK => stp_storew (g := gX) (us := qv) hs rfl rfl (by simp [pnone, evp, szp, h8, h9, s1, s2, s3, s4]) (by simp [pnone, evp, szp, h8, h9, s1, s2, s3, s4]) (by repeat (first | exact Upd.head | apply Upd.tail)) ty_ptr hqv (fun w1 hs => hK _ _ ?_)) AllReady.nil)
        simp only [r10d0, r10d1, r10d2, r10d3, r10d4, r10d5, pnone]
        refine wpAny_ready (rs := [5]) (by kernel_rfl) (by simp) (AR.cons (o := r10o5) rfl (fun K hK => stp_storew (g := gY) (us := pv) hs rfl rfl (by simp [pnone, evp, szp, h8, h9, s1, s2, s3, s4]) (by simp [pnone, evp, szp, h8, h9, s1, s2, s3, s4]) (by repeat (first | exact Upd.head | apply Upd.tail)) ty_plain hpv (fun w1 hs => hK _ _ ?_)) AllReady.nil)
        simp only [r10d0, r10d1, r10d2, r10d3, r10d4, r10d5, pnone]
        refine wpAny_done (by kernel_rfl) ?_ _
        exact ⟨gX, gY, by rw [pcm _ 11 61 _ _ (by decide)], hs⟩
      · simp only [r10d0, r10d1, r10d2, r10d3, r10d4, r10d5, pnone]
        refine wpAny_ready (rs := [1, 4]) (by kernel_rfl) (by simp) (AR.cons (o := r10o1) rfl (fun K hK => stp_loadw (g := gL) (vs := pv) hs rfl rfl (by simp [pnone, evp, szp, h8, h9, s1, s2, s3, s4]) (by repeat (first | exact List.Mem.head _ | apply List.Mem.tail)) ty_plain (hK _ _ ?_)) (AR.cons (o := r10o4) rfl (fun K hK => stp_storew (g := gX) (us := qv) hs rfl rfl (by simp [pnone, evp, szp, h8, h9, s1, s2, s3, s4]) (by simp [pnone, evp, szp, h8, h9, s1, s2, s3, s4]) (by repeat (first | exact Upd.head | apply Upd.tail)) ty_ptr hqv (fun w1 hs => hK _ _ ?_)) AllReady.nil))
        · simp only [r10d0, r10d1, r10d2, r10d3, r10d4, r10d5, pnone]
          refine wpAny_ready (rs := [4]) (by kernel_rfl) (by simp) (AR.cons (o := r10o4) rfl (fun K hK => stp_storew (g := gX) (us := qv) hs rfl rfl (by simp [pnone, evp, szp, h8, h9, s1, s2, s3, s4]) (by simp [pnone, evp, szp, h8, h9, s1, s2, s3, s4]) (by repeat (first | exact Upd.head | apply Upd.tail)) ty_ptr hqv (fun w1 hs => hK _ _ ?_)) AllReady.nil)
          simp only [r10d0, r10d1, r10d2, r10d3, r10d4, r10d5, pnone]
          refine wpAny_ready (rs := [5]) (by kernel_rfl) (by simp) (AR.cons (o := r10o5) rfl (fun K hK => stp_storew (g := gY) (us := pv) hs rfl rfl (by simp [pnone, evp, szp, h8, h9, s1, s2, s3, s4]) (by simp [pnone, evp, szp, h8, h9, s1, s2, s3, s4]) (by repeat (first | exact Upd.head | apply Upd.tail)) ty_plain hpv (fun w1 hs => hK _ _ ?_)) AllReady.nil)
          simp only [r10d0, r10d1, r10d2, r10d3, r10d4, r10d5, pnone]
          refine wpAny_done (by kernel_rfl) ?_ _
          exact ⟨gX, gY, by rw [pcm _ 12 61 _ _ (by decide), pcm _ 11 61 _ _ (by decide)], hs⟩
        · simp only [r10d0, r10d1, r10d2, r10d3, r10d4, r10d5, pnone]
          refine wpAny_ready (rs := [1]) (by kernel_rfl) (by simp) (AR.cons (o := r10o1) rfl (fun K hK => stp_loadw (g := gL) (vs := pv) hs rfl rfl (by simp [pnone, evp, szp, h8, h9, s1, s2, s3, s4]) (by repeat (first | exact List.Mem.head _ | apply List.Mem.tail)) ty_plain (hK _ _ ?_)) AllReady.nil)
          simp only [r10d0, r10d1, r10d2, r10d3, r10d4, r10d5, pnone]
          refine wpAny_ready (rs := [5]) (by kernel_rfl) (by simp) (AR.cons (o := r10o5) rfl (fun K hK => stp_storew (g := gY) (us := pv) hs rfl rfl (by simp [pnone, evp, szp, h8, h9, s1, s2, s3, s4]) (by simp [pnone, evp, szp, h8, h9, s1, s2, s3, s4]) (by repeat (first | exact Upd.head | apply Upd.tail)) ty_plain hpv (fun w1 hs => hK _ _ ?_)) AllReady.nil)
          simp only [r10d0, r10d1, r10d2, r10d3, r10d4, r10d5, pnone]
          refine wpAny_done (by kernel_rfl) ?_ _
          exact ⟨gX, gY, by rw [pcm _ 12 61 _ _ (by decide), pcm _ 11 61 _ _ (by decide)], hs⟩
    · simp only [r10d0, r10d1, r10d2, r10d3, r10d4, r10d5, pnone]
      refine wpAny_ready (rs := [1, 2]) (by kernel_rfl) (by simp) (AR.cons (o := r10o1) rfl (fun K hK => stp_loadw (g := gL) (vs := pv) hs rfl rfl (by simp [pnone, evp, szp, h8, h9, s1, s2, s3, s4]) (by repeat (first | exact List.Mem.head _ | apply List.Mem.tail)) ty_plain (hK _ _ ?_)) (AR.cons (o := r10o2) rfl (fun K hK => stp_alloc hs rfl rfl hap0 (fun w1 gX hs => hK _ _ ?_)) AllReady.nil))
      · simp only [r10d0, r10d1, r10d2, r10d3, r10d4, r10d5, pnone]
        refine wpAny_ready (rs := [2]) (by kernel_rfl) (by simp) (AR.cons (o := r10o2) rfl (fun K hK => stp_alloc hs rfl rfl hap0 (fun w1 gX hs => hK _ _ ?_)) AllReady.nil)
        simp only [r10d0, r10d1, r10d2, r10d3, r10d4, r10d5, pnone]
        refine wpAny_ready (rs := [4]) (by kernel_rfl) (by simp) (AR.cons (o := r10o4) rfl (fun K hK => stp_storew (g := gX) (us := qv) hs rfl rfl (by simp [pnone, evp, szp, h8, h9, s1, s2, s3, s4]) (by simp [pnone, evp, szp, h8, h9, s1, s2, s3, s4]) (by repeat (first | exact Upd.head | apply Upd.tail)) ty_ptr hqv (fun w1 hs => hK _ _ ?_)) AllReady.nil)
        simp only [r10d0, r10d1, r10d2, r10d3, r10d4, r10d5, pnone]
        refine wpAny_ready (rs := [5]) (by kernel_rfl) (by simp) (AR.cons (o := r10o5) rfl (fun K hK => stp_storew (g := gY) (us := pv) hs rfl rfl (by simp [pnone, evp, szp, h8, h9, s1, s2, s3, s4]) (by simp [pnone, evp, szp, h8, h9, s1, s2, s3, s4]) (by repeat (first | exact Upd.head | apply Upd.tail)) ty_plain hpv (fun w1 hs => hK _ _ ?_)) AllReady.nil)
        simp only [r10d0, r10d1, r10d2, r10d3, r10d4, r10d5, pnone]
        refine wpAny_done (by kernel_rfl) ?_ _
        replace hs := hs.swapL
        exact ⟨gX, gY, by rw [pcm _ 12 61 _ _ (by decide), pcm _ 12 11 _ _ (by decide)], hs⟩
      · simp only [r10d0, r10d1, r10d2, r10d3, r10d4, r10d5, pnone]
        refine wpAny_ready (rs := [1, 4]) (by kernel_rfl) (by simp) (AR.cons (o := r10o1) rfl (fun K hK => stp_loadw (g := gL) (vs := pv) hs rfl rfl (by simp [pnone, evp, szp, h8, h9, s1, s2, s3, s4]) (by repeat (first | exact List.Mem.head _ | apply List.Mem.tail)) ty_plain (hK _ _ ?_)) (AR.cons (o := r10o4) rfl (fun K hK => stp_storew (g := gX) (us := qv) hs rfl rfl (by simp [pnone, evp, szp, h8, h9, s1, s2, s3, s4]) (by simp [pnone, evp, szp, h8, h9, s1, s2, s3, s4]) (by repeat (first | exact Upd.head | apply Upd.tail)) ty_ptr hqv (fun w1 hs => hK _ _ ?_)) AllReady.nil))
        · simp only [r10d0, r10d1, r10d2, r10d3, r10d4, r10d5, pnone]
          refine wpAny_ready (rs := [4]) (by kernel_rfl) (by simp) (AR.cons (o := r10o4) rfl (fun K hK => stp_storew (g := gX) (us := qv) hs rfl rfl (by simp [pnone, evp, szp, h8, h9, s1, s2, s3, s4]) (by simp [pnone, evp, szp, h8, h9, s1, s2, s3, s4]) (by repeat (first | exact Upd.head | apply Upd.tail)) ty_ptr hqv (fun w1 hs => hK _ _ ?_)) AllReady.nil)
          simp only [r10d0, r10d1, r10d2, r10d3, r10d4, r10d5, pnone]
          refine wpAny_ready (rs := [5]) (by kernel_rfl) (by simp) (AR.cons (o := r10o5) rfl (fun K hK => stp_storew (g := gY) (us := pv) hs rfl rfl (by simp [pnone, evp, szp, h8, h9, s1, s2, s3, s4]) (by simp [pnone, evp, szp, h8, h9, s1, s2, s3, s4]) (by repeat (first | exact Upd.head | apply Upd.tail)) ty_plain hpv (fun w1 hs => hK _ _ ?_)) AllReady.nil)
          simp only [r10d0, r10d1, r10d2, r10d3, r10d4, r10d5, pnone]
          refine wpAny_done (by kernel_rfl) ?_ _
          replace hs := hs.swapL
          exact ⟨gX, gY, by rw [pcm _ 12 11 _ _ (by decide), pcm _ 12 61 _ _ (by decide), pcm _ 11 61 _ _ (by decide)], hs⟩
        · simp only [r10d0, r10d1, r10d2, r10d3, r10d4, r10d5, pnone]
          refine wpAny_ready (rs := [1]) (by kernel_rfl) (by simp) (AR.cons (o := r10o1) rfl (fun K hK => stp_loadw (g := gL) (vs := pv) hs rfl rfl (by simp [pnone, evp, szp, h8, h9, s1, s2, s3, s4]) (by repeat (first | exact List.Mem.head _ | apply List.Mem.tail)) ty_plain (hK _ _ ?_)) AllReady.nil)
          simp only [r10d0, r10d1, r10d2, r10d3, r10d4, r10d5, pnone]
          refine wpAny_ready (rs := [5]) (by kernel_rfl) (by simp) (AR.cons (o := r10o5) rfl (fun K hK => stp_storew (g := gY) (us := pv) hs rfl rfl (by simp [pnone, evp, szp, h8, h9, s1, s2, s3, s4]) (by simp [pnone, evp, szp, h8, h9, s1, s2, s3, s4]) (by repeat (first | exact Upd.head | apply Upd.tail)) ty_plain hpv (fun w1 hs => hK _ _ ?_)) AllReady.nil)
          simp only [r10d0, r10d1, r10d2, r10d3, r10d4, r10d5, pnone]
          refine wpAny_done (by kernel_rfl) ?_ _
          replace hs := hs.swapL
          exact ⟨gX, gY, by rw [pcm _ 12 11 _ _ (by decide), pcm _ 12 61 _ _ (by decide), pcm _ 11 61 _ _ (by decide)], hs⟩
  · simp only [r10d0, r10d1, r10d2, r10d3, r10d4, r10d5, pnone]
    refine wpAny_ready (rs := [0, 2, 3]) (by kernel_rfl) (by simp) (AR.cons (o := r10o0) rfl (fun K hK => stp_loadw (g := gP) (vs := qv) hs rfl rfl (by simp [pnone, evp, szp, h8, h9, s1, s2, s3, s4]) (by repeat (first | exact List.Mem.head _ | apply List.Mem.tail)) ty_ptr (hK _ _ ?_)) (AR.cons (o := r10o2) rfl (fun K hK => stp_alloc hs rfl rfl hap0 (fun w1 gX hs => hK _ _ ?_)) (AR.cons (o := r10o3) rfl (fun K hK => stp_alloc hs rfl rfl hap1 (fun w1 gY hs => hK _ _ ?_)) AllReady.nil)))
    · simp only [r10d0, r10d1, r10d2, r10d3, r10d4, r10d5, pnone]
      refine wpAny_ready (rs := [2, 3]) (by kernel_rfl) (by simp) (AR.cons (o := r10o2) rfl (fun K hK => stp_alloc hs rfl rfl hap0 (fun w1 gX hs => hK _ _ ?_)) (AR.cons (o := r10o3) rfl (fun K hK => stp_alloc hs rfl rfl hap1 (fun w1 gY hs => hK _ _ ?_)) AllReady.nil))
      · simp only [r10d0, r10d1, r10d2, r10d3, r10d4, r10d5, pnone]
        refine wpAny_ready (rs := [3]) (by kernel_rfl) (by simp) (AR.cons (o := r10o3) rfl (fun K hK => stp_alloc hs rfl rfl hap1 (fun w1 gY hs => hK _ _ ?_)) AllReady.nil)
        simp only [r10d0, r10d1, r10d2, r10d3, r10d4, r10d5, pnone]
        refine wpAny_ready (rs := [4]) (by kernel_rfl) (by simp) (AR.cons (o := r10o4) rfl (fun K hK => stp_storew (g := gX) (us := qv) hs rfl rfl (by simp [pnone, evp, szp, h8, h9, s1, s2, s3, s4]) (by simp [pnone, evp, szp, h8, h9, s1, s2, s3, s4]) (by repeat (first | exact Upd.head | apply Upd.tail)) ty_ptr hqv (fun w1 hs => hK _ _ ?_)) AllReady.nil)
        simp only [r10d0, r10d1, r10d2, r10d3, r10d4, r10d5, pnone]
        refine wpAny_ready (rs := [5]) (by kernel_rfl) (by simp) (AR.cons (o := r10o5) rfl (fun K hK => stp_storew (g := gY) (us := pv) hs rfl rfl (by simp [pnone, evp, szp, h8, h9, s1, s2, s3, s4]) (by simp [pnone, evp, szp, h8, h9, s1, s2, s3, s4]) (by repeat (first | exact Upd.head | apply Upd.tail)) ty_plain hpv (fun w1 hs => hK _ _ ?_)) AllReady.nil)
        simp only [r10d0, r10d1, r10d2, r10d3, r10d4, r10d5, pnone]
        refine wpAny_done (by kernel_rfl) ?_ _
        exact ⟨gX, gY, by rw [pcm _ 61 60 _ _ (by decide)], hs⟩
      · simp only [r10d0, r10d1, r10d2, r10d3, r10d4, r10d5, pnone]
        refine wpAny_ready (rs := [2]) (by kernel_rfl) (by simp) (AR.cons (o := r10o2) rfl (fun K hK => stp_alloc hs rfl rfl hap0 (fun w1 gX hs => hK _ _ ?_)) AllReady.nil)
        simp only [r10d0, r10d1, r10d2, r10d3, r10d4, r10d5, pnone]
        refine wpAny_ready (rs := [4]) (by kernel_rfl) (by simp) (AR.cons (o := r10o4) rfl (fun K hK => stp_storew (g := gX) (us := qv) hs rfl rfl (by simp [pnone, evp, szp, h8, h9, s1, s2, s3, s4]) (by simp [pnone, evp, szp, h8, h9, s1, s2, s3, s4]) (by repeat (first | exact Upd.head | apply Upd.tail)) ty_ptr hqv (fun w1 hs => hK _ _ ?_)) AllReady.nil)
        simp only [r10d0, r10d1, r10d2, r10d3, r10d4, r10d5, pnone]
        refine wpAny_ready (rs := [5]) (by kernel_rfl) (by simp) (AR.cons (o := r10o5) rfl (fun K hK => stp_storew (g := gY) (us := pv) hs rfl rfl (by simp [pnone, evp, szp, h8, h9, s1, s2, s3, s4]) (by simp [pnone, evp, szp, h8, h9, s1, s2, s3, s4]) (by repeat (first | exact Upd.head | apply Upd.tail)) ty_plain hpv (fun w1 hs => hK _ _ ?_)) AllReady.nil)
        simp only [r10d0, r10d1, r10d2, r10d3, r10d4, r10d5, pnone]
        refine wpAny_done (by kernel_rfl) ?_ _
        replace hs := hs.swapL
        exact ⟨gX, gY, by rw [pcm _ 61 60 _ _ (by decide), pcm _ 12 11 _ _ (by decide)], hs⟩
    · simp only [r10d0, r10d1, r10d2, r10d3, r10d4, r10d5, pnone]
      refine wpAny_ready (rs := [0, 3]) (by kernel_rfl) (by simp) (AR.cons (o := r10o0) rfl (fun K hK => stp_loadw (g := gP) (vs := qv) hs rfl rfl (by simp [pnone, evp, szp, h8, h9, s1, s2, s3, s4]) (by repeat (first | exact List.Mem.head _ | apply List.Mem.tail)) ty_ptr (hK _ _ ?_)) (AR.cons (o := r10o3) rfl (fun K hK => stp_alloc hs rfl rfl hap1 (fun w1 gY hs => hK _ _ ?_)) AllReady.nil))
      · simp only [r10d0, r10d1, r10d2, r10d3, r10d4, r10d5, pnone]
        refine wpAny_ready (rs := [3]) (by kernel_rfl) (by simp) (AR.cons (o := r10o3) rfl (fun K hK => stp_alloc hs rfl rfl hap1 (fun w1 gY hs => hK _ _ ?_)) AllReady.nil)
        simp only [r10d0, r10d1, r10d2, r10d3, r10d4, r10d5, pnone]
        refine wpAny_ready (rs := [4]) (by kernel_rfl) (by simp) (AR.cons (o := r10o4) rfl (fun K hK => stp_storew (g := gX) (us := qv) hs rfl rfl (by simp [pnone, evp, szp, h8, h9, s1, s2, s3, s4]) (by simp [pnone, evp, szp, h8, h9, s1, s2, s3, s4]) (by repeat (first | exact Upd.head | apply Upd.tail)) ty_ptr hqv (fun w1 hs => hK _ _ ?_)) AllReady.nil)
        simp only [r10d0, r10d1, r10d2, r10d3, r10d4, r10d5, pnone]
        refine wpAny_ready (rs := [5]) (by kernel_rfl) (by simp) (AR.cons (o := r10o5) rfl (fun K hK => stp_storew (g := gY) (us := pv) hs rfl rfl (by simp [pnone, evp, szp, h8, h9, s1, s2, s3, s4]) (by simp [pnone, evp, szp, h8, h9, s1, s2, s3, s4]) (by repeat (first | exact Upd.head | apply Upd.tail)) ty_plain hpv (fun w1 hs => hK _ _ ?_)) AllReady.nil)
        simp only [r10d0, r10d1, r10d2, r10d3, r10d4, r10d5, pnone]
        refine wpAny_done (by kernel_rfl) ?_ _
        exact ⟨gX, gY, by rw [pcm _ 11 60 _ _ (by decide), pcm _ 61 60 _ _ (by decide)], hs⟩
      · simp only [r10d0, r10d1, r10d2, r10d3, r10d4, r10d5, pnone]
        refine wpAny_ready (rs := [0]) (by kernel_rfl) (by simp) (AR.cons (o := r10o0) rfl (fun K hK => stp_loadw (g := gP) (vs := qv) hs rfl rfl (by simp [pnone, evp, szp, h8, h9, s1, s2, s3, s4]) (by repeat (first | exact List.Mem.head _ | apply List.Mem.tail)) ty_ptr (hK _ _ ?_)) AllReady.nil)
        simp only [r10d0, r10d1, r10d2, r10d3, r10d4, r10d5, pnone]
        refine wpAny_ready (rs := [4]) (by kernel_rfl) (by simp) (AR.cons (o := r10o4) rfl (fun K hK => stp_storew (g := gX) (us := qv) hs rfl rfl (by simp [pnone, evp, szp, h8, h9, s1, s2, s3, s4]) (by simp [pnone, evp, szp, h8, h9, s1, s2, s3, s4]) (by repeat (first | exact Upd.head | apply Upd.tail)) ty_ptr hqv (fun w1 hs => hK _ _ ?_)) AllReady.nil)
        simp only [r10d0, r10d1, r10d2, r10d3, r10d4, r10d5, pnone]
        refine wpAny_ready (rs := [5]) (by kernel_rfl) (by simp) (AR.cons (o := r10o5) rfl (fun K hK => stp_storew (g := gY) (us := pv) hs rfl rfl (by simp [pnone, evp, szp, h8, h9, s1, s2, s3, s4]) (by simp [pnone, evp, szp, h8, h9, s1, s2, s3, s4]) (by repeat (first | exact Upd.head | apply Upd.tail)) ty_plain hpv (fun w1 hs => hK _ _ ?_)) AllReady.nil)
        simp only [r10d0, r10d1, r10d2, r10d3, r10d4, r10d5, pnone]
        refine wpAny_done (by kernel_rfl) ?_ _
        exact ⟨gX, gY, by rw [pcm _ 12 60 _ _ (by decide), pcm _ 11 60 _ _ (by decide), pcm _ 61 60 _ _ (by decide)], hs⟩
    · simp only [r10d0, r10d1, r10d2, r10d3, r10d4, r10d5, pnone]
      refine wpAny_ready (rs := [0, 2]) (by kernel_rfl) (by simp) (AR.cons (o := r10o0) rfl (fun K hK => stp_loadw (g := gP) (vs := qv) hs rfl rfl (by simp [pnone, evp, szp, h8, h9, s1, s2, s3, s4]) (by repeat (first | exact List.Mem.head _ | apply List.Mem.tail)) ty_ptr (hK _ _ ?_)) (AR.cons (o := r10o2) rfl (fun K hK => stp_alloc hs rfl rfl hap0 (fun w1 gX hs => hK _ _ ?_)) AllReady.nil))
      · simp only [r10d0, r10d1, r10d2, r10d3, r10d4, r10d5, pnone]
        refine wpAny_ready (rs := [2]) (by kernel_rfl) (by simp) (AR.cons (o := r10o2) rfl (fun K hK => stp_alloc hs rfl rfl hap0 (fun w1 gX hs => hK _ _ ?_)) AllReady.nil)
        simp only [r10d0, r10d1, r10d2, r10d3, r10d4, r10d5, pnone]
        refine wpAny_ready (rs := [4]) (by kernel_rfl) (by simp) (AR.cons (o := r10o4) rfl (fun K hK => stp_storew (g := gX) (us := qv) hs rfl rfl (by simp [pnone, evp, szp, h8, h9, s1, s2, s3, s4]) (by simp [pnone, evp, szp, h8, h9, s1, s2, s3, s4]) (by repeat (first | exact Upd.head | apply Upd.tail)) ty_ptr hqv (fun w1 hs => hK _ _ ?_)) AllReady.nil)
        simp only [r10d0, r10d1, r10d2, r10d3, r10d4, r10d5, pnone]
        refine wpAny_ready (rs := [5]) (by kernel_rfl) (by simp) (AR.cons (o := r10o5) rfl (fun K hK => stp_storew (g := gY) (us := pv) hs rfl rfl (by simp [pnone, evp, szp, h8, h9, s1, s2, s3, s4]) (by simp [pnone, evp, szp, h8, h9, s1, s2, s3, s4]) (by repeat (first | exact Upd.head | apply Upd.tail)) ty_plain hpv (fun w1 hs => hK _ _ ?_)) AllReady.nil)
        simp only [r10d0, r10d1, r10d2, r10d3, r10d4, r10d5, pnone]
        refine wpAny_done (by kernel_rfl) ?_ _
        replace hs := hs.swapL
        exact ⟨gX, gY, by rw [pcm _ 12 60 _ _ (by decide), pcm _ 12 11 _ _ (by decide), pcm _ 61 60 _ _ (by decide)], hs⟩
      · simp only [r10d0, r10d1, r10d2, r10d3, r10d4, r10d5, pnone]
        refine wpAny_ready (rs := [0]) (by kernel_rfl) (by simp) (AR.cons (o := r10o0) rfl (fun K hK => stp_loadw (g := gP) (vs := qv) hs rfl rfl (by simp [pnone, evp, szp, h8, h9, s1, s2, s3, s4]) (by repeat (first | exact List.Mem.head _ | apply List.Mem.tail)) ty_ptr (hK _ _ ?_)) AllReady.nil)
        simp only [r10d0, r10d1, r10d2, r10d3, r10d4, r10d5, pnone]
        refine wpAny_ready (rs := [4]) (by kernel_rfl) (by simp) (AR.cons (o := r10o4) rfl (fun K hK => stp_storew (g := gX) (us := qv) hs rfl rfl (by simp [pnone, evp, szp, h8, h9, s1, s2, s3, s4]) (by simp [pnone, evp, szp, h8, h9, s1, s2, s3, s4]) (by repeat (first | exact Upd.head | apply Upd.tail)) ty_ptr hqv (fun w1 hs => hK _ _ ?_)) AllReady.nil)
        simp only [r10d0, r10d1, r10d2, r10d3, r10d4, r10d5, pnone]
        refine wpAny_ready (rs := [5]) (by kernel_rfl) (by simp) (AR.cons (o := r10o5) rfl (fun K hK => stp_storew (g := gY) (us := pv) hs rfl rfl (by simp [pnone, evp, szp, h8, h9, s1, s2, s3, s4]) (by simp [pnone, evp, szp, h8, h9, s1, s2, s3, s4]) (by repeat (first | exact Upd.head | apply Upd.tail)) ty_plain hpv (fun w1 hs => hK _ _ ?_)) AllReady.nil)
        simp only [r10d0, r10d1, r10d2, r10d3, r10d4, r10d5, pnone]
        refine wpAny_done (by kernel_rfl) ?_ _
        replace hs := hs.swapL
        exact ⟨gX, gY, by rw [pcm _ 12 11 _ _ (by decide), pcm _ 12 60 _ _ (by decide), pcm _ 11 60 _ _ (by decide), pcm _ 61 60 _ _ (by decide)], hs⟩
  · simp only [r10d0, r10d1, r10d2, r10d3, r10d4, r10d5, pnone]
    refine wpAny_ready (rs := [0, 1, 3]) (by kernel_rfl) (by simp) (AR.cons (o := r10o0) rfl (fun K hK => stp_loadw (g := gP) (vs := qv) hs rfl rfl (by simp [pnone, evp, szp, h8, h9, s1, s2, s3, s4]) (by repeat (first | exact List.Mem.head _ | apply List.Mem.tail)) ty_ptr (hK _ _ ?_)) (AR.cons (o := r10o1) rfl (fun K hK => stp_loadw (g := gL) (vs := pv) hs rfl rfl (by simp [pnone, evp, szp, h8, h9, s1, s2, s3, s4]) (by repeat (first | exact List.Mem.head _ | apply List.Mem.tail)) ty_plain (hK _ _ ?_)) (AR.cons (o := r10o3) rfl (fun K hK => stp_alloc hs rfl rfl hap1 (fun w1 gY hs => hK _ _ ?_)) AllReady.nil)))
    · simp only [r10d0, r10d1, r10d2, r10d3, r10d4, r10d5, pnone]
      refine wpAny_ready (rs := [1, 3]) (by kernel_rfl) (by simp) (AR.cons (o := r10o1) rfl (fun K hK => stp_loadw (g := gL) (vs := pv) hs rfl rfl (by simp [pnone, evp, szp, h8, h9, s1, s2, s3, s4]) (by repeat (first | exact List.Mem.head _ | apply List.Mem.tail)) ty_plain (hK _ _ ?_)) (AR.cons (o := r10o3) rfl (fun K hK => stp_alloc hs rfl rfl hap1 (fun w1 gY hs => hK _ _ ?_)) AllReady.nil))
      · simp only [r10d0, r10d1, r10d2, r10d3, r10d4, r10d5, pnone]
        refine wpAny_ready (rs := [3]) (by kernel_rfl) (by simp) (AR.cons (o := r10o3) rfl (fun K hK => stp_alloc hs rfl rfl hap1 (fun w1 gY hs => hK _ _ ?_)) AllReady.nil)
        simp only [r10d0, r10d1, r10d2, r10d3, r10d4, r10d5, pnone]
        refine wpAny_ready (rs := [4]) (by kernel_rfl) (by simp) (AR.cons (o := r10o4) rfl (fun K hK => stp_storew (g := gX) (us := qv) hs rfl rfl (by simp [pnone, evp, szp, h8, h9, s1, s2, s3, s4]) (by simp [pnone, evp, szp, h8, h9, s1, s2, s3, s4]) (by repeat (first | exact Upd.head | apply Upd.tail)) ty_ptr hqv (fun w1 hs => hK _ _ ?_)) AllReady.nil)
        simp only [r10d0, r10d1, r10d2, r10d3, r10d4, r10d5, pnone]
        refine wpAny_ready (rs := [5]) (by kernel_rfl) (by simp) (AR.cons (o := r10o5) rfl (fun K hK => stp_storew (g := gY) (us := pv) hs rfl rfl (by simp [pnone, evp, szp, h8, h9, s1, s2, s3, s4]) (by simp [pnone, evp, szp, h8, h9, s1, s2, s3, s4]) (by repeat (first | exact Upd.head | apply Upd.tail)) ty_plain hpv (fun w1 hs => hK _ _ ?_)) AllReady.nil)
        simp only [r10d0, r10d1, r10d2, r10d3, r10d4, r10d5, pnone]
        refine wpAny_done (by kernel_rfl) ?_ _
        exact ⟨gX, gY, by rw [pcm _ 11 60 _ _ (by decide), pcm _ 11 61 _ _ (by decide)], hs⟩
      · simp only [r10d0, r10d1, r10d2, r10d3, r10d4, r10d5, pnone]
        refine wpAny_ready (rs := [1, 4]) (by kernel_rfl) (by simp) (AR.cons (o := r10o1) rfl (fun K hK => stp_loadw (g := gL) (vs := pv) hs rfl rfl (by simp [pnone, evp, szp, h8, h9, s1, s2, s3, s4]) (by repeat (first | exact List.Mem.head _ | apply List.Mem.tail)) ty_plain (hK _ _ ?_)) (AR.cons (o := r10o4) rfl (fun K hK => stp_storew (g := gX) (us := qv) hs rfl rfl (by simp [pnone, evp, szp, h8, h9, s1, s2, s3, s4]) (by simp [pnone, evp, szp, h8, h9, s1, s2, s3, s4]) (by repeat (first | exact Upd.head | apply Upd.tail)) ty_ptr hqv (fun w1 hs => hK _ _ ?_)) AllReady.nil))
        · simp only [r10d0, r10d1, r10d2, r10d3, r10d4, r10d5, pnone]
          refine wpAny_ready (rs := [4]) (by kernel_rfl) (by simp) (AR.cons (o := r10o4) rfl (fun K hK => stp_storew (g := gX) (us := qv) hs rfl rfl (by simp [pnone, evp, szp, h8, h9, s1, s2, s3, s4]) (by simp [pnone, evp, szp, h8, h9, s1, s2, s3, s4]) (by repeat (first | exact Upd.head | apply Upd.tail)) ty_ptr hqv (fun w1 hs => hK _ _ ?_)) AllReady.nil)
          simp only [r10d0, r10d1, r10d2, r10d3, r10d4, r10d5, pnone]
          refine wpAny_ready (rs := [5]) (by kernel_rfl) (by simp) (AR.cons (o := r10o5) rfl (fun K hK => stp_storew (g := gY) (us := pv) hs rfl rfl (by simp [pnone, evp, szp, h8, h9, s1, s2, s3, s4]) (by simp [pnone, evp, szp, h8, h9, s1, s2, s3, s4]) (by repeat (first | exact Upd.head | apply Upd.tail)) ty_plain hpv (fun w1 hs => hK _ _ ?_)) AllReady.nil)
          simp only [r10d0, r10d1, r10d2, r10d3, r10d4, r10d5, pnone]
          refine wpAny_done (by kernel_rfl) ?_ _
          exact ⟨gX, gY, by rw [pcm _ 11 60 _ _ (by decide), pcm _ 12 61 _ _ (by decide), pcm _ 11 61 _ _ (by decide)], hs⟩
        · simp only [r10d0, r10d1, r10d2, r10d3, r10d4, r10d5, pnone]
          refine wpAny_ready (rs := [1]) (by kernel_rfl) (by simp) (AR.cons (o := r10o1) rfl (fun K hK => stp_loadw (g := gL) (vs := pv) hs rfl rfl (by simp [pnone, evp, szp, h8, h9, s1, s2, s3, s4]) (by repeat (first | exact List.Mem.head _ | apply List.Mem.tail)) ty_plain (hK _ _ ?_)) AllReady.nil)
          simp only [r10d0, r10d1, r10d2, r10d3, r10d4, r10d5, pnone]
          refine wpAny_ready (rs := [5]) (by kernel_rfl) (by simp) (AR.cons (o := r10o5) rfl (fun K hK => stp_storew (g := gY) (us := pv) hs rfl rfl (by simp [pnone, evp, szp, h8, h9, s1, s2, s3, s4]) (by simp [pnone, evp, szp, h8, h9, s1, s2, s3, s4]) (by repeat (first | exact Upd.head | apply Upd.tail)) ty_plain hpv (fun w1 hs => hK _ _ ?_)) AllReady.nil)
          simp only [r10d0, r10d1, r10d2, r10d3, r10d4, r10d5, pnone]
          refine wpAny_done (by kernel_rfl) ?_ _
          exact ⟨gX, gY, by rw [pcm _ 11 60 _ _ (by decide), pcm _ 12 61 _ _ (by decide), pcm _ 11 61 _ _ (by decide)], hs⟩
    · simp only [r10d0, r10d1, r10d2, r10d3, r10d4, r10d5, pnone]
      refine wpAny_ready (rs := [0, 3]) (by kernel_rfl) (by simp) (AR.cons (o := r10o0) rfl (fun K hK => stp_loadw (g := gP) (vs := qv) hs rfl rfl (by simp [pnone, evp, szp, h8, h9, s1, s2, s3, s4]) (by repeat (first | exact List.Mem.head _ | apply List.Mem.tail)) ty_ptr (hK _ _ ?_)) (AR.cons (o := r10o3) rfl (fun K hK => stp_alloc hs rfl rfl hap1 (fun w1 gY hs => hK _ _ ?_)) AllReady.nil))
      · simp only [r10d0, r10d1, r10d2, r10d3, r10d4, r10d5, pnone]
        refine wpAny_ready (rs := [3]) (by kernel_rfl) (by simp) (AR.cons (o := r10o3) rfl (fun K hK => stp_alloc hs rfl rfl hap1 (fun w1 gY hs => hK _ _ ?_)) AllReady.nil)
        simp only [r10d0, r10d1, r10d2, r10d3, r10d4, r10d5, pnone]
        refine wpAny_ready (rs := [4]) (by kernel_rfl) (by simp) (AR.cons (o := r10o4) rfl (fun K hK => stp_storew (g := gX) (us := qv) hs rfl rfl (by simp [pnone, evp, szp, h8, h9, s1, s2, s3, s4]) (by simp [pnone, evp, szp, h8, h9, s1, s2, s3, s4]) (by repeat (first | exact Upd.head | apply Upd.tail)) ty_ptr hqv (fun w1 hs => hK _ _ ?_)) AllReady.nil)
        simp only [r10d0, r10d1, r10d2, r10d3, r10d4, r10d5, pnone]
        refine wpAny_ready (rs := [5]) (by kernel_rfl) (by simp) (AR.cons (o := r10o5) rfl (fun K hK => stp_storew (g := gY) (us := pv) hs rfl rfl (by simp [pnone, evp, szp, h8, h9, s1, s2, s3, s4]) (by simp [pnone, evp, szp, h8, h9, s1, s2, s3, s4]) (by repeat (first | exact Upd.head | apply Upd.tail)) ty_plain hpv (fun w1 hs => hK _ _ ?_)) AllReady.nil)
        simp only [r10d0, r10d1, r10d2, r10d3, r10d4, r10d5, pnone]
        refine wpAny_done (by kernel_rfl) ?_ _
        exact ⟨gX, gY, by rw [pcm _ 11 61 _ _ (by decide), pcm _ 11 60 _ _ (by decide), pcm _ 61 60 _ _ (by decide)], hs⟩
      · simp only [r10d0, r10d1, r10d2, r10d3, r10d4, r10d5, pnone]
        refine wpAny_ready (rs := [0]) (by kernel_rfl) (by simp) (AR.cons (o := r10o0) rfl (fun K hK => stp_loadw (g := gP) (vs := qv) hs rfl rfl (by simp [pnone, evp, szp, h8, h9, s1, s2, s3, s4]) (by repeat (first | exact List.Mem.head _ | apply List.Mem.tail)) ty_ptr (hK _ _ ?_)) AllReady.nil)
        simp only [r10d0, r10d1, r10d2, r10d3, r10d4, r10d5, pnone]
        refine wpAny_ready (rs := [4]) (by kernel_rfl) (by simp) (AR.cons (o := r10o4) rfl (fun K hK => stp_storew (g := gX) (us := qv) hs rfl rfl (by simp [pnone, evp, szp, h8, h9, s1, s2, s3, s4]) (by simp [pnone, evp, szp, h8, h9, s1, s2, s3, s4]) (by repeat (first | exact Upd.head | apply Upd.tail)) ty_ptr hqv (fun w1 hs => hK _ _ ?_)) AllReady.nil)
        simp only [r10d0, r10d1, r10d2, r10d3, r10d4, r10d5, pnone]
        refine wpAny_ready (rs := [5]) (by kernel_rfl) (by simp) (AR.cons (o := r10o5) rfl (fun K hK => stp_storew (g := gY) (us := pv) hs rfl rfl (by simp [pnone, evp, szp, h8, h9, s1, s2, s3, s4]) (by simp [pnone, evp, szp, h8, h9, s1, s2, s3, s4]) (by repeat (first | exact Upd.head | apply Upd.tail)) ty_plain hpv (fun w1 hs => hK _ _ ?_)) AllReady.nil)
        simp only [r10d0, r10d1, r10d2, r10d3, r10d4, r10d5, pnone]
        refine wpAny_done (by kernel_rfl) ?_ _
        exact ⟨gX, gY, by rw [pcm _ 11 61 _ _ (by decide), pcm _ 12 60 _ _ (by decide), pcm _ 11 60 _ _ (by decide), pcm _ 61 60 _ _ (by decide)], hs⟩
    · simp only [r10d0, r10d1, r10d2, r10d3, r10d4, r10d5, pnone]
      refine wpAny_ready (rs := [0, 1]) (by kernel_rfl) (by simp) (AR.cons (o := r10o0) rfl (fun K hK => stp_loadw (g := gP) (vs := qv) hs rfl rfl (by simp [pnone, evp, szp, h8, h9, s1, s2, s3, s4]) (by repeat (first | exact List.Mem.head _ | apply List.Mem.tail)) ty_ptr (hK _ _ ?_)) (AR.cons (o := r10o1) rfl (fun K hK => stp_loadw (g := gL) (vs := pv) hs rfl rfl (by simp [pnone, evp, szp, h8, h9, s1, s2, s3, s4]) (by repeat (first | exact List.Mem.head _ | apply List.Mem.tail)) ty_plain (hK _ _ ?_)) AllReady.nil))
      · simp only [r10d0, r10d1, r10d2, r10d3, r10d4, r10d5, pnone]
        refine wpAny_ready (rs := [1, 4]) (by kernel_rfl) (by simp) (AR.cons (o := r10o1) rfl (fun K hK => stp_loadw (g := gL) (vs := pv) hs rfl rfl (by simp [pnone, evp, szp, h8, h9, s1, s2, s3, s4]) (by repeat (first | exact List.Mem.head _ | apply List.Mem.tail)) ty_plain (hK _ _ ?_)) (AR.cons (o := r10o4) rfl (fun K hK => stp_storew (g := gX) (us := qv) hs rfl rfl (by simp [pnone, evp, szp, h8, h9, s1, s2, s3, s4]) (by simp [pnone, evp, szp, h8, h9, s1, s2, s3, s4]) (by repeat (first | exact Upd.head | apply Upd.tail)) ty_ptr hqv (fun w1 hs => hK _ _ ?_)) AllReady.nil))
        · simp only [r10d0, r10d1, r10d2, r10d3, r10d4, r10d5, pnone]
          refine wpAny_ready (rs := [4]) (by kernel_rfl) (by simp) (AR.cons (o := r10o4) rfl (fun K hK => stp_storew (g := gX) (us := qv) hs rfl rfl (by simp [pnone, evp, szp, h8, h9, s1, s2, s3, s4]) (by simp [pnone, evp, szp, h8, h9, s1, s2, s3, s4]) (by repeat (first | exact Upd.head | apply Upd.tail)) ty_ptr hqv (fun w1 hs => hK _ _ ?_)) AllReady.nil)
          simp only [r10d0, r10d1, r10d2, r10d3, r10d4, r10d5, pnone]
          refine wpAny_ready (rs := [5]) (by kernel_rfl) (by simp) (AR.cons (o := r10o5) rfl (fun K hK => stp_storew (g := gY) (us := pv) hs rfl rfl (by simp [pnone, evp, szp, h8, h9, s1, s2, s3, s4]) (by simp [pnone, evp, szp, h8, h9, s1, s2, s3, s4]) (by repeat (first | exact Upd.head | apply Upd.tail)) ty_plain hpv (fun w1 hs => hK _ _ ?_)) AllReady.nil)
          simp only [r10d0, r10d1, r10d2, r10d3, r10d4, r10d5, pnone]
          refine wpAny_done (by kernel_rfl) ?_ _
          exact ⟨gX, gY, by rw [pcm _ 12 60 _ _ (by decide), pcm _ 12 61 _ _ (by decide), pcm _ 11 60 _ _ (by decide), pcm _ 11 61 _ _ (by decide)], hs⟩
        · simp only [r10d0, r10d1, r10d2, r10d3, r10d4, r10d5, pnone]
          refine wpAny_ready (rs := [1]) (by kernel_rfl) (by simp) (AR.cons (o := r10o1) rfl (fun K hK => stp_loadw (g := gL) (vs := pv) hs rfl rfl (by simp [pnone, evp, szp, h8, h9, s1, s2, s3, s4]) (by repeat (first | exact List.Mem.head _ | apply List.Mem.tail)) ty_plain (hK _ _ ?_)) AllReady.nil)
          simp only [r10d0, r10d1, r10d2, r10d3, r10d4, r10d5, pnone]
          refine wpAny_ready (rs := [5]) (by kernel_rfl) (by simp) (AR.cons (o := r10o5) rfl (fun K hK => stp_storew (g := gY) (us := pv) hs rfl rfl (by simp [pnone, evp, szp, h8, h9, s1, s2, s3, s4]) (by simp [pnone, evp, szp, h8, h9, s1, s2, s3, s4]) (by repeat (first | exact Upd.head | apply Upd.tail)) ty_plain hpv (fun w1 hs => hK _ _ ?_)) AllReady.nil)
          simp only [r10d0, r10d1, r10d2, r10d3, r10d4, r10d5, pnone]
          refine wpAny_done (by kernel_rfl) ?_ _
          exact ⟨gX, gY, by rw [pcm _ 12 60 _ _ (by decide), pcm _ 12 61 _ _ (by decide), pcm _ 11 60 _ _ (by decide), pcm _ 11 61 _ _ (by decide)], hs⟩
      · simp only [r10d0, r10d1, r10d2, r10d3, r10d4, r10d5, pnone]
        refine wpAny_ready (rs := [0]) (by kernel_rfl) (by simp) (AR.cons (o := r10o0) rfl (fun K hK => stp_loadw (g := gP) (vs := qv) hs rfl rfl (by simp [pnone, evp, szp, h8, h9, s1, s2, s3, s4]) (by repeat (first | exact List.Mem.head _ | apply List.Mem.tail)) ty_ptr (hK _ _ ?_)) AllReady.nil)
        simp only [r10d0, r10d1, r10d2, r10d3, r10d4, r10d5, pnone]
        refine wpAny_ready (rs := [4]) (by kernel_rfl) (by simp) (AR.cons (o := r10o4) rfl (fun K hK => stp_storew (g := gX) (us := qv) hs rfl rfl (by simp [pnone, evp, szp, h8, h9, s1, s2, s3, s4]) (by simp [pnone, evp, szp, h8, h9, s1, s2, s3, s4]) (by repeat (first | exact Upd.head | apply Upd.tail)) ty_ptr hqv (fun w1 hs => hK _ _ ?_)) AllReady.nil)
        simp only [r10d0, r10d1, r10d2, r10d3, r10d4, r10d5, pnone]
        refine wpAny_ready (rs := [5]) (by kernel_rfl) (by simp) (AR.cons (o := r10o5) rfl (fun K hK => stp_storew (g := gY) (us := pv) hs rfl rfl (by simp [pnone, evp, szp, h8, h9, s1, s2, s3, s4]) (by simp [pnone, evp, szp, h8, h9, s1, s2, s3, s4]) (by repeat (first | exact Upd.head | apply Upd.tail)) ty_plain hpv (fun w1 hs => hK _ _ ?_)) AllReady.nil)
        simp only [r10d0, r10d1, r10d2, r10d3, r10d4, r10d5, pnone]
        refine wpAny_done (by kernel_rfl) ?_ _
        exact ⟨gX, gY, by rw [pcm _ 12 61 _ _ (by decide), pcm _ 12 60 _ _ (by decide), pcm _ 11 61 _ _ (by decide), pcm _ 11 60 _ _ (by decide), pcm _ 61 60 _ _ (by decide)], hs⟩
  · simp only [r10d0, r10d1, r10d2, r10d3, r10d4, r10d5, pnone]
    refine wpAny_ready (rs := [0, 1, 2]) (by kernel_rfl) (by simp) (AR.cons (o := r10o0) rfl (fun K hK => stp_loadw (g := gP) (vs := qv) hs rfl rfl (by simp [pnone, evp, szp, h8, h9, s1, s2, s3, s4]) (by repeat (first | exact List.Mem.head _ | apply List.Mem.tail)) ty_ptr (hK _ _ ?_)) (AR.cons (o := r10o1) rfl (fun K hK => stp_loadw (g := gL) (vs := pv) hs rfl rfl (by simp [pnone, evp, szp, h8, h9, s1, s2, s3, s4]) (by repeat (first | exact List.Mem.head _ | apply List.Mem.tail)) ty_plain (hK _ _ ?_)) (AR.cons (o := r10o2) rfl (fun K hK => stp_alloc hs rfl rfl hap0 (fun w1 gX hs => hK _ _ ?_)) AllReady.nil)))
    · simp only [r10d0, r10d1, r10d2, r10d3, r10d4, r10d5, pnone]
      refine wpAny_ready (rs := [1, 2]) (by kernel_rfl) (by simp) (AR.cons (o := r10o1) rfl (fun K hK => stp_loadw (g := gL) (vs := pv) hs rfl rfl (by simp [pnone, evp, szp, h8, h9, s1, s2, s3, s4]) (by repeat (first | exact List.Mem.head _ | apply List.Mem.tail)) ty_plain (hK _ _ ?_)) (AR.cons (o := r10o2) rfl (fun K hK => stp_alloc hs rfl rfl hap0 (fun w1 gX hs => hK _ _ ?_)) AllReady.nil))
      · simp only [r10d0, r10d1, r10d2, r10d3, r10d4, r10d5, pnone]
        refine wpAny_ready (rs := [2]) (by kernel_rfl) (by simp) (AR.cons (o := r10o2) rfl (fun K hK => stp_alloc hs rfl rfl hap0 (fun w1 gX hs => hK _ _ ?_)) AllReady.nil)
        simp only [r10d0, r10d1, r10d2, r10d3, r10d4, r10d5, pnone]
        refine wpAny_ready (rs := [4]) (by kernel_rfl) (by simp) (AR.cons (o := r10o4) rfl (fun K hK => stp_storew (g := gX) (us := qv) hs rfl rfl (by simp [pnone, evp, szp, h8, h9, s1, s2, s3, s4]) (by simp [pnone, evp, szp, h8, h9, s1, s2, s3, s4]) (by repeat (first | exact Upd.head | apply Upd.tail)) ty_ptr hqv (fun w1 hs => hK _ _ ?_)) AllReady.nil)
        simp only [r10d0, r10d1, r10d2, r10d3, r10d4, r10d5, pnone]
        refine wpAny_ready (rs := [5]) (by kernel_rfl) (by simp) (AR.cons (o := r10o5) rfl (fun K hK => stp_storew (g := gY) (us := pv) hs rfl rfl (by simp [pnone, evp, szp, h8, h9, s1, s2, s3, s4]) (by simp [pnone, evp, szp, h8, h9, s1, s2, s3, s4]) (by repeat (first | exact Upd.head | apply Upd.tail)) ty_plain hpv (fun w1 hs => hK _ _ ?_)) AllReady.nil)
        simp only [r10d0, r10d1, r10d2, r10d3, r10d4, r10d5, pnone]
        refine wpAny_done (by kernel_rfl) ?_ _
        replace hs := hs.swapL
        exact ⟨gX, gY, by rw [pcm _ 12 60 _ _ (by decide), pcm _ 12 61 _ _ (by decide), pcm _ 12 11 _ _ (by decide)], hs⟩
      · simp only [r10d0, r10d1, r10d2, r10d3, r10d4, r10d5, pnone]
        refine wpAny_ready (rs := [1, 4]) (by kernel_rfl) (by simp) (AR.cons (o := r10o1) rfl (fun K hK => stp_loadw (g := gL) (vs := pv) hs rfl rfl (by simp [pnone, evp, szp, h8, h9, s1, s2, s3, s4]) (by repeat (first | exact List.Mem.head _ | apply List.Mem.tail)) ty_plain (hK _ _ ?_)) (AR.cons (o := r10o4) rfl (fun K hK => stp_storew (g := gX) (us := qv) hs rfl rfl (by simp [pnone, evp, szp, h8, h9, s1, s2, s3, s4]) (by simp [pnone, evp, szp, h8, h9, s1, s2, s3, s4]) (by repeat (first | exact Upd.head | apply Upd.tail)) ty_ptr hqv (fun w1 hs => hK _ _ ?_)) AllReady.nil))
        · simp only [r10d0, r10d1, r10d2, r10d3, r10d4, r10d5, pnone]
          refine wpAny_ready (rs := [4]) (by kernel_rfl) (by simp) (AR.cons (o := r10o4) rfl (fun K hK => stp_storew (g := gX) (us := qv) hs rfl rfl (by simp [pnone, evp, szp, h8, h9, s1, s2, s3, s4]) (by simp [pnone, evp, szp, h8, h9, s1, s2, s3, s4]) (by repeat (first | exact Upd.head | apply Upd.tail)) ty_ptr hqv (fun w1 hs => hK _ _ ?_)) AllReady.nil)
          simp only [r10d0, r10d1, r10d2, r10d3, r10d4, r10d5, pnone]
          refine wpAny_ready (rs := [5]) (by kernel_rfl) (by simp) (AR.cons (o := r10o5) rfl (fun K hK => stp_storew (g := gY) (us := pv) hs rfl rfl (by simp [pnone, evp, szp, h8, h9, s1, s2, s3, s4]) (by simp [pnone, evp, szp, h8, h9, s1, s2, s3, s4]) (by repeat (first | exact Upd.head | apply Upd.tail)) ty_plain hpv (fun w1 hs => hK _ _ ?_)) AllReady.nil)
          simp only [r10d0, r10d1, r10d2, r10d3, r10d4, r10d5, pnone]
          refine wpAny_done (by kernel_rfl) ?_ _
          replace hs := hs.swapL
          exact ⟨gX, gY, by rw [pcm _ 12 60 _ _ (by decide), pcm _ 12 11 _ _ (by decide), pcm _ 12 61 _ _ (by decide), pcm _ 11 61 _ _ (by decide)], hs⟩
        · simp only [r10d0, r10d1, r10d2, r10d3, r10d4, r10d5, pnone]
          refine wpAny_ready (rs := [1]) (by kernel_rfl) (by simp) (AR.cons (o := r10o1) rfl (fun K hK => stp_loadw (g := gL) (vs := pv) hs rfl rfl (by simp [pnone, evp, szp, h8, h9, s1, s2, s3, s4]) (by repeat (first | exact List.Mem.head _ | apply List.Mem.tail)) ty_plain (hK _ _ ?_)) AllReady.nil)
          simp only [r10d0, r10d1, r10d2, r10d3, r10d4, r10d5, pnone]
          refine wpAny_ready (rs := [5]) (by kernel_rfl) (by simp) (AR.cons (o := r10o5) rfl (fun K hK => stp_storew (g := gY) (us := pv) hs rfl rfl (by simp [pnone, evp, szp, h8, h9, s1, s2, s3, s4]) (by simp [pnone, evp, szp, h8, h9, s1, s2, s3, s4]) (by repeat (first | exact Upd.head | apply Upd.tail)) ty_plain hpv (fun w1 hs => hK _ _ ?_)) AllReady.nil)
          simp only [r10d0, r10d1, r10d2, r10d3, r10d4, r10d5, pnone]
          refine wpAny_done (by kernel_rfl) ?_ _
          replace hs := hs.swapL
          exact ⟨gX, gY, by rw [pcm _ 12 60 _ _ (by decide), pcm _ 12 11 _ _ (by decide), pcm _ 12 61 _ _ (by decide), pcm _ 11 61 _ _ (by decide)], hs⟩
    · simp only [r10d0, r10d1, r10d2, r10d3, r10d4, r10d5, pnone]
      refine wpAny_ready (rs := [0, 2]) (by kernel_rfl) (by simp) (AR.cons (o := r10o0) rfl (fun K hK => stp_loadw (g := gP) (vs := qv) hs rfl rfl (by simp [pnone, evp, szp, h8, h9, s1, s2, s3, s4]) (by repeat (first | exact List.Mem.head _ | apply List.Mem.tail)) ty_ptr (hK _ _ ?_)) (AR.cons (o := r10o2) rfl (fun K hK => stp_alloc hs rfl rfl hap0 (fun w1 gX hs => hK _ _ ?_)) AllReady.nil))
      · simp only [r10d0, r10d1, r10d2, r10d3, r10d4, r10d5, pnone]
        refine wpAny_ready (rs := [2]) (by kernel_rfl) (by simp) (AR.cons (o := r10o2) rfl (fun K hK => stp_alloc hs rfl rfl hap0 (fun w1 gX hs => hK _ _ ?_)) AllReady.nil)
        simp only [r10d0, r10d1, r10d2, r10d3, r10d4, r10d5, pnone]
        refine wpAny_ready (rs := [4]) (by kernel_rfl) (by simp) (AR.cons (o := r10o4) rfl (fun K hK => stp_storew (g := gX) (us := qv) hs rfl rfl (by simp [pnone, evp, szp, h8, h9, s1, s2, s3, s4]) (by simp [pnone, evp, szp, h8, h9, s1, s2, s3, s4]) (by repeat (first | exact Upd.head | apply Upd.tail)) ty_ptr hqv (fun w1 hs => hK _ _ ?_)) AllReady.nil)
        simp only [r10d0, r10d1, r10d2, r10d3, r10d4, r10d5, pnone]
        refine wpAny_ready (rs := [5]) (by kernel_rfl) (by simp) (AR.cons (o := r10o5) rfl (fun K hK => stp_storew (g := gY) (us := pv) hs rfl rfl (by simp [pnone, evp, szp, h8, h9, s1, s2, s3, s4]) (by simp [pnone, evp, szp, h8, h9, s1, s2, s3, s4]) (by repeat (first | exact Upd.head | apply Upd.tail)) ty_plain hpv (fun w1 hs => hK _ _ ?_)) AllReady.nil)
        simp only [r10d0, r10d1, r10d2, r10d3, r10d4, r10d5, pnone]
        refine wpAny_done (by kernel_rfl) ?_ _
        replace hs := hs.swapL
        exact ⟨gX, gY, by rw [pcm _ 12 61 _ _ (by decide), pcm _ 12 60 _ _ (by decide), pcm _ 12 11 _ _ (by decide), pcm _ 61 60 _ _ (by decide)], hs⟩
      · simp only [r10d0, r10d1, r10d2, r10d3, r10d4, r10d5, pnone]
        refine wpAny_ready (rs := [0]) (by kernel_rfl) (by simp) (AR.cons (o := r10o0) rfl (fun K hK => stp_loadw (g := gP) (vs := qv) hs rfl rfl (by simp [pnone, evp, szp, h8, h9, s1, s2, s3, s4]) (by repeat (first | exact List.Mem.head _ | apply List.Mem.tail)) ty_ptr (hK _ _ ?_)) AllReady.nil)
        simp only [r10d0, r10d1, r10d2, r10d3, r10d4, r10d5, pnone]
        refine wpAny_ready (rs := [4]) (by kernel_rfl) (by simp) (AR.cons (o := r10o4) rfl (fun K hK => stp_storew (g := gX) (us := qv) hs rfl rfl (by simp [pnone, evp, szp, h8, h9, s1, s2, s3, s4]) (by simp [pnone, evp, szp, h8, h9, s1, s2, s3, s4]) (by repeat (first | exact Upd.head | apply Upd.tail)) ty_ptr hqv (fun w1 hs => hK _ _ ?_)) AllReady.nil)
        simp only [r10d0, r10d1, r10d2, r10d3, r10d4, r10d5, pnone]
        refine wpAny_ready (rs := [5]) (by kernel_rfl) (by simp) (AR.cons (o := r10o5) rfl (fun K hK => stp_storew (g := gY) (us := pv) hs rfl rfl (by simp [pnone, evp, szp, h8, h9, s1, s2, s3, s4]) (by simp [pnone, evp, szp, h8, h9, s1, s2, s3, s4]) (by repeat (first | exact Upd.head | apply Upd.tail)) ty_plain hpv (fun w1 hs => hK _ _ ?_)) AllReady.nil)
        simp only [r10d0, r10d1, r10d2, r10d3, r10d4, r10d5, pnone]
        refine wpAny_done (by kernel_rfl) ?_ _
        replace hs := hs.swapL
        exact ⟨gX, gY, by rw [pcm _ 12 61 _ _ (by decide), pcm _ 12 11 _ _ (by decide), pcm _ 12 60 _ _ (by decide), pcm _ 11 60 _ _ (by decide), pcm _ 61 60 _ _ (by decide)], hs⟩
    · simp only [r10d0, r10d1, r10d2, r10d3, r10d4, r10d5, pnone]
      refine wpAny_ready (rs := [0, 1]) (by kernel_rfl) (by simp) (AR.cons (o := r10o0) rfl (fun K hK => stp_loadw (g := gP) (vs := qv) hs rfl rfl (by simp [pnone, evp, szp, h8, h9, s1, s2, s3, s4]) (by repeat (first | exact List.Mem.head _ | apply List.Mem.tail)) ty_ptr (hK _ _ ?_)) (AR.cons (o := r10o1) rfl (fun K hK => stp_loadw (g := gL) (vs := pv) hs rfl rfl (by simp [pnone, evp, szp, h8, h9, s1, s2, s3, s4]) (by repeat (first | exact List.Mem.head _ | apply List.Mem.tail)) ty_plain (hK _ _ ?_)) AllReady.nil))
      · simp only [r10d0, r10d1, r10d2, r10d3, r10d4, r10d5, pnone]
        refine wpAny_ready (rs := [1, 4]) (by kernel_rfl) (by simp) (AR.cons (o := r10o1) rfl (fun K hK => stp_loadw (g := gL) (vs := pv) hs rfl rfl (by simp [pnone, evp, szp, h8, h9, s1, s2, s3, s4]) (by repeat (first | exact List.Mem.head _ | apply List.Mem.tail)) ty_plain (hK _ _ ?_)) (AR.cons (o := r10o4) rfl (fun K hK => stp_storew (g := gX) (us := qv) hs rfl rfl (by simp [pnone, evp, szp, h8, h9, s1, s2, s3, s4]) (by simp [pnone, evp, szp, h8, h9, s1, s2, s3, s4]) (by repeat (first | exact Upd.head | apply Upd.tail)) ty_ptr hqv (fun w1 hs => hK _ _ ?_)) AllReady.nil))
        · simp only [r10d0, r10d1, r10d2, r10d3, r10d4, r10d5, pnone]
          refine wpAny_ready (rs := [4]) (by kernel_rfl) (by simp) (AR.cons (o := r10o4) rfl (fun K hK => stp_storew (g := gX) (us := qv) hs rfl rfl (by simp [pnone, evp, szp, h8, h9, s1, s2, s3, s4]) (by simp [pnone, evp, szp, h8, h9, s1, s2, s3, s4]) (by repeat (first | exact Upd.head | apply Upd.tail)) ty_ptr hqv (fun w1 hs => hK _ _ ?_)) AllReady.nil)
          simp only [r10d0, r10d1, r10d2, r10d3, r10d4, r10d5, pnone]
          refine wpAny_ready (rs := [5]) (by kernel_rfl) (by simp) (AR.cons (o := r10o5) rfl (fun K hK => stp_storew (g := gY) (us := pv) hs rfl rfl (by simp [pnone, evp, szp, h8, h9, s1, s2, s3, s4]) (by simp [pnone, evp, szp, h8, h9, s1, s2, s3, s4]) (by repeat (first | exact Upd.head | apply Upd.tail)) ty_plain hpv (fun w1 hs => hK _ _ ?_)) AllReady.nil)
          simp only [r10d0, r10d1, r10d2, r10d3, r10d4, r10d5, pnone]
          refine wpAny_done (by kernel_rfl) ?_ _
          replace hs := hs.swapL
          exact ⟨gX, gY, by rw [pcm _ 12 11 _ _ (by decide), pcm _ 12 60 _ _ (by decide), pcm _ 12 61 _ _ (by decide), pcm _ 11 60 _ _ (by decide), pcm _ 11 61 _ _ (by decide)], hs⟩
        · simp only [r10d0, r10d1, r10d2, r10d3, r10d4, r10d5, pnone]
          refine wpAny_ready (rs := [1]) (by kernel_rfl) (by simp) (AR.cons (o := r10o1) rfl (fun K hK => stp_loadw (g := gL) (vs := pv) hs rfl rfl (by simp [pnone, evp, szp, h8, h9, s1, s2, s3, s4]) (by repeat (first | exact List.Mem.head _ | apply List.Mem.tail)) ty_plain (hK _ _ ?_)) AllReady.nil)
          simp only [r10d0, r10d1, r10d2, r10d3, r10d4, r10d5, pnone]
          refine wpAny_ready (rs := [5]) (by kernel_rfl) (by simp) (AR.cons (o := r10o5) rfl (fun K hK => stp_storew (g := gY) (us := pv) hs rfl rfl (by simp [pnone, evp, szp, h8, h9, s1, s2, s3, s4]) (by simp [pnone, evp, szp, h8, h9, s1, s2, s3, s4]) (by repeat (first | exact Upd.head | apply Upd.tail)) ty_plain hpv (fun w1 hs => hK _ _ ?_)) AllReady.nil)
          simp only [r10d0, r10d1, r10d2, r10d3, r10d4, r10d5, pnone]
          refine wpAny_done (by kernel_rfl) ?_ _
          replace hs := hs.swapL
          exact ⟨gX, gY, by rw [pcm _ 12 11 _ _ (by decide), pcm _ 12 60 _ _ (by decide), pcm _ 12 61 _ _ (by decide), pcm _ 11 60 _ _ (by decide), pcm _ 11 61 _ _ (by decide)], hs⟩
      · simp only [r10d0, r10d1, r10d2, r10d3, r10d4, r10d5, pnone]
        refine wpAny_ready (rs := [0]) (by kernel_rfl) (by simp) (AR.cons (o := r10o0) rfl (fun K hK => stp_loadw (g := gP) (vs := qv) hs rfl rfl (by simp [pnone, evp, szp, h8, h9, s1, s2, s3, s4]) (by repeat (first | exact List.Mem.head _ | apply List.Mem.tail)) ty_ptr (hK _ _ ?_)) AllReady.nil)
        simp only [r10d0, r10d1, r10d2, r10d3, r10d4, r10d5, pnone]
        refine wpAny_ready (rs := [4]) (by kernel_rfl) (by simp) (AR.cons (o := r10o4) rfl (fun K hK => stp_storew (g := gX) (us := qv) hs rfl rfl (by simp [pnone, evp, szp, h8, h9, s1, s2, s3, s4]) (by simp [pnone, evp, szp, h8, h9, s1, s2, s3, s4]) (by repeat (first | exact Upd.head | apply Upd.tail)) ty_ptr hqv (fun w1 hs => hK _ _ ?_)) AllReady.nil)
        simp only [r10d0, r10d1, r10d2, r10d3, r10d4, r10d5, pnone]
        refine wpAny_ready (rs := [5]) (by kernel_rfl) (by simp) (AR.cons (o := r10o5) rfl (fun K hK => stp_storew (g := gY) (us := pv) hs rfl rfl (by simp [pnone, evp, szp, h8, h9, s1, s2, s3, s4]) (by simp [pnone, evp, szp, h8, h9, s1, s2, s3, s4]) (by repeat (first | exact Upd.head | apply Upd.tail)) ty_plain hpv (fun w1 hs => hK _ _ ?_)) AllReady.nil)
        simp only [r10d0, r10d1, r10d2, r10d3, r10d4, r10d5, pnone]
        refine wpAny_done (by kernel_rfl) ?_ _
        replace hs := hs.swapL
        exact ⟨gX, gY, by rw [pcm _ 12 11 _ _ (by decide), pcm _ 12 61 _ _ (by decide), pcm _ 12 60 _ _ (by decide), pcm _ 11 61 _ _ (by decide), pcm _ 11 60 _ _ (by decide), pcm _ 61 60 _ _ (by decide)], hs⟩
end Go.Proofs.YthbldjnpnligpaaDoor

/-
  What the walks over edits share.
-/

namespace Go.Proofs.YthbldjnpnligpaaDoor
set_option linter.unusedSimpArgs false
set_option linter.unusedVariables false
set_option maxRecDepth 100000
open Go.RowKit

theorem build_plain0 (w : World) : (Instr.build 65 #[]).run Tryd.prog w = .ok (.agg (plV (List.replicate 16 [])).toArray) w := by kernel_rfl
theorem ix_edits9 (b off n c : Nat) {i : Nat} (hi : i < n) (u : World) : (Instr.indexAt 62 (.slice (some ⟨b, off, none⟩) n c) (.int .i64 (i : Int))).run Tryd.prog u = .ok (.pointer (some ⟨b, off + i * 3, none⟩)) u :=
  index_slice 62 67 3 Tryd.underlying62 (by kernel_rfl) (by kernel_rfl) b off n c .i64 i hi u
theorem cells_later {w w' : World} (hb : Below w.heap.size w w') {b off n : Nat} {us : List Value} (hl : us.length = n) (hc : ∀ j, j < n → w.cell? ⟨b, off + j, none⟩ = us[j]?) : ∀ j, j < n → w'.cell? ⟨b, off + j, none⟩ = us[j]? := fun j hj => by
  obtain ⟨v, hv⟩ : ∃ v, us[j]? = some v := ⟨_, List.getElem?_eq_getElem (by omega)⟩
  have h1 := (hc j hj).trans hv
  exact ((hb.cell (World.block_lt_of_cell? w _ h1)).trans h1).trans hv.symm
end Go.Proofs.YthbldjnpnligpaaDoor
