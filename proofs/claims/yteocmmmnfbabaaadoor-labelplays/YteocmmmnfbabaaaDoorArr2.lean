/-
  More laws over blocks.
-/
import Derived.Test.YteocmmmnfbabaaaDoorArr
import Derived.RegionTactic
namespace Go.Proofs.YteocmmmnfbabaaaDoor
set_option linter.unusedSimpArgs false
set_option linter.unusedVariables false
open Go.RowKit

theorem wpList_load_tab {P : Program} {w : World} {ops : Array Oper} {rest : List Oper} {o : Oper} {a : Act} {Q : Exit → Act → World → Prop} (hgd : o.guard = none) (x : Operand) (t : TypeId) (ho : o.op = Op.load t x)
    (g n : Nat) (hx : a.eval x = .pointer (some ⟨g, 0, none⟩)) (hA : ∀ w, (isAgg t).run P w = .ok true w) (hZ : ∀ w, (sizeOf t).run P w = .ok n w) {K : IntKind} {zs : List Int} (hb : Tab K w g zs)
    (hl : zs.length = n) (h : wpList P ops Q rest (a.put o.dst (.agg (zs.map (Value.int K)).toArray)) w) : wpList P ops Q (o :: rest) a w := by
  refine wpList_plain hgd fun K hK => ?_
  have hr := run_load_tab (P := P) (w := w) hA hZ hb hl
  unfold Oper.wp execOp
  simp only [ho, hx, Sem.run_bind, Sem.run_pure, Result.andThen_ok, hr]
  exact hK _ _ h

/-- The end of an array behind a pointer. -/
theorem slice_arr {P : Program} {t e : TypeId} {n g off k : Nat} (ht : P.underlying t = some (.array n e)) (hs : (P.info? e).map (·.size) = some 1) (hk : k < n) (K : IntKind) (w : World) :
    (Instr.sliceAt t (.pointer (some ⟨g, off, none⟩)) (some (.int K (k : Int))) none none).run P w = .ok (.slice (some ⟨g, off + k, none⟩) (n - k) (n - k)) w := by
  have hz := sizeOf_run hs w
  have hadd : (⟨g, off, none⟩ : Addr).add k = ⟨g, off + k, none⟩ := by unfold Addr.add; split <;> simp_all
  have hb : (0 : Int) ≤ (k : Int) ∧ (k : Int) ≤ (n : Int) := by omega
  have hne : ¬ n = k := by omega
  simp [Instr.sliceAt, run_underlying ht, hz, Instr.sureAddr, Instr.sliceBounds, Instr.sliceBound, asIntOf, hb, hne, hadd, Sem.run_bind]
  intro h; omega

theorem Blk.set {e : TypeId} {w : World} {g : Nat} {vs : List Value} (h : Blk e w g vs) (k : Nat) (x : Value) : Blk e (w.setCell ⟨g, k, none⟩ x) g (vs.set k x) := by
  have hlt := h.lt
  unfold Blk at *
  simp [World.setCell, Array.getElem?_modify, h]

/-- A load of a whole array, as one step of a region that draws. -/
theorem step_load_blk {P : Program} {o : Oper} {a : Act} {w : World} {K : Act → World → Prop} {Q : Exit → Act → World → Prop} (x : Operand) (t : TypeId) (ho : o.op = Op.load t x)
    (g off n : Nat) (hx : a.eval x = .pointer (some ⟨g, off, none⟩)) (hA : ∀ w, (isAgg t).run P w = .ok true w) (hZ : ∀ w, (sizeOf t).run P w = .ok n w) {e : TypeId} {vs : List Value} (hb : Blk e w g vs)
    (us : List Value) (hu : us = (vs.drop off).take n) (hl : us.length = n) (h : K (a.put o.dst (.agg us.toArray)) w) :
    Oper.wp P o a w K Q := by
  have hr := run_load_blk (P := P) (w := w) hA hZ hb hu hl
  unfold Oper.wp execOp
  simp only [ho, hx, Sem.run_bind, Sem.run_pure, Result.andThen_ok, hr]
  exact h

theorem step_store_blk {P : Program} {o : Oper} {a : Act} {w : World} {K : Act → World → Prop} {Q : Exit → Act → World → Prop} (x y : Operand) (t : TypeId) (ho : o.op = Op.store t x y)
    (g off n : Nat) (hx : a.eval x = .pointer (some ⟨g, off, none⟩)) (us : List Value) (hy : a.eval y = .agg us.toArray) (hZ : ∀ w, (sizeOf t).run P w = .ok n w) {e : TypeId} {vs : List Value} (hb : Blk e w g vs)
    (hl : us.length = n) (hle : off + n ≤ vs.length) (h1 : ∀ v ∈ us, v.oneCell' = true) (ws : List Value) (hw : ws = vs.take off ++ us ++ vs.drop (off + n))
    (h : ∀ w', Blk e w' g ws → But g w w' → w'.heap.size = w.heap.size → K (a.put o.dst undef) w') :
    Oper.wp P o a w K Q := by
  have hr := run_store_blk (P := P) (w := w) hZ hb hl hle h1
  unfold Oper.wp execOp
  simp only [ho, hx, hy, Sem.run_bind, Sem.run_pure, Result.andThen_ok, hr]
  refine h _ ?_ ((But.refl g w).setRow _) (by simp [World.setRow])
  rw [hw]
  exact setRow_heap w g _ _ e _ hb

section
variable {P : Program} {md : Region.Mode} {ops : Array Oper} {Q : Exit → Act → World → Prop} {fuel : Nat} {listed : Array Bool} {a : Act} {w : World}

/-- An operation that yields in whatever world is taken first. -/
theorem any_take (i : Nat) {o : Oper} (ho : ops[i]? = some o) (d : Option Tmp) (hd : o.dst = d) (v : Value) (hs : Region.noSelect ops = true) (hf : Region.free md ops listed i = true) (hr : (Region.ready md ops listed).contains i = true)
    (hQ : ∀ c a w, Q (.panic c) (a.put d v) w → Q (.panic c) a w) (hy : Yields P ops o v a) (h : wpAny P md ops Q fuel (listed.setIfInBounds i true) (a.put d v) w) : wpAny P md ops Q (fuel + 1) listed a w := by
  subst hd
  exact wpAny_take ho hs hf hr hQ hy h

/-- A region that draws, at a load that comes up alone. -/
theorem any_load (i : Nat) (hr : Region.ready md ops listed = [i]) {o : Oper} (ho : ops[i]? = some o) (hg : o.guard = none) (d : Option Tmp) (hd : o.dst = d) (x : Operand) (t : TypeId) (hop : o.op = Op.load t x)
    (g off n : Nat) (hx : a.eval x = .pointer (some ⟨g, off, none⟩)) (hA : ∀ w, (isAgg t).run P w = .ok true w) (hZ : ∀ w, (sizeOf t).run P w = .ok n w) {e : TypeId} {vs : List Value} (hb : Blk e w g vs)
    (us : List Value) (hu : us = (vs.drop off).take n) (hl : us.length = n) (h : wpAny P md ops Q fuel (listed.setIfInBounds i true) (a.put d (.agg us.toArray)) w) :
    wpAny P md ops Q (fuel + 1) listed a w := by
  refine wpAny_ready (rs := [i]) hr (by simp) ?_
  refine AllReady.cons ho (fun K hK => ?_) AllReady.nil
  rw [if_pos (by simp [Region.wanted, hg])]
  exact step_load_blk x t hop g off n hx hA hZ hb us hu hl (hK _ _ (hd ▸ h))

/-- Two loads that may come up in either order. -/
theorem any_loads (i j : Nat) (hr : Region.ready md ops listed = [i, j]) {o o' : Oper} (ho : ops[i]? = some o) (ho' : ops[j]? = some o') (hg : o.guard = none) (hg' : o'.guard = none) (d d' : Option Tmp) (hd : o.dst = d) (hd' : o'.dst = d')
    (x x' : Operand) (t t' : TypeId) (hop : o.op = Op.load t x) (hop' : o'.op = Op.load t' x') (g off n g' off' n' : Nat) (hx : a.eval x = .pointer (some ⟨g, off, none⟩)) (hx' : a.eval x' = .pointer (some ⟨g', off', none⟩))
    (hA : ∀ w, (isAgg t).run P w = .ok true w) (hZ : ∀ w, (sizeOf t).run P w = .ok n w) (hA' : ∀ w, (isAgg t').run P w = .ok true w) (hZ' : ∀ w, (sizeOf t').run P w = .ok n' w)
    {e e' : TypeId} {vs vs' : List Value} (hb : Blk e w g vs) (hb' : Blk e' w g' vs')
    (us us' : List Value) (hu : us = (vs.drop off).take n) (hl : us.length = n) (hu' : us' = (vs'.drop off').take n') (hl' : us'.length = n')
    (h1 : wpAny P md ops Q fuel (listed.setIfInBounds i true) (a.put d (.agg us.toArray)) w) (h2 : wpAny P md ops Q fuel (listed.setIfInBounds j true) (a.put d' (.agg us'.toArray)) w) :
    wpAny P md ops Q (fuel + 1) listed a w := by
  refine wpAny_ready (rs := [i, j]) hr (by simp) ?_
  refine AllReady.cons ho (fun K hK => ?_) (AllReady.cons ho' (fun K hK => ?_) AllReady.nil)
  · rw [if_pos (by simp [Region.wanted, hg])]
    exact step_load_blk x t hop g off n hx hA hZ hb us hu hl (hK _ _ (hd ▸ h1))
  · rw [if_pos (by simp [Region.wanted, hg'])]
    exact step_load_blk x' t' hop' g' off' n' hx' hA' hZ' hb' us' hu' hl' (hK _ _ (hd' ▸ h2))

theorem any_store (i : Nat) (hr : Region.ready md ops listed = [i]) {o : Oper} (ho : ops[i]? = some o) (hg : o.guard = none) (d : Option Tmp) (hd : o.dst = d) (x y : Operand) (t : TypeId) (hop : o.op = Op.store t x y)
    (g off n : Nat) (hx : a.eval x = .pointer (some ⟨g, off, none⟩)) (us : List Value) (hy : a.eval y = .agg us.toArray) (hZ : ∀ w, (sizeOf t).run P w = .ok n w) {e : TypeId} {vs : List Value} (hb : Blk e w g vs)
    (hl : us.length = n) (hle : off + n ≤ vs.length) (h1 : ∀ v ∈ us, v.oneCell' = true) (ws : List Value) (hw : ws = vs.take off ++ us ++ vs.drop (off + n))
    (h : ∀ w', Blk e w' g ws → But g w w' → w'.heap.size = w.heap.size → wpAny P md ops Q fuel (listed.setIfInBounds i true) (a.put d undef) w') :
    wpAny P md ops Q (fuel + 1) listed a w := by
  refine wpAny_ready (rs := [i]) hr (by simp) ?_
  refine AllReady.cons ho (fun K hK => ?_) AllReady.nil
  rw [if_pos (by simp [Region.wanted, hg])]
  exact step_store_blk x y t hop g off n hx us hy hZ hb hl hle h1 ws hw (fun w' k1 k2 k3 => hK _ _ (hd ▸ h w' k1 k2 k3))

theorem any_call (i : Nat) (hr : Region.ready md ops listed = [i]) {o : Oper} (ho : ops[i]? = some o) (hg : o.guard = none) (d : Option Tmp) (hd : o.dst = d) (f : FuncId) (args : Array Value)
    (hv : (execOp a.eval o).run P w = .ok (.enter f args) w) {R : Ending → World → Prop} (hc : Calls P f args w R) (h : ∀ e w', R e w' → ∃ v, e = .returned v ∧ wpAny P md ops Q fuel (listed.setIfInBounds i true) (a.put d v) w') :
    wpAny P md ops Q (fuel + 1) listed a w := by
  refine wpAny_ready (rs := [i]) hr (by simp) ?_
  refine AllReady.cons ho (fun K hK => ?_) AllReady.nil
  rw [if_pos (by simp [Region.wanted, hg])]
  unfold Oper.wp
  rw [hv, Oper.upon_enter]
  refine hc.mono fun e w' hR => ?_
  obtain ⟨v, rfl, hw⟩ := h e w' hR
  exact hK _ _ (hd ▸ hw)

/-- What is left comes up one by one. -/
theorem any_seq (n : Nat) (hf : fuel = ops.size - n) (hs : Region.seqB md ops fuel n listed = true) (h : wpList P ops Q (ops.toList.drop n) a w) : wpAny P md ops Q fuel listed a w := by
  have hl : (ops.toList.drop n).length = fuel := by rw [hf]; simp
  have := wpAny_of_seq (md := md) (Q' := Q) (ops.toList.drop n) n listed a w (fun j => by simp [List.getElem?_drop]) (by rw [hl]; exact hs) h
  rwa [hl] at this
end
end Go.Proofs.YteocmmmnfbabaaaDoor
