/-
  As UpT, where the first operations, in any order, are followed by the other ones in a given order; of these, moves, extracts and assignments may come up earlier.
-/
import Derived.Test.YtcfjkkjjcljaoaaDoorG33
namespace Go.Proofs.YtcfjkkjjcljaoaaDoor.UpT
set_option linter.unusedSimpArgs false
set_option linter.unusedVariables false
set_option maxRecDepth 100000
open Go

section
variable {P : Program} {ops : Array Oper} {md : Region.Mode} {R : World → World → Prop} {w0 : World} {Ψ : Nat → Option (Value → World → Prop)} {S : Nat → Bool} {Qf : Act → Env → Prop}

def headT (md : Region.Mode) (ops : Array Oper) (T : Array Bool → Bool) : Nat → Nat → Array Bool → Bool
  | 0, _, listed => T listed
  | f + 1, k, listed => (Region.ready md ops listed).contains k && Region.free md ops listed k && headT md ops T f (k + 1) (listed.setIfInBounds k true)

theorem lexS {n : Nat} {T : Array Bool → Bool} (hT : ∀ listed, T listed = true → ∀ j ∈ Region.ready md ops listed, n ≤ j) (ht : ∀ u v w, R u v → R v w → R u w) (hst : ∀ k ψ, Ψ k = some ψ → ∀ v w w', R w w' → ψ v w → ψ v w') (hR : ∀ w w', R w w' → w.heap.size ≤ w'.heap.size) (hs : Region.noSelect ops = true)
    (hsk : Region.sinkB md ops n = true) (hch : Chain md ops n) (hn : n < ops.size) :
    ∀ (l : List Oper) (k : Nat) (listed : Array Bool) (a : Act) (E : Env), (∀ j, j < l.length → l[j]? = ops[k + j]?) → k + l.length = n → HeadInv md ops n listed → headT md ops T l.length k listed = true → (∀ k, listed.getD k true = false → E k = none) →
      wpUp P ops md R w0 Ψ S Qf l k a E → anyL P ops md R w0 Ψ S n (fun listed' a' E' => T listed' = true ∧ Qf a' E') l.length listed a E
  | [], k, _, _, _, _, hk, _, hB, _, h => by
    have : k = n := by simpa using hk
    subst this
    exact fun _ => ⟨by simpa [headT] using hB, h⟩
  | o :: l, k, listed, a, E, hl, hk, inv, hB, hE, h => by
    have h0 : ops[k]? = some o := by simpa using (hl 0 (by simp)).symm
    simp only [List.length_cons, headT, Bool.and_eq_true] at hB
    obtain ⟨⟨hr, hf⟩, hB'⟩ := hB
    have hkn : k < n := by simp only [List.length_cons] at hk; omega
    have hk' : k + 1 + l.length = n := by simp only [List.length_cons] at hk; omega
    have hr' : k ∈ Region.ready md ops listed := by simpa using hr
    have hl' : ∀ j, j < l.length → l[j]? = ops[k + 1 + j]? := fun j hj => by have := hl (j + 1) (by simp; omega); simpa [Nat.add_assoc, Nat.add_comm 1 j] using this
    have hd : ∀ listed' (a' : Act) (E' : Env), (T listed' = true ∧ Qf a' E') → ∀ j ∈ Region.ready md ops listed', n ≤ j := fun listed' a' E' hL => hT _ hL.1
    unfold wpUp at h
    by_cases hw : Region.wanted o (yielded ops a.tmps) = true
    · simp only [hw, if_true] at h
      cases hψ : Ψ k with
      | none =>
        simp only [hψ] at h
        obtain ⟨v, hv, hn'⟩ := h
        exact firstP2 h0 (Region.noSelect_spec hs) hsk hch hn hkn hd l.length listed a E inv (Region.free_spec h0 hf) hr' hE (.inl ⟨hw, hψ, hv⟩) (lexS hT ht hst hR hs hsk hch hn l (k + 1) _ _ E hl' hk' (inv.set hr' hkn) hB' (unlisted hE (.inl rfl)) hn')
      | some ψ =>
        simp only [hψ] at h
        obtain ⟨hm, hn'⟩ := h
        exact firstM2 ht hst hR h0 (Region.noSelect_spec hs) hsk hch hn hkn hd l.length listed a E inv (Region.free_spec h0 hf) hr' hE ⟨hw, hψ, hm⟩ (fun v hv => lexS hT ht hst hR hs hsk hch hn l (k + 1) _ _ _ hl' hk' (inv.set hr' hkn) hB' (unlisted hE (.inr ⟨v, rfl⟩)) (hn' v hv))
    · simp only [hw] at h
      exact firstP2 h0 (Region.noSelect_spec hs) hsk hch hn hkn hd l.length listed a E inv (Region.free_spec h0 hf) hr' hE (.inr ⟨by simpa using hw, rfl⟩) (lexS hT ht hst hR hs hsk hch hn l (k + 1) _ _ E hl' hk' (inv.set hr' hkn) hB' (unlisted hE (.inl rfl)) h)

/-- Moves, extracts, assignments. -/
def light (o : Oper) : Bool := match o.op with
  | .move _ => true
  | .extract _ _ => true
  | .assign _ => true
  | _ => false
/-- The order is a right one. -/
def seqF (md : Region.Mode) (ops : Array Oper) : List Nat → Array Bool → Bool
  | [], listed => (Region.ready md ops listed).isEmpty
  | i :: is, listed => (decide (Region.ready md ops listed = [i]) || ((Region.ready md ops listed).contains i && Region.free md ops listed i && ((ops[i]?).map light).getD false)) && seqF md ops is (listed.setIfInBounds i true)
def opsAt (ops : Array Oper) (is : List Nat) : List Oper := is.filterMap fun i => ops[i]?

theorem light_yields {o : Oper} (hl : light o = true) {a : Act} {w : World} {K : Act → World → Prop} {Mid : Act → World → Prop} (h : if Region.wanted o (yielded ops a.tmps) = true then o.wp P a w K (midQ Mid) ∨ (o.asks P a w ∧ LetsOut (midQ Mid)) else K (a.put o.dst undef) w) :
    ∃ v, Yields P ops o v a ∧ K (a.put o.dst v) w := by
  have hout : ¬ LetsOut (midQ Mid) := fun ⟨_, _, h⟩ => h
  by_cases hw : Region.wanted o (yielded ops a.tmps) = true
  · rw [if_pos hw] at h
    rcases h with h | h
    · have hdet : (∃ v, ∀ u, (execOp a.eval o).run P u = .ok (.value v) u) ∨ (∀ v u, (execOp a.eval o).run P w ≠ .ok v u) := by
        obtain ⟨dst, op, ty, pos, aft, gd⟩ := o
        cases op <;> simp only [light, Bool.false_eq_true] at hl
        case move x => exact .inl ⟨a.eval x, fun u => by simp [execOp, Sem.run_pure]⟩
        case assign x => exact .inl ⟨a.eval x, fun u => by simp [execOp, Sem.run_pure]⟩
        case extract x i =>
          by_cases hx : ∃ vs, a.eval x = .tuple vs
          · obtain ⟨vs, hx⟩ := hx
            cases hv : vs[i]? with
            | some v => exact .inl ⟨v, fun u => by simp [execOp, Instr.extract, hx, hv, Sem.run_pure, Sem.run_bind]⟩
            | none => exact .inr (fun v u => by simp [execOp, Instr.extract, hx, hv, Sem.run_pure, Sem.run_bind])
          · exact .inr (fun v u => by
              cases hy : a.eval x <;> first | (simp [execOp, Instr.extract, hy, Sem.run_pure, Sem.run_bind]; done) | exact (hx ⟨_, hy⟩).elim)
      rcases hdet with ⟨v, hv⟩ | hno
      · refine ⟨v, .inl ⟨hw, hv⟩, ?_⟩
        unfold Oper.wp at h
        rw [hv w] at h
        exact h
      · exfalso
        unfold Oper.wp at h
        generalize (execOp a.eval o).run P w = r at h hno
        cases r with
        | ok v u => exact hno v u rfl
        | halt x u => cases x <;> simp only [Oper.upon] at h <;> exact h.elim
    · exact (hout h.2).elim
  · rw [if_neg hw] at h
    exact ⟨undef, .inr ⟨by simpa using hw, rfl⟩, h⟩

theorem wpAny_of_seqF {Mid : Act → World → Prop} (hs : Region.noSelect ops = true) : ∀ (is : List Nat) (listed : Array Bool) (a : Act) (w : World), (∀ i ∈ is, i < ops.size) →
    seqF md ops is listed = true → wpList P ops (midQ Mid) (opsAt ops is) a w → wpAny P md ops (midQ Mid) is.length listed a w
  | [], listed, a, w, _, hB, h => ⟨by simpa [seqF] using hB, h⟩
  | i :: is, listed, a, w, hi, hB, h => by
    have hlt : i < ops.size := hi i List.mem_cons_self
    have h0 : ops[i]? = some ops[i] := Array.getElem?_eq_getElem hlt
    simp only [seqF, Bool.and_eq_true, Bool.or_eq_true, decide_eq_true_eq] at hB
    obtain ⟨hB1, hB2⟩ := hB
    have hl : opsAt ops (i :: is) = ops[i] :: opsAt ops is := by unfold opsAt; rw [List.filterMap_cons, h0]
    rw [hl] at h
    have ih := fun a w => wpAny_of_seqF (Mid := Mid) hs is (listed.setIfInBounds i true) a w (fun j hj => hi j (List.mem_cons_of_mem _ hj)) hB2
    rcases hB1 with hB1 | ⟨⟨hr, hf⟩, hlight⟩
    · refine ⟨fun h1 => (by rw [h1] at hB1; cases hB1), fun j hj => ?_⟩
      rw [hB1] at hj
      obtain rfl : j = i := by simpa using hj
      have hw : wpOp P ops (midQ Mid) j (wpList P ops (midQ Mid) (opsAt ops is)) a w := by unfold wpOp; simp only [h0]; exact h
      exact wpOp_mono (fun a' w' h' => ih a' w' h') hw
    · rw [h0] at hlight
      simp only [Option.map_some, Option.getD_some] at hlight
      obtain ⟨v, hy, hK⟩ := light_yields (ops := ops) hlight h
      exact wpAny_take h0 hs hf hr (fun c a w h => h.elim) hy (ih _ _ hK)
end

def seqAll (md : Region.Mode) (ops : Array Oper) (n : Nat) (ord : List Nat) : Bool :=
  Region.noSelect ops && decide (n < ops.size) && Region.sinkB md ops n && chainM md ops n && decide (ord.length = ops.size - n) && ord.all (fun i => decide (n ≤ i) && decide (i < ops.size)) && headT md ops (seqF md ops ord) n 0 (Array.replicate ops.size false)

theorem seqF_ready {md : Region.Mode} {ops : Array Oper} {n : Nat} (hs : Region.sinkB md ops n = true) (hc : Chain md ops n) : True := trivial

open Go.RowKit in
theorem wp_region_seq {P : Program} {id : Nat} {Q : Exit → Act → World → Prop} {a : Act} {w : World} {l : List Oper} (n : Nat) (ord : List Nat) (Ψ : Nat → Option (Value → World → Prop)) (S : Nat → Bool) (hm : P.follows .mixedOrders = true) (hB : seqAll .any l.toArray n ord = true)
    (hst : ∀ k ψ, Ψ k = some ψ → ∀ v w w', Below w.heap.size w w' → ψ v w → ψ v w')
    (h : Held (wpUp P l.toArray .any (fun w w' => Below w.heap.size w w') w Ψ S (fun a' E => ∀ w', Below w.heap.size w w' → Facts Ψ S E w' → wpList P l.toArray (midQ fun a2 w2 => Q .normal a2 w2) (opsAt l.toArray ord) a' w') (l.take n) 0 a (fun _ => none))) : (Code.region id l.toArray true).wp P Q a w := by
  have ht : ∀ u v w : World, Below u.heap.size u v → Below v.heap.size v w → Below u.heap.size u w := fun u v w h1 h2 => h1.trans (h2.mono h1.size)
  have hR : ∀ u v : World, Below u.heap.size u v → u.heap.size ≤ v.heap.size := fun u v h => h.size
  simp only [seqAll, Bool.and_eq_true, decide_eq_true_eq] at hB
  obtain ⟨⟨⟨⟨⟨⟨hsel, hn⟩, hs⟩, hc⟩, hol⟩, hoi⟩, hlex⟩ := hB
  have hn' : n < l.length := by simpa using hn
  have htl : (l.take n).length = n := by simp; omega
  have hoi2 : ∀ i ∈ ord, n ≤ i ∧ i < l.toArray.size := fun i hi => by
    have := List.all_eq_true.1 hoi i hi
    simpa using this
  have hTT : ∀ listed, seqF .any l.toArray ord listed = true → ∀ j ∈ Region.ready .any l.toArray listed, n ≤ j := by
    intro listed
    have key : ∀ (is : List Nat) (listed : Array Bool), (∀ i ∈ is, n ≤ i) → seqF .any l.toArray is listed = true → ∀ j ∈ Region.ready .any l.toArray listed, n ≤ j := by
      intro is
      induction is with
      | nil =>
        intro listed _ hB j hj
        simp only [seqF, List.isEmpty_iff] at hB
        rw [hB] at hj; cases hj
      | cons i is ih =>
        intro listed hi hB j hj
        simp only [seqF, Bool.and_eq_true, Bool.or_eq_true, decide_eq_true_eq] at hB
        by_cases hji : j = i
        · rw [hji]; exact hi i List.mem_cons_self
        · exact ih _ (fun k hk => hi k (List.mem_cons_of_mem _ hk)) hB.2 j (ready_mono hj hji)
    exact key ord listed (fun i hi => (hoi2 i hi).1)
  have inv0 : HeadInv .any l.toArray n (Array.replicate l.toArray.size false) :=
    ⟨by simp, fun j oj _ hl => (by rw [getD_replicate_false] at hl; cases hl), fun t _ ht => getD_in (by simpa using ht) (getD_replicate_false _ _)⟩
  have H := lexS (md := .any) hTT ht hst hR hsel hs hc hn (l.take n) 0 _ a (fun _ => none) (fun j hj => by
    have hj' : j < n := by rw [htl] at hj; exact hj
    simp [hj']) (by simpa using htl) inv0 (by rw [htl]; exact hlex) (fun _ _ => rfl) h.out
  refine wp_mid (fun _ a2 w2 => Q .normal a2 w2) ?_ (fun _ _ h => h)
  refine wp_region_any hm ?_
  have := soundL (Q := midQ fun a2 w2 => Q .normal a2 w2) (g := l.toArray.size - n) ht hst hR (fun listed a' E w' h1 h2 hL => by
    have h3 := wpAny_of_seqF hsel ord listed a' w' (fun i hi => (hoi2 i hi).2) hL.1 (hL.2 w' h1 h2)
    rwa [hol] at h3) _ _ _ _ { w with drawn := w.drawn + 1 } (Below.refl _ _).drew ⟨fun k v ψ hk _ => (by cases hk), fun k g _ hk => (by cases hk), fun k j g g' _ _ _ hk _ => (by cases hk)⟩ H
  rw [htl, show n + (l.toArray.size - n) = l.toArray.size by omega] at this
  exact this
end Go.Proofs.YtcfjkkjjcljaoaaDoor.UpT
