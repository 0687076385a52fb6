/-
 What the document's bank tells, as plain data: written over by the document's order is written over by ours.
-/
import Derived.Test.YthbldjnpnligpaaDoorB28
import Derived.Test.YthbldjnpnligpaaDoorB34
namespace Go.Proofs.YthbldjnpnligpaaDoor
set_option linter.unusedSimpArgs false
set_option linter.unusedVariables false
set_option maxRecDepth 100000
open Go.RowKit
def stepO (b h : List Int) (S0 : DS) (x : Nat) (s : DS × Nat) : (DS × Nat) × Int :=
 if rightL S0 x h = true ∨ x = 0 ∨ ¬ x < S0.laid.length / 256 then (s, 0)
 else if (s.1.write (x : Int) b).2 = 0 then (((s.1.write (x : Int) b).1, s.2 + 1), 0)
 else (((s.1.write (x : Int) b).1, 0), (s.1.write (x : Int) b).2)
def overK (S : DS) (p : Pt) (b : List Int) : (DS × Nat) × Int :=
 if (stepO b p.h S p.x (S, 0)).2 ≠ 0 then stepO b p.h S p.x (S, 0) else stepO b p.h S p.y (stepO b p.h S p.x (S, 0)).1
theorem stepO_skip {b h : List Int} {S0 : DS} {x : Nat} {s : DS × Nat} (h1 : rightL S0 x h = true ∨ x = 0 ∨ ¬ x < S0.laid.length / 256) : stepO b h S0 x s = (s, 0) := by unfold stepO; rw [if_pos h1]
theorem stepO_done {b h : List Int} {S0 S1 : DS} {x n : Nat} {s : DS × Nat} (h1 : rightL S0 x h = false) (h2 : x ≠ 0) (h3 : x < S0.laid.length / 256) (hS : (s.1.write (x : Int) b).1 = S1) (hE : (s.1.write (x : Int) b).2 = 0) : stepO b h S0 x s = ((S1, s.2 + 1), 0) := by
 unfold stepO; rw [if_neg (by rw [h1]; simp; exact ⟨h2, h3⟩), if_pos hE, hS]
theorem stepO_err {b h : List Int} {S0 S1 : DS} {x n : Nat} {s : DS × Nat} {E : Int} (h1 : rightL S0 x h = false) (h2 : x ≠ 0) (h3 : x < S0.laid.length / 256) (hS : (s.1.write (x : Int) b).1 = S1) (hE : (s.1.write (x : Int) b).2 = E) (h0 : E ≠ 0) : stepO b h S0 x s = ((S1, 0), E) := by
 unfold stepO; rw [if_neg (by rw [h1]; simp; exact ⟨h2, h3⟩), hE, if_neg h0, hS]
theorem over_first {S : DS} {p : Pt} {b : List Int} {s : DS × Nat} {E : Int} (h : stepO b p.h S p.x (S, 0) = (s, E)) (h0 : E ≠ 0) : overK S p b = (s, E) := by unfold overK; rw [h, if_pos h0]
theorem over_next {S : DS} {p : Pt} {b : List Int} {s : DS × Nat} (h : stepO b p.h S p.x (S, 0) = (s, 0)) : overK S p b = stepO b p.h S p.y s := by unfold overK; rw [h, if_neg (by simp)]
theorem write_no {S : DS} {i : Int} {xs : List Int} (hoff : S.off = false) (h : ¬ S.has i) : S.write i xs = (S, 1) := by
 unfold DS.write
 rw [hoff, if_neg (by decide), if_pos (fun hh => h hh.1)]
theorem step_same {b h : List Int} {S0 : DS} {n x : Nat} {s : DS × Nat} (hok : S0.Ok n) (hl : s.1.laid.length = S0.laid.length) (hoff : s.1.off = false) (hb : b.length = 256) (hr : rightL s.1 x h = rightL S0 x h) : stepO b h S0 x s = stepR b h x s := by
 unfold stepO stepR
 rw [hr]
 by_cases h1 : rightL S0 x h = true
 · rw [if_pos (.inl h1), if_pos (.inl h1)]
 by_cases h2 : x = 0
 · rw [if_pos (.inr (.inl h2)), if_pos (.inr h2)]
 rw [if_neg (c := rightL S0 x h = true ∨ x = 0) (by simp only [h1, h2]; simp)]
 by_cases h3 : x < S0.laid.length / 256
 · rw [if_neg (by simp only [h1, h2]; simp; exact h3)]
   by_cases h4 : (s.1.write (x : Int) b).2 = 0
   · rw [if_pos h4, if_pos h4]
   · have h5 : (s.1.write (x : Int) b).2 ≠ 1 := fun e => (write_arg_same e).2 ⟨by unfold DS.has; rw [hl]; omega, hb⟩
     rw [if_neg h4, if_neg h4, if_neg h5]
 · rw [if_pos (.inr (.inr h3))]
   have h4 : s.1.write (x : Int) b = (s.1, 1) := write_no hoff (by unfold DS.has; rw [hl]; omega)
   rw [h4]
   simp
theorem step_off {b h : List Int} {x : Nat} {s : DS × Nat} (hoff : s.1.off = false) (h0 : (stepR b h x s).2 = 0) : (stepR b h x s).1.1.off = false := by
 unfold stepR at *
 split
 · exact hoff
 · rename_i h1
   rw [if_neg h1] at h0
   by_cases h2 : (s.1.write (x : Int) b).2 = 0
   · rw [if_pos h2] at h0 ⊢
     exact (write_on (by rw [h2]; decide)).1
   · rw [if_neg h2] at h0 ⊢
     by_cases h3 : (s.1.write (x : Int) b).2 = 1
     · rw [if_pos h3] at h0 ⊢
       exact (write_on (by rw [h3]; decide)).1
     · rw [if_neg h3] at h0
       exact absurd h0 h2
theorem step_right {b h : List Int} {x y : Nat} {s : DS × Nat} (hne : x ≠ y) : rightL (stepR b h x s).1.1 y h = rightL s.1 y h := by
 unfold stepR
 repeat' split
 · rfl
 all_goals exact rightL_write _ _ _ hne
theorem rightL_zero (S : DS) (h : List Int) : rightL S 0 h = false := by unfold rightL; simp
theorem over_rest {S : DS} {n : Nat} {p : Pt} {b : List Int} (hok : S.Ok n) (hoff : S.off = false) (hb : b.length = 256) (hm : p.may = true) : overK S p b = restK S p b := by
 have e1 : stepO b p.h S p.x (S, 0) = stepR b p.h p.x (S, 0) := step_same hok rfl hoff hb rfl
 unfold overK restK
 rw [e1]
 split
 · rfl
 · rename_i h0
   have h0' : (stepR b p.h p.x (S, 0)).2 = 0 := by simpa using h0
   refine step_same hok (by rw [stepR_laid]) (step_off hoff h0') hb ?_
   by_cases hxy : p.x = p.y
   · unfold Pt.may at hm
     split at hm
     · rename_i hx
       have : p.y = 0 := by omega
       rw [this, rightL_zero, rightL_zero]
     · simp [hxy] at hm
   · exact step_right hxy
end Go.Proofs.YthbldjnpnligpaaDoor

/-
 As UpT, where the first operations, in any order, are followed by the other ones in a given order; of these, moves, extracts and assignments may come up earlier.
-/

namespace Go.Proofs.YthbldjnpnligpaaDoor.UpT
set_option linter.unusedSimpArgs false
set_option linter.unusedVariables false
set_option maxRecDepth 100000
open Go
section
variable {P : Program} {ops : Array Oper} {md : Region.Mode} {R : World → World → Prop} {w0 : World} {Ψ : Nat → Option (Value → World → Prop)} {S : Nat → Bool} {Qf : Act → Env → Prop}
def headT (md : Region.Mode) (ops : Array Oper) (T : Array Bool → Bool) : Nat → Nat → Array Bool → Bool
 | 0, _, listed => T listed
 | f + 1, k, listed => (Region.ready md ops listed).contains k && Region.free md ops listed k && headT md ops T f (k + 1) (listed.setIfInBounds k true)
theorem lexS {n : Nat} {T : Array Bool → Bool} (hT : ∀ listed, T listed = true → ∀ j ∈ Region.ready md ops listed, n ≤ j) (ht : ∀ u v w, R u v → R v w → R u w) (hst : ∀ k ψ, Ψ k = some ψ → ∀ v w w', R w w' → ψ v w → ψ v w') (hR : ∀ w w', R w w' → w.heap.size ≤ w'.heap.size) (hs : Region.noSelect ops = true)
 (hsk : Region.sinkB md ops n = true) (hch : Chain md ops n) (hn : n < ops.size) :
 ∀ (l : List Oper) (k : Nat) (listed : Array Bool) (a : Act) (E : Env), (∀ j, j < l.length → l[j]? = ops[k + j]?) → k + l.length = n → HeadInv md ops n listed → headT md ops T l.length k listed = true → (∀ k, listed.getD k true = false → E k = none) →
   wpUp P ops md R w0 Ψ S Qf l k a E → anyL P ops md R w0 Ψ S n (fun listed' a' E' => T listed' = true ∧ Qf a' E') l.length listed a E
 | [], k, _, _, _, _, hk, _, hB, _, h => by
   have : k = n := by simpa using hk
   subst this
   exact fun _ => ⟨by simpa [headT] using hB, h⟩
 | o :: l, k, listed, a, E, hl, hk, inv, hB, hE, h => by
   have h0 : ops[k]? = some o := by simpa using (hl 0 (by simp)).symm
   simp only [List.length_cons, headT, Bool.and_eq_true] at hB
   obtain ⟨⟨hr, hf⟩, hB'⟩ := hB
   have hkn : k < n := by simp only [List.length_cons] at hk; omega
   have hk' : k + 1 + l.length = n := by simp only [List.length_cons] at hk; omega
   have hr' : k ∈ Region.ready md ops listed := by simpa using hr
   have hl' : ∀ j, j < l.length → l[j]? = ops[k + 1 + j]? := fun j hj => by have := hl (j + 1) (by simp; omega); simpa [Nat.add_assoc, Nat.add_comm 1 j] using this
   have hd : ∀ listed' (a' : Act) (E' : Env), (T listed' = true ∧ Qf a' E') → ∀ j ∈ Region.ready md ops listed', n ≤ j := fun listed' a' E' hL => hT _ hL.1
   unfold wpUp at h
   by_cases hw : Region.wanted o (yielded ops a.tmps) = true
   · simp only [hw, if_true] at h
     cases hψ : Ψ k with
     | none =>
       simp only [hψ] at h
       obtain ⟨v, hv, hn'⟩ := h
       exact firstP2 h0 (Region.noSelect_spec hs) hsk hch hn hkn hd l.length listed a E inv (Region.free_spec h0 hf) hr' hE (.inl ⟨hw, hψ, hv⟩) (lexS hT ht hst hR hs hsk hch hn l (k + 1) _ _ E hl' hk' (inv.set hr' hkn) hB' (unlisted hE (.inl rfl)) hn')
     | some ψ =>
       simp only [hψ] at h
       obtain ⟨hm, hn'⟩ := h
       exact firstM2 ht hst hR h0 (Region.noSelect_spec hs) hsk hch hn hkn hd l.length listed a E inv (Region.free_spec h0 hf) hr' hE ⟨hw, hψ, hm⟩ (fun v hv => lexS hT ht hst hR hs hsk hch hn l (k + 1) _ _ _ hl' hk' (inv.set hr' hkn) hB' (unlisted hE (.inr ⟨v, rfl⟩)) (hn' v hv))
   · simp only [hw] at h
     exact firstP2 h0 (Region.noSelect_spec hs) hsk hch hn hkn hd l.length listed a E inv (Region.free_spec h0 hf) hr' hE (.inr ⟨by simpa using hw, rfl⟩) (lexS hT ht hst hR hs hsk hch hn l (k + 1) _ _ E hl' hk' (inv.set hr' hkn) hB' (unlisted hE (.inl rfl)) h)
def light (o : Oper) : Bool := match o.op with
 | .move _ => true
 | .extract _ _ => true
 | .assign _ => true
 | _ => false
def seqF (md : Region.Mode) (ops : Array Oper) : List Nat → Array Bool → Bool
 | [], listed => (Region.ready md ops listed).isEmpty
 | i :: is, listed => (decide (Region.ready md ops listed = [i]) || ((Region.ready md ops listed).contains i && Region.free md ops listed i && ((ops[i]?).map light).getD false)) && seqF md ops is (listed.setIfInBounds i true)
def opsAt (ops : Array Oper) (is : List Nat) : List Oper := is.filterMap fun i => ops[i]?
theorem light_yields {o : Oper} (hl : light o = true) {a : Act} {w : World} {K : Act → World → Prop} {Mid : Act → World → Prop} (h : if Region.wanted o (yielded ops a.tmps) = true then o.wp P a w K (midQ Mid) ∨ (o.asks P a w ∧ LetsOut (midQ Mid)) else K (a.put o.dst undef) w) :
 ∃ v, Yields P ops o v a ∧ K (a.put o.dst v) w := by
 have hout : ¬ LetsOut (midQ Mid) := fun ⟨_, _, h⟩ => h
 by_cases hw : Region.wanted o (yielded ops a.tmps) = true
 · rw [if_pos hw] at h
   rcases h with h | h
   · have hdet : (∃ v, ∀ u, (execOp a.eval o).run P u = .ok (.value v) u) ∨ (∀ v u, (execOp a.eval o).run P w ≠ .ok v u) := by
       obtain ⟨dst, op, ty, pos, aft, gd⟩ := o
       cases op <;> simp only [light, Bool.false_eq_true] at hl
       case move x => exact .inl ⟨a.eval x, fun u => by simp [execOp, Sem.run_pure]⟩
       case assign x => exact .inl ⟨a.eval x, fun u => by simp [execOp, Sem.run_pure]⟩
       case extract x i =>
        by_cases hx : ∃ vs, a.eval x = .tuple vs
        · obtain ⟨vs, hx⟩ := hx
          cases hv : vs[i]? with
          | some v => exact .inl ⟨v, fun u => by simp [execOp, Instr.extract, hx, hv, Sem.run_pure, Sem.run_bind]⟩
          | none => exact .inr (fun v u => by simp [execOp, Instr.extract, hx, hv, Sem.run_pure, Sem.run_bind])
        · exact .inr (fun v u => by
           cases hy : a.eval x <;> first | (simp [execOp, Instr.extract, hy, Sem.run_pure, Sem.run_bind]; done) | exact (hx ⟨_, hy⟩).elim)
     rcases hdet with ⟨v, hv⟩ | hno
     · refine ⟨v, .inl ⟨hw, hv⟩, ?_⟩
       unfold Oper.wp at h
       rw [hv w] at h
       exact h
     · exfalso
       unfold Oper.wp at h
       generalize (execOp a.eval o).run P w = r at h hno
       cases r with
       | ok v u => exact hno v u rfl
       | halt x u => cases x <;> simp only [Oper.upon] at h <;> exact h.elim
   · exact (hout h.2).elim
 · rw [if_neg hw] at h
   exact ⟨undef, .inr ⟨by simpa using hw, rfl⟩, h⟩
theorem wpAny_of_seqF {Mid : Act → World → Prop} (hs : Region.noSelect ops = true) : ∀ (is : List Nat) (listed : Array Bool) (a : Act) (w : World), (∀ i ∈ is, i < ops.size) →
 seqF md ops is listed = true → wpList P ops (midQ Mid) (opsAt ops is) a w → wpAny P md ops (midQ Mid) is.length listed a w
 | [], listed, a, w, _, hB, h => ⟨by simpa [seqF] using hB, h⟩
 | i :: is, listed, a, w, hi, hB, h => by
   have hlt : i < ops.size := hi i List.mem_cons_self
   have h0 : ops[i]? = some ops[i] := Array.getElem?_eq_getElem hlt
   simp only [seqF, Bool.and_eq_true, Bool.or_eq_true, decide_eq_true_eq] at hB
   obtain ⟨hB1, hB2⟩ := hB
   have hl : opsAt ops (i :: is) = ops[i] :: opsAt ops is := by unfold opsAt; rw [List.filterMap_cons, h0]
   rw [hl] at h
   have ih := fun a w => wpAny_of_seqF (Mid := Mid) hs is (listed.setIfInBounds i true) a w (fun j hj => hi j (List.mem_cons_of_mem _ hj)) hB2
   rcases hB1 with hB1 | ⟨⟨hr, hf⟩, hlight⟩
   · refine ⟨fun h1 => (by rw [h1] at hB1; cases hB1), fun j hj => ?_⟩
     rw [hB1] at hj
     obtain rfl : j = i := by simpa using hj
     have hw : wpOp P ops (midQ Mid) j (wpList P ops (midQ Mid) (opsAt ops is)) a w := by unfold wpOp; simp only [h0]; exact h
     exact wpOp_mono (fun a' w' h' => ih a' w' h') hw
   · rw [h0] at hlight
     simp only [Option.map_some, Option.getD_some] at hlight
     obtain ⟨v, hy, hK⟩ := light_yields (ops := ops) hlight h
     exact wpAny_take h0 hs hf hr (fun c a w h => h.elim) hy (ih _ _ hK)
end
def seqAll (md : Region.Mode) (ops : Array Oper) (n : Nat) (ord : List Nat) : Bool :=
 Region.noSelect ops && decide (n < ops.size) && Region.sinkB md ops n && chainM md ops n && decide (ord.length = ops.size - n) && ord.all (fun i => decide (n ≤ i) && decide (i < ops.size)) && headT md ops (seqF md ops ord) n 0 (Array.replicate ops.size false)
open Go.RowKit in
theorem wp_region_seq {P : Program} {id : Nat} {Q : Exit → Act → World → Prop} {a : Act} {w : World} {l : List Oper} (n : Nat) (ord : List Nat) (Ψ : Nat → Option (Value → World → Prop)) (S : Nat → Bool) (hm : P.follows .mixedOrders = true) (hB : seqAll .any l.toArray n ord = true)
 (hst : ∀ k ψ, Ψ k = some ψ → ∀ v w w', Below w.heap.size w w' → ψ v w → ψ v w')
 (h : Held (wpUp P l.toArray .any (fun w w' => Below w.heap.size w w') w Ψ S (fun a' E => ∀ w', Below w.heap.size w w' → Facts Ψ S E w' → wpList P l.toArray (midQ fun a2 w2 => Q .normal a2 w2) (opsAt l.toArray ord) a' w') (l.take n) 0 a (fun _ => none))) : (Code.region id l.toArray true).wp P Q a w := by
 have ht : ∀ u v w : World, Below u.heap.size u v → Below v.heap.size v w → Below u.heap.size u w := fun u v w h1 h2 => h1.trans (h2.mono h1.size)
 have hR : ∀ u v : World, Below u.heap.size u v → u.heap.size ≤ v.heap.size := fun u v h => h.size
 simp only [seqAll, Bool.and_eq_true, decide_eq_true_eq] at hB
 obtain ⟨⟨⟨⟨⟨⟨hsel, hn⟩, hs⟩, hc⟩, hol⟩, hoi⟩, hlex⟩ := hB
 have hn' : n < l.length := by simpa using hn
 have htl : (l.take n).length = n := by simp; omega
 have hoi2 : ∀ i ∈ ord, n ≤ i ∧ i < l.toArray.size := fun i hi => by
  have := List.all_eq_true.1 hoi i hi
  simpa using this
 have hTT : ∀ listed, seqF .any l.toArray ord listed = true → ∀ j ∈ Region.ready .any l.toArray listed, n ≤ j := by
  intro listed
  have key : ∀ (is : List Nat) (listed : Array Bool), (∀ i ∈ is, n ≤ i) → seqF .any l.toArray is listed = true → ∀ j ∈ Region.ready .any l.toArray listed, n ≤ j := by
   intro is
   induction is with
   | nil =>
     intro listed _ hB j hj
     simp only [seqF, List.isEmpty_iff] at hB
     rw [hB] at hj; cases hj
   | cons i is ih =>
     intro listed hi hB j hj
     simp only [seqF, Bool.and_eq_true, Bool.or_eq_true, decide_eq_true_eq] at hB
     by_cases hji : j = i
     · rw [hji]; exact hi i List.mem_cons_self
     · exact ih _ (fun k hk => hi k (List.mem_cons_of_mem _ hk)) hB.2 j (ready_mono hj hji)
  exact key ord listed (fun i hi => (hoi2 i hi).1)
 have inv0 : HeadInv .any l.toArray n (Array.replicate l.toArray.size false) :=
  ⟨by simp, fun j oj _ hl => (by rw [getD_replicate_false] at hl; cases hl), fun t _ ht => getD_in (by simpa using ht) (getD_replicate_false _ _)⟩
 have H := lexS (md := .any) hTT ht hst hR hsel hs hc hn (l.take n) 0 _ a (fun _ => none) (fun j hj => by
  have hj' : j < n := by rw [htl] at hj; exact hj
  simp [hj']) (by simpa using htl) inv0 (by rw [htl]; exact hlex) (fun _ _ => rfl) h.out
 refine wp_mid (fun _ a2 w2 => Q .normal a2 w2) ?_ (fun _ _ h => h)
 refine wp_region_any hm ?_
 have := soundL (Q := midQ fun a2 w2 => Q .normal a2 w2) (g := l.toArray.size - n) ht hst hR (fun listed a' E w' h1 h2 hL => by
  have h3 := wpAny_of_seqF hsel ord listed a' w' (fun i hi => (hoi2 i hi).2) hL.1 (hL.2 w' h1 h2)
  rwa [hol] at h3) _ _ _ _ { w with drawn := w.drawn + 1 } (Below.refl _ _).drew ⟨fun k v ψ hk _ => (by cases hk), fun k g _ hk => (by cases hk), fun k j g g' _ _ _ hk _ => (by cases hk)⟩ H
 rw [htl, show n + (l.toArray.size - n) = l.toArray.size by omega] at this
 exact this
end Go.Proofs.YthbldjnpnligpaaDoor.UpT

/-
 As UpS, with one operation that waits for nothing (a new variable's alloc) and may come up anywhere ahead of its use.
-/

namespace Go.Proofs.YthbldjnpnligpaaDoor.UpT
set_option linter.unusedSimpArgs false
set_option linter.unusedVariables false
set_option maxRecDepth 100000
open Go
section
variable {P : Program} {ops : Array Oper} {md : Region.Mode} {R : World → World → Prop} {w0 : World} {Ψ : Nat → Option (Value → World → Prop)} {S : Nat → Bool} {Qf : Act → Env → Prop}
def anyO (P : Program) (ops : Array Oper) (md : Region.Mode) (R : World → World → Prop) (w0 : World) (Ψ : Nat → Option (Value → World → Prop)) (S : Nat → Bool) (U : Nat → Bool) (L : Nat → Nat → Array Bool → Act → Env → Prop) : Nat → Nat → Array Bool → Act → Env → Prop
 | 0, m, listed, a, E => Sat R w0 Ψ S E → Region.ready md ops listed ≠ [] ∧ ∀ i ∈ Region.ready md ops listed, ∃ m', m = m' + 1 ∧ U i = false ∧ L m' i listed a E
 | f + 1, m, listed, a, E => Sat R w0 Ψ S E → Region.ready md ops listed ≠ [] ∧ ∀ i ∈ Region.ready md ops listed, ∃ m', m = m' + 1 ∧ ((U i = true ∧ op P ops md R w0 Ψ S i (anyO P ops md R w0 Ψ S U L f m' (listed.setIfInBounds i true)) a E) ∨ (U i = false ∧ L m' i listed a E))
theorem soundO {U : Nat → Bool} {L : Nat → Nat → Array Bool → Act → Env → Prop} {Q : Exit → Act → World → Prop} (ht : ∀ u v w, R u v → R v w → R u w) (hst : ∀ k ψ, Ψ k = some ψ → ∀ v w w', R w w' → ψ v w → ψ v w') (hR : ∀ w w', R w w' → w.heap.size ≤ w'.heap.size)
 (hL : ∀ m i listed a E w, i ∈ Region.ready md ops listed → R w0 w → Facts Ψ S E w → L m i listed a E → wpOp P ops Q i (wpAny P md ops Q m (listed.setIfInBounds i true)) a w) :
 ∀ (f m : Nat) (listed : Array Bool) (a : Act) (E : Env) (w : World), R w0 w → Facts Ψ S E w → anyO P ops md R w0 Ψ S U L f m listed a E → wpAny P md ops Q m listed a w
 | 0, m, listed, a, E, w, h1, h2, h => by
   obtain ⟨hne, hall⟩ := h ⟨w, h1, h2⟩
   obtain ⟨i0, hi0⟩ := List.exists_mem_of_ne_nil _ hne
   obtain ⟨m', rfl, _⟩ := hall i0 hi0
   refine ⟨fun h0 => absurd h0 hne, fun i hi => ?_⟩
   obtain ⟨m2, e, _, hl⟩ := hall i hi
   obtain rfl : m' = m2 := by omega
   exact hL _ _ _ _ _ _ hi h1 h2 hl
 | f + 1, m, listed, a, E, w, h1, h2, h => by
   obtain ⟨hne, hall⟩ := h ⟨w, h1, h2⟩
   obtain ⟨i0, hi0⟩ := List.exists_mem_of_ne_nil _ hne
   obtain ⟨m', rfl, _⟩ := hall i0 hi0
   refine ⟨fun h0 => absurd h0 hne, fun i hi => ?_⟩
   obtain ⟨m2, e, hl⟩ := hall i hi
   obtain rfl : m' = m2 := by omega
   rcases hl with ⟨_, hl⟩ | ⟨_, hl⟩
   · exact op_sound ht hst hR h1 h2 hl (fun a' E' w' _ h1' h2' hn => soundO ht hst hR hL f m' _ a' E' w' h1' h2' hn)
   · exact hL _ _ _ _ _ _ hi h1 h2 hl
def chainX (md : Region.Mode) (ops : Array Oper) (n x : Nat) : Bool := (List.range ops.size).all fun t => decide (t ≤ n) || t == x || (List.range t).any fun s => decide (n ≤ s) && !(s == x) && Region.waitsFor md ops t s
structure HeadX (md : Region.Mode) (ops : Array Oper) (n x : Nat) (listed : Array Bool) : Prop where
 size : listed.size = ops.size
 closed : ∀ j oj, ops[j]? = some oj → listed.getD j false = true → ∀ e ∈ oj.after, Region.binds md e = true → listed.getD e.on false = true
 tail : ∀ t, n ≤ t → t < ops.size → t ≠ x → listed.getD t true = false
theorem HeadX.set {n x i : Nat} {listed : Array Bool} (inv : HeadX md ops n x listed) (hi : i ∈ Region.ready md ops listed) (hin : i < n ∨ i = x) : HeadX md ops n x (listed.setIfInBounds i true) := by
 obtain ⟨_, oi, hoi, hall⟩ := mem_ready.1 hi
 refine ⟨by simp [inv.size], fun j oj hj hl e he hb => ?_, fun t ht ht' hx => by rw [getD_set_ne true (by omega)]; exact inv.tail t ht ht' hx⟩
 by_cases hij : i = j
 · subst hij
   have : oj = oi := Option.some.inj (hj.symm.trans hoi)
   subst this
   exact getD_set_true (hall e he hb)
 · rw [getD_set_ne false hij] at hl
   exact getD_set_true (inv.closed j oj hj hl e he hb)
theorem tail_waits3 {n x : Nat} {listed : Array Bool} (hs : Region.sinkB md ops n = true) (hc : chainX md ops n x = true) (hn : n < ops.size) (hx : n < x) (inv : HeadX md ops n x listed) :
 ∀ (d i : Nat), n - i = d → i < n → listed.getD i true = false → ∀ t, n ≤ t → t ≠ x → t ∉ Region.ready md ops listed := by
 intro d
 induction d using Nat.strongRecOn with
 | _ d ih =>
   intro i hd hi hun t ht htx hr
   obtain ⟨_, ot, hot, hall⟩ := mem_ready.1 hr
   have htlt : t < ops.size := (Array.getElem?_eq_some_iff.1 hot).1
   by_cases htn : t = n
   · subst htn
     have h1 := List.all_eq_true.1 hs i (List.mem_range.2 hi)
     obtain ⟨j, hj, hj2⟩ := List.any_eq_true.1 h1
     simp only [Bool.and_eq_true, decide_eq_true_eq] at hj2
     obtain ⟨oj, hoj, e, he, hb, hon⟩ := Region.waitsFor_spec hj2.2
     have hjle : j ≤ t := by have := List.mem_range.1 hj; omega
     by_cases hjt : j = t
     · subst hjt
       have : oj = ot := Option.some.inj (hoj.symm.trans hot)
       subst this
       have h2 := hall e he hb
       rw [hon, getD_both hun] at h2
       cases h2
     · cases hl : listed.getD j false with
       | true =>
         have h2 := inv.closed j oj hoj hl e he hb
         rw [hon, getD_both hun] at h2
         cases h2
       | false =>
         have hjs : j < listed.size := by rw [inv.size]; omega
         exact ih (t - j) (by omega) j rfl (by omega) (getD_in hjs hl) t (Nat.le_refl _) htx hr
   · have h1 := List.all_eq_true.1 hc t (List.mem_range.2 htlt)
     simp only [Bool.or_eq_true, decide_eq_true_eq, beq_iff_eq] at h1
     rcases h1 with (h1 | h1) | h1
     · omega
     · exact htx h1
     · obtain ⟨s, hs1, hs2⟩ := List.any_eq_true.1 h1
       simp only [Bool.and_eq_true, decide_eq_true_eq, Bool.not_eq_true', beq_eq_false_iff_ne] at hs2
       have hst := List.mem_range.1 hs1
       obtain ⟨o', ho', e, he, hb, hon⟩ := Region.waitsFor_spec hs2.2
       have : o' = ot := Option.some.inj (ho'.symm.trans hot)
       subst this
       have h2 := hall e he hb
       rw [hon, getD_both (inv.tail s hs2.1.1 (by omega) hs2.1.2)] at h2
       cases h2
def isU (n x i : Nat) : Bool := decide (i < n) || i == x
theorem isU_false {n x i : Nat} (h : isU n x i = false) : n ≤ i ∧ i ≠ x := by
 unfold isU at h
 simp at h
 exact h
theorem isU_true {n x i : Nat} (h : isU n x i = true) : i < n ∨ i = x := by
 unfold isU at h
 simpa using h
theorem firstP3 {n x : Nat} {L : Nat → Nat → Array Bool → Act → Env → Prop} {i : Nat} {oi : Oper} {v : Value} (hi : ops[i]? = some oi) (hsel : ∀ (j : Nat) (o : Oper) cs b, ops[j]? = some o → o.op ≠ .select cs b)
 (hsk : Region.sinkB md ops n = true) (hch : chainX md ops n x = true) (hn : n < ops.size) (hx : n < x) (hin : i < n) :
 ∀ (f m : Nat) (listed : Array Bool) (a : Act) (E : Env), HeadX md ops n x listed →
   (∀ j oj, ops[j]? = some oj → j ≠ i → listed.getD j true = false → (∀ e ∈ oj.after, Region.binds md e = true → e.on ≠ i) → oi.apart ops oj = true) →
   i ∈ Region.ready md ops listed → (∀ k, listed.getD k true = false → E k = none) → YP P ops md R w0 Ψ i oi v a E →
   anyO P ops md R w0 Ψ S (isU n x) L f m (listed.setIfInBounds i true) (a.put oi.dst v) E → anyO P ops md R w0 Ψ S (isU n x) L (f + 1) (m + 1) listed a E := by
 have here : ∀ (K : Act → Env → Prop) (a : Act) (E : Env), YP P ops md R w0 Ψ i oi v a E → K (a.put oi.dst v) E → op P ops md R w0 Ψ S i K a E := by
  intro K a E hy hK
  unfold op
  simp only [hi]
  rcases hy with ⟨hw, hψ, hv⟩ | ⟨hw, rfl⟩
  · simp only [hw, if_true, hψ]; exact ⟨v, hv, hK⟩
  · simp only [hw, Bool.false_eq_true, if_false]; exact hK
 intro f
 induction f with
 | zero =>
   intro m listed a E inv _ hr _ hy H hs
   have hun := (mem_ready.1 hr).1
   refine ⟨fun h => (by rw [h] at hr; cases hr), fun j hj => ⟨m, rfl, ?_⟩⟩
   cases hU : isU n x j with
   | false => exact absurd hj (tail_waits3 hsk hch hn hx inv _ i rfl hin hun j (isU_false hU).1 (isU_false hU).2)
   | true =>
     refine .inl ⟨rfl, ?_⟩
     by_cases hji : j = i
     · subst hji; exact here _ _ _ hy H
     · obtain ⟨_, _, hf, _⟩ := (H hs).2 j (ready_mono hj hji)
       rw [hU] at hf; cases hf
 | succ f ih =>
   intro m listed a E inv hfree hr hE hy H hs
   have hun := (mem_ready.1 hr).1
   refine ⟨fun h => (by rw [h] at hr; cases hr), fun j hj => ⟨m, rfl, ?_⟩⟩
   cases hU : isU n x j with
   | false => exact absurd hj (tail_waits3 hsk hch hn hx inv _ i rfl hin hun j (isU_false hU).1 (isU_false hU).2)
   | true =>
     refine .inl ⟨rfl, ?_⟩
     by_cases hji : j = i
     · subst hji; exact here _ _ _ hy H
     · obtain ⟨m', rfl, h1⟩ := (H hs).2 j (ready_mono hj hji)
       rcases h1 with ⟨_, h1⟩ | ⟨h1, _⟩
       case inr => rw [hU] at h1; cases h1
       obtain ⟨hjun, oj, hoj, hall⟩ := mem_ready.1 hj
       have h2 := op_putP hoj (hfree j oj hoj hji hjun (not_waits hr hj hoj)) (fun cs b => hsel i oi cs b hi) (fun cs b => hsel j oj cs b hoj) (hE j hjun) hy h1
       have hfree' : ∀ k ok, ops[k]? = some ok → k ≠ i → (listed.setIfInBounds j true).getD k true = false →
        (∀ e ∈ ok.after, Region.binds md e = true → e.on ≠ i) → oi.apart ops ok = true := fun k ok hk hki hun hno => by
        refine hfree k ok hk hki ?_ hno
        by_cases hjk : j = k
        · subst hjk; exact hjun
        · rw [getD_set_ne true hjk] at hun; exact hun
       refine op_more (fun a' E' hE' h3 => ih m' (listed.setIfInBounds j true) a' E' (inv.set hj (isU_true hU)) hfree' (ready_mono hr (Ne.symm hji)) (unlisted hE hE') h3.1 ?_) h2
       rw [Array.setIfInBounds_comm _ _ hji]
       exact h3.2
theorem firstM3 {n x : Nat} {L : Nat → Nat → Array Bool → Act → Env → Prop} (ht : ∀ u v w, R u v → R v w → R u w) (hst : ∀ k ψ, Ψ k = some ψ → ∀ v w w', R w w' → ψ v w → ψ v w') (hR : ∀ w w', R w w' → w.heap.size ≤ w'.heap.size) {i : Nat} {oi : Oper} {ψi : Value → World → Prop} (hi : ops[i]? = some oi)
 (hsel : ∀ (j : Nat) (o : Oper) cs b, ops[j]? = some o → o.op ≠ .select cs b)
 (hsk : Region.sinkB md ops n = true) (hch : chainX md ops n x = true) (hn : n < ops.size) (hx : n < x) (hin : i < n) :
 ∀ (f m : Nat) (listed : Array Bool) (a : Act) (E : Env), HeadX md ops n x listed →
   (∀ j oj, ops[j]? = some oj → j ≠ i → listed.getD j true = false → (∀ e ∈ oj.after, Region.binds md e = true → e.on ≠ i) → oi.apart ops oj = true) →
   i ∈ Region.ready md ops listed → (∀ k, listed.getD k true = false → E k = none) → YM P ops md R w0 Ψ S i oi ψi a E →
   (∀ v, Sat R w0 Ψ S (setE E i v) → anyO P ops md R w0 Ψ S (isU n x) L f m (listed.setIfInBounds i true) (a.put oi.dst v) (setE E i v)) → anyO P ops md R w0 Ψ S (isU n x) L (f + 1) (m + 1) listed a E := by
 have here : ∀ (K : Act → Env → Prop) (a : Act) (E : Env), YM P ops md R w0 Ψ S i oi ψi a E → (∀ v, Sat R w0 Ψ S (setE E i v) → K (a.put oi.dst v) (setE E i v)) → op P ops md R w0 Ψ S i K a E := by
  intro K a E hy hK
  unfold op
  obtain ⟨hw, hψ, hv⟩ := hy
  simp only [hi, hw, if_true, hψ]
  exact ⟨hv, hK⟩
 intro f
 induction f with
 | zero =>
   intro m listed a E inv _ hr hE hy H hs
   have hun := (mem_ready.1 hr).1
   refine ⟨fun h => (by rw [h] at hr; cases hr), fun j hj => ⟨m, rfl, ?_⟩⟩
   cases hU : isU n x j with
   | false => exact absurd hj (tail_waits3 hsk hch hn hx inv _ i rfl hin hun j (isU_false hU).1 (isU_false hU).2)
   | true =>
     refine .inl ⟨rfl, ?_⟩
     by_cases hji : j = i
     · subst hji; exact here _ _ _ hy H
     · obtain ⟨ws, hws, hfs⟩ := hs
       obtain ⟨v0, hv0⟩ := makes_sat ht hst hR hy.2.1 hws hfs (hy.2.2 ws (pre_of hws hfs))
       obtain ⟨_, _, hf, _⟩ := (H v0 hv0 hv0).2 j (ready_mono hj hji)
       rw [hU] at hf; cases hf
 | succ f ih =>
   intro m listed a E inv hfree hr hE hy H hs
   have hun := (mem_ready.1 hr).1
   refine ⟨fun h => (by rw [h] at hr; cases hr), fun j hj => ⟨m, rfl, ?_⟩⟩
   cases hU : isU n x j with
   | false => exact absurd hj (tail_waits3 hsk hch hn hx inv _ i rfl hin hun j (isU_false hU).1 (isU_false hU).2)
   | true =>
     refine .inl ⟨rfl, ?_⟩
     by_cases hji : j = i
     · subst hji; exact here _ _ _ hy H
     · obtain ⟨hjun, oj, hoj, hall⟩ := mem_ready.1 hj
       have hnw := not_waits hr hj hoj
       have hdep : dep ops md j i = false := by
        unfold dep
        simp only [hoj, Option.map_some, Option.getD_some]
        rw [List.any_eq_false]
        intro e he hb
        simp only [Bool.and_eq_true, beq_iff_eq] at hb
        exact hnw e (by simpa using he) hb.1 hb.2
       obtain ⟨ws, hws, hfs⟩ := hs
       obtain ⟨v0, hv0⟩ := makes_sat ht hst hR hy.2.1 hws hfs (hy.2.2 ws (pre_of hws hfs))
       obtain ⟨m', rfl, _⟩ := (H v0 hv0 hv0).2 j (ready_mono hj hji)
       have hops : ∀ v, Sat R w0 Ψ S (setE E i v) → op P ops md R w0 Ψ S j (anyO P ops md R w0 Ψ S (isU n x) L f m' ((listed.setIfInBounds i true).setIfInBounds j true)) (a.put oi.dst v) (setE E i v) := fun v hv => by
        obtain ⟨m2, e, h1⟩ := (H v hv hv).2 j (ready_mono hj hji)
        obtain rfl : m' = m2 := by omega
        rcases h1 with ⟨_, h1⟩ | ⟨h1, _⟩
        · exact h1
        · rw [hU] at h1; cases h1
       have h2 := op_putM (N := anyO P ops md R w0 Ψ S (isU n x) L f m' ((listed.setIfInBounds i true).setIfInBounds j true)) ht hst hR hoj (hfree j oj hoj hji hjun hnw) (fun cs b => hsel i oi cs b hi) (fun cs b => hsel j oj cs b hoj) hji (hE j hjun) (hE i (mem_ready.1 hr).1) hdep ⟨ws, hws, hfs⟩ hy hops
       have hfree' : ∀ k ok, ops[k]? = some ok → k ≠ i → (listed.setIfInBounds j true).getD k true = false →
        (∀ e ∈ ok.after, Region.binds md e = true → e.on ≠ i) → oi.apart ops ok = true := fun k ok hk hki hun hno => by
        refine hfree k ok hk hki ?_ hno
        by_cases hjk : j = k
        · subst hjk; exact hjun
        · rw [getD_set_ne true hjk] at hun; exact hun
       refine op_more (fun a' E' hE' h3 => ih m' (listed.setIfInBounds j true) a' E' (inv.set hj (isU_true hU)) hfree' (ready_mono hr (Ne.symm hji)) (unlisted hE hE') h3.1 (fun v hv => ?_)) h2
       rw [Array.setIfInBounds_comm _ _ hji]
       exact h3.2 v hv
def endO (md : Region.Mode) (ops : Array Oper) (n x : Nat) (ord0 ord1 : List Nat) (listed : Array Bool) : Bool :=
 !(Region.ready md ops listed).isEmpty && (Region.ready md ops listed).all (fun i => i == n || i == x) && decide (Region.ready md ops (listed.setIfInBounds x true) = [n]) && seqF md ops ord0 (listed.setIfInBounds n true) && seqF md ops ord1 ((listed.setIfInBounds x true).setIfInBounds n true)
def LO (P : Program) (ops : Array Oper) (md : Region.Mode) (n : Nat) (ord0 ord1 : List Nat) (Q0 Q1 : Act → Env → Prop) (m i : Nat) (listed : Array Bool) (a : Act) (E : Env) : Prop :=
 i = n ∧ ((m = ord0.length ∧ seqF md ops ord0 (listed.setIfInBounds n true) = true ∧ Q0 a E) ∨ (m = ord1.length ∧ seqF md ops ord1 (listed.setIfInBounds n true) = true ∧ Q1 a E))
theorem lexO {n x : Nat} {ord0 ord1 : List Nat} {Q0 Q1 : Act → Env → Prop} {ox : Oper} (hox : ops[x]? = some ox) (ht : ∀ u v w, R u v → R v w → R u w) (hst : ∀ k ψ, Ψ k = some ψ → ∀ v w w', R w w' → ψ v w → ψ v w') (hR : ∀ w w', R w w' → w.heap.size ≤ w'.heap.size) (hs : Region.noSelect ops = true)
 (hsk : Region.sinkB md ops n = true) (hch : chainX md ops n x = true) (hn : n < ops.size) (hx : n < x) (h01 : ord0.length = ord1.length + 1) :
 ∀ (l : List Oper) (k : Nat) (listed : Array Bool) (a : Act) (E : Env), (∀ j, j < l.length → l[j]? = ops[k + j]?) → k + l.length = n → HeadX md ops n x listed → headT md ops (endO md ops n x ord0 ord1) l.length k listed = true → (∀ k, listed.getD k true = false → E k = none) →
   wpUp P ops md R w0 Ψ S (fun a' E' => Q0 a' E' ∧ wpUp P ops md R w0 Ψ S Q1 [ox] x a' E') l k a E → anyO P ops md R w0 Ψ S (isU n x) (LO P ops md n ord0 ord1 Q0 Q1) (l.length + 1) (l.length + (ord0.length + 1)) listed a E
 | [], k, listed, a, E, _, hk, _, hB, _, h => by
   have : k = n := by simpa using hk
   subst this
   simp only [headT, List.length_nil, endO, Bool.and_eq_true, Bool.not_eq_true', List.isEmpty_eq_false_iff, decide_eq_true_eq, List.all_eq_true, Bool.or_eq_true, beq_iff_eq] at hB
   obtain ⟨⟨⟨⟨hne, hall⟩, hrx⟩, hs0⟩, hs1⟩ := hB
   intro hsat
   refine ⟨hne, fun i hi => ?_⟩
   simp only [List.length_nil, Nat.zero_add]
   refine ⟨ord0.length, rfl, ?_⟩
   rcases hall i hi with rfl | rfl
   · exact .inr ⟨by unfold isU; simp; omega, rfl, .inl ⟨rfl, hs0, h.1⟩⟩
   · refine .inl ⟨by unfold isU; simp, ?_⟩
     have h2 := h.2
     have hnx : ∀ a' E', Q1 a' E' → anyO P ops md R w0 Ψ S (isU k i) (LO P ops md k ord0 ord1 Q0 Q1) 0 ord0.length (listed.setIfInBounds i true) a' E' := fun a' E' hq _ => by
       rw [hrx]
       refine ⟨by simp, fun j hj => ?_⟩
       obtain rfl : j = k := by simpa using hj
       exact ⟨ord1.length, h01, by unfold isU; simp; omega, rfl, .inr ⟨rfl, hs1, hq⟩⟩
     unfold op
     simp only [hox]
     unfold wpUp at h2
     split
     · rename_i hw
       simp only [hw, if_true] at h2
       split
       · rename_i hψ
         simp only [hψ] at h2
         obtain ⟨v, hv, hn'⟩ := h2
         exact ⟨v, hv, hnx _ _ hn'⟩
       · rename_i ψ hψ
         simp only [hψ] at h2
         exact ⟨h2.1, fun v hv => hnx _ _ (h2.2 v hv)⟩
     · rename_i hw
       simp only [hw] at h2
       exact hnx _ _ h2
 | o :: l, k, listed, a, E, hl, hk, inv, hB, hE, h => by
   have h0 : ops[k]? = some o := by simpa using (hl 0 (by simp)).symm
   simp only [List.length_cons, headT, Bool.and_eq_true] at hB
   obtain ⟨⟨hr, hf⟩, hB'⟩ := hB
   have hkn : k < n := by simp only [List.length_cons] at hk; omega
   have hk' : k + 1 + l.length = n := by simp only [List.length_cons] at hk; omega
   have hr' : k ∈ Region.ready md ops listed := by simpa using hr
   have hl' : ∀ j, j < l.length → l[j]? = ops[k + 1 + j]? := fun j hj => by have := hl (j + 1) (by simp; omega); simpa [Nat.add_assoc, Nat.add_comm 1 j] using this
   have e : (o :: l).length + (ord0.length + 1) = l.length + (ord0.length + 1) + 1 := by simp only [List.length_cons]; omega
   rw [e]
   unfold wpUp at h
   by_cases hw : Region.wanted o (yielded ops a.tmps) = true
   · simp only [hw, if_true] at h
     cases hψ : Ψ k with
     | none =>
       simp only [hψ] at h
       obtain ⟨v, hv, hn'⟩ := h
       exact firstP3 h0 (Region.noSelect_spec hs) hsk hch hn hx hkn (l.length + 1) _ listed a E inv (Region.free_spec h0 hf) hr' hE (.inl ⟨hw, hψ, hv⟩) (lexO hox ht hst hR hs hsk hch hn hx h01 l (k + 1) _ _ E hl' hk' (inv.set hr' (.inl hkn)) hB' (unlisted hE (.inl rfl)) hn')
     | some ψ =>
       simp only [hψ] at h
       obtain ⟨hm, hn'⟩ := h
       exact firstM3 ht hst hR h0 (Region.noSelect_spec hs) hsk hch hn hx hkn (l.length + 1) _ listed a E inv (Region.free_spec h0 hf) hr' hE ⟨hw, hψ, hm⟩ (fun v hv => lexO hox ht hst hR hs hsk hch hn hx h01 l (k + 1) _ _ _ hl' hk' (inv.set hr' (.inl hkn)) hB' (unlisted hE (.inr ⟨v, rfl⟩)) (hn' v hv))
   · simp only [hw] at h
     exact firstP3 h0 (Region.noSelect_spec hs) hsk hch hn hx hkn (l.length + 1) _ listed a E inv (Region.free_spec h0 hf) hr' hE (.inr ⟨by simpa using hw, rfl⟩) (lexO hox ht hst hR hs hsk hch hn hx h01 l (k + 1) _ _ E hl' hk' (inv.set hr' (.inl hkn)) hB' (unlisted hE (.inl rfl)) h)
end
def optAll (md : Region.Mode) (ops : Array Oper) (n x : Nat) (ord0 ord1 : List Nat) : Bool :=
 Region.noSelect ops && decide (n < ops.size) && decide (n < x) && Region.sinkB md ops n && chainX md ops n x && decide (ord0.length + 1 = ops.size - n) && decide (ord0.length = ord1.length + 1) && ord0.all (fun i => decide (i < ops.size)) && ord1.all (fun i => decide (i < ops.size)) && headT md ops (endO md ops n x ord0 ord1) n 0 (Array.replicate ops.size false)
open Go.RowKit in
theorem wp_region_opt {P : Program} {id : Nat} {Q : Exit → Act → World → Prop} {a : Act} {w : World} {l : List Oper} (n x : Nat) (ord0 ord1 : List Nat) {ox : Oper} (hox : l[x]? = some ox) (Ψ : Nat → Option (Value → World → Prop)) (S : Nat → Bool) (hm : P.follows .mixedOrders = true) (hB : optAll .any l.toArray n x ord0 ord1 = true)
 (hst : ∀ k ψ, Ψ k = some ψ → ∀ v w w', Below w.heap.size w w' → ψ v w → ψ v w')
 (h : Held (wpUp P l.toArray .any (fun w w' => Below w.heap.size w w') w Ψ S (fun a' E => (∀ w', Below w.heap.size w w' → Facts Ψ S E w' → wpList P l.toArray (midQ fun a2 w2 => Q .normal a2 w2) (opsAt l.toArray (n :: ord0)) a' w') ∧
  wpUp P l.toArray .any (fun w w' => Below w.heap.size w w') w Ψ S (fun a2 E2 => ∀ w', Below w.heap.size w w' → Facts Ψ S E2 w' → wpList P l.toArray (midQ fun a2 w2 => Q .normal a2 w2) (opsAt l.toArray (n :: ord1)) a2 w') [ox] x a' E) (l.take n) 0 a (fun _ => none))) : (Code.region id l.toArray true).wp P Q a w := by
 have ht : ∀ u v w : World, Below u.heap.size u v → Below v.heap.size v w → Below u.heap.size u w := fun u v w h1 h2 => h1.trans (h2.mono h1.size)
 have hR : ∀ u v : World, Below u.heap.size u v → u.heap.size ≤ v.heap.size := fun u v h => h.size
 simp only [optAll, Bool.and_eq_true, decide_eq_true_eq] at hB
 obtain ⟨⟨⟨⟨⟨⟨⟨⟨⟨hsel, hn⟩, hx⟩, hs⟩, hc⟩, hol⟩, h01⟩, hi0⟩, hi1⟩, hlex⟩ := hB
 have hn' : n < l.length := by simpa using hn
 have htl : (l.take n).length = n := by simp; omega
 have hb0 : ∀ i ∈ ord0, i < l.toArray.size := fun i hi => by simpa using List.all_eq_true.1 hi0 i hi
 have hb1 : ∀ i ∈ ord1, i < l.toArray.size := fun i hi => by simpa using List.all_eq_true.1 hi1 i hi
 have inv0 : HeadX .any l.toArray n x (Array.replicate l.toArray.size false) :=
  ⟨by simp, fun j oj _ hl => (by rw [getD_replicate_false] at hl; cases hl), fun t _ ht _ => getD_in (by simpa using ht) (getD_replicate_false _ _)⟩
 have H := lexO (md := .any) (x := x) (ox := ox) (by simpa using hox) ht hst hR hsel hs hc hn hx h01 (l.take n) 0 _ a (fun _ => none) (fun j hj => by
  have hj' : j < n := by rw [htl] at hj; exact hj
  simp [hj']) (by simpa using htl) inv0 (by rw [htl]; exact hlex) (fun _ _ => rfl) h.out
 refine wp_mid (fun _ a2 w2 => Q .normal a2 w2) ?_ (fun _ _ h => h)
 refine wp_region_any hm ?_
 have := soundO (Q := midQ fun a2 w2 => Q .normal a2 w2) ht hst hR (fun m i listed a' E w' hi h2 h3 hL => by
  obtain ⟨rfl, hL⟩ := hL
  have hno : l.toArray[i]? = some l[i] := by simp [hn']
  have key : ∀ (os : List Nat), (∀ j ∈ os, j < l.toArray.size) → m = os.length → seqF .any l.toArray os (listed.setIfInBounds i true) = true → wpList P l.toArray (midQ fun a2 w2 => Q .normal a2 w2) (opsAt l.toArray (i :: os)) a' w' → wpOp P l.toArray (midQ fun a2 w2 => Q .normal a2 w2) i (wpAny P .any l.toArray (midQ fun a2 w2 => Q .normal a2 w2) m (listed.setIfInBounds i true)) a' w' := fun os hb hlen hsq hq => by
   have hl : opsAt l.toArray (i :: os) = l[i] :: opsAt l.toArray os := by unfold opsAt; rw [List.filterMap_cons, hno]
   rw [hl] at hq
   have hw : wpOp P l.toArray (midQ fun a2 w2 => Q .normal a2 w2) i (wpList P l.toArray (midQ fun a2 w2 => Q .normal a2 w2) (opsAt l.toArray os)) a' w' := by unfold wpOp; simp only [hno]; exact hq
   subst hlen
   exact wpOp_mono (fun a3 w3 h' => wpAny_of_seqF hsel os _ a3 w3 hb hsq h') hw
  rcases hL with ⟨hlen, hsq, hq⟩ | ⟨hlen, hsq, hq⟩
  · exact key ord0 hb0 hlen hsq (hq w' h2 h3)
  · exact key ord1 hb1 hlen hsq (hq w' h2 h3)) _ _ _ _ _ { w with drawn := w.drawn + 1 } (Below.refl _ _).drew ⟨fun k v ψ hk _ => (by cases hk), fun k g _ hk => (by cases hk), fun k j g g' _ _ _ hk _ => (by cases hk)⟩ H
 rw [htl, hol, show n + (l.toArray.size - n) = l.toArray.size by omega] at this
 exact this
end Go.Proofs.YthbldjnpnligpaaDoor.UpT
