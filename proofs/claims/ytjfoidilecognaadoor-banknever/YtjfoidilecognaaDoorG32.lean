/-
  As UpT, where the first operations, in any order, are followed by ONE call of any effect, and that one by operations that only read.
-/
import Derived.Test.YtjfoidilecognaaDoorG19
import Derived.Test.YtjfoidilecognaaDoorG09
import Derived.Test.YtjfoidilecognaaDoorG31
import Derived.Deep.QuietTactic
import Derived.Deep.AppendLies
namespace Go.Proofs.YtjfoidilecognaaDoor.UpT
set_option linter.unusedSimpArgs false
set_option linter.unusedVariables false
set_option maxRecDepth 100000
open Go

section
variable {P : Program} {ops : Array Oper} {md : Region.Mode} {R : World → World → Prop} {w0 : World} {Ψ : Nat → Option (Value → World → Prop)} {S : Nat → Bool} {Qf : Act → Env → Prop}

/-- Each operation behind number n waits for one from n on. -/
def chainM (md : Region.Mode) (ops : Array Oper) (n : Nat) : Bool := (List.range ops.size).all fun t => decide (t ≤ n) || (List.range t).any fun s => decide (n ≤ s) && Region.waitsFor md ops t s
def Chain (md : Region.Mode) (ops : Array Oper) (n : Nat) : Prop := chainM md ops n = true
theorem tail_waits2 {n : Nat} {listed : Array Bool} (hs : Region.sinkB md ops n = true) (hc : Chain md ops n) (hn : n < ops.size) (inv : HeadInv md ops n listed) :
    ∀ (d i : Nat), n - i = d → i < n → listed.getD i true = false → ∀ t, n ≤ t → t ∉ Region.ready md ops listed := by
  intro d
  induction d using Nat.strongRecOn with
  | _ d ih =>
    intro i hd hi hun t ht hr
    obtain ⟨_, ot, hot, hall⟩ := mem_ready.1 hr
    have htlt : t < ops.size := (Array.getElem?_eq_some_iff.1 hot).1
    by_cases htn : t = n
    · subst htn
      have h1 := List.all_eq_true.1 hs i (List.mem_range.2 hi)
      obtain ⟨j, hj, hj2⟩ := List.any_eq_true.1 h1
      simp only [Bool.and_eq_true, decide_eq_true_eq] at hj2
      obtain ⟨oj, hoj, e, he, hb, hon⟩ := Region.waitsFor_spec hj2.2
      have hjle : j ≤ t := by have := List.mem_range.1 hj; omega
      by_cases hjt : j = t
      · subst hjt
        have : oj = ot := Option.some.inj (hoj.symm.trans hot)
        subst this
        have h2 := hall e he hb
        rw [hon, getD_both hun] at h2
        cases h2
      · cases hl : listed.getD j false with
        | true =>
          have h2 := inv.closed j oj hoj hl e he hb
          rw [hon, getD_both hun] at h2
          cases h2
        | false =>
          have hjs : j < listed.size := by rw [inv.size]; omega
          exact ih (t - j) (by omega) j rfl (by omega) (getD_in hjs hl) t (Nat.le_refl _) hr
    · have h1 := List.all_eq_true.1 hc t (List.mem_range.2 htlt)
      simp only [Bool.or_eq_true, decide_eq_true_eq] at h1
      rcases h1 with h1 | h1
      · omega
      · obtain ⟨s, hs1, hs2⟩ := List.any_eq_true.1 h1
        simp only [Bool.and_eq_true, decide_eq_true_eq] at hs2
        have hst := List.mem_range.1 hs1
        obtain ⟨o', ho', e, he, hb, hon⟩ := Region.waitsFor_spec hs2.2
        have : o' = ot := Option.some.inj (ho'.symm.trans hot)
        subst this
        have h2 := hall e he hb
        rw [hon, getD_both (inv.tail s hs2.1 (by omega))] at h2
        cases h2

def midB (md : Region.Mode) (ops : Array Oper) (n : Nat) (listed : Array Bool) : Bool := decide (Region.ready md ops listed = [n]) && Region.lexFrom md ops (ops.size - (n + 1)) (n + 1) (listed.setIfInBounds n true)
def midHead (md : Region.Mode) (ops : Array Oper) (n : Nat) : Nat → Nat → Array Bool → Bool
  | 0, _, listed => midB md ops n listed
  | f + 1, k, listed => (Region.ready md ops listed).contains k && Region.free md ops listed k && midHead md ops n f (k + 1) (listed.setIfInBounds k true)
def midAll (md : Region.Mode) (ops : Array Oper) (n : Nat) : Bool :=
  Region.noSelect ops && decide (n < ops.size) && Region.sinkB md ops n && chainM md ops n && midHead md ops n n 0 (Array.replicate ops.size false)
theorem midB_ready {n : Nat} {listed : Array Bool} (h : midB md ops n listed = true) : ∀ j ∈ Region.ready md ops listed, n ≤ j := by
  intro j hj
  simp only [midB, Bool.and_eq_true, decide_eq_true_eq] at h
  rw [h.1] at hj
  have : j = n := by simpa using hj
  omega

theorem firstP2 {n : Nat} {L : Array Bool → Act → Env → Prop} {i : Nat} {oi : Oper} {v : Value} (hi : ops[i]? = some oi) (hsel : ∀ (j : Nat) (o : Oper) cs b, ops[j]? = some o → o.op ≠ .select cs b)
    (hsk : Region.sinkB md ops n = true) (hch : Chain md ops n) (hn : n < ops.size) (hin : i < n) (hdone : ∀ listed a E, L listed a E → ∀ j ∈ Region.ready md ops listed, n ≤ j) :
    ∀ (fuel : Nat) (listed : Array Bool) (a : Act) (E : Env), HeadInv md ops n listed →
      (∀ j oj, ops[j]? = some oj → j ≠ i → listed.getD j true = false → (∀ e ∈ oj.after, Region.binds md e = true → e.on ≠ i) → oi.apart ops oj = true) →
      i ∈ Region.ready md ops listed → (∀ k, listed.getD k true = false → E k = none) → YP P ops md R w0 Ψ i oi v a E →
      anyL P ops md R w0 Ψ S n L fuel (listed.setIfInBounds i true) (a.put oi.dst v) E → anyL P ops md R w0 Ψ S n L (fuel + 1) listed a E := by
  have here : ∀ (K : Act → Env → Prop) (a : Act) (E : Env), YP P ops md R w0 Ψ i oi v a E → K (a.put oi.dst v) E → op P ops md R w0 Ψ S i K a E := by
    intro K a E hy hK
    unfold op
    simp only [hi]
    rcases hy with ⟨hw, hψ, hv⟩ | ⟨hw, rfl⟩
    · simp only [hw, if_true, hψ]; exact ⟨v, hv, hK⟩
    · simp only [hw, Bool.false_eq_true, if_false]; exact hK
  intro fuel
  induction fuel with
  | zero =>
    intro listed a E inv _ hr _ hy H hs
    have hun := (mem_ready.1 hr).1
    refine ⟨fun h => (by rw [h] at hr; cases hr), fun j hj => ?_⟩
    have hjn : j < n := by
      rcases Nat.lt_or_ge j n with h | h
      · exact h
      · exact absurd hj (tail_waits2 hsk hch hn inv _ i rfl hin hun j h)
    refine ⟨hjn, ?_⟩
    by_cases hji : j = i
    · subst hji; exact here _ _ _ hy H
    · have := hdone _ _ _ (H hs) j (ready_mono hj hji)
      omega
  | succ fuel ih =>
    intro listed a E inv hfree hr hE hy H hs
    have hun := (mem_ready.1 hr).1
    refine ⟨fun h => (by rw [h] at hr; cases hr), fun j hj => ?_⟩
    have hjn : j < n := by
      rcases Nat.lt_or_ge j n with h | h
      · exact h
      · exact absurd hj (tail_waits2 hsk hch hn inv _ i rfl hin hun j h)
    refine ⟨hjn, ?_⟩
    by_cases hji : j = i
    · subst hji; exact here _ _ _ hy H
    · have h1 := ((H hs).2 j (ready_mono hj hji)).2
      obtain ⟨hjun, oj, hoj, hall⟩ := mem_ready.1 hj
      have h2 := op_putP hoj (hfree j oj hoj hji hjun (not_waits hr hj hoj)) (fun cs b => hsel i oi cs b hi) (fun cs b => hsel j oj cs b hoj) (hE j hjun) hy h1
      have hfree' : ∀ k ok, ops[k]? = some ok → k ≠ i → (listed.setIfInBounds j true).getD k true = false →
          (∀ e ∈ ok.after, Region.binds md e = true → e.on ≠ i) → oi.apart ops ok = true := fun k ok hk hki hun hno => by
        refine hfree k ok hk hki ?_ hno
        by_cases hjk : j = k
        · subst hjk; exact hjun
        · rw [getD_set_ne true hjk] at hun; exact hun
      refine op_more (fun a' E' hE' h3 => ih (listed.setIfInBounds j true) a' E' (inv.set hj hjn) hfree' (ready_mono hr (Ne.symm hji)) (unlisted hE hE') h3.1 ?_) h2
      rw [Array.setIfInBounds_comm _ _ hji]
      exact h3.2

theorem firstM2 {n : Nat} {L : Array Bool → Act → Env → Prop} (ht : ∀ u v w, R u v → R v w → R u w) (hst : ∀ k ψ, Ψ k = some ψ → ∀ v w w', R w w' → ψ v w → ψ v w') (hR : ∀ w w', R w w' → w.heap.size ≤ w'.heap.size) {i : Nat} {oi : Oper} {ψi : Value → World → Prop} (hi : ops[i]? = some oi)
    (hsel : ∀ (j : Nat) (o : Oper) cs b, ops[j]? = some o → o.op ≠ .select cs b)
    (hsk : Region.sinkB md ops n = true) (hch : Chain md ops n) (hn : n < ops.size) (hin : i < n) (hdone : ∀ listed a E, L listed a E → ∀ j ∈ Region.ready md ops listed, n ≤ j) :
    ∀ (fuel : Nat) (listed : Array Bool) (a : Act) (E : Env), HeadInv md ops n listed →
      (∀ j oj, ops[j]? = some oj → j ≠ i → listed.getD j true = false → (∀ e ∈ oj.after, Region.binds md e = true → e.on ≠ i) → oi.apart ops oj = true) →
      i ∈ Region.ready md ops listed → (∀ k, listed.getD k true = false → E k = none) → YM P ops md R w0 Ψ S i oi ψi a E →
      (∀ v, Sat R w0 Ψ S (setE E i v) → anyL P ops md R w0 Ψ S n L fuel (listed.setIfInBounds i true) (a.put oi.dst v) (setE E i v)) → anyL P ops md R w0 Ψ S n L (fuel + 1) listed a E := by
  have here : ∀ (K : Act → Env → Prop) (a : Act) (E : Env), YM P ops md R w0 Ψ S i oi ψi a E → (∀ v, Sat R w0 Ψ S (setE E i v) → K (a.put oi.dst v) (setE E i v)) → op P ops md R w0 Ψ S i K a E := by
    intro K a E hy hK
    unfold op
    obtain ⟨hw, hψ, hv⟩ := hy
    simp only [hi, hw, if_true, hψ]
    exact ⟨hv, hK⟩
  intro fuel
  induction fuel with
  | zero =>
    intro listed a E inv _ hr hE hy H hs
    have hun := (mem_ready.1 hr).1
    refine ⟨fun h => (by rw [h] at hr; cases hr), fun j hj => ?_⟩
    have hjn : j < n := by
      rcases Nat.lt_or_ge j n with h | h
      · exact h
      · exact absurd hj (tail_waits2 hsk hch hn inv _ i rfl hin hun j h)
    refine ⟨hjn, ?_⟩
    by_cases hji : j = i
    · subst hji; exact here _ _ _ hy H
    · have := ready_mono hj hji
      obtain ⟨ws, hws, hfs⟩ := hs
      obtain ⟨v0, hv0⟩ := makes_sat ht hst hR hy.2.1 hws hfs (hy.2.2 ws (pre_of hws hfs))
      have := hdone _ _ _ (H v0 hv0 hv0) j this
      omega
  | succ fuel ih =>
    intro listed a E inv hfree hr hE hy H hs
    have hun := (mem_ready.1 hr).1
    refine ⟨fun h => (by rw [h] at hr; cases hr), fun j hj => ?_⟩
    have hjn : j < n := by
      rcases Nat.lt_or_ge j n with h | h
      · exact h
      · exact absurd hj (tail_waits2 hsk hch hn inv _ i rfl hin hun j h)
    refine ⟨hjn, ?_⟩
    by_cases hji : j = i
    · subst hji; exact here _ _ _ hy H
    · obtain ⟨hjun, oj, hoj, hall⟩ := mem_ready.1 hj
      have hnw := not_waits hr hj hoj
      have hdep : dep ops md j i = false := by
        unfold dep
        simp only [hoj, Option.map_some, Option.getD_some]
        rw [List.any_eq_false]
        intro e he hb
        simp only [Bool.and_eq_true, beq_iff_eq] at hb
        exact hnw e (by simpa using he) hb.1 hb.2
      have h2 := op_putM (N := anyL P ops md R w0 Ψ S n L fuel ((listed.setIfInBounds i true).setIfInBounds j true)) ht hst hR hoj (hfree j oj hoj hji hjun hnw) (fun cs b => hsel i oi cs b hi) (fun cs b => hsel j oj cs b hoj) hji (hE j hjun) (hE i (mem_ready.1 hr).1) hdep hs hy
        (fun v hv => ((H v hv hv).2 j (ready_mono hj hji)).2)
      have hfree' : ∀ k ok, ops[k]? = some ok → k ≠ i → (listed.setIfInBounds j true).getD k true = false →
          (∀ e ∈ ok.after, Region.binds md e = true → e.on ≠ i) → oi.apart ops ok = true := fun k ok hk hki hun hno => by
        refine hfree k ok hk hki ?_ hno
        by_cases hjk : j = k
        · subst hjk; exact hjun
        · rw [getD_set_ne true hjk] at hun; exact hun
      refine op_more (fun a' E' hE' h3 => ih (listed.setIfInBounds j true) a' E' (inv.set hj hjn) hfree' (ready_mono hr (Ne.symm hji)) (unlisted hE hE') h3.1 ?_) h2
      rw [Array.setIfInBounds_comm _ _ hji]
      exact h3.2

theorem lexM {n : Nat} (ht : ∀ u v w, R u v → R v w → R u w) (hst : ∀ k ψ, Ψ k = some ψ → ∀ v w w', R w w' → ψ v w → ψ v w') (hR : ∀ w w', R w w' → w.heap.size ≤ w'.heap.size) (hs : Region.noSelect ops = true)
    (hsk : Region.sinkB md ops n = true) (hch : Chain md ops n) (hn : n < ops.size) :
    ∀ (l : List Oper) (k : Nat) (listed : Array Bool) (a : Act) (E : Env), (∀ j, j < l.length → l[j]? = ops[k + j]?) → k + l.length = n → HeadInv md ops n listed → midHead md ops n l.length k listed = true → (∀ k, listed.getD k true = false → E k = none) →
      wpUp P ops md R w0 Ψ S Qf l k a E → anyL P ops md R w0 Ψ S n (fun listed' a' E' => midB md ops n listed' = true ∧ Qf a' E') l.length listed a E
  | [], k, _, _, _, _, hk, _, hB, _, h => by
    have : k = n := by simpa using hk
    subst this
    exact fun _ => ⟨by simpa [midHead] using hB, h⟩
  | o :: l, k, listed, a, E, hl, hk, inv, hB, hE, h => by
    have h0 : ops[k]? = some o := by simpa using (hl 0 (by simp)).symm
    simp only [List.length_cons, midHead, Bool.and_eq_true] at hB
    obtain ⟨⟨hr, hf⟩, hB'⟩ := hB
    have hkn : k < n := by simp only [List.length_cons] at hk; omega
    have hk' : k + 1 + l.length = n := by simp only [List.length_cons] at hk; omega
    have hr' : k ∈ Region.ready md ops listed := by simpa using hr
    have hl' : ∀ j, j < l.length → l[j]? = ops[k + 1 + j]? := fun j hj => by have := hl (j + 1) (by simp; omega); simpa [Nat.add_assoc, Nat.add_comm 1 j] using this
    have hd : ∀ listed' (a' : Act) (E' : Env), (midB md ops n listed' = true ∧ Qf a' E') → ∀ j ∈ Region.ready md ops listed', n ≤ j := fun listed' a' E' hL => midB_ready hL.1
    unfold wpUp at h
    by_cases hw : Region.wanted o (yielded ops a.tmps) = true
    · simp only [hw, if_true] at h
      cases hψ : Ψ k with
      | none =>
        simp only [hψ] at h
        obtain ⟨v, hv, hn'⟩ := h
        exact firstP2 h0 (Region.noSelect_spec hs) hsk hch hn hkn hd l.length listed a E inv (Region.free_spec h0 hf) hr' hE (.inl ⟨hw, hψ, hv⟩) (lexM ht hst hR hs hsk hch hn l (k + 1) _ _ E hl' hk' (inv.set hr' hkn) hB' (unlisted hE (.inl rfl)) hn')
      | some ψ =>
        simp only [hψ] at h
        obtain ⟨hm, hn'⟩ := h
        exact firstM2 ht hst hR h0 (Region.noSelect_spec hs) hsk hch hn hkn hd l.length listed a E inv (Region.free_spec h0 hf) hr' hE ⟨hw, hψ, hm⟩ (fun v hv => lexM ht hst hR hs hsk hch hn l (k + 1) _ _ _ hl' hk' (inv.set hr' hkn) hB' (unlisted hE (.inr ⟨v, rfl⟩)) (hn' v hv))
    · simp only [hw] at h
      exact firstP2 h0 (Region.noSelect_spec hs) hsk hch hn hkn hd l.length listed a E inv (Region.free_spec h0 hf) hr' hE (.inr ⟨by simpa using hw, rfl⟩) (lexM ht hst hR hs hsk hch hn l (k + 1) _ _ E hl' hk' (inv.set hr' hkn) hB' (unlisted hE (.inl rfl)) h)

/-- Only the normal end. -/
theorem wpList_one {Mid : Act → World → Prop} {K : Act → World → Prop} {Q : Exit → Act → World → Prop} {n : Nat} {o : Oper} {a : Act} {w : World} (ho : ops[n]? = some o) (h : wpList P ops (midQ Mid) [o] a w) (hK : ∀ a w, Mid a w → K a w) : wpOp P ops Q n K a w := by
  have hout : ¬ LetsOut (midQ Mid) := fun ⟨_, _, h⟩ => h
  unfold wpOp
  simp only [ho]
  unfold wpList at h
  split
  · rename_i hw
    simp only [hw, if_true] at h
    rcases h with h | h
    · refine .inl ?_
      unfold Oper.wp at *
      generalize (execOp a.eval o).run P w = r at *
      cases r with
      | ok x w' =>
        cases x <;> simp only [Oper.upon] at h ⊢
        case value u => exact hK _ _ h
        case skip => exact hK _ _ h
        case defer d => exact hK _ _ h
        case enter f args =>
          refine h.mono fun e w'' he => ?_
          cases e with
          | returned v => exact hK _ _ he
          | panicked c => exact he.elim
          | outgrown => exact (hout he).elim
        case row row args => exact h.mono fun v w'' he => hK _ _ he
      | halt x w' => cases x <;> simp only [Oper.upon] at h ⊢ <;> exact h.elim
    · exact (hout h.2).elim
  · rename_i hw
    simp only [hw] at h
    exact hK _ _ h
end

open Go.RowKit in
theorem wp_region_mid {P : Program} {id : Nat} {Q : Exit → Act → World → Prop} {a : Act} {w : World} {l : List Oper} (n : Nat) (Ψ : Nat → Option (Value → World → Prop)) (S : Nat → Bool) (hm : P.follows .mixedOrders = true) (hB : midAll .any l.toArray n = true)
    (hst : ∀ k ψ, Ψ k = some ψ → ∀ v w w', Below w.heap.size w w' → ψ v w → ψ v w')
    (h : Held (wpUp P l.toArray .any (fun w w' => Below w.heap.size w w') w Ψ S (fun a' E => ∀ w', Below w.heap.size w w' → Facts Ψ S E w' → wpList P l.toArray (midQ fun a2 w2 => wpQuiet P l.toArray (fun u => ∃ m, u = w2.drewN m) (fun a3 => ∀ u, (∃ m, u = w2.drewN m) → Q .normal a3 u) (l.drop (n + 1)) a2) ((l.drop n).take 1) a' w') (l.take n) 0 a (fun _ => none))) : (Code.region id l.toArray true).wp P Q a w := by
  have ht : ∀ u v w : World, Below u.heap.size u v → Below v.heap.size v w → Below u.heap.size u w := fun u v w h1 h2 => h1.trans (h2.mono h1.size)
  have hR : ∀ u v : World, Below u.heap.size u v → u.heap.size ≤ v.heap.size := fun u v h => h.size
  simp only [midAll, Bool.and_eq_true, decide_eq_true_eq] at hB
  obtain ⟨⟨⟨⟨hsel, hn⟩, hs⟩, hc⟩, hlex⟩ := hB
  have hn' : n < l.length := by simpa using hn
  have htl : (l.take n).length = n := by simp; omega
  have inv0 : HeadInv .any l.toArray n (Array.replicate l.toArray.size false) :=
    ⟨by simp, fun j oj _ hl => (by rw [getD_replicate_false] at hl; cases hl), fun t _ ht => getD_in (by simpa using ht) (getD_replicate_false _ _)⟩
  have H := lexM (md := .any) ht hst hR hsel hs hc hn (l.take n) 0 _ a (fun _ => none) (fun j hj => by
    have hj' : j < n := by rw [htl] at hj; exact hj
    simp [hj']) (by simpa using htl) inv0 (by rw [htl]; exact hlex) (fun _ _ => rfl) h.out
  refine wp_region_any hm ?_
  have := soundL (Q := Q) (g := l.toArray.size - n) ht hst hR (fun listed a' E w' h1 h2 hL => by
    obtain ⟨hm1, hq⟩ := hL
    simp only [midB, Bool.and_eq_true, decide_eq_true_eq] at hm1
    have hg : l.toArray.size - n = (l.toArray.size - (n + 1)) + 1 := by simp at hn ⊢; omega
    rw [hg]
    refine ⟨fun h0 => (by rw [h0] at hm1; cases hm1.1), fun i hi => ?_⟩
    rw [hm1.1] at hi
    obtain rfl : i = n := by simpa using hi
    have hdn : l.drop i = l[i] :: l.drop (i + 1) := List.drop_eq_getElem_cons hn'
    have h3 := hq w' h1 h2
    rw [hdn] at h3
    simp only [List.take_succ_cons, List.take_zero] at h3
    refine wpList_one (o := l[i]) (by simp [hn']) h3 fun a2 w2 hquiet => ?_
    have hdl : (l.drop (i + 1)).length = l.toArray.size - (i + 1) := by simp
    have hq2 := wpAnyQ_lex (C := fun u => ∃ m, u = w2.drewN m) (md := .any) hsel (l.drop (i + 1)) (i + 1) (listed.setIfInBounds i true) a2 (fun j => by simp [List.getElem?_drop]) (by rw [hdl]; exact hm1.2) hquiet
    rw [hdl] at hq2
    exact wpAny_of_quiet (Q := fun a3 => ∀ u, (∃ m, u = w2.drewN m) → Q .normal a3 u) (fun _ u hu h => h u hu) _ _ _ _ ⟨0, rfl⟩ hq2) _ _ _ _ { w with drawn := w.drawn + 1 } (Below.refl _ _).drew ⟨fun k v ψ hk _ => (by cases hk), fun k g _ hk => (by cases hk), fun k j g g' _ _ _ hk _ => (by cases hk)⟩ H
  rw [htl, show n + (l.toArray.size - n) = l.toArray.size by omega] at this
  exact this

end Go.Proofs.YtjfoidilecognaaDoor.UpT

/-
  Lists of pointers of a law's own.
-/

namespace Go.Proofs.YtjfoidilecognaaDoor
set_option linter.unusedSimpArgs false
set_option linter.unusedVariables false
set_option maxRecDepth 100000
open Go.RowKit

instance : Inhabited Pt := ⟨Pt.zero⟩
def ptrsV (ps : List Pt) : List Value := ps.flatMap Pt.vs
def Plist (base : Nat) (w : World) (v : Value) (ps : List Pt) : Prop := (∀ p ∈ ps, p.ok) ∧ w.ownsRow base 42 35 v ps.length (ptrsV ps)
/-- The list's block. -/
def rowOf (v : Value) : Nat → Prop := fun j => v.ownBlock = some j

theorem ptrsV_len : ∀ {ps : List Pt}, (∀ p ∈ ps, p.ok) → (ptrsV ps).length = 35 * ps.length
  | [], _ => rfl
  | p :: ps, h => by
    have ih := ptrsV_len (ps := ps) (fun q hq => h q (List.mem_cons_of_mem _ hq))
    have h1 := Pt.vs_len (h p List.mem_cons_self)
    show (p.vs ++ ptrsV ps).length = _
    rw [List.length_append, ih, h1, List.length_cons]; omega
theorem ptrsV_more (ps : List Pt) (p : Pt) : ptrsV (ps ++ [p]) = ptrsV ps ++ p.vs := by unfold ptrsV; rw [List.flatMap_append]; simp
theorem ptrsV_at : ∀ {ps : List Pt}, (∀ p ∈ ps, p.ok) → ∀ i, i < ps.length → ∀ j, j < 35 → (ptrsV ps)[i * 35 + j]? = (ps.getD i default).vs[j]?
  | [], _, i, hi, _, _ => by simp at hi
  | p :: ps, h, i, hi, j, hj => by
    have h1 := Pt.vs_len (h p List.mem_cons_self)
    show (p.vs ++ ptrsV ps)[i * 35 + j]? = _
    cases i with
    | zero => rw [Nat.zero_mul, Nat.zero_add, List.getElem?_append_left (by omega)]; rfl
    | succ i =>
      rw [List.getElem?_append_right (by omega), h1, show (i + 1) * 35 + j - 35 = i * 35 + j by omega]
      exact ptrsV_at (fun q hq => h q (List.mem_cons_of_mem _ hq)) i (by simpa using hi) j hj

section
variable {base : Nat} {w w' w0 : World} {v : Value} {ps : List Pt}
theorem Plist.form (h : Plist base w v ps) : ∃ a c, v = .slice a ps.length c := by
  rcases h.2.2 with ⟨rfl, h0⟩ | ⟨g, cap, cur, rfl, _⟩
  · exact ⟨none, 0, by rw [h0]⟩
  · exact ⟨_, _, rfl⟩
theorem Plist.lt (h : Plist base w v ps) {j : Nat} (hj : rowOf v j) : base ≤ j ∧ j < w.heap.size := World.ownsRow.lt h.2 j hj
theorem Plist.keep (h : Plist base w v ps) (hk : ∀ j, rowOf v j → w'.heap[j]? = w.heap[j]?) : Plist base w' v ps := by
  obtain ⟨h0, h1, h2⟩ := h
  refine ⟨h0, h1, ?_⟩
  rcases h2 with h2 | ⟨g, cap, cur, rfl, hb, hh, rest⟩
  · exact .inl h2
  · exact .inr ⟨g, cap, cur, rfl, hb, by rw [hk g rfl]; exact hh, rest⟩
theorem Plist.stays (h : Plist base w v ps) (hb : Below w.heap.size w w') : Plist base w' v ps := h.keep fun j hj => hb.block j (h.lt hj).2
theorem Plist.stay {M : Nat → Prop} (h : Plist base w v ps) (hy : Stay M w w') (hM : ∀ j, rowOf v j → M j) : Plist base w' v ps := h.keep fun j hj => hy.block j (hM j hj) (h.lt hj).2
theorem Plist.but {m : Nat} (h : Plist base w v ps) (hb : But m w w') (hm : ¬ rowOf v m) : Plist base w' v ps := h.keep fun j hj => hb.block j (fun e => hm (e ▸ hj)) (h.lt hj).2
theorem Plist.at (h : Plist base w v ps) {i : Nat} (hi : i < ps.length) : ∃ b c, v = .slice (some ⟨b, 0, none⟩) ps.length c ∧ rowOf v b ∧ (∀ j, j < 35 → w.cell? ⟨b, i * 35 + j, none⟩ = (ps.getD i default).vs[j]?) ∧ (ps.getD i default).ok := by
  obtain ⟨h0, h1⟩ := h
  have h1' := h1
  rcases h1.2 with ⟨_, h2⟩ | ⟨g, cap, cur, rfl, _⟩
  · omega
  · refine ⟨g, cap, rfl, rfl, fun j hj => ?_, ?_⟩
    · rw [h1'.cellAt (i * 35 + j) (by have := Nat.mul_le_mul_right 35 (show i + 1 ≤ ps.length from hi); omega)]
      exact ptrsV_at h0 i hi j hj
    · exact h0 _ (by simp [List.getD, hi])
theorem index_ptrs (b n c i : Nat) (hi : i < n) (u : World) : (Instr.indexAt 38 (.slice (some ⟨b, 0, none⟩) n c) (.int .i64 (i : Int))).run Tryd.prog u = .ok (.pointer (some ⟨b, i * 35, none⟩)) u := by
  have := index_slice (P := Tryd.prog) 38 42 35 Tryd.underlying38 (by kernel_rfl) (by kernel_rfl) b 0 n c .i64 i hi u
  simpa using this

theorem run_nop (w : World) : (Instr.buildSlice 38 0 #[]).run Tryd.prog w = .ok (.slice (some ⟨w.heap.size, 0, none⟩) 0 0) (w.alloc (.cells #[] 42)) := by kernel_rfl
/-- A slice of no pointers. -/
theorem wpList_nop {ops : Array Oper} {rest : List Oper} {o : Oper} {a : Act} {Q : Exit → Act → World → Prop} (hgd : o.guard = none) (ho : o.op = Op.buildSlice 38 0 #[]) (d : Option Tmp) (hd : o.dst = d)
    (h : ∀ w' b, w.heap.size = b → Plist b w' (.slice (some ⟨b, 0, none⟩) 0 0) [] → Below w.heap.size w w' → wpList Tryd.prog ops Q rest (a.put d (.slice (some ⟨b, 0, none⟩) 0 0)) w') : wpList Tryd.prog ops Q (o :: rest) a w := by
  subst hd
  refine wpList_plain hgd fun K hK => ?_
  have e : (#[] : Array (Nat × Operand)).map (fun (i, x) => (i, a.eval x)) = #[] := by simp
  unfold Oper.wp execOp
  simp only [ho, Sem.run_bind, Sem.run_pure, Result.andThen_ok, e, run_nop]
  exact hK _ _ (h _ _ rfl ⟨fun p hp => (by cases hp), World.ownsRow_made w #[] 0 (Nat.le_refl _) (by decide) (by simp)⟩ ((Below.refl _ _).alloc (Nat.le_refl _) _))
theorem run_onep (p : Pt) (hp : p.ok) (w : World) : (Instr.buildSlice 38 1 [(0, Value.agg p.vs.toArray)].toArray).run Tryd.prog w = .ok (.slice (some ⟨w.heap.size, 0, none⟩) 1 1) (w.alloc (.cells p.vs.toArray 42)) := by
  obtain ⟨h, b, x, y⟩ := p
  have hl : h.length = 32 := hp.len
  clear hp
  match h, hl with
  | [x0, x1, x2, x3, x4, x5, x6, x7, x8, x9, x10, x11, x12, x13, x14, x15, x16, x17, x18, x19, x20, x21, x22, x23, x24, x25, x26, x27, x28, x29, x30, x31], _ => show _ = _; kernel_rfl
/-- A slice of one pointer. -/
theorem wpList_onep {ops : Array Oper} {rest : List Oper} {o : Oper} {a : Act} {Q : Exit → Act → World → Prop} (hgd : o.guard = none) (x : Operand) (ho : o.op = Op.buildSlice 38 1 [(0, x)].toArray) (d : Option Tmp) (hd : o.dst = d) (vs : List Value) (hx : a.eval x = .agg vs.toArray)
    (hr : ∀ w : World, (Instr.buildSlice 38 1 [(0, Value.agg vs.toArray)].toArray).run Tryd.prog w = .ok (.slice (some ⟨w.heap.size, 0, none⟩) 1 1) (w.alloc (.cells vs.toArray 42)))
    (h : ∀ w' b, w.heap.size = b → Blk 42 w' b vs → Below w.heap.size w w' → w'.heap.size = w.heap.size + 1 → wpList Tryd.prog ops Q rest (a.put d (.slice (some ⟨b, 0, none⟩) 1 1)) w') : wpList Tryd.prog ops Q (o :: rest) a w := by
  subst hd
  refine wpList_plain hgd fun K hK => ?_
  have e : [(0, x)].toArray.map (fun (i, x) => (i, a.eval x)) = [(0, Value.agg vs.toArray)].toArray := by simp [hx]
  unfold Oper.wp execOp
  simp only [ho, Sem.run_bind, Sem.run_pure, Result.andThen_ok, e, hr]
  exact hK _ _ (h _ _ rfl (Blk.newAt rfl rfl) ((Below.refl _ _).alloc (Nat.le_refl _) _) (by simp))

/-- append(l, p). -/
theorem wpList_append_ptr {ops : Array Oper} {rest : List Oper} {o : Oper} {a : Act} {Q : Exit → Act → World → Prop} (hgd : o.guard = none) (s x : Operand)
    (ho : o.op = .call { callee := .builtin .append, args := #[s, x], argTypes := #[38, 38] })
    (base : Nat) (v : Value) (ps : List Pt) (hs : a.eval s = v) (hown : Plist base w v ps) (b : Nat) (p : Pt) (hp : p.ok) (hx : a.eval x = .slice (some ⟨b, 0, none⟩) 1 1) (hb : Blk 42 w b p.vs) (hlen : ps.length ≤ 1000000) (hbase : base ≤ w.heap.size)
    (h : ∀ v' w', Plist base w' v' (ps ++ [p]) → w.grownBy w' v.ownBlock → (∀ j, rowOf v' j → rowOf v j ∨ (w.heap.size ≤ j ∧ j < w'.heap.size)) → wpList Tryd.prog ops Q rest (a.put o.dst v') w') : wpList Tryd.prog ops Q (o :: rest) a w := by
  have hi : (Tryd.prog.info? 42).map (fun i => (i.zero, i.size, i.bytes)) = some (some (.agg Pt.zero.vs.toArray), 35, 44) := by kernel_rfl
  obtain ⟨i0, hi0, hz0, hz1, hz2⟩ := info_parts hi
  have hvl := Pt.vs_len hp
  refine wpList_append_lies _ hgd s x 38 ho base 42 i0 (.agg Pt.zero.vs.toArray) 35 44 Tryd.underlying38 hi0 hz0 hz1 hz2 rfl (by decide) v ps.length (ptrsV ps) hs hown.2 ⟨b, 0, none⟩ 1 1 p.vs hx hvl (fun j u hj => ?_) (Pt.vs_one p) (by omega) (by unfold maxLen; omega) (by omega) hbase _ rfl fun g cap w' h1 h2 h4 h5 => ?_
  · have hadd : (⟨b, 0, none⟩ : Addr).add j = ⟨b, j, none⟩ := by unfold Addr.add; split <;> simp_all
    rw [hadd, hb.cell j, hj]
  · refine h _ w' ⟨fun q hq => ?_, ?_⟩ h2 (fun j hj => ?_)
    · rcases List.mem_append.1 hq with h3 | h3
      · exact hown.1 q h3
      · simp only [List.mem_singleton] at h3; rw [h3]; exact hp
    · rw [ptrsV_more, List.length_append]; exact h1
    · obtain rfl : g = j := by simpa [rowOf, Value.ownBlock] using hj
      rcases h4 with h4 | h4
      · exact .inl h4
      · exact .inr ⟨by omega, h5⟩

variable {M : Nat → Prop} {k p g : Nat} {S : DS} {l : List Bool} {t : Nat}
/-- A list that is held beside grows. -/
theorem BS.grown {row : Option Nat} (h : BS w0 w M k p g S l t) (hg : w.grownBy w' row) (hM : ∀ j, row = some j → M j ∧ w0.heap.size ≤ j) {N : Nat → Prop} (hN : ∀ j, N j → M j ∨ (w.heap.size ≤ j ∧ j < w'.heap.size)) : BS w0 w' N k p g S l t := by
  obtain ⟨F, h1, h2, h3⟩ := h
  have hkeep : ∀ j, ¬ M j → j < w.heap.size → w'.heap[j]? = w.heap[j]? := fun j hn hl => hg.block j hl (fun e => hn (hM j e.symm).1)
  refine ⟨F, ⟨h1.dk.keep (fun j hj hl => hkeep j (fun hm => (h3 j hm).1 hj) hl), ⟨?_, h1.mp.lo, h1.mp.hi⟩, ?_, fun j hj => ⟨(h1.low j hj).1, Nat.lt_of_lt_of_le (h1.low j hj).2 hg.size⟩, h1.fg, h1.fk, h1.lg, h1.lk, h1.sz, h1.lab, h1.tt⟩, h2.grown hg h2.size (fun j hj => (hM j hj).2), fun j hj => ?_⟩
  · have hl := h1.mp.blk.lt
    have hb := h1.mp.blk
    unfold Blk at *
    rw [hkeep g (fun hm => (h3 g hm).2.1 rfl) hl]; exact hb
  · have hl := h1.bb.lt
    have hb := h1.bb
    unfold Blk at *
    rw [hkeep k (fun hm => (h3 k hm).2.2.1 rfl) hl]; exact hb
  · rcases hN j hj with h4 | h4
    · exact ⟨(h3 j h4).1, (h3 j h4).2.1, (h3 j h4).2.2.1, Nat.lt_of_lt_of_le (h3 j h4).2.2.2 hg.size⟩
    · refine ⟨fun hf => ?_, fun e => ?_, fun e => ?_, h4.2⟩
      · have := (h1.low j hf).2; omega
      · have := h1.mp.blk.lt; omega
      · have := h1.bb.lt; omega
end

end Go.Proofs.YtjfoidilecognaaDoor

/-
  Disks whose power is on and that have no fuse: what calls leave of them; plain data, no function here.
-/

namespace Go.Proofs.YtjfoidilecognaaDoor
set_option linter.unusedSimpArgs false
set_option linter.unusedVariables false
set_option maxRecDepth 100000
open Go.RowKit

structure Live (S : DS) (n : Nat) : Prop where
  ok : S.Ok n
  off : S.off = false
  fuse : S.fused = false
theorem Live.new {n : Nat} (h1 : 16 ≤ n) (h2 : n ≤ 512) : Live (DS.new n) n := ⟨⟨List.length_replicate, h1, h2, rng_zeros _, fun q hq => by simp [DS.new] at hq, by simp [DS.new]⟩, rfl, rfl⟩
theorem Live.write {S : DS} {n x : Nat} {xs : List Int} (h : Live S n) (hx : x < n) (hl : xs.length = 256) (hr : ∀ y ∈ xs, 0 ≤ y ∧ y ≤ 255) : (S.write (x : Int) xs).2 = 0 ∧ Live (S.write (x : Int) xs).1 n ∧ (S.write (x : Int) xs).1.ws = S.ws ++ [(x, xs)] := by
  have hh : S.has (x : Int) := (DS.has_nat h.ok).2 hx
  unfold DS.write
  rw [h.off, if_neg (by decide), if_neg (by simpa using ⟨hh, hl⟩), h.fuse]
  refine ⟨rfl, ⟨⟨h.ok.len, h.ok.lo, h.ok.hi, h.ok.rng, fun q hq => ?_, ?_⟩, rfl, rfl⟩, rfl⟩
  · rcases List.mem_append.1 hq with h1 | h1
    · exact h.ok.ws q h1
    · simp only [List.mem_singleton] at h1; subst h1; exact ⟨by simpa using hx, hl, hr⟩
  · show DS.left' S < _
    unfold DS.left'; rw [h.fuse]; exact h.ok.left
theorem Live.flush {S : DS} {n : Nat} (h : Live S n) : S.flush.2 = 0 ∧ Live S.flush.1 n ∧ S.flush.1.ws = [] ∧ S.flush.1.laid = layW S.laid S.ws (fun _ => 256) S.ws.length := by
  have hw : ∀ q ∈ S.ws, q.1 < n ∧ q.2.length = 256 := fun q hq => ⟨(h.ok.ws q hq).1, (h.ok.ws q hq).2.1⟩
  unfold DS.flush
  rw [h.off, if_neg (by decide), h.fuse]
  refine ⟨rfl, ⟨⟨?_, h.ok.lo, h.ok.hi, ?_, fun q hq => by simp [may] at hq, ?_⟩, rfl, rfl⟩, rfl, rfl⟩
  · show (layW _ _ _ _).length = _
    rw [layW_length h.ok.len hw _ _ (Nat.le_refl _)]; exact h.ok.len
  · exact layW_rng h.ok _ _ (Nat.le_refl _)
  · show DS.left' S < _
    unfold DS.left'; rw [h.fuse]; exact h.ok.left
theorem Live.rot {S : DS} {n : Nat} (h : Live S n) (i : Int) (ms : List Int) : Live (S.rot i ms).1 n ∧ (S.rot i ms).1.ws = S.ws := by
  unfold DS.rot
  split
  · exact ⟨h, rfl⟩
  · exact ⟨⟨⟨by simp only; rw [xorTo_length]; exact h.ok.len, h.ok.lo, h.ok.hi, xorTo_rng h.ok.rng _, h.ok.ws, h.ok.left⟩, h.off, h.fuse⟩, rfl⟩
theorem rightL_kept {S S' : DS} {x : Nat} {h : List Int} (h1 : S'.laid = S.laid) (h2 : S'.ws = S.ws) : rightL S' x h = rightL S x h := by unfold rightL; rw [h1, h2]

def cntR (a b : Bool) : Nat := (if a then 0 else 1) + (if b then 0 else 1)
/-- One copy, on a live disk. -/
theorem stepR_live {S : DS} {n x : Nat} {b h : List Int} {m : Nat} (hl : Live S n) (hx : x < n) (hx0 : x ≠ 0) (hb : b.length = 256) (hr : ∀ y ∈ b, 0 ≤ y ∧ y ≤ 255) (hs : shaOf b = h) :
    ∃ S', stepR b h x (S, m) = ((S', m + if rightL S x h then 0 else 1), 0) ∧ Live S' n ∧ rightL S' x h = true ∧ S'.ws.length ≤ S.ws.length + 1 ∧ ∀ y, y ≠ x → rightL S' y h = rightL S y h := by
  unfold stepR
  simp only
  cases hc : rightL S x h
  · obtain ⟨h1, h2, h3⟩ := hl.write hx hb hr
    rw [if_neg (by simp [hx0]), if_pos h1]
    exact ⟨_, rfl, h2, rightL_write_same h1 hx0 hs, by rw [h3]; simp, fun y hy => rightL_write S b h (Ne.symm hy)⟩
  · rw [if_pos (.inl rfl)]
    exact ⟨S, by simp, hl, hc, by omega, fun y _ => rfl⟩
theorem restK_live {S : DS} {n : Nat} {p : Pt} {b : List Int} (hl : Live S n) (hx : p.x < n) (hy : p.y < n) (hx0 : p.x ≠ 0) (hy0 : p.y ≠ 0) (hxy : p.x ≠ p.y) (hb : b.length = 256) (hr : ∀ y ∈ b, 0 ≤ y ∧ y ≤ 255) (hs : shaOf b = p.h) :
    ∃ S', restK S p b = ((S', cntR (rightL S p.x p.h) (rightL S p.y p.h)), 0) ∧ Live S' n ∧ rightL S' p.x p.h = true ∧ rightL S' p.y p.h = true ∧ S'.ws.length ≤ S.ws.length + 2 := by
  obtain ⟨S1, h1, h2, h3, h4, h5⟩ := stepR_live (m := 0) hl hx hx0 hb hr hs
  obtain ⟨S2, k1, k2, k3, k4, k5⟩ := stepR_live (m := 0 + if rightL S p.x p.h then 0 else 1) h2 hy hy0 hb hr hs
  refine ⟨S2, ?_, k2, ?_, k3, by omega⟩
  · unfold restK
    rw [h1, if_neg (by simp), k1, h5 p.y (Ne.symm hxy)]
    unfold cntR
    simp only [Nat.zero_add]
  · rw [k5 p.x hxy]; exact h3
theorem okK_live {S : DS} {n : Nat} {p : Pt} (hl : Live S n) (hm : p.may = true) : okK S p = 0 := by unfold okK; rw [hl.off, hm]; rfl

/-- The pointer that the laws make. -/
def pt45 (h : List Int) : Pt := ⟨h, 7, 4, 5⟩
theorem pt45_ok {b : List Int} : (pt45 (shaOf b)).ok := ⟨shaOf_length b, shaOf_rng b, by show (7 : Nat) < _; omega, by show (4 : Nat) < _; omega, by show (5 : Nat) < _; omega⟩
theorem pt45_may (h : List Int) : (pt45 h).may = true := rfl
theorem pt45_hole (h : List Int) : (pt45 h).hole = false := by
  unfold Pt.hole
  refine Pt.same_not (fun e => ?_)
  have := congrArg Pt.x e
  simp [pt45, Pt.zero] at this

theorem take16 : (takeL (lab 16 4) 2).2 = ([4, 5], 0) := by decide +kernel
theorem take32 : (takeL (lab 32 4) 2).2 = ([4, 5], 0) := by decide +kernel
theorem putK_live {S : DS} {n : Nat} {l : List Bool} {B : List Int} (hl : Live S n) (hn : 16 ≤ n) (ht : (takeL l 2).2 = ([4, 5], 0)) (hb : B.length = 256) (hr : ∀ y ∈ B, 0 ≤ y ∧ y ≤ 255) :
    ∃ S' l', putK S l 7 B 2 = ((S', l'), pt45 (shaOf B), 0) ∧ Live S' n ∧ S'.ws = S.ws ++ [(4, B)] ++ [(5, B)] ∧ S'.laid = S.laid := by
  obtain ⟨a1, a2, a3⟩ := hl.write (x := 4) (by omega) hb hr
  obtain ⟨b1, b2, b3⟩ := a2.write (x := 5) (by omega) hb hr
  have e1 : (takeL l 2).2.1 = [4, 5] := by rw [ht]
  have e2 : (takeL l 2).2.2 = 0 := by rw [ht]
  have hw : wrK B S [4, 5] = (((S.write ((4 : Nat) : Int) B).1.write ((5 : Nat) : Int) B).1, 0) := by
    simp only [wrK]
    rw [if_pos a1, if_pos b1]
  refine ⟨_, (takeL l 2).1, ?_, b2, by rw [b3, a3], by rw [write_laid, write_laid]⟩
  unfold putK
  rw [hl.off, if_neg (by decide), if_neg (by omega), e1, e2, if_neg (by simp), hw, if_neg (by simp)]
  rfl

theorem sha_unlike : ¬ (shaOf (List.replicate 256 1) = shaOf (0 :: List.replicate 255 1)) := by decide +kernel
theorem whole_one : wholeL [1] = List.replicate 256 1 := by decide +kernel
theorem xor_one : xorS (List.replicate 256 1) [1] 1 = 0 :: List.replicate 255 1 := by decide +kernel

/-- What the live question finds. -/
theorem alive_pure : ∃ S1 l1 S2 S3 S4, putK (DS.new 16) (lab 16 4) 7 (wholeL [1]) 2 = ((S1, l1), pt45 (shaOf (wholeL [1])), 0) ∧ S1.flush = (S2, 0) ∧ (S2.rot 4 [1]).1 = S3 ∧ healK S3 (pt45 (shaOf (wholeL [1]))) = ((S4, 1), 0) ∧ S1.ws.length ≤ 2 ∧ S2.ws.length ≤ 2 ∧ S3.ws.length ≤ 2 := by
  have hBl : (wholeL [1]).length = 256 := wholeL_len (by decide)
  have hBr : ∀ y ∈ wholeL [1], 0 ≤ y ∧ y ≤ 255 := wholeL_rng (by decide) _
  obtain ⟨S1, l1, h1, h2, h3, h4⟩ := putK_live (Live.new (n := 16) (by omega) (by omega)) (by omega) take16 hBl hBr
  obtain ⟨f1, f2, f3, f4⟩ := h2.flush
  obtain ⟨r1, r2⟩ := f2.rot 4 [1]
  rw [h3] at f4
  have hnl : (DS.new 16).laid.length = 4096 := List.length_replicate
  have hlen4 : (layAt (DS.new 16).laid 4 (wholeL [1])).length = 4096 := by rw [layAt_length (by rw [hBl, hnl]; omega), hnl]
  have hlaid : S1.flush.1.laid = layAt (layAt (DS.new 16).laid 4 (wholeL [1])) 5 (wholeL [1]) := by
    rw [f4, h4]
    have ht : (wholeL [1]).take 256 = wholeL [1] := List.take_of_length_le (by omega)
    have hc : clamp 256 = 256 := by decide
    show layAt (layAt _ 4 ((wholeL [1]).take (clamp 256))) 5 ((wholeL [1]).take (clamp 256)) = _
    rw [hc, ht]
  have hs4 : secOf S1.flush.1.laid 4 = wholeL [1] := by
    rw [hlaid, secOf_other (by rw [hBl, hlen4]; omega) (by omega) (by omega), secOf_same (by rw [hnl]; omega) (by omega), List.drop_eq_nil_of_le (by rw [secOf_length (by rw [hnl]; omega), hBl]; omega), List.append_nil]
  have hs5 : secOf S1.flush.1.laid 5 = wholeL [1] := by
    rw [hlaid, secOf_same (by rw [hlen4]; omega) (by omega), List.drop_eq_nil_of_le (by rw [secOf_length (by rw [hlen4]; omega), hBl]; omega), List.append_nil]
  have hrot : (S1.flush.1.rot 4 [1]).1.laid = xorTo S1.flush.1.laid 4 [1] 1 := by
    unfold DS.rot
    rw [if_neg (by simpa using (DS.has_nat f2.ok (x := 4)).2 (by omega))]
    rfl
  have hws : (S1.flush.1.rot 4 [1]).1.ws = [] := by rw [r2, f3]
  have hr4 : readW (S1.flush.1.rot 4 [1]).1.laid (S1.flush.1.rot 4 [1]).1.ws 4 = 0 :: List.replicate 255 1 := by
    rw [hws, hrot]
    show secOf _ 4 = _
    rw [secOf_xorTo _ _ _ _ _ (by omega), if_pos rfl, hs4, whole_one, xor_one]
  have hr5 : readW (S1.flush.1.rot 4 [1]).1.laid (S1.flush.1.rot 4 [1]).1.ws 5 = wholeL [1] := by
    rw [hws, hrot]
    show secOf _ 5 = _
    rw [secOf_xorTo _ _ _ _ _ (by omega), if_neg (by omega), hs5]
  have g4 : rightL (S1.flush.1.rot 4 [1]).1 (pt45 (shaOf (wholeL [1]))).x (pt45 (shaOf (wholeL [1]))).h = false := by
    show rightL _ 4 (shaOf (wholeL [1])) = false
    have hne : decide (shaOf (0 :: List.replicate 255 1) = shaOf (wholeL [1])) = false := decide_eq_false (fun e => sha_unlike (by rw [← whole_one]; exact e.symm))
    unfold rightL
    rw [hr4, hne]
    simp
  have g5 : rightL (S1.flush.1.rot 4 [1]).1 (pt45 (shaOf (wholeL [1]))).y (pt45 (shaOf (wholeL [1]))).h = true := by
    show rightL _ 5 (shaOf (wholeL [1])) = true
    unfold rightL
    rw [hr5, r1.ok.secs]
    simp
  obtain ⟨S4, q1, q2, _⟩ := restK_live (p := pt45 (shaOf (wholeL [1]))) (b := wholeL [1]) r1 (by decide) (by decide) (by decide) (by decide) (by decide) hBl hBr rfl
  refine ⟨S1, l1, S1.flush.1, _, S4, h1, by rw [← f1], rfl, ?_, by rw [h3]; simp [DS.new], by rw [f3]; simp, by rw [hws]; simp⟩
  have hrd : readK (S1.flush.1.rot 4 [1]).1 (pt45 (shaOf (wholeL [1]))) = (wholeL [1], 0) := by
    unfold readK
    rw [okK_live r1 (pt45_may _), if_neg (by simp), pt45_hole, if_neg (by simp)]
    rw [g4, if_neg (by simp), g5, if_pos rfl]
    show (readW _ _ 5, (0 : Int)) = _
    rw [hr5]
  unfold healK
  rw [hrd, if_neg (by simp), q1]
  rw [g4, g5]
  rfl

end Go.Proofs.YtjfoidilecognaaDoor
