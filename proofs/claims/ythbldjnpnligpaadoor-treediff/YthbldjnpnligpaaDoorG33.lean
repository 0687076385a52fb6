/-
  A bank beside what else a law holds: each call's contract.
-/
import Derived.Test.YthbldjnpnligpaaDoorG32
import Derived.Test.YthbldjnpnligpaaDoorG21
import Derived.Test.YthbldjnpnligpaaDoorG10
import Derived.Deep.QuietTactic
import Derived.Deep.AppendLies
namespace Go.Proofs.YthbldjnpnligpaaDoor
set_option linter.unusedSimpArgs false
set_option linter.unusedVariables false
set_option maxRecDepth 100000
open Go.RowKit

/-- Blocks that stay. -/
structure Stay (M : Nat → Prop) (w w' : World) : Prop where
  size : w.heap.size ≤ w'.heap.size
  block : ∀ j, M j → j < w.heap.size → w'.heap[j]? = w.heap[j]?
theorem Stay.of_below {M : Nat → Prop} {w w' : World} (h : Below w.heap.size w w') : Stay M w w' := ⟨h.size, fun j _ hl => h.block j hl⟩
theorem Stay.trans {M : Nat → Prop} {a b c : World} (h : Stay M a b) (k : Stay M b c) : Stay M a c := ⟨Nat.le_trans h.size k.size, fun j hj hl => (k.block j hj (Nat.lt_of_lt_of_le hl h.size)).trans (h.block j hj hl)⟩
theorem Stay.blk {M : Nat → Prop} {w w' : World} (h : Stay M w w') {t : TypeId} {m : Nat} {vs : List Value} (hb : Blk t w m vs) (hm : M m) : Blk t w' m vs := by
  have hl := hb.lt
  unfold Blk at *
  rw [h.block m hm hl]
  exact hb
theorem Stay.bs {M : Nat → Prop} {w w' : World} (h : Stay M w w') {a : Option Addr} {c : Nat} {xs : List Int} (hB : Bs w a c xs) (hn : ∀ x, a = some x → M x.block) : Bs w' a c xs := by
  refine ⟨hB.rng, hB.cap, hB.capm, hB.nul, ?_⟩
  rcases hB.lay with h0 | ⟨b, off, hbe, hcell⟩
  · exact .inl h0
  · refine .inr ⟨b, off, hbe, fun i hi => ?_⟩
    subst hbe
    rw [World.cell?_of_block (w := w) (h.block b (hn _ rfl) (World.block_lt_of_cell? w _ (hcell i hi)))]
    exact hcell i hi

/-- A bank, all of it from w0 on, apart from the blocks of M. -/
def BS (w0 w : World) (M : Nat → Prop) (k p g : Nat) (S : DS) (l : List Bool) (t : Nat) : Prop :=
  ∃ F, Bk w0.heap.size w F k p g S l t ∧ Below w0.heap.size w0 w ∧ ∀ j, M j → ¬ F j ∧ j ≠ g ∧ j ≠ k ∧ j < w.heap.size

section
variable {w0 w w' : World} {M : Nat → Prop} {k p g : Nat} {S S' : DS} {l l' : List Bool} {t : Nat}

theorem BS.bel (h : BS w0 w M k p g S l t) : Below w0.heap.size w0 w := by obtain ⟨F, h1, h2, h3⟩ := h; exact h2
theorem BS.ok (h : BS w0 w M k p g S l t) : ∃ n, S.Ok n := by obtain ⟨F, h1, h2, h3⟩ := h; exact h1.dk.ok
theorem BS.lt (h : BS w0 w M k p g S l t) {j : Nat} (hj : M j) : j < w.heap.size := by obtain ⟨F, h1, h2, h3⟩ := h; exact (h3 j hj).2.2.2
theorem BS.mp (h : BS w0 w M k p g S l t) : Mp w g l := by obtain ⟨F, h1, h2, h3⟩ := h; exact h1.mp
theorem BS.bb (h : BS w0 w M k p g S l t) : Blk 133 w k (bankV p g t) := by obtain ⟨F, h1, h2, h3⟩ := h; exact h1.bb
theorem BS.lab (h : BS w0 w M k p g S l t) : Lab l := by obtain ⟨F, h1, h2, h3⟩ := h; exact h1.lab
theorem BS.sz (h : BS w0 w M k p g S l t) : l.length = S.laid.length / 256 := by obtain ⟨F, h1, h2, h3⟩ := h; exact h1.sz
theorem BS.dk (h : BS w0 w M k p g S l t) : ∃ F, Dk w F p S := by obtain ⟨F, h1, h2, h3⟩ := h; exact ⟨F, h1.dk⟩
theorem BS.vars (h : BS w0 w M k p g S l t) (hV : Vars w0) : Vars w := hV.below h.bel hV.size
theorem BS.stays (h : BS w0 w M k p g S l t) (hb : Below w.heap.size w w') : BS w0 w' M k p g S l t := by
  obtain ⟨F, h1, h2, h3⟩ := h
  exact ⟨F, h1.stays hb, below_then h2 hb, fun j hj => ⟨(h3 j hj).1, (h3 j hj).2.1, (h3 j hj).2.2.1, Nat.lt_of_lt_of_le (h3 j hj).2.2.2 hb.size⟩⟩
theorem BS.less (h : BS w0 w M k p g S l t) {N : Nat → Prop} (hn : ∀ j, N j → M j) : BS w0 w N k p g S l t := by
  obtain ⟨F, h1, h2, h3⟩ := h
  exact ⟨F, h1, h2, fun j hj => h3 j (hn j hj)⟩
/-- New blocks, held beside. -/
theorem BS.new (h : BS w0 w M k p g S l t) (hb : Below w.heap.size w w') {N : Nat → Prop} (hN : ∀ j, N j → M j ∨ (w.heap.size ≤ j ∧ j < w'.heap.size)) : BS w0 w' N k p g S l t := by
  obtain ⟨F, h1, h2, h3⟩ := h
  refine ⟨F, h1.stays hb, below_then h2 hb, fun j hj => ?_⟩
  rcases hN j hj with h4 | h4
  · exact ⟨(h3 j h4).1, (h3 j h4).2.1, (h3 j h4).2.2.1, Nat.lt_of_lt_of_le (h3 j h4).2.2.2 hb.size⟩
  · refine ⟨fun hf => ?_, fun e => ?_, fun e => ?_, h4.2⟩
    · have := (h1.low j hf).2; omega
    · have := h1.mp.blk.lt; omega
    · have := h1.bb.lt; omega
/-- A block that is held beside turns. -/
theorem BS.set {m : Nat} (h : BS w0 w M k p g S l t) (hb : But m w w') (hm : M m) (h0 : w0.heap.size ≤ m) : BS w0 w' M k p g S l t := by
  obtain ⟨F, h1, h2, h3⟩ := h
  obtain ⟨n1, n2, n3, _⟩ := h3 m hm
  exact ⟨F, h1.but hb n1 n2 n3, h2.trans (hb.below h0 h2.size), fun j hj => ⟨(h3 j hj).1, (h3 j hj).2.1, (h3 j hj).2.2.1, Nat.lt_of_lt_of_le (h3 j hj).2.2.2 hb.size⟩⟩
/-- What a call leaves. -/
theorem bs_then {F : Nat → Prop} (h1 : Bk w0.heap.size w F k p g S l t) (h2 : Below w0.heap.size w0 w) (h3 : ∀ j, M j → ¬ F j ∧ j ≠ g ∧ j ≠ k ∧ j < w.heap.size) (hT : BThen w0.heap.size F w w' k p g S' l' t) : BS w0 w' M k p g S' l' t ∧ Stay M w w' := by
  have hbl := hT.below h1.base (fun j hj => (h1.low j hj).1) h1.lg
  obtain ⟨F', q1, q2, q3⟩ := hT
  refine ⟨⟨F', q1, h2.trans hbl, fun j hj => ?_⟩, ⟨q2.size, fun j hj hl => q2.block j (fun e => ?_) hl⟩⟩
  · obtain ⟨n1, n2, n3, n4⟩ := h3 j hj
    refine ⟨fun hf => ?_, n2, n3, Nat.lt_of_lt_of_le n4 q2.size⟩
    rcases q3 j hf with e | e
    · exact n1 e
    · omega
  · obtain ⟨n1, n2, n3, n4⟩ := h3 j hj
    rcases e with e | e
    · exact n1 e
    · exact n2 e

theorem bs_put (h : BS w0 w M k p g S l t) (hV : Vars w0) (hln : S.ws.length ≤ 800000) (a : Option Addr) (c : Nat) (bs : List Int) (hB : Bs w a c bs) (hn : bs ≠ [] → ∀ x, a = some x → M x.block ∨ x.block < w0.heap.size) (cp : Int) :
    Calls Tryd.prog 50 #[.pointer (some ⟨k, 0, none⟩), .slice a bs.length c, .int .i64 cp] w fun e w' => e = .returned (.tuple #[.agg (putK S l t bs cp).2.1.vs.toArray, .int .i64 (putK S l t bs cp).2.2]) ∧ BS w0 w' M k p g (putK S l t bs cp).1.1 (putK S l t bs cp).1.2 t ∧ Stay M w w' := by
  have hVw := h.vars hV
  obtain ⟨F, h1, h2, h3⟩ := h
  refine (bput_run h1 hln hVw a c bs hB (fun h0 x hx hf => ?_) cp hV.size).mono fun e w' he => ⟨he.1, bs_then h1 h2 h3 he.2⟩
  rcases hn h0 x hx with h4 | h4
  · exact (h3 _ h4).1 hf
  · have := (h1.low _ hf).1; omega
theorem bs_read (h : BS w0 w M k p g S l t) (hV : Vars w0) (hln : S.ws.length ≤ 800000) (q : Pt) (hq : q.ok) :
    Calls Tryd.prog 52 #[.pointer (some ⟨k, 0, none⟩), .agg q.vs.toArray] w fun e w' => ∃ a c, e = .returned (.tuple #[.slice a (readK S q).1.length c, .int .i64 (readK S q).2]) ∧ NewB w.heap.size w' a c (readK S q).1 ∧ Below w.heap.size w w' := by
  have hVw := h.vars hV
  obtain ⟨F, h1, h2, h3⟩ := h
  exact bread_run h1 (by omega) hVw q hq
end

end Go.Proofs.YthbldjnpnligpaaDoor

/-
  As UpT, where the first operations, in any order, are followed by ONE call of any effect, and that one by operations that only read.
-/

namespace Go.Proofs.YthbldjnpnligpaaDoor.UpT
set_option linter.unusedSimpArgs false
set_option linter.unusedVariables false
set_option maxRecDepth 100000
open Go

section
variable {P : Program} {ops : Array Oper} {md : Region.Mode} {R : World → World → Prop} {w0 : World} {Ψ : Nat → Option (Value → World → Prop)} {S : Nat → Bool} {Qf : Act → Env → Prop}

/-- Each operation behind number n waits for one from n on. -/
def chainM (md : Region.Mode) (ops : Array Oper) (n : Nat) : Bool := (List.range ops.size).all fun t => decide (t ≤ n) || (List.range t).any fun s => decide (n ≤ s) && Region.waitsFor md ops t s
def Chain (md : Region.Mode) (ops : Array Oper) (n : Nat) : Prop := chainM md ops n = true
theorem tail_waits2 {n : Nat} {listed : Array Bool} (hs : Region.sinkB md ops n = true) (hc : Chain md ops n) (hn : n < ops.size) (inv : HeadInv md ops n listed) :
    ∀ (d i : Nat), n - i = d → i < n → listed.getD i true = false → ∀ t, n ≤ t → t ∉ Region.ready md ops listed := by
  intro d
  induction d using Nat.strongRecOn with
  | _ d ih =>
    intro i hd hi hun t ht hr
    obtain ⟨_, ot, hot, hall⟩ := mem_ready.1 hr
    have htlt : t < ops.size := (Array.getElem?_eq_some_iff.1 hot).1
    by_cases htn : t = n
    · subst htn
      have h1 := List.all_eq_true.1 hs i (List.mem_range.2 hi)
      obtain ⟨j, hj, hj2⟩ := List.any_eq_true.1 h1
      simp only [Bool.and_eq_true, decide_eq_true_eq] at hj2
      obtain ⟨oj, hoj, e, he, hb, hon⟩ := Region.waitsFor_spec hj2.2
      have hjle : j ≤ t := by have := List.mem_range.1 hj; omega
      by_cases hjt : j = t
      · subst hjt
        have : oj = ot := Option.some.inj (hoj.symm.trans hot)
        subst this
        have h2 := hall e he hb
        rw [hon, getD_both hun] at h2
        cases h2
      · cases hl : listed.getD j false with
        | true =>
          have h2 := inv.closed j oj hoj hl e he hb
          rw [hon, getD_both hun] at h2
          cases h2
        | false =>
          have hjs : j < listed.size := by rw [inv.size]; omega
          exact ih (t - j) (by omega) j rfl (by omega) (getD_in hjs hl) t (Nat.le_refl _) hr
    · have h1 := List.all_eq_true.1 hc t (List.mem_range.2 htlt)
      simp only [Bool.or_eq_true, decide_eq_true_eq] at h1
      rcases h1 with h1 | h1
      · omega
      · obtain ⟨s, hs1, hs2⟩ := List.any_eq_true.1 h1
        simp only [Bool.and_eq_true, decide_eq_true_eq] at hs2
        have hst := List.mem_range.1 hs1
        obtain ⟨o', ho', e, he, hb, hon⟩ := Region.waitsFor_spec hs2.2
        have : o' = ot := Option.some.inj (ho'.symm.trans hot)
        subst this
        have h2 := hall e he hb
        rw [hon, getD_both (inv.tail s hs2.1 (by omega))] at h2
        cases h2

theorem firstP2 {n : Nat} {L : Array Bool → Act → Env → Prop} {i : Nat} {oi : Oper} {v : Value} (hi : ops[i]? = some oi) (hsel : ∀ (j : Nat) (o : Oper) cs b, ops[j]? = some o → o.op ≠ .select cs b)
    (hsk : Region.sinkB md ops n = true) (hch : Chain md ops n) (hn : n < ops.size) (hin : i < n) (hdone : ∀ listed a E, L listed a E → ∀ j ∈ Region.ready md ops listed, n ≤ j) :
    ∀ (fuel : Nat) (listed : Array Bool) (a : Act) (E : Env), HeadInv md ops n listed →
      (∀ j oj, ops[j]? = some oj → j ≠ i → listed.getD j true = false → (∀ e ∈ oj.after, Region.binds md e = true → e.on ≠ i) → oi.apart ops oj = true) →
      i ∈ Region.ready md ops listed → (∀ k, listed.getD k true = false → E k = none) → YP P ops md R w0 Ψ i oi v a E →
      anyL P ops md R w0 Ψ S n L fuel (listed.setIfInBounds i true) (a.put oi.dst v) E → anyL P ops md R w0 Ψ S n L (fuel + 1) listed a E := by
  have here : ∀ (K : Act → Env → Prop) (a : Act) (E : Env), YP P ops md R w0 Ψ i oi v a E → K (a.put oi.dst v) E → op P ops md R w0 Ψ S i K a E := by
    intro K a E hy hK
    unfold op
    simp only [hi]
    rcases hy with ⟨hw, hψ, hv⟩ | ⟨hw, rfl⟩
    · simp only [hw, if_true, hψ]; exact ⟨v, hv, hK⟩
    · simp only [hw, Bool.false_eq_true, if_false]; exact hK
  intro fuel
  induction fuel with
  | zero =>
    intro listed a E inv _ hr _ hy H hs
    have hun := (mem_ready.1 hr).1
    refine ⟨fun h => (by rw [h] at hr; cases hr), fun j hj => ?_⟩
    have hjn : j < n := by
      rcases Nat.lt_or_ge j n with h | h
      · exact h
      · exact absurd hj (tail_waits2 hsk hch hn inv _ i rfl hin hun j h)
    refine ⟨hjn, ?_⟩
    by_cases hji : j = i
    · subst hji; exact here _ _ _ hy H
    · have := hdone _ _ _ (H hs) j (ready_mono hj hji)
      omega
  | succ fuel ih =>
    intro listed a E inv hfree hr hE hy H hs
    have hun := (mem_ready.1 hr).1
    refine ⟨fun h => (by rw [h] at hr; cases hr), fun j hj => ?_⟩
    have hjn : j < n := by
      rcases Nat.lt_or_ge j n with h | h
      · exact h
      · exact absurd hj (tail_waits2 hsk hch hn inv _ i rfl hin hun j h)
    refine ⟨hjn, ?_⟩
    by_cases hji : j = i
    · subst hji; exact here _ _ _ hy H
    · have h1 := ((H hs).2 j (ready_mono hj hji)).2
      obtain ⟨hjun, oj, hoj, hall⟩ := mem_ready.1 hj
      have h2 := op_putP hoj (hfree j oj hoj hji hjun (not_waits hr hj hoj)) (fun cs b => hsel i oi cs b hi) (fun cs b => hsel j oj cs b hoj) (hE j hjun) hy h1
      have hfree' : ∀ k ok, ops[k]? = some ok → k ≠ i → (listed.setIfInBounds j true).getD k true = false →
          (∀ e ∈ ok.after, Region.binds md e = true → e.on ≠ i) → oi.apart ops ok = true := fun k ok hk hki hun hno => by
        refine hfree k ok hk hki ?_ hno
        by_cases hjk : j = k
        · subst hjk; exact hjun
        · rw [getD_set_ne true hjk] at hun; exact hun
      refine op_more (fun a' E' hE' h3 => ih (listed.setIfInBounds j true) a' E' (inv.set hj hjn) hfree' (ready_mono hr (Ne.symm hji)) (unlisted hE hE') h3.1 ?_) h2
      rw [Array.setIfInBounds_comm _ _ hji]
      exact h3.2

theorem firstM2 {n : Nat} {L : Array Bool → Act → Env → Prop} (ht : ∀ u v w, R u v → R v w → R u w) (hst : ∀ k ψ, Ψ k = some ψ → ∀ v w w', R w w' → ψ v w → ψ v w') (hR : ∀ w w', R w w' → w.heap.size ≤ w'.heap.size) {i : Nat} {oi : Oper} {ψi : Value → World → Prop} (hi : ops[i]? = some oi)
    (hsel : ∀ (j : Nat) (o : Oper) cs b, ops[j]? = some o → o.op ≠ .select cs b)
    (hsk : Region.sinkB md ops n = true) (hch : Chain md ops n) (hn : n < ops.size) (hin : i < n) (hdone : ∀ listed a E, L listed a E → ∀ j ∈ Region.ready md ops listed, n ≤ j) :
    ∀ (fuel : Nat) (listed : Array Bool) (a : Act) (E : Env), HeadInv md ops n listed →
      (∀ j oj, ops[j]? = some oj → j ≠ i → listed.getD j true = false → (∀ e ∈ oj.after, Region.binds md e = true → e.on ≠ i) → oi.apart ops oj = true) →
      i ∈ Region.ready md ops listed → (∀ k, listed.getD k true = false → E k = none) → YM P ops md R w0 Ψ S i oi ψi a E →
      (∀ v, Sat R w0 Ψ S (setE E i v) → anyL P ops md R w0 Ψ S n L fuel (listed.setIfInBounds i true) (a.put oi.dst v) (setE E i v)) → anyL P ops md R w0 Ψ S n L (fuel + 1) listed a E := by
  have here : ∀ (K : Act → Env → Prop) (a : Act) (E : Env), YM P ops md R w0 Ψ S i oi ψi a E → (∀ v, Sat R w0 Ψ S (setE E i v) → K (a.put oi.dst v) (setE E i v)) → op P ops md R w0 Ψ S i K a E := by
    intro K a E hy hK
    unfold op
    obtain ⟨hw, hψ, hv⟩ := hy
    simp only [hi, hw, if_true, hψ]
    exact ⟨hv, hK⟩
  intro fuel
  induction fuel with
  | zero =>
    intro listed a E inv _ hr hE hy H hs
    have hun := (mem_ready.1 hr).1
    refine ⟨fun h => (by rw [h] at hr; cases hr), fun j hj => ?_⟩
    have hjn : j < n := by
      rcases Nat.lt_or_ge j n with h | h
      · exact h
      · exact absurd hj (tail_waits2 hsk hch hn inv _ i rfl hin hun j h)
    refine ⟨hjn, ?_⟩
    by_cases hji : j = i
    · subst hji; exact here _ _ _ hy H
    · have := ready_mono hj hji
      obtain ⟨ws, hws, hfs⟩ := hs
      obtain ⟨v0, hv0⟩ := makes_sat ht hst hR hy.2.1 hws hfs (hy.2.2 ws (pre_of hws hfs))
      have := hdone _ _ _ (H v0 hv0 hv0) j this
      omega
  | succ fuel ih =>
    intro listed a E inv hfree hr hE hy H hs
    have hun := (mem_ready.1 hr).1
    refine ⟨fun h => (by rw [h] at hr; cases hr), fun j hj => ?_⟩
    have hjn : j < n := by
      rcases Nat.lt_or_ge j n with h | h
      · exact h
      · exact absurd hj (tail_waits2 hsk hch hn inv _ i rfl hin hun j h)
    refine ⟨hjn, ?_⟩
    by_cases hji : j = i
    · subst hji; exact here _ _ _ hy H
    · obtain ⟨hjun, oj, hoj, hall⟩ := mem_ready.1 hj
      have hnw := not_waits hr hj hoj
      have hdep : dep ops md j i = false := by
        unfold dep
        simp only [hoj, Option.map_some, Option.getD_some]
        rw [List.any_eq_false]
        intro e he hb
        simp only [Bool.and_eq_true, beq_iff_eq] at hb
        exact hnw e (by simpa using he) hb.1 hb.2
      have h2 := op_putM (N := anyL P ops md R w0 Ψ S n L fuel ((listed.setIfInBounds i true).setIfInBounds j true)) ht hst hR hoj (hfree j oj hoj hji hjun hnw) (fun cs b => hsel i oi cs b hi) (fun cs b => hsel j oj cs b hoj) hji (hE j hjun) (hE i (mem_ready.1 hr).1) hdep hs hy
        (fun v hv => ((H v hv hv).2 j (ready_mono hj hji)).2)
      have hfree' : ∀ k ok, ops[k]? = some ok → k ≠ i → (listed.setIfInBounds j true).getD k true = false →
          (∀ e ∈ ok.after, Region.binds md e = true → e.on ≠ i) → oi.apart ops ok = true := fun k ok hk hki hun hno => by
        refine hfree k ok hk hki ?_ hno
        by_cases hjk : j = k
        · subst hjk; exact hjun
        · rw [getD_set_ne true hjk] at hun; exact hun
      refine op_more (fun a' E' hE' h3 => ih (listed.setIfInBounds j true) a' E' (inv.set hj hjn) hfree' (ready_mono hr (Ne.symm hji)) (unlisted hE hE') h3.1 ?_) h2
      rw [Array.setIfInBounds_comm _ _ hji]
      exact h3.2

end

end Go.Proofs.YthbldjnpnligpaaDoor.UpT

/-
  Lists of pointers of a law's own.
-/

namespace Go.Proofs.YthbldjnpnligpaaDoor
set_option linter.unusedSimpArgs false
set_option linter.unusedVariables false
set_option maxRecDepth 100000
open Go.RowKit

instance : Inhabited Pt := ⟨Pt.zero⟩
def ptrsV (ps : List Pt) : List Value := ps.flatMap Pt.vs
def Plist (base : Nat) (w : World) (v : Value) (ps : List Pt) : Prop := (∀ p ∈ ps, p.ok) ∧ w.ownsRow base 42 35 v ps.length (ptrsV ps)
/-- The list's block. -/
def rowOf (v : Value) : Nat → Prop := fun j => v.ownBlock = some j

theorem ptrsV_at : ∀ {ps : List Pt}, (∀ p ∈ ps, p.ok) → ∀ i, i < ps.length → ∀ j, j < 35 → (ptrsV ps)[i * 35 + j]? = (ps.getD i default).vs[j]?
  | [], _, i, hi, _, _ => by simp at hi
  | p :: ps, h, i, hi, j, hj => by
    have h1 := Pt.vs_len (h p List.mem_cons_self)
    show (p.vs ++ ptrsV ps)[i * 35 + j]? = _
    cases i with
    | zero => rw [Nat.zero_mul, Nat.zero_add, List.getElem?_append_left (by omega)]; rfl
    | succ i =>
      rw [List.getElem?_append_right (by omega), h1, show (i + 1) * 35 + j - 35 = i * 35 + j by omega]
      exact ptrsV_at (fun q hq => h q (List.mem_cons_of_mem _ hq)) i (by simpa using hi) j hj

section
variable {base : Nat} {w w' w0 : World} {v : Value} {ps : List Pt}
theorem Plist.form (h : Plist base w v ps) : ∃ a c, v = .slice a ps.length c := by
  rcases h.2.2 with ⟨rfl, h0⟩ | ⟨g, cap, cur, rfl, _⟩
  · exact ⟨none, 0, by rw [h0]⟩
  · exact ⟨_, _, rfl⟩
theorem Plist.lt (h : Plist base w v ps) {j : Nat} (hj : rowOf v j) : base ≤ j ∧ j < w.heap.size := World.ownsRow.lt h.2 j hj
theorem Plist.keep (h : Plist base w v ps) (hk : ∀ j, rowOf v j → w'.heap[j]? = w.heap[j]?) : Plist base w' v ps := by
  obtain ⟨h0, h1, h2⟩ := h
  refine ⟨h0, h1, ?_⟩
  rcases h2 with h2 | ⟨g, cap, cur, rfl, hb, hh, rest⟩
  · exact .inl h2
  · exact .inr ⟨g, cap, cur, rfl, hb, by rw [hk g rfl]; exact hh, rest⟩
theorem Plist.stays (h : Plist base w v ps) (hb : Below w.heap.size w w') : Plist base w' v ps := h.keep fun j hj => hb.block j (h.lt hj).2
theorem Plist.stay {M : Nat → Prop} (h : Plist base w v ps) (hy : Stay M w w') (hM : ∀ j, rowOf v j → M j) : Plist base w' v ps := h.keep fun j hj => hy.block j (hM j hj) (h.lt hj).2
theorem Plist.but {m : Nat} (h : Plist base w v ps) (hb : But m w w') (hm : ¬ rowOf v m) : Plist base w' v ps := h.keep fun j hj => hb.block j (fun e => hm (e ▸ hj)) (h.lt hj).2
theorem Plist.at (h : Plist base w v ps) {i : Nat} (hi : i < ps.length) : ∃ b c, v = .slice (some ⟨b, 0, none⟩) ps.length c ∧ rowOf v b ∧ (∀ j, j < 35 → w.cell? ⟨b, i * 35 + j, none⟩ = (ps.getD i default).vs[j]?) ∧ (ps.getD i default).ok := by
  obtain ⟨h0, h1⟩ := h
  have h1' := h1
  rcases h1.2 with ⟨_, h2⟩ | ⟨g, cap, cur, rfl, _⟩
  · omega
  · refine ⟨g, cap, rfl, rfl, fun j hj => ?_, ?_⟩
    · rw [h1'.cellAt (i * 35 + j) (by have := Nat.mul_le_mul_right 35 (show i + 1 ≤ ps.length from hi); omega)]
      exact ptrsV_at h0 i hi j hj
    · exact h0 _ (by simp [List.getD, hi])
variable {M : Nat → Prop} {k p g : Nat} {S : DS} {l : List Bool} {t : Nat}
/-- A list that is held beside grows. -/
theorem BS.grown {row : Option Nat} (h : BS w0 w M k p g S l t) (hg : w.grownBy w' row) (hM : ∀ j, row = some j → M j ∧ w0.heap.size ≤ j) {N : Nat → Prop} (hN : ∀ j, N j → M j ∨ (w.heap.size ≤ j ∧ j < w'.heap.size)) : BS w0 w' N k p g S l t := by
  obtain ⟨F, h1, h2, h3⟩ := h
  have hkeep : ∀ j, ¬ M j → j < w.heap.size → w'.heap[j]? = w.heap[j]? := fun j hn hl => hg.block j hl (fun e => hn (hM j e.symm).1)
  refine ⟨F, ⟨h1.dk.keep (fun j hj hl => hkeep j (fun hm => (h3 j hm).1 hj) hl), ⟨?_, h1.mp.lo, h1.mp.hi⟩, ?_, fun j hj => ⟨(h1.low j hj).1, Nat.lt_of_lt_of_le (h1.low j hj).2 hg.size⟩, h1.fg, h1.fk, h1.lg, h1.lk, h1.sz, h1.lab, h1.tt⟩, h2.grown hg h2.size (fun j hj => (hM j hj).2), fun j hj => ?_⟩
  · have hl := h1.mp.blk.lt
    have hb := h1.mp.blk
    unfold Blk at *
    rw [hkeep g (fun hm => (h3 g hm).2.1 rfl) hl]; exact hb
  · have hl := h1.bb.lt
    have hb := h1.bb
    unfold Blk at *
    rw [hkeep k (fun hm => (h3 k hm).2.2.1 rfl) hl]; exact hb
  · rcases hN j hj with h4 | h4
    · exact ⟨(h3 j h4).1, (h3 j h4).2.1, (h3 j h4).2.2.1, Nat.lt_of_lt_of_le (h3 j h4).2.2.2 hg.size⟩
    · refine ⟨fun hf => ?_, fun e => ?_, fun e => ?_, h4.2⟩
      · have := (h1.low j hf).2; omega
      · have := h1.mp.blk.lt; omega
      · have := h1.bb.lt; omega
end

end Go.Proofs.YthbldjnpnligpaaDoor
