/-
 As UpO, with two operations that wait for nothing.
-/
import Derived.Test.YthbldjnpnligpaaDoorB37
import Derived.Test.YthbldjnpnligpaaDoorB06
import Derived.Test.YthbldjnpnligpaaDoorB43
import Derived.Test.YthbldjnpnligpaaDoorB21
import Derived.Deep.CutRange
namespace Go.Proofs.YthbldjnpnligpaaDoor.UpT
set_option linter.unusedSimpArgs false
set_option linter.unusedVariables false
set_option maxRecDepth 100000
open Go
section
variable {P : Program} {ops : Array Oper} {md : Region.Mode} {R : World → World → Prop} {w0 : World} {Ψ : Nat → Option (Value → World → Prop)} {S : Nat → Bool} {Qf : Act → Env → Prop}
def chainY (md : Region.Mode) (ops : Array Oper) (n : Nat) (X : Nat → Bool) : Bool := (List.range ops.size).all fun t => decide (t ≤ n) || X t || (List.range t).any fun s => decide (n ≤ s) && !(X s) && Region.waitsFor md ops t s
structure HeadY (md : Region.Mode) (ops : Array Oper) (n : Nat) (X : Nat → Bool) (listed : Array Bool) : Prop where
 size : listed.size = ops.size
 closed : ∀ j oj, ops[j]? = some oj → listed.getD j false = true → ∀ e ∈ oj.after, Region.binds md e = true → listed.getD e.on false = true
 tail : ∀ t, n ≤ t → t < ops.size → X t = false → listed.getD t true = false
theorem HeadY.set {n i : Nat} {X : Nat → Bool} {listed : Array Bool} (inv : HeadY md ops n X listed) (hi : i ∈ Region.ready md ops listed) (hx : ∀ i, X i = true → n < i) (hin : i < n ∨ X i = true) : HeadY md ops n X (listed.setIfInBounds i true) := by
 obtain ⟨_, oi, hoi, hall⟩ := mem_ready.1 hi
 refine ⟨by simp [inv.size], fun j oj hj hl e he hb => ?_, fun t ht ht' hXt => by rw [getD_set_ne true (by rintro rfl; rcases hin with h1 | h1; omega; rw [h1] at hXt; cases hXt)]; exact inv.tail t ht ht' hXt⟩
 by_cases hij : i = j
 · subst hij
   have : oj = oi := Option.some.inj (hj.symm.trans hoi)
   subst this
   exact getD_set_true (hall e he hb)
 · rw [getD_set_ne false hij] at hl
   exact getD_set_true (inv.closed j oj hj hl e he hb)
theorem tail_waitsY {n : Nat} {X : Nat → Bool} {listed : Array Bool} (hs : Region.sinkB md ops n = true) (hc : chainY md ops n X = true) (hn : n < ops.size) (hx : ∀ i, X i = true → n < i) (inv : HeadY md ops n X listed) :
 ∀ (d i : Nat), n - i = d → i < n → listed.getD i true = false → ∀ t, n ≤ t → X t = false → t ∉ Region.ready md ops listed := by
 intro d
 induction d using Nat.strongRecOn with
 | _ d ih =>
   intro i hd hi hun t ht htx hr
   obtain ⟨_, ot, hot, hall⟩ := mem_ready.1 hr
   have htlt : t < ops.size := (Array.getElem?_eq_some_iff.1 hot).1
   by_cases htn : t = n
   · subst htn
     have h1 := List.all_eq_true.1 hs i (List.mem_range.2 hi)
     obtain ⟨j, hj, hj2⟩ := List.any_eq_true.1 h1
     simp only [Bool.and_eq_true, decide_eq_true_eq] at hj2
     obtain ⟨oj, hoj, e, he, hb, hon⟩ := Region.waitsFor_spec hj2.2
     have hjle : j ≤ t := by have := List.mem_range.1 hj; omega
     by_cases hjt : j = t
     · subst hjt
       have : oj = ot := Option.some.inj (hoj.symm.trans hot)
       subst this
       have h2 := hall e he hb
       rw [hon, getD_both hun] at h2
       cases h2
     · cases hl : listed.getD j false with
       | true =>
         have h2 := inv.closed j oj hoj hl e he hb
         rw [hon, getD_both hun] at h2
         cases h2
       | false =>
         have hjs : j < listed.size := by rw [inv.size]; omega
         exact ih (t - j) (by omega) j rfl (by omega) (getD_in hjs hl) t (Nat.le_refl _) htx hr
   · have h1 := List.all_eq_true.1 hc t (List.mem_range.2 htlt)
     simp only [Bool.or_eq_true, decide_eq_true_eq] at h1
     rcases h1 with (h1 | h1) | h1
     · omega
     · rw [h1] at htx; cases htx
     · obtain ⟨s, hs1, hs2⟩ := List.any_eq_true.1 h1
       simp only [Bool.and_eq_true, decide_eq_true_eq, Bool.not_eq_true'] at hs2
       have hst := List.mem_range.1 hs1
       obtain ⟨o', ho', e, he, hb, hon⟩ := Region.waitsFor_spec hs2.2
       have : o' = ot := Option.some.inj (ho'.symm.trans hot)
       subst this
       have h2 := hall e he hb
       rw [hon, getD_both (inv.tail s hs2.1.1 (by omega) hs2.1.2)] at h2
       cases h2
def isY (n : Nat) (X : Nat → Bool) (i : Nat) : Bool := decide (i < n) || X i
theorem isY_false {n i : Nat} {X : Nat → Bool} (h : isY n X i = false) : n ≤ i ∧ X i = false := by
 unfold isY at h
 simp at h
 exact h
theorem isY_true {n i : Nat} {X : Nat → Bool} (h : isY n X i = true) : i < n ∨ X i = true := by
 unfold isY at h
 simpa using h
theorem firstPY {n : Nat} {X : Nat → Bool} {L : Nat → Nat → Array Bool → Act → Env → Prop} {i : Nat} {oi : Oper} {v : Value} (hi : ops[i]? = some oi) (hsel : ∀ (j : Nat) (o : Oper) cs b, ops[j]? = some o → o.op ≠ .select cs b)
 (hsk : Region.sinkB md ops n = true) (hch : chainY md ops n X = true) (hn : n < ops.size) (hx : ∀ i, X i = true → n < i) (hin : i < n) :
 ∀ (f m : Nat) (listed : Array Bool) (a : Act) (E : Env), HeadY md ops n X listed →
   (∀ j oj, ops[j]? = some oj → j ≠ i → listed.getD j true = false → (∀ e ∈ oj.after, Region.binds md e = true → e.on ≠ i) → oi.apart ops oj = true) →
   i ∈ Region.ready md ops listed → (∀ k, listed.getD k true = false → E k = none) → YP P ops md R w0 Ψ i oi v a E →
   anyO P ops md R w0 Ψ S (isY n X) L f m (listed.setIfInBounds i true) (a.put oi.dst v) E → anyO P ops md R w0 Ψ S (isY n X) L (f + 1) (m + 1) listed a E := by
 have here : ∀ (K : Act → Env → Prop) (a : Act) (E : Env), YP P ops md R w0 Ψ i oi v a E → K (a.put oi.dst v) E → op P ops md R w0 Ψ S i K a E := by
  intro K a E hy hK
  unfold op
  simp only [hi]
  rcases hy with ⟨hw, hψ, hv⟩ | ⟨hw, rfl⟩
  · simp only [hw, if_true, hψ]; exact ⟨v, hv, hK⟩
  · simp only [hw, Bool.false_eq_true, if_false]; exact hK
 intro f
 induction f with
 | zero =>
   intro m listed a E inv _ hr _ hy H hs
   have hun := (mem_ready.1 hr).1
   refine ⟨fun h => (by rw [h] at hr; cases hr), fun j hj => ⟨m, rfl, ?_⟩⟩
   cases hU : isY n X j with
   | false => exact absurd hj (tail_waitsY hsk hch hn hx inv _ i rfl hin hun j (isY_false hU).1 (isY_false hU).2)
   | true =>
     refine .inl ⟨rfl, ?_⟩
     by_cases hji : j = i
     · subst hji; exact here _ _ _ hy H
     · obtain ⟨_, _, hf, _⟩ := (H hs).2 j (ready_mono hj hji)
       rw [hU] at hf; cases hf
 | succ f ih =>
   intro m listed a E inv hfree hr hE hy H hs
   have hun := (mem_ready.1 hr).1
   refine ⟨fun h => (by rw [h] at hr; cases hr), fun j hj => ⟨m, rfl, ?_⟩⟩
   cases hU : isY n X j with
   | false => exact absurd hj (tail_waitsY hsk hch hn hx inv _ i rfl hin hun j (isY_false hU).1 (isY_false hU).2)
   | true =>
     refine .inl ⟨rfl, ?_⟩
     by_cases hji : j = i
     · subst hji; exact here _ _ _ hy H
     · obtain ⟨m', rfl, h1⟩ := (H hs).2 j (ready_mono hj hji)
       rcases h1 with ⟨_, h1⟩ | ⟨h1, _⟩
       case inr => rw [hU] at h1; cases h1
       obtain ⟨hjun, oj, hoj, hall⟩ := mem_ready.1 hj
       have h2 := op_putP hoj (hfree j oj hoj hji hjun (not_waits hr hj hoj)) (fun cs b => hsel i oi cs b hi) (fun cs b => hsel j oj cs b hoj) (hE j hjun) hy h1
       have hfree' : ∀ k ok, ops[k]? = some ok → k ≠ i → (listed.setIfInBounds j true).getD k true = false →
        (∀ e ∈ ok.after, Region.binds md e = true → e.on ≠ i) → oi.apart ops ok = true := fun k ok hk hki hun hno => by
        refine hfree k ok hk hki ?_ hno
        by_cases hjk : j = k
        · subst hjk; exact hjun
        · rw [getD_set_ne true hjk] at hun; exact hun
       refine op_more (fun a' E' hE' h3 => ih m' (listed.setIfInBounds j true) a' E' (inv.set hj hx (isY_true hU)) hfree' (ready_mono hr (Ne.symm hji)) (unlisted hE hE') h3.1 ?_) h2
       rw [Array.setIfInBounds_comm _ _ hji]
       exact h3.2
theorem firstMY {n : Nat} {X : Nat → Bool} {L : Nat → Nat → Array Bool → Act → Env → Prop} (ht : ∀ u v w, R u v → R v w → R u w) (hst : ∀ k ψ, Ψ k = some ψ → ∀ v w w', R w w' → ψ v w → ψ v w') (hR : ∀ w w', R w w' → w.heap.size ≤ w'.heap.size) {i : Nat} {oi : Oper} {ψi : Value → World → Prop} (hi : ops[i]? = some oi)
 (hsel : ∀ (j : Nat) (o : Oper) cs b, ops[j]? = some o → o.op ≠ .select cs b)
 (hsk : Region.sinkB md ops n = true) (hch : chainY md ops n X = true) (hn : n < ops.size) (hx : ∀ i, X i = true → n < i) (hin : i < n) :
 ∀ (f m : Nat) (listed : Array Bool) (a : Act) (E : Env), HeadY md ops n X listed →
   (∀ j oj, ops[j]? = some oj → j ≠ i → listed.getD j true = false → (∀ e ∈ oj.after, Region.binds md e = true → e.on ≠ i) → oi.apart ops oj = true) →
   i ∈ Region.ready md ops listed → (∀ k, listed.getD k true = false → E k = none) → YM P ops md R w0 Ψ S i oi ψi a E →
   (∀ v, Sat R w0 Ψ S (setE E i v) → anyO P ops md R w0 Ψ S (isY n X) L f m (listed.setIfInBounds i true) (a.put oi.dst v) (setE E i v)) → anyO P ops md R w0 Ψ S (isY n X) L (f + 1) (m + 1) listed a E := by
 have here : ∀ (K : Act → Env → Prop) (a : Act) (E : Env), YM P ops md R w0 Ψ S i oi ψi a E → (∀ v, Sat R w0 Ψ S (setE E i v) → K (a.put oi.dst v) (setE E i v)) → op P ops md R w0 Ψ S i K a E := by
  intro K a E hy hK
  unfold op
  obtain ⟨hw, hψ, hv⟩ := hy
  simp only [hi, hw, if_true, hψ]
  exact ⟨hv, hK⟩
 intro f
 induction f with
 | zero =>
   intro m listed a E inv _ hr hE hy H hs
   have hun := (mem_ready.1 hr).1
   refine ⟨fun h => (by rw [h] at hr; cases hr), fun j hj => ⟨m, rfl, ?_⟩⟩
   cases hU : isY n X j with
   | false => exact absurd hj (tail_waitsY hsk hch hn hx inv _ i rfl hin hun j (isY_false hU).1 (isY_false hU).2)
   | true =>
     refine .inl ⟨rfl, ?_⟩
     by_cases hji : j = i
     · subst hji; exact here _ _ _ hy H
     · obtain ⟨ws, hws, hfs⟩ := hs
       obtain ⟨v0, hv0⟩ := makes_sat ht hst hR hy.2.1 hws hfs (hy.2.2 ws (pre_of hws hfs))
       obtain ⟨_, _, hf, _⟩ := (H v0 hv0 hv0).2 j (ready_mono hj hji)
       rw [hU] at hf; cases hf
 | succ f ih =>
   intro m listed a E inv hfree hr hE hy H hs
   have hun := (mem_ready.1 hr).1
   refine ⟨fun h => (by rw [h] at hr; cases hr), fun j hj => ⟨m, rfl, ?_⟩⟩
   cases hU : isY n X j with
   | false => exact absurd hj (tail_waitsY hsk hch hn hx inv _ i rfl hin hun j (isY_false hU).1 (isY_false hU).2)
   | true =>
     refine .inl ⟨rfl, ?_⟩
     by_cases hji : j = i
     · subst hji; exact here _ _ _ hy H
     · obtain ⟨hjun, oj, hoj, hall⟩ := mem_ready.1 hj
       have hnw := not_waits hr hj hoj
       have hdep : dep ops md j i = false := by
        unfold dep
        simp only [hoj, Option.map_some, Option.getD_some]
        rw [List.any_eq_false]
        intro e he hb
        simp only [Bool.and_eq_true, beq_iff_eq] at hb
        exact hnw e (by simpa using he) hb.1 hb.2
       obtain ⟨ws, hws, hfs⟩ := hs
       obtain ⟨v0, hv0⟩ := makes_sat ht hst hR hy.2.1 hws hfs (hy.2.2 ws (pre_of hws hfs))
       obtain ⟨m', rfl, _⟩ := (H v0 hv0 hv0).2 j (ready_mono hj hji)
       have hops : ∀ v, Sat R w0 Ψ S (setE E i v) → op P ops md R w0 Ψ S j (anyO P ops md R w0 Ψ S (isY n X) L f m' ((listed.setIfInBounds i true).setIfInBounds j true)) (a.put oi.dst v) (setE E i v) := fun v hv => by
        obtain ⟨m2, e, h1⟩ := (H v hv hv).2 j (ready_mono hj hji)
        obtain rfl : m' = m2 := by omega
        rcases h1 with ⟨_, h1⟩ | ⟨h1, _⟩
        · exact h1
        · rw [hU] at h1; cases h1
       have h2 := op_putM (N := anyO P ops md R w0 Ψ S (isY n X) L f m' ((listed.setIfInBounds i true).setIfInBounds j true)) ht hst hR hoj (hfree j oj hoj hji hjun hnw) (fun cs b => hsel i oi cs b hi) (fun cs b => hsel j oj cs b hoj) hji (hE j hjun) (hE i (mem_ready.1 hr).1) hdep ⟨ws, hws, hfs⟩ hy hops
       have hfree' : ∀ k ok, ops[k]? = some ok → k ≠ i → (listed.setIfInBounds j true).getD k true = false →
        (∀ e ∈ ok.after, Region.binds md e = true → e.on ≠ i) → oi.apart ops ok = true := fun k ok hk hki hun hno => by
        refine hfree k ok hk hki ?_ hno
        by_cases hjk : j = k
        · subst hjk; exact hjun
        · rw [getD_set_ne true hjk] at hun; exact hun
       refine op_more (fun a' E' hE' h3 => ih m' (listed.setIfInBounds j true) a' E' (inv.set hj hx (isY_true hU)) hfree' (ready_mono hr (Ne.symm hji)) (unlisted hE hE') h3.1 (fun v hv => ?_)) h2
       rw [Array.setIfInBounds_comm _ _ hji]
       exact h3.2 v hv
def seqP (md : Region.Mode) (ops : Array Oper) (x y : Nat) (rest : List Nat) : List Nat → Array Bool → Bool
 | [], listed => decide (Region.ready md ops listed = [x, y]) && seqF md ops (y :: rest) (listed.setIfInBounds x true) && seqF md ops (x :: rest) (listed.setIfInBounds y true)
 | i :: is, listed => (Region.ready md ops listed).contains i && Region.free md ops listed i && ((ops[i]?).map light).getD false && seqP md ops x y rest is (listed.setIfInBounds i true)
theorem pivot_of {o : Oper} {i : Nat} (ho : ops[i]? = some o) {M Mid : Act → World → Prop} {K : Act → World → Prop} {a : Act} {w : World} (h : wpList P ops (midQ M) [o] a w) (hk : ∀ a w, M a w → K a w) : wpOp P ops (midQ Mid) i K a w := by
 have hout : ¬ LetsOut (midQ M) := fun ⟨_, _, h⟩ => h
 unfold wpOp
 simp only [ho]
 unfold wpList at h
 split
 · rename_i hw
   rw [if_pos hw] at h
   rcases h with h | h
   · refine .inl ?_
     unfold Oper.wp at *
     generalize (execOp a.eval o).run P w = r at *
     cases r with
     | ok n w' =>
       cases n <;> simp only [Oper.upon] at h ⊢
       case value v => exact hk _ _ h
       case skip => exact hk _ _ h
       case defer d => exact hk _ _ h
       case enter f args => exact h.mono (fun e w'' he => by
        cases e with
        | returned v => exact hk _ _ he
        | panicked c => exact he.elim
        | outgrown => exact (hout he).elim)
       case row r args => exact h.mono (fun _ _ he => hk _ _ he)
     | halt x w' => cases x <;> simp only [Oper.upon] at h ⊢ <;> exact h
   · exact (hout h.2).elim
 · rename_i hw
   rw [if_neg hw] at h
   exact hk _ _ h
theorem yields_one {o : Oper} {a : Act} {u v : Value} (w : World) (h : Yields P ops o u a) (k : Yields P ops o v a) : u = v := by
 rcases h with ⟨h1, h2⟩ | ⟨h1, h2⟩ <;> rcases k with ⟨k1, k2⟩ | ⟨k1, k2⟩
 · have e := h2 w
   rw [k2 w] at e
   simpa using e.symm
 · rw [h1] at k1; cases k1
 · rw [h1] at k1; cases k1
 · rw [h2, k2]
theorem wpAny_of_seqP {Mid : Act → World → Prop} (hs : Region.noSelect ops = true) {x y : Nat} {rest : List Nat} (hx : x < ops.size) (hy : y < ops.size) (hr : ∀ i ∈ rest, i < ops.size) : ∀ (is : List Nat) (listed : Array Bool) (a : Act) (w : World), (∀ i ∈ is, i < ops.size) →
 seqP md ops x y rest is listed = true → wpList P ops (midQ Mid) (opsAt ops (is ++ x :: y :: rest)) a w → wpList P ops (midQ Mid) (opsAt ops (is ++ y :: x :: rest)) a w → wpAny P md ops (midQ Mid) (is.length + (rest.length + 2)) listed a w
 | [], listed, a, w, _, hB, h1, h2 => by
   simp only [seqP, Bool.and_eq_true, decide_eq_true_eq] at hB
   obtain ⟨⟨hrd, hb1⟩, hb2⟩ := hB
   have key : ∀ i j, i < ops.size → j < ops.size → seqF md ops (j :: rest) (listed.setIfInBounds i true) = true → wpList P ops (midQ Mid) (opsAt ops (i :: j :: rest)) a w → wpOp P ops (midQ Mid) i (wpAny P md ops (midQ Mid) (rest.length + 1) (listed.setIfInBounds i true)) a w := fun i j hi hj hb h => by
    have h0 : ops[i]? = some ops[i] := Array.getElem?_eq_getElem hi
    have hl : opsAt ops (i :: j :: rest) = ops[i] :: opsAt ops (j :: rest) := by unfold opsAt; rw [List.filterMap_cons, h0]
    rw [hl] at h
    have hw : wpOp P ops (midQ Mid) i (wpList P ops (midQ Mid) (opsAt ops (j :: rest))) a w := by unfold wpOp; simp only [h0]; exact h
    exact wpOp_mono (fun a' w' h' => wpAny_of_seqF hs (j :: rest) _ a' w' (fun k hk => by rcases List.mem_cons.1 hk with rfl | hk; exact hj; exact hr k hk) hb h') hw
   rw [List.length_nil, Nat.zero_add]
   refine ⟨fun h => (by rw [hrd] at h; cases h), fun j hj => ?_⟩
   rw [hrd] at hj
   rcases List.mem_cons.1 hj with rfl | hj
   · exact key _ _ hx hy hb1 h1
   · obtain rfl : j = y := by simpa using hj
     exact key _ _ hy hx hb2 h2
 | i :: is, listed, a, w, hi, hB, h1, h2 => by
   have hlt : i < ops.size := hi i List.mem_cons_self
   have h0 : ops[i]? = some ops[i] := Array.getElem?_eq_getElem hlt
   simp only [seqP, Bool.and_eq_true] at hB
   obtain ⟨⟨⟨hrd, hf⟩, hlight⟩, hB2⟩ := hB
   rw [h0] at hlight
   simp only [Option.map_some, Option.getD_some] at hlight
   have hl : ∀ q, opsAt ops (i :: is ++ q) = ops[i] :: opsAt ops (is ++ q) := fun q => by unfold opsAt; rw [List.cons_append, List.filterMap_cons, h0]
   rw [hl] at h1 h2
   obtain ⟨v, hy1, hK1⟩ := light_yields (ops := ops) hlight h1
   obtain ⟨v', hy2, hK2⟩ := light_yields (ops := ops) hlight h2
   obtain rfl := yields_one w hy1 hy2
   rw [show (i :: is).length + (rest.length + 2) = is.length + (rest.length + 2) + 1 by simp only [List.length_cons]; omega]
   exact wpAny_take h0 hs hf hrd (fun c a w h => h.elim) hy1 (wpAny_of_seqP hs hx hy hr is _ _ w (fun j hj => hi j (List.mem_cons_of_mem _ hj)) hB2 hK1 hK2)
def twoX (x y : Nat) : Nat → Bool := fun i => i == x || i == y
def endY (md : Region.Mode) (ops : Array Oper) (n x y : Nat) (pre rest : List Nat) (listed : Array Bool) : Bool :=
 !(Region.ready md ops listed).isEmpty && (Region.ready md ops listed).all (fun i => i == n || (i == x || i == y)) &&
 (!(Region.ready md ops (listed.setIfInBounds x true)).isEmpty && (Region.ready md ops (listed.setIfInBounds x true)).all (fun i => i == n || i == y)) &&
 (!(Region.ready md ops (listed.setIfInBounds y true)).isEmpty && (Region.ready md ops (listed.setIfInBounds y true)).all (fun i => i == n || i == x)) &&
 decide (Region.ready md ops ((listed.setIfInBounds x true).setIfInBounds y true) = [n]) && decide (Region.ready md ops ((listed.setIfInBounds y true).setIfInBounds x true) = [n]) &&
 seqP md ops x y rest pre (listed.setIfInBounds n true) && seqF md ops (pre ++ y :: rest) ((listed.setIfInBounds x true).setIfInBounds n true) && seqF md ops (pre ++ x :: rest) ((listed.setIfInBounds y true).setIfInBounds n true) &&
 seqF md ops (pre ++ rest) (((listed.setIfInBounds x true).setIfInBounds y true).setIfInBounds n true) && seqF md ops (pre ++ rest) (((listed.setIfInBounds y true).setIfInBounds x true).setIfInBounds n true)
def LY (P : Program) (ops : Array Oper) (md : Region.Mode) (n x y : Nat) (pre rest : List Nat) (Q0 Qx Qy Qxy Qyx : Act → Env → Prop) (m i : Nat) (listed : Array Bool) (a : Act) (E : Env) : Prop :=
 i = n ∧ ((m = pre.length + (rest.length + 2) ∧ seqP md ops x y rest pre (listed.setIfInBounds n true) = true ∧ Q0 a E) ∨ (m = (pre ++ y :: rest).length ∧ seqF md ops (pre ++ y :: rest) (listed.setIfInBounds n true) = true ∧ Qx a E) ∨ (m = (pre ++ x :: rest).length ∧ seqF md ops (pre ++ x :: rest) (listed.setIfInBounds n true) = true ∧ Qy a E) ∨ (m = (pre ++ rest).length ∧ seqF md ops (pre ++ rest) (listed.setIfInBounds n true) = true ∧ (Qxy a E ∨ Qyx a E)))
theorem up_op {x : Nat} {ox : Oper} (hox : ops[x]? = some ox) {Q1 : Act → Env → Prop} {K : Act → Env → Prop} {a : Act} {E : Env} (hnx : ∀ a' E', Q1 a' E' → K a' E') (h2 : wpUp P ops md R w0 Ψ S Q1 [ox] x a E) : op P ops md R w0 Ψ S x K a E := by
 unfold op
 simp only [hox]
 unfold wpUp at h2
 split
 · rename_i hw
   simp only [hw, if_true] at h2
   split
   · rename_i hψ
     simp only [hψ] at h2
     obtain ⟨v, hv, hn'⟩ := h2
     exact ⟨v, hv, hnx _ _ hn'⟩
   · rename_i ψ hψ
     simp only [hψ] at h2
     exact ⟨h2.1, fun v hv => hnx _ _ (h2.2 v hv)⟩
 · rename_i hw
   simp only [hw] at h2
   exact hnx _ _ h2
theorem lexY {n x y : Nat} {pre rest : List Nat} {Q0 Qx Qy Qxy Qyx : Act → Env → Prop} {px py : Oper} (hpx : ops[x]? = some px) (hpy : ops[y]? = some py) (hxy : x ≠ y) (ht : ∀ u v w, R u v → R v w → R u w) (hst : ∀ k ψ, Ψ k = some ψ → ∀ v w w', R w w' → ψ v w → ψ v w') (hR : ∀ w w', R w w' → w.heap.size ≤ w'.heap.size) (hs : Region.noSelect ops = true)
 (hsk : Region.sinkB md ops n = true) (hch : chainY md ops n (twoX x y) = true) (hn : n < ops.size) (hx : n < x ∧ n < y) :
 ∀ (l : List Oper) (k : Nat) (listed : Array Bool) (a : Act) (E : Env), (∀ j, j < l.length → l[j]? = ops[k + j]?) → k + l.length = n → HeadY md ops n (twoX x y) listed → headT md ops (endY md ops n x y pre rest) l.length k listed = true → (∀ k, listed.getD k true = false → E k = none) →
   wpUp P ops md R w0 Ψ S (fun a' E' => Q0 a' E' ∧ wpUp P ops md R w0 Ψ S (fun a2 E2 => Qx a2 E2 ∧ wpUp P ops md R w0 Ψ S Qxy [py] y a2 E2) [px] x a' E' ∧ wpUp P ops md R w0 Ψ S (fun a2 E2 => Qy a2 E2 ∧ wpUp P ops md R w0 Ψ S Qyx [px] x a2 E2) [py] y a' E') l k a E →
   anyO P ops md R w0 Ψ S (isY n (twoX x y)) (LY P ops md n x y pre rest Q0 Qx Qy Qxy Qyx) (l.length + 2) (l.length + (pre.length + (rest.length + 2) + 1)) listed a E
 | [], k, listed, a, E, _, hk, _, hB, _, h => by
   have : k = n := by simpa using hk
   subst this
   simp only [headT, List.length_nil, endY, Bool.and_eq_true, Bool.not_eq_true', List.isEmpty_eq_false_iff, decide_eq_true_eq, List.all_eq_true, Bool.or_eq_true, beq_iff_eq] at hB
   obtain ⟨⟨⟨⟨⟨⟨⟨⟨⟨⟨hne, hall⟩, hnex, hallx⟩, hney, hally⟩, hrxy⟩, hryx⟩, hs0⟩, hsx⟩, hsy⟩, hsxy⟩, hsyx⟩ := hB
   have ux : isY k (twoX x y) x = true := by unfold isY twoX; simp
   have uy : isY k (twoX x y) y = true := by unfold isY twoX; simp
   have un : isY k (twoX x y) k = false := by unfold isY twoX; simp; omega
   intro hsat
   refine ⟨hne, fun i hi => ?_⟩
   simp only [List.length_nil, Nat.zero_add]
   refine ⟨pre.length + (rest.length + 2), rfl, ?_⟩
   rcases hall i hi with rfl | rfl | rfl
   · exact .inr ⟨un, rfl, .inl ⟨rfl, hs0, h.1⟩⟩
   · refine .inl ⟨ux, up_op hpx (fun a' E' hq => ?_) h.2.1⟩
     intro _
     refine ⟨hnex, fun j hj => ⟨(pre ++ y :: rest).length, by simp only [List.length_append, List.length_cons]; omega, ?_⟩⟩
     rcases hallx j hj with rfl | rfl
     · exact .inr ⟨un, rfl, .inr (.inl ⟨rfl, hsx, hq.1⟩)⟩
     · refine .inl ⟨uy, up_op hpy (fun a2 E2 hq2 => ?_) hq.2⟩
       intro _
       rw [hrxy]
       refine ⟨by simp, fun j2 hj2 => ?_⟩
       obtain rfl : j2 = k := by simpa using hj2
       exact ⟨(pre ++ rest).length, by simp only [List.length_append, List.length_cons]; omega, un, rfl, .inr (.inr (.inr ⟨rfl, hsxy, .inl hq2⟩))⟩
   · refine .inl ⟨uy, up_op hpy (fun a' E' hq => ?_) h.2.2⟩
     intro _
     refine ⟨hney, fun j hj => ⟨(pre ++ x :: rest).length, by simp only [List.length_append, List.length_cons]; omega, ?_⟩⟩
     rcases hally j hj with rfl | rfl
     · exact .inr ⟨un, rfl, .inr (.inr (.inl ⟨rfl, hsy, hq.1⟩))⟩
     · refine .inl ⟨ux, up_op hpx (fun a2 E2 hq2 => ?_) hq.2⟩
       intro _
       rw [hryx]
       refine ⟨by simp, fun j2 hj2 => ?_⟩
       obtain rfl : j2 = k := by simpa using hj2
       exact ⟨(pre ++ rest).length, by simp only [List.length_append, List.length_cons]; omega, un, rfl, .inr (.inr (.inr ⟨rfl, hsyx, .inr hq2⟩))⟩
 | o :: l, k, listed, a, E, hl, hk, inv, hB, hE, h => by
   have hX : ∀ i, twoX x y i = true → n < i := fun i hi => by
     unfold twoX at hi
     simp only [Bool.or_eq_true, beq_iff_eq] at hi
     rcases hi with rfl | rfl
     · exact hx.1
     · exact hx.2
   have h0 : ops[k]? = some o := by simpa using (hl 0 (by simp)).symm
   simp only [List.length_cons, headT, Bool.and_eq_true] at hB
   obtain ⟨⟨hr, hf⟩, hB'⟩ := hB
   have hkn : k < n := by simp only [List.length_cons] at hk; omega
   have hk' : k + 1 + l.length = n := by simp only [List.length_cons] at hk; omega
   have hr' : k ∈ Region.ready md ops listed := by simpa using hr
   have hl' : ∀ j, j < l.length → l[j]? = ops[k + 1 + j]? := fun j hj => by have := hl (j + 1) (by simp; omega); simpa [Nat.add_assoc, Nat.add_comm 1 j] using this
   have e : (o :: l).length + (pre.length + (rest.length + 2) + 1) = l.length + (pre.length + (rest.length + 2) + 1) + 1 := by simp only [List.length_cons]; omega
   have e2 : (o :: l).length + 2 = l.length + 2 + 1 := by simp only [List.length_cons]
   rw [e, e2]
   unfold wpUp at h
   by_cases hw : Region.wanted o (yielded ops a.tmps) = true
   · simp only [hw, if_true] at h
     cases hψ : Ψ k with
     | none =>
       simp only [hψ] at h
       obtain ⟨v, hv, hn'⟩ := h
       exact firstPY h0 (Region.noSelect_spec hs) hsk hch hn hX hkn (l.length + 2) _ listed a E inv (Region.free_spec h0 hf) hr' hE (.inl ⟨hw, hψ, hv⟩) (lexY hpx hpy hxy ht hst hR hs hsk hch hn hx l (k + 1) _ _ E hl' hk' (inv.set hr' hX (.inl hkn)) hB' (unlisted hE (.inl rfl)) hn')
     | some ψ =>
       simp only [hψ] at h
       obtain ⟨hm, hn'⟩ := h
       exact firstMY ht hst hR h0 (Region.noSelect_spec hs) hsk hch hn hX hkn (l.length + 2) _ listed a E inv (Region.free_spec h0 hf) hr' hE ⟨hw, hψ, hm⟩ (fun v hv => lexY hpx hpy hxy ht hst hR hs hsk hch hn hx l (k + 1) _ _ _ hl' hk' (inv.set hr' hX (.inl hkn)) hB' (unlisted hE (.inr ⟨v, rfl⟩)) (hn' v hv))
   · simp only [hw] at h
     exact firstPY h0 (Region.noSelect_spec hs) hsk hch hn hX hkn (l.length + 2) _ listed a E inv (Region.free_spec h0 hf) hr' hE (.inr ⟨by simpa using hw, rfl⟩) (lexY hpx hpy hxy ht hst hR hs hsk hch hn hx l (k + 1) _ _ E hl' hk' (inv.set hr' hX (.inl hkn)) hB' (unlisted hE (.inl rfl)) h)
end
def optY (md : Region.Mode) (ops : Array Oper) (n x y : Nat) (pre rest : List Nat) : Bool :=
 Region.noSelect ops && decide (n < ops.size) && decide (n < x) && decide (n < y) && decide (x ≠ y) && Region.sinkB md ops n && chainY md ops n (twoX x y) && decide (pre.length + (rest.length + 2) + 1 = ops.size - n) && (x :: y :: (pre ++ rest)).all (fun i => decide (i < ops.size)) && headT md ops (endY md ops n x y pre rest) n 0 (Array.replicate ops.size false)
open Go.RowKit in
def Leaf (P : Program) (Q : Exit → Act → World → Prop) (w : World) (l : List Oper) (Ψ : Nat → Option (Value → World → Prop)) (S : Nat → Bool) (os : List Nat) : Act → Env → Prop := fun a' E => ∀ w', Below w.heap.size w w' → Facts Ψ S E w' → wpList P l.toArray (midQ fun a2 w2 => Q .normal a2 w2) (opsAt l.toArray os) a' w'
open Go.RowKit in
def Leaf2 (P : Program) (Q : Exit → Act → World → Prop) (w : World) (l : List Oper) (Ψ : Nat → Option (Value → World → Prop)) (S : Nat → Bool) (n : Nat) (o1 o2 : List Nat) : Act → Env → Prop := fun a' E => ∀ w', Below w.heap.size w w' → Facts Ψ S E w' → wpList P l.toArray (midQ fun a2 w2 => wpList P l.toArray (midQ fun a3 w3 => Q .normal a3 w3) (opsAt l.toArray o1) a2 w2 ∧ wpList P l.toArray (midQ fun a3 w3 => Q .normal a3 w3) (opsAt l.toArray o2) a2 w2) (opsAt l.toArray [n]) a' w'
open Go.RowKit in
theorem wp_region_opt2 {P : Program} {id : Nat} {Q : Exit → Act → World → Prop} {a : Act} {w : World} {l : List Oper} (n x y : Nat) (pre rest : List Nat) {px py : Oper} (hpx : l[x]? = some px) (hpy : l[y]? = some py) (Ψ : Nat → Option (Value → World → Prop)) (S : Nat → Bool) (hm : P.follows .mixedOrders = true) (hB : optY .any l.toArray n x y pre rest = true)
 (hst : ∀ k ψ, Ψ k = some ψ → ∀ v w w', Below w.heap.size w w' → ψ v w → ψ v w')
 (h : Held (wpUp P l.toArray .any (fun w w' => Below w.heap.size w w') w Ψ S (fun a' E => Leaf2 P Q w l Ψ S n (pre ++ x :: y :: rest) (pre ++ y :: x :: rest) a' E ∧ wpUp P l.toArray .any (fun w w' => Below w.heap.size w w') w Ψ S (fun a2 E2 => Leaf P Q w l Ψ S (n :: (pre ++ y :: rest)) a2 E2 ∧ wpUp P l.toArray .any (fun w w' => Below w.heap.size w w') w Ψ S (Leaf P Q w l Ψ S (n :: (pre ++ rest))) [py] y a2 E2) [px] x a' E ∧
  wpUp P l.toArray .any (fun w w' => Below w.heap.size w w') w Ψ S (fun a2 E2 => Leaf P Q w l Ψ S (n :: (pre ++ x :: rest)) a2 E2 ∧ wpUp P l.toArray .any (fun w w' => Below w.heap.size w w') w Ψ S (Leaf P Q w l Ψ S (n :: (pre ++ rest))) [px] x a2 E2) [py] y a' E) (l.take n) 0 a (fun _ => none))) : (Code.region id l.toArray true).wp P Q a w := by
 have ht : ∀ u v w : World, Below u.heap.size u v → Below v.heap.size v w → Below u.heap.size u w := fun u v w h1 h2 => h1.trans (h2.mono h1.size)
 have hR : ∀ u v : World, Below u.heap.size u v → u.heap.size ≤ v.heap.size := fun u v h => h.size
 simp only [optY, Bool.and_eq_true, decide_eq_true_eq] at hB
 obtain ⟨⟨⟨⟨⟨⟨⟨⟨⟨hsel, hn⟩, hx⟩, hy⟩, hxy⟩, hs⟩, hc⟩, hol⟩, hi0⟩, hlex⟩ := hB
 have hn' : n < l.length := by simpa using hn
 have htl : (l.take n).length = n := by simp; omega
 have hbd : ∀ i ∈ x :: y :: (pre ++ rest), i < l.toArray.size := fun i hi => by simpa using List.all_eq_true.1 hi0 i hi
 have inv0 : HeadY .any l.toArray n (twoX x y) (Array.replicate l.toArray.size false) :=
  ⟨by simp, fun j oj _ hl => (by rw [getD_replicate_false] at hl; cases hl), fun t _ ht _ => getD_in (by simpa using ht) (getD_replicate_false _ _)⟩
 have H := lexY (md := .any) (x := x) (y := y) (px := px) (py := py) (by simpa using hpx) (by simpa using hpy) hxy ht hst hR hsel hs hc hn ⟨hx, hy⟩ (l.take n) 0 _ a (fun _ => none) (fun j hj => by
  have hj' : j < n := by rw [htl] at hj; exact hj
  simp [hj']) (by simpa using htl) inv0 (by rw [htl]; exact hlex) (fun _ _ => rfl) h.out
 refine wp_mid (fun _ a2 w2 => Q .normal a2 w2) ?_ (fun _ _ h => h)
 refine wp_region_any hm ?_
 have := soundO (Q := midQ fun a2 w2 => Q .normal a2 w2) ht hst hR (fun m i listed a' E w' hi h2 h3 hL => by
  obtain ⟨rfl, hL⟩ := hL
  have hno : l.toArray[i]? = some l[i] := by simp [hn']
  have key : ∀ (os : List Nat), (∀ j ∈ os, j < l.toArray.size) → m = os.length → seqF .any l.toArray os (listed.setIfInBounds i true) = true → wpList P l.toArray (midQ fun a2 w2 => Q .normal a2 w2) (opsAt l.toArray (i :: os)) a' w' → wpOp P l.toArray (midQ fun a2 w2 => Q .normal a2 w2) i (wpAny P .any l.toArray (midQ fun a2 w2 => Q .normal a2 w2) m (listed.setIfInBounds i true)) a' w' := fun os hb hlen hsq hq => by
   have hl : opsAt l.toArray (i :: os) = l[i] :: opsAt l.toArray os := by unfold opsAt; rw [List.filterMap_cons, hno]
   rw [hl] at hq
   have hw : wpOp P l.toArray (midQ fun a2 w2 => Q .normal a2 w2) i (wpList P l.toArray (midQ fun a2 w2 => Q .normal a2 w2) (opsAt l.toArray os)) a' w' := by unfold wpOp; simp only [hno]; exact hq
   subst hlen
   exact wpOp_mono (fun a3 w3 h' => wpAny_of_seqF hsel os _ a3 w3 hb hsq h') hw
  have mem : ∀ (q : List Nat), (∀ j ∈ q, j = x ∨ j = y ∨ j ∈ rest) → ∀ j ∈ pre ++ q, j < l.toArray.size := fun q hq j hj => hbd j (by
   rcases List.mem_append.1 hj with hj | hj
   · simp [hj]
   · rcases hq j hj with rfl | rfl | hj <;> simp [*])
  rcases hL with ⟨hlen, hsq, hq⟩ | ⟨hlen, hsq, hq⟩ | ⟨hlen, hsq, hq⟩ | ⟨hlen, hsq, hq | hq⟩
  · have q := hq w' h2 h3
    have hl : opsAt l.toArray [i] = [l[i]] := by unfold opsAt; rw [List.filterMap_cons, hno]; rfl
    rw [hl] at q
    subst hlen
    have hxs := hbd x (by simp)
    have hys := hbd y (by simp)
    have hrs : ∀ j ∈ rest, j < l.toArray.size := fun j hj => hbd j (by simp [hj])
    have hps : ∀ j ∈ pre, j < l.toArray.size := fun j hj => hbd j (by simp [hj])
    exact pivot_of hno q (fun a3 w3 h' => wpAny_of_seqP hsel hxs hys hrs pre _ a3 w3 hps hsq h'.1 h'.2)
  · exact key _ (mem _ (fun j hj => by rcases List.mem_cons.1 hj with h | h; exact .inr (.inl h); exact .inr (.inr h))) hlen hsq (hq w' h2 h3)
  · exact key _ (mem _ (fun j hj => by rcases List.mem_cons.1 hj with h | h; exact .inl h; exact .inr (.inr h))) hlen hsq (hq w' h2 h3)
  · exact key _ (mem _ (fun j hj => .inr (.inr hj))) hlen hsq (hq w' h2 h3)
  · exact key _ (mem _ (fun j hj => .inr (.inr hj))) hlen hsq (hq w' h2 h3)) _ _ _ _ _ { w with drawn := w.drawn + 1 } (Below.refl _ _).drew ⟨fun k v ψ hk _ => (by cases hk), fun k g _ hk => (by cases hk), fun k j g g' _ _ _ hk _ => (by cases hk)⟩ H
 rw [htl, hol, show n + (l.toArray.size - n) = l.toArray.size by omega] at this
 exact this
end Go.Proofs.YthbldjnpnligpaaDoor.UpT

/-
 The document's bank: the law's model of a block that is put, by Sep.
-/

namespace Go.Proofs.YthbldjnpnligpaaDoor
set_option linter.unusedSimpArgs false
set_option linter.unusedVariables false
set_option maxRecDepth 100000
open Go.RowKit
section
variable {w w' : World} {G G' : Nat → Prop} {cs cs' : List Value} {S S' : DS} {l l' : List Bool} {t : Nat}
theorem Sep.swapM {B : Nat} {I : (Nat → Prop) → World → Prop} {w : World} {L : List Ent} {T : List Sli} {e e' : Ent} (h : Sep B I w (e :: e' :: L) T) : Sep B I w (e' :: e :: L) T := by
 have hm : ∀ x, x ∈ e' :: e :: L ↔ x ∈ e :: e' :: L := fun x => by simp only [List.mem_cons]; exact ⟨fun h => h.elim (fun h => .inr (.inl h)) (fun h => h.elim .inl (fun h => .inr (.inr h))), fun h => h.elim (fun h => .inr (.inl h)) (fun h => h.elim .inl (fun h => .inr (.inr h)))⟩
 refine ⟨h.fr, h.fr.new h.inv (Below.refl _ _) (fun j hj => .inl ?_), fun x hx => h.blk x ((hm x).1 hx), ?_, fun s hs => ⟨(h.sl s hs).1, fun x hx => ⟨((h.sl s hs).2 x hx).1, ((h.sl s hs).2 x hx).2.1, fun y hy => ((h.sl s hs).2 x hx).2.2 y ((hm y).1 hy)⟩⟩⟩
 · rcases hj with ⟨x, hx, h1⟩ | hj
   · exact .inl ⟨x, (hm x).1 hx, h1⟩
   · exact .inr hj
 · have h1 := h.nd
   simp only [List.map_cons, List.nodup_cons, List.mem_cons, not_or] at h1 ⊢
   exact ⟨⟨fun e => h1.1.1 e.symm, h1.2.1⟩, h1.1.2, h1.2.2⟩
theorem rputK_ok {S : DS} {l : List Bool} (h : l.length ≤ 512) (b : List Int) (c : Int) : (putK S l 7 b c).2.1.ok := by
 have hr := takeL_rng l c h
 unfold putK
 repeat' split
 all_goals first | exact Pt.zero_ok | skip
 have hg : ∀ i, (takeL l c).2.1.getD i 0 < 4294967296 := fun i => by
  by_cases hi : i < (takeL l c).2.1.length
  · exact hr _ (by simp [List.getD, hi])
  · rw [List.getD_eq_getElem?_getD, List.getElem?_eq_none (by omega)]; simp
 exact ⟨shaOf_length _, shaOf_rng _, by show (7 : Nat) < _; omega, hg 0, hg 1⟩
set_option maxHeartbeats 40000000 in
theorem mod_put (h : RB w G cs S l 7) (hln : S.ws.length ≤ 700000) (x : ActK) (hx : x.p.ok) (hxB : Bs w x.ba x.bc x.bs) (hxl : x.bs.length ≤ 300) (q : Pt) (hq : q.ok) (hk : x.kind = 1) : Calls Tryd.prog 13 #[.agg cs.toArray, .agg x.cells.toArray, .agg q.vs.toArray] w fun e w' => ∃ cs', e = .returned (.tuple #[.agg cs'.toArray, .agg ({ Told.zero with p := (putK S l 7 x.blk x.copies).2.1, e := (putK S l 7 x.blk x.copies).2.2 } : Told).vs.toArray]) ∧ RBThen G w w' cs' (putK S l 7 x.blk x.copies).1.1 (putK S l 7 x.blk x.copies).1.2 7 := by
 obtain ⟨av, pv, tz, zb, zd, dv, M⟩ := mod_pack h hx hq
 have hc0 := M.c0
 rw [hk] at hc0
 have HC0 : Hid _ := hc0
 have hs := h.sep
 obtain ⟨nb, hnb⟩ : ∃ nb, nb = x.blk.length := ⟨_, rfl⟩
 have HBK : Hid (∀ u, Below w.heap.size w u → Calls Tryd.prog 51 #[.agg av.toArray] u fun e w' => ∃ v, e = .returned v ∧ Below u.heap.size u w' ∧ slB nb x.blk v w') := fun u hu => by
  rw [← M.ae, hnb]
  exact calls_slB ((ablock_run x hx u (hxB.stays hu) hxl).mono fun e w' ⟨a, c, h1, h2, _, h3⟩ => ⟨a, c, h1, h2, h3⟩)
 have hpt : ∀ u N a c, RS w u G N [] cs S l 7 → Bs u a c x.blk → Calls Tryd.prog 58 #[.agg cs.toArray, .slice a nb c, .int .i64 x.copies] u fun e w' => ∃ ds, e = .returned (.tuple #[.agg ds.toArray, .agg (putK S l 7 x.blk x.copies).2.1.vs.toArray, .int .i64 (putK S l 7 x.blk x.copies).2.2]) ∧ Vals 7 ds ∧ Below u.heap.size u w' ∧ RS w w' G N [] ds (putK S l 7 x.blk x.copies).1.1 (putK S l 7 x.blk x.copies).1.2 7 := fun u N a c hu hb => hu.bank_run (E := fun ds => .returned (.tuple #[.agg ds.toArray, .agg (putK S l 7 x.blk x.copies).2.1.vs.toArray, .int .i64 (putK S l 7 x.blk x.copies).2.2])) (fun H hH => by rw [hnb]; exact rput_run8 hH (by omega) a c x.blk hb x.copies)
 have hpo := rputK_ok (S := S) h.mlen.2 x.blk x.copies
 obtain ⟨P, hP⟩ : ∃ P, P = (putK S l 7 x.blk x.copies).2.1 := ⟨_, rfl⟩
 obtain ⟨E, hE⟩ : ∃ E, E = (putK S l 7 x.blk x.copies).2.2 := ⟨_, rfl⟩
 obtain ⟨S1, hS1⟩ : ∃ S1, S1 = (putK S l 7 x.blk x.copies).1.1 := ⟨_, rfl⟩
 obtain ⟨l1, hl1⟩ : ∃ l1, l1 = (putK S l 7 x.blk x.copies).1.2 := ⟨_, rfl⟩
 rw [← hP, ← hE, ← hS1, ← hl1] at hpt
 rw [← hP] at hpo
 rw [← hP, ← hE, ← hS1, ← hl1]
 obtain ⟨t1, ht1⟩ : ∃ t1, t1 = (Told.mk P [] false false 0 0).vs := ⟨_, rfl⟩
 obtain ⟨t2, ht2⟩ : ∃ t2, t2 = (Told.mk P [] false false 0 E).vs := ⟨_, rfl⟩
 have HW1 : Hid (t1 = tz.take 0 ++ P.vs ++ tz.drop (0 + 35)) := by show _ = _; rw [M.te, tz_mk, ← tv_p Pt.zero_ok hpo, ht1]
 have HW2 : Hid (t2 = t1.set 39 (.int .i64 E)) := by show _ = _; rw [ht1, tv_e hpo, ht2]
 have HT2 : Hid (t2 = ({ Told.zero with p := P, e := E } : Told).vs) := ht2
 have htv2 : Vals 40 t2 := by rw [ht2]; exact tvals hpo
 have hqp : Vals 35 P.vs := ⟨Pt.vs_len hpo, Pt.vs_one _⟩
 obtain ⟨qv, hqe⟩ : ∃ qv, qv = P.vs := ⟨_, rfl⟩
 rw [← hqe] at hpt HW1 hqp
 have halp := al_ptrz
 obtain ⟨zp, hzp⟩ : ∃ zp, zp = Pt.zero.vs := ⟨_, rfl⟩
 rw [← hzp] at halp
 rw [M.ae, M.pe]
 clear h hq hx hxl hln hk hc0
 clear hP hE hS1 hl1 ht1 ht2 hqe hzp hnb hxB hpo
 go_enter Tryd.func13, Tryd.ntmps13
 go_wp2_with (first
  | (refine s_boxd 3 hs M.cv ?_; clear hs; intro w1 gK hs)
  | (refine s_boxd 4 hs M.va ?_; clear hs; intro w1 gA hs)
  | (refine s_box hs M.vp ?_; clear hs; intro w1 gP hs)
  | (refine s_ald 6 hs M.al ?_; clear hs; intro w1 gR hs)
  | (refine s_ald 7 hs M.at' ?_; clear hs; intro w1 gS hs)
  | (refine s_ald 8 hs M.at' ?_; clear hs; intro w1 gT hs)
  | (refine s_bld _ M.bt ?_)
  | (refine s_st hs M.zv ?_; clear hs; intro w1 hs)
  | (refine s_ld1 hs HC0.out ?_))
 try simp only [Act.put, sTA, sT0, sT1]
 go_cut [9, 10, 11] from 26 (fun p p2 e2 wx => ∃ (gH gQ : Nat) (ds : List Value), p = .pointer (some ⟨gH, 0, none⟩) ∧ p2 = .pointer (some ⟨gQ, 0, none⟩) ∧ e2 = .int .i64 E ∧ Vals 7 ds ∧ Sep w.heap.size (RI w G [] ds S1 l1 7) wx (⟨gQ, 42, 35, qv⟩ :: ⟨gH, 36, 7, ds⟩ :: ⟨gT, 49, 40, tz⟩ :: ⟨gS, 49, 40, tz⟩ :: ⟨gR, 36, 7, zb⟩ :: ⟨gP, 42, 35, pv⟩ :: ⟨gA, 45, 40, av⟩ :: ⟨gK, 36, 7, cs⟩ :: []) [])
 case first =>
  refine UpT.wp_region_opt2 5 10 11 [6, 7, 8, 9] [12, 13, 14] (by rfl) (by rfl) (UpT.tell [(2, slB nb x.blk), (10, blkT 36 w1.heap.size zb), (11, blkT 42 w1.heap.size zp)]) (fun i => i == 10 || i == 11) (by kernel_rfl) (by kernel_rfl) (UpT.tell_steady _ (by
   intro p hp
   simp only [List.mem_cons, List.not_mem_nil, or_false] at hp
   rcases hp with rfl | rfl | rfl <;> first | exact isV_steady _ | exact slB_steady _ _ | exact blkT_steady _ _ _)) ?_
  simp only [List.take_succ_cons, List.take_zero]
  refine UpT.wpUp_pure (.agg cs.toArray) (by rfl) (by rfl) (fun wz hp => exec_load (by rfl) (by rfl) (hs.ld hp.1 ty_rbank (by repeat (first | exact List.Mem.head _ | apply List.Mem.tail)))) ?_
  simp only [Act.put, sTA, sT0, sT1]
  refine UpT.wpUp_pure (.agg av.toArray) (by rfl) (by rfl) (fun wz hp => exec_load (by rfl) (by rfl) (hs.ld hp.1 ty_act (by repeat (first | exact List.Mem.head _ | apply List.Mem.tail)))) ?_
  simp only [Act.put, sTA, sT0, sT1]
  refine UpT.wpUp_call _ 51 #[.agg av.toArray] (by rfl) (by rfl) (by rfl) (fun wz => by go_simp) (fun wz hp => HBK.out wz (below_then hs.rbel hp.1)) ?_
  rintro v ⟨u, _, hf⟩
  obtain ⟨ba, bc, rfl, _⟩ := hf.of 2 v _ rfl rfl
  clear hf
  simp only [Act.put, sTA, sT0, sT1]
  iterate 1 (refine UpT.wpUp_pu ?_; simp only [Act.put, sTA, sT0, sT1])
  refine UpT.wpUp_pure (.int .i64 x.copies) (by rfl) (by rfl) (fun wz hp => exec_load (by rfl) (by rfl) (hs.ld1 hp.1 ty1_intz (by repeat (first | exact List.Mem.head _ | apply List.Mem.tail)) M.c1)) ?_
  simp only [Act.put, sTA, sT0, sT1]
  refine UpT.wpUp_end ?_
  refine ⟨?_, ?_, ?_⟩
  · intro w4 hb4 hf
    have hbs := slB_bs (hf.of 2 _ _ rfl rfl)
    replace hs := hs.stays hb4
    clear hf hb4
    simp only [UpT.opsAt, List.filterMap_cons, List.filterMap_nil, List.getElem?_toArray, List.getElem?_cons_zero, List.getElem?_cons_succ, List.cons_append, List.nil_append]
    go_wp2_with (first
        | (go_at_call 58; go_must (refine (hpt _ _ _ _ hs.rs hbs).mono ?_); rintro e w5 ⟨ds, rfl, hd7, hb5, hR⟩; replace hs := hs.rturn hb5 hR; clear hb5 hR))
    try dsimp only [midQ]
    refine ⟨?_, ?_⟩
    · refine wp_move1 rfl rfl (by rfl) ?_
      simp only [Act.put, sTA, sT0, sT1]
      refine wp_extract1 rfl rfl (by rfl) (by rfl) ?_
      simp only [Act.put, sTA, sT0, sT1]
      refine wp_extract1 rfl rfl (by rfl) (by rfl) ?_
      simp only [Act.put, sTA, sT0, sT1]
      refine wp_extract1 rfl rfl (by rfl) (by rfl) ?_
      simp only [Act.put, sTA, sT0, sT1]
      refine s_al hs M.al ?_
      clear hs
      intro w6 gH hs
      simp only [Act.put, sTA, sT0, sT1]
      refine s_al hs halp ?_
      clear hs
      intro w6 gQ hs
      simp only [Act.put, sTA, sT0, sT1]
      refine s_st hs hd7 ?_
      clear hs
      intro w7 hs
      simp only [Act.put, sTA, sT0, sT1]
      refine s_st hs hqp ?_
      clear hs
      intro w7 hs
      simp only [Act.put, sTA, sT0, sT1]
      try go_wp2
      try dsimp only [midQ]
      try go_wp2
      go_meet
      case rel => exact ⟨gH, gQ, ds, rfl, rfl, rfl, hd7, hs⟩
    · refine wp_move1 rfl rfl (by rfl) ?_
      simp only [Act.put, sTA, sT0, sT1]
      refine wp_extract1 rfl rfl (by rfl) (by rfl) ?_
      simp only [Act.put, sTA, sT0, sT1]
      refine wp_extract1 rfl rfl (by rfl) (by rfl) ?_
      simp only [Act.put, sTA, sT0, sT1]
      refine wp_extract1 rfl rfl (by rfl) (by rfl) ?_
      simp only [Act.put, sTA, sT0, sT1]
      refine s_al hs halp ?_
      clear hs
      intro w6 gQ hs
      simp only [Act.put, sTA, sT0, sT1]
      refine s_al hs M.al ?_
      clear hs
      intro w6 gH hs
      simp only [Act.put, sTA, sT0, sT1]
      refine s_st hs hd7 ?_
      clear hs
      intro w7 hs
      simp only [Act.put, sTA, sT0, sT1]
      refine s_st hs hqp ?_
      clear hs
      intro w7 hs
      simp only [Act.put, sTA, sT0, sT1]
      try go_wp2
      try dsimp only [midQ]
      try go_wp2
      go_meet
      case rel => exact ⟨gH, gQ, ds, rfl, rfl, rfl, hd7, hs.swapM⟩
  · refine (UpT.wpUp_make (blkT 36 w1.heap.size zb) (by rfl) (by rfl) (fun wz hp => ⟨.pointer (some ⟨wz.heap.size, 0, none⟩), wz.alloc (.cells zb.toArray 36), exec_alloc0 (by rfl) (M.al.1 wz), (Below.refl _ _).alloc (Nat.le_refl _) _, ⟨_, rfl, hp.1.size, Blk.newAt rfl rfl⟩, fun _ => ⟨_, rfl, Nat.le_refl _, by simp⟩⟩) ?_).out
    rintro v ⟨u, _, hf⟩
    obtain ⟨gH, rfl, _, _⟩ := hf.of 10 v _ rfl rfl
    clear hf
    simp only [Act.put, sTA, sT0, sT1]
    refine UpT.wpUp_end ?_
    refine ⟨?_, ?_⟩
    · intro w4 hb4 hf
      have hbs := slB_bs (hf.of 2 _ _ rfl rfl)
      obtain ⟨gE, hgE, hgl10, hA10⟩ := hf.of 10 _ _ rfl rfl
      cases hgE
      replace hs := hs.addAt hb4 hA10 hgl10 M.al.2
      clear hf hb4 hA10 hgl10
      simp only [UpT.opsAt, List.filterMap_cons, List.filterMap_nil, List.getElem?_toArray, List.getElem?_cons_zero, List.getElem?_cons_succ, List.cons_append, List.nil_append]
      go_wp2_with (first
       | (go_at_call 58; go_must (refine (hpt _ _ _ _ hs.rs hbs).mono ?_); rintro e w5 ⟨ds, rfl, hd7, hb5, hR⟩; replace hs := hs.rturn hb5 hR; clear hb5 hR; dsimp only []; apply_assumption; refine wp_move1 rfl rfl (by rfl) ?_; simp only [Act.put, sTA, sT0, sT1]; refine wp_extract1 rfl rfl (by rfl) (by rfl) ?_; simp only [Act.put, sTA, sT0, sT1]; refine wp_extract1 rfl rfl (by rfl) (by rfl) ?_; simp only [Act.put, sTA, sT0, sT1]; refine wp_extract1 rfl rfl (by rfl) (by rfl) ?_; simp only [Act.put, sTA, sT0, sT1]; refine s_al hs halp ?_; clear hs; intro w6 gQ hs; simp only [Act.put, sTA, sT0, sT1]; refine s_st hs hd7 ?_; clear hs; intro w7 hs; simp only [Act.put, sTA, sT0, sT1]; refine s_st hs hqp ?_; clear hs; intro w7 hs; simp only [Act.put, sTA, sT0, sT1]; go_wp2))
      try dsimp only [midQ]
      try go_wp2
      go_meet
      case rel => exact ⟨gH, gQ, ds, rfl, rfl, rfl, hd7, hs⟩
    · refine (UpT.wpUp_make (blkT 42 w1.heap.size zp) (by rfl) (by rfl) (fun wz hp => ⟨.pointer (some ⟨wz.heap.size, 0, none⟩), wz.alloc (.cells zp.toArray 42), exec_alloc0 (by rfl) (halp.1 wz), (Below.refl _ _).alloc (Nat.le_refl _) _, ⟨_, rfl, hp.1.size, Blk.newAt rfl rfl⟩, fun _ => ⟨_, rfl, Nat.le_refl _, by simp⟩⟩) ?_).out
      rintro v ⟨u, _, hf⟩
      obtain ⟨gQ, rfl, _, _⟩ := hf.of 11 v _ rfl rfl
      clear hf
      simp only [Act.put, sTA, sT0, sT1]
      refine UpT.wpUp_end ?_
      intro w4 hb4 hf
      have hbs := slB_bs (hf.of 2 _ _ rfl rfl)
      obtain ⟨gE, hgE, hgl10, hA10⟩ := hf.of 10 _ _ rfl rfl
      cases hgE
      obtain ⟨gE, hgE, hgl11, hA11⟩ := hf.of 11 _ _ rfl rfl
      cases hgE
      have hne : gH ≠ gQ := fun e => by
       subst e
       have k1 := hA10
       have k2 := hA11
       unfold Blk at k1 k2
       rw [k1] at k2
       injection k2 with k2
       injection k2 with _ k2
       exact absurd k2 (by decide)
      replace hs := hs.addAt2 hb4 hA10 hgl10 M.al.2 hA11 hgl11 halp.2 hne
      clear hf hb4 hA10 hgl10 hA11 hgl11 hne
      simp only [UpT.opsAt, List.filterMap_cons, List.filterMap_nil, List.getElem?_toArray, List.getElem?_cons_zero, List.getElem?_cons_succ, List.cons_append, List.nil_append]
      go_wp2_with (first
       | (go_at_call 58; go_must (refine (hpt _ _ _ _ hs.rs hbs).mono ?_); rintro e w5 ⟨ds, rfl, hd7, hb5, hR⟩; replace hs := hs.rturn hb5 hR; clear hb5 hR; dsimp only []; apply_assumption; refine wp_move1 rfl rfl (by rfl) ?_; simp only [Act.put, sTA, sT0, sT1]; refine wp_extract1 rfl rfl (by rfl) (by rfl) ?_; simp only [Act.put, sTA, sT0, sT1]; refine wp_extract1 rfl rfl (by rfl) (by rfl) ?_; simp only [Act.put, sTA, sT0, sT1]; refine wp_extract1 rfl rfl (by rfl) (by rfl) ?_; simp only [Act.put, sTA, sT0, sT1]; refine s_st hs hd7 ?_; clear hs; intro w7 hs; simp only [Act.put, sTA, sT0, sT1]; refine s_st hs hqp ?_; clear hs; intro w7 hs; simp only [Act.put, sTA, sT0, sT1]; go_wp2))
      try dsimp only [midQ]
      try go_wp2
      go_meet
      case rel => exact ⟨gH, gQ, ds, rfl, rfl, rfl, hd7, hs⟩
  · refine (UpT.wpUp_make (blkT 42 w1.heap.size zp) (by rfl) (by rfl) (fun wz hp => ⟨.pointer (some ⟨wz.heap.size, 0, none⟩), wz.alloc (.cells zp.toArray 42), exec_alloc0 (by rfl) (halp.1 wz), (Below.refl _ _).alloc (Nat.le_refl _) _, ⟨_, rfl, hp.1.size, Blk.newAt rfl rfl⟩, fun _ => ⟨_, rfl, Nat.le_refl _, by simp⟩⟩) ?_).out
    rintro v ⟨u, _, hf⟩
    obtain ⟨gQ, rfl, _, _⟩ := hf.of 11 v _ rfl rfl
    clear hf
    simp only [Act.put, sTA, sT0, sT1]
    refine UpT.wpUp_end ?_
    refine ⟨?_, ?_⟩
    · intro w4 hb4 hf
      have hbs := slB_bs (hf.of 2 _ _ rfl rfl)
      obtain ⟨gE, hgE, hgl11, hA11⟩ := hf.of 11 _ _ rfl rfl
      cases hgE
      replace hs := hs.addAt hb4 hA11 hgl11 halp.2
      clear hf hb4 hA11 hgl11
      simp only [UpT.opsAt, List.filterMap_cons, List.filterMap_nil, List.getElem?_toArray, List.getElem?_cons_zero, List.getElem?_cons_succ, List.cons_append, List.nil_append]
      go_wp2_with (first
       | (go_at_call 58; go_must (refine (hpt _ _ _ _ hs.rs hbs).mono ?_); rintro e w5 ⟨ds, rfl, hd7, hb5, hR⟩; replace hs := hs.rturn hb5 hR; clear hb5 hR; dsimp only []; apply_assumption; refine wp_move1 rfl rfl (by rfl) ?_; simp only [Act.put, sTA, sT0, sT1]; refine wp_extract1 rfl rfl (by rfl) (by rfl) ?_; simp only [Act.put, sTA, sT0, sT1]; refine wp_extract1 rfl rfl (by rfl) (by rfl) ?_; simp only [Act.put, sTA, sT0, sT1]; refine wp_extract1 rfl rfl (by rfl) (by rfl) ?_; simp only [Act.put, sTA, sT0, sT1]; refine s_al hs M.al ?_; clear hs; intro w6 gH hs; simp only [Act.put, sTA, sT0, sT1]; refine s_st hs hd7 ?_; clear hs; intro w7 hs; simp only [Act.put, sTA, sT0, sT1]; refine s_st hs hqp ?_; clear hs; intro w7 hs; simp only [Act.put, sTA, sT0, sT1]; go_wp2))
      try dsimp only [midQ]
      try go_wp2
      go_meet
      case rel => exact ⟨gH, gQ, ds, rfl, rfl, rfl, hd7, hs.swapM⟩
    · refine (UpT.wpUp_make (blkT 36 w1.heap.size zb) (by rfl) (by rfl) (fun wz hp => ⟨.pointer (some ⟨wz.heap.size, 0, none⟩), wz.alloc (.cells zb.toArray 36), exec_alloc0 (by rfl) (M.al.1 wz), (Below.refl _ _).alloc (Nat.le_refl _) _, ⟨_, rfl, hp.1.size, Blk.newAt rfl rfl⟩, fun _ => ⟨_, rfl, Nat.le_refl _, by simp⟩⟩) ?_).out
      rintro v ⟨u, _, hf⟩
      obtain ⟨gH, rfl, _, _⟩ := hf.of 10 v _ rfl rfl
      clear hf
      simp only [Act.put, sTA, sT0, sT1]
      refine UpT.wpUp_end ?_
      intro w4 hb4 hf
      have hbs := slB_bs (hf.of 2 _ _ rfl rfl)
      obtain ⟨gE, hgE, hgl10, hA10⟩ := hf.of 10 _ _ rfl rfl
      cases hgE
      obtain ⟨gE, hgE, hgl11, hA11⟩ := hf.of 11 _ _ rfl rfl
      cases hgE
      have hne : gH ≠ gQ := fun e => by
       subst e
       have k1 := hA10
       have k2 := hA11
       unfold Blk at k1 k2
       rw [k1] at k2
       injection k2 with k2
       injection k2 with _ k2
       exact absurd k2 (by decide)
      replace hs := hs.addAt2 hb4 hA10 hgl10 M.al.2 hA11 hgl11 halp.2 hne
      clear hf hb4 hA10 hgl10 hA11 hgl11 hne
      simp only [UpT.opsAt, List.filterMap_cons, List.filterMap_nil, List.getElem?_toArray, List.getElem?_cons_zero, List.getElem?_cons_succ, List.cons_append, List.nil_append]
      go_wp2_with (first
       | (go_at_call 58; go_must (refine (hpt _ _ _ _ hs.rs hbs).mono ?_); rintro e w5 ⟨ds, rfl, hd7, hb5, hR⟩; replace hs := hs.rturn hb5 hR; clear hb5 hR; dsimp only []; apply_assumption; refine wp_move1 rfl rfl (by rfl) ?_; simp only [Act.put, sTA, sT0, sT1]; refine wp_extract1 rfl rfl (by rfl) (by rfl) ?_; simp only [Act.put, sTA, sT0, sT1]; refine wp_extract1 rfl rfl (by rfl) (by rfl) ?_; simp only [Act.put, sTA, sT0, sT1]; refine wp_extract1 rfl rfl (by rfl) (by rfl) ?_; simp only [Act.put, sTA, sT0, sT1]; refine s_st hs hd7 ?_; clear hs; intro w7 hs; simp only [Act.put, sTA, sT0, sT1]; refine s_st hs hqp ?_; clear hs; intro w7 hs; simp only [Act.put, sTA, sT0, sT1]; go_wp2))
      try dsimp only [midQ]
      try go_wp2
      go_meet
      case rel => exact ⟨gH, gQ, ds, rfl, rfl, rfl, hd7, hs⟩
 case rest =>
  clear hs hpt
  obtain ⟨gH, gQ, ds, rfl, rfl, rfl, hd7, hs⟩ := hcut
  go_wp2_with (first
   | (refine s_ld hs ?_)
   | (refine s_st hs hd7 ?_; clear hs; intro w1 hs)
   | (refine s_stp t1 hs hqp HW1.out ?_; clear hs; intro w1 hs)
   | (refine s_st1 (v := .int .i64 E) t2 hs HW2.out ?_; clear hs; intro w1 hs))
  refine s_two hs ?_
  clear hs
  intro w2 hs
  simp only [Act.put, sTA, sT0, sT1]
  go_wp2_with (first
   | (refine s_st hs htv2 ?_; clear hs; intro w1 hs))
  exact s_cc (us := ds) (us' := t2) hs ⟨ds, by rw [HT2.out], hs.rdone⟩
end
end Go.Proofs.YthbldjnpnligpaaDoor
