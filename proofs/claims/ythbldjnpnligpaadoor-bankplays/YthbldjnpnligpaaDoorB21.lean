/-
 As Up, where some of the operations make blocks of their own, which are apart, and where the last operations come up in order, behind all others.
-/
import Derived.Test.YthbldjnpnligpaaDoorB01
import Derived.Deep.Quiet
import Derived.Below
import Derived.StillTail
namespace Go.Proofs.YthbldjnpnligpaaDoor.UpT
set_option linter.unusedSimpArgs false
set_option linter.unusedVariables false
set_option maxRecDepth 100000
open Go
abbrev Env := Nat → Option Value
def setE (E : Env) (i : Nat) (v : Value) : Env := fun k => if k = i then some v else E k
theorem setE_comm (E : Env) {i j : Nat} (u v : Value) (h : j ≠ i) : setE (setE E i v) j u = setE (setE E j u) i v := by
 funext k
 unfold setE
 by_cases h1 : k = j
 · subst h1; simp [h]
 · by_cases h2 : k = i
   · rw [if_neg h1, if_pos h2, if_pos h2]
   · rw [if_neg h1, if_neg h2, if_neg h2, if_neg h1]
section
variable (P : Program) (ops : Array Oper) (md : Region.Mode) (R : World → World → Prop) (w0 : World) (Ψ : Nat → Option (Value → World → Prop)) (S : Nat → Bool) (Qf : Act → Env → Prop)
structure Facts (E : Env) (w : World) : Prop where
 of : ∀ k v ψ, E k = some v → Ψ k = some ψ → ψ v w
 lt : ∀ k g, S k = true → E k = some (.pointer (some g)) → g.block < w.heap.size
 ne : ∀ k j g g', k ≠ j → S k = true → S j = true → E k = some (.pointer (some g)) → E j = some (.pointer (some g')) → g.block ≠ g'.block
def Sat (E : Env) : Prop := ∃ w, R w0 w ∧ Facts Ψ S E w
def dep (i k : Nat) : Bool := ((ops[i]?).map fun o => o.after.toList.any fun e => Region.binds md e && e.on == k).getD false
def Pre (i : Nat) (E : Env) (w : World) : Prop := R w0 w ∧ ∀ k v ψ, dep ops md i k = true → E k = some v → Ψ k = some ψ → ψ v w
def Pure (o : Oper) (a : Act) (w : World) (v : Value) : Prop := (execOp a.eval o).run P w = .ok (.value v) w ∨ ((execOp a.eval o).run P w = .ok .skip w ∧ v = undef)
def MakesOf (ψ : Value → World → Prop) (w : World) (s : Bool) : Result Next → Prop
 | .ok (.value u) w' => R w w' ∧ ψ u w' ∧ (s = true → ∃ g, u = .pointer (some g) ∧ w.heap.size ≤ g.block ∧ g.block < w'.heap.size)
 | .ok (.enter f args) w' => s = false ∧ w' = w ∧ Calls P f args w fun e w'' => ∃ v, e = .returned v ∧ R w w'' ∧ ψ v w''
 | _ => False
def Makes (s : Bool) (o : Oper) (a : Act) (w : World) (ψ : Value → World → Prop) : Prop := MakesOf P R ψ w s ((execOp a.eval o).run P w)
def op (i : Nat) (next : Act → Env → Prop) (a : Act) (E : Env) : Prop :=
 match ops[i]? with
 | none => next a E
 | some o => if Region.wanted o (yielded ops a.tmps) = true then
    match Ψ i with
    | none => ∃ v, (∀ w, Pre ops md R w0 Ψ i E w → Pure P o a w v) ∧ next (a.put o.dst v) E
    | some ψ => (∀ w, Pre ops md R w0 Ψ i E w → Makes P R (S i) o a w ψ) ∧ ∀ v, Sat R w0 Ψ S (setE E i v) → next (a.put o.dst v) (setE E i v)
   else next (a.put o.dst undef) E
def anyU : Nat → Array Bool → Act → Env → Prop
 | 0, listed, a, E => Sat R w0 Ψ S E → Region.ready md ops listed = [] ∧ Qf a E
 | fuel + 1, listed, a, E => Sat R w0 Ψ S E → (Region.ready md ops listed = [] → Qf a E) ∧ ∀ i ∈ Region.ready md ops listed, op P ops md R w0 Ψ S i (anyU fuel (listed.setIfInBounds i true)) a E
def wpUp : List Oper → Nat → Act → Env → Prop
 | [], _, a, E => Qf a E
 | o :: l, k, a, E => if Region.wanted o (yielded ops a.tmps) = true then
     match Ψ k with
     | none => ∃ v, (∀ w, Pre ops md R w0 Ψ k E w → Pure P o a w v) ∧ wpUp l (k + 1) (a.put o.dst v) E
     | some ψ => (∀ w, Pre ops md R w0 Ψ k E w → Makes P R (S k) o a w ψ) ∧ ∀ v, Sat R w0 Ψ S (setE E k v) → wpUp l (k + 1) (a.put o.dst v) (setE E k v)
   else wpUp l (k + 1) (a.put o.dst undef) E
end
section
variable {P : Program} {ops : Array Oper} {md : Region.Mode} {R : World → World → Prop} {w0 : World} {Ψ : Nat → Option (Value → World → Prop)} {S : Nat → Bool} {Qf : Act → Env → Prop}
theorem Pure.one {o : Oper} {a : Act} {w : World} {u v : Value} (h : Pure P o a w u) (k : Pure P o a w v) : u = v := by
 rcases h with h | ⟨h, rfl⟩ <;> rcases k with k | ⟨k, rfl⟩ <;> rw [h] at k <;> simp at k
 all_goals first | exact k | rfl
theorem op_more {j : Nat} {K K' : Act → Env → Prop} {a : Act} {E : Env} (h : ∀ a' E', (E' = E ∨ ∃ u, E' = setE E j u) → K a' E' → K' a' E') (hh : op P ops md R w0 Ψ S j K a E) : op P ops md R w0 Ψ S j K' a E := by
 unfold op at *
 split
 · rename_i ho; simp only [ho] at hh; exact h _ _ (.inl rfl) hh
 · rename_i o ho
   simp only [ho] at hh
   split
   · rename_i hw
     simp only [hw, if_true] at hh
     split
     · rename_i hψ
       simp only [hψ] at hh
       obtain ⟨v, h1, h2⟩ := hh
       exact ⟨v, h1, h _ _ (.inl rfl) h2⟩
     · rename_i ψ hψ
       simp only [hψ] at hh
       exact ⟨hh.1, fun v hv => h _ _ (.inr ⟨v, rfl⟩) (hh.2 v hv)⟩
   · rename_i hw
     simp only [hw] at hh
     exact h _ _ (.inl rfl) hh
theorem pre_of {i : Nat} {E : Env} {w : World} (h1 : R w0 w) (h2 : Facts Ψ S E w) : Pre ops md R w0 Ψ i E w := ⟨h1, fun k v ψ _ hE hψ => h2.of k v ψ hE hψ⟩
theorem pre_less {i : Nat} {E E' : Env} {w : World} (hs : ∀ k v, E k = some v → E' k = some v) (h : Pre ops md R w0 Ψ i E' w) : Pre ops md R w0 Ψ i E w :=
 ⟨h.1, fun k v ψ hd hE hψ => h.2 k v ψ hd (hs k v hE) hψ⟩
theorem facts_less {E E' : Env} {w : World} (hs : ∀ k v, E k = some v → E' k = some v) (h : Facts Ψ S E' w) : Facts Ψ S E w := ⟨fun k v ψ hE hψ => h.of k v ψ (hs k v hE) hψ, fun k g hk hE => h.lt k g hk (hs k _ hE), fun k j g g' hkj hk hj hE hE' => h.ne k j g g' hkj hk hj (hs k _ hE) (hs j _ hE')⟩
theorem less_set {E : Env} {i : Nat} {v : Value} (h : E i = none) : ∀ k u, E k = some u → setE E i v k = some u := by
 intro k u hk
 unfold setE
 by_cases hki : k = i
 · subst hki; rw [h] at hk; cases hk
 · rw [if_neg hki]; exact hk
theorem facts_set (hst : ∀ k ψ, Ψ k = some ψ → ∀ v w w', R w w' → ψ v w → ψ v w') (hR : ∀ w w', R w w' → w.heap.size ≤ w'.heap.size) {i : Nat} {E : Env} {w w' : World} {v : Value}
 (h2 : Facts Ψ S E w) (hr : R w w') (hv : ∀ ψ, Ψ i = some ψ → ψ v w') (hf : S i = true → ∃ g, v = .pointer (some g) ∧ w.heap.size ≤ g.block ∧ g.block < w'.heap.size) : Facts Ψ S (setE E i v) w' := by
 refine ⟨fun k u ψ hk hψ => ?_, fun k g hs hk => ?_, fun k j g g' hkj hs hs' hk hk' => ?_⟩
 · unfold setE at hk
   by_cases hki : k = i
   · subst hki; rw [if_pos rfl] at hk; cases hk; exact hv ψ hψ
   · rw [if_neg hki] at hk; exact hst k ψ hψ u w w' hr (h2.of k u ψ hk hψ)
 · unfold setE at hk
   by_cases hki : k = i
   · subst hki; rw [if_pos rfl] at hk; cases hk
     obtain ⟨g1, h1, _, h3⟩ := hf hs
     cases h1; exact h3
   · rw [if_neg hki] at hk; exact Nat.lt_of_lt_of_le (h2.lt k g hs hk) (hR w w' hr)
 · unfold setE at hk hk'
   by_cases hki : k = i
   · subst hki
     rw [if_pos rfl] at hk; cases hk
     rw [if_neg (Ne.symm hkj)] at hk'
     obtain ⟨g1, h1, h3, _⟩ := hf hs
     cases h1
     have := h2.lt j g' hs' hk'
     omega
   · rw [if_neg hki] at hk
     by_cases hji : j = i
     · subst hji
       rw [if_pos rfl] at hk'; cases hk'
       obtain ⟨g1, h1, h3, _⟩ := hf hs'
       cases h1
       have := h2.lt k g hs hk
       omega
     · rw [if_neg hji] at hk'
       exact h2.ne k j g g' hkj hs hs' hk hk'
theorem makes_sat (ht : ∀ u v w, R u v → R v w → R u w) (hst : ∀ k ψ, Ψ k = some ψ → ∀ v w w', R w w' → ψ v w → ψ v w') (hR : ∀ w w', R w w' → w.heap.size ≤ w'.heap.size) {i : Nat} {o : Oper} {a : Act} {E : Env} {w : World} {ψ : Value → World → Prop}
 (hψ : Ψ i = some ψ) (h1 : R w0 w) (h2 : Facts Ψ S E w) (h : Makes P R (S i) o a w ψ) : ∃ v, Sat R w0 Ψ S (setE E i v) := by
 have one : ∀ v w', ψ v w' → ∀ ψ', Ψ i = some ψ' → ψ' v w' := fun v w' hv ψ' hψ' => by rw [hψ] at hψ'; cases hψ'; exact hv
 unfold Makes at h
 generalize (execOp a.eval o).run P w = r at h
 cases r with
 | ok n w' =>
   cases n <;> simp only [MakesOf] at h
   case value u => exact ⟨u, w', ht _ _ _ h1 h.1, facts_set hst hR h2 h.1 (one u w' h.2.1) h.2.2⟩
   case enter f args =>
    obtain ⟨e, w'', _, ⟨v, _, hr, hv⟩, _⟩ := h.2.2 []
    exact ⟨v, w'', ht _ _ _ h1 hr, facts_set hst hR h2 hr (one v w'' hv) (fun hs => by rw [h.1] at hs; cases hs)⟩
 | halt x w' => simp only [MakesOf] at h
theorem op_sound {Q : Exit → Act → World → Prop} (ht : ∀ u v w, R u v → R v w → R u w) (hst : ∀ k ψ, Ψ k = some ψ → ∀ v w w', R w w' → ψ v w → ψ v w') (hR : ∀ w w', R w w' → w.heap.size ≤ w'.heap.size)
 {i : Nat} {K : Act → Env → Prop} {K' : Act → World → Prop} {a : Act} {E : Env} {w : World} (h1 : R w0 w) (h2 : Facts Ψ S E w) (h5 : op P ops md R w0 Ψ S i K a E)
 (hK : ∀ a' E' w', (E' = E ∨ ∃ u, E' = setE E i u) → R w0 w' → Facts Ψ S E' w' → K a' E' → K' a' w') : wpOp P ops Q i K' a w := by
 unfold op at h5
 unfold wpOp
 split
 · rename_i ho; simp only [ho] at h5; exact hK a E w (.inl rfl) h1 h2 h5
 · rename_i o ho
   simp only [ho] at h5
   split
   · rename_i hw
     simp only [hw, if_true] at h5
     refine .inl ?_
     cases hψ : Ψ i with
     | none =>
       simp only [hψ] at h5
       obtain ⟨v, hv, hn⟩ := h5
       unfold Oper.wp
       rcases hv w (pre_of h1 h2) with h6 | ⟨h6, rfl⟩ <;> rw [h6] <;> exact hK _ E w (.inl rfl) h1 h2 hn
     | some ψ =>
       simp only [hψ] at h5
       obtain ⟨hm, hn⟩ := h5
       have h6 := hm w (pre_of h1 h2)
       have hone : ∀ v w', ψ v w' → ∀ ψ', Ψ i = some ψ' → ψ' v w' := fun v w' hv ψ' hψ' => by rw [hψ] at hψ'; cases hψ'; exact hv
       unfold Makes at h6
       unfold Oper.wp
       generalize (execOp a.eval o).run P w = r at h6
       cases r with
       | ok n w' =>
         cases n <;> simp only [MakesOf] at h6 <;> simp only [Oper.upon]
         case value u =>
          have hf := facts_set hst hR h2 h6.1 (hone u w' h6.2.1) h6.2.2
          exact hK _ _ w' (.inr ⟨u, rfl⟩) (ht _ _ _ h1 h6.1) hf (hn u ⟨w', ht _ _ _ h1 h6.1, hf⟩)
         case enter f args =>
          obtain ⟨hs, rfl, hc⟩ := h6
          refine hc.mono fun e w'' he => ?_
          obtain ⟨v, rfl, hr, hv⟩ := he
          have hf := facts_set hst hR h2 hr (hone v w'' hv) (fun h => by rw [hs] at h; cases h)
          exact hK _ _ w'' (.inr ⟨v, rfl⟩) (ht _ _ _ h1 hr) hf (hn v ⟨w'', ht _ _ _ h1 hr, hf⟩)
       | halt x w' => simp only [MakesOf] at h6
   · rename_i hw
     simp only [hw] at h5
     exact hK _ E w (.inl rfl) h1 h2 h5
def anyL (P : Program) (ops : Array Oper) (md : Region.Mode) (R : World → World → Prop) (w0 : World) (Ψ : Nat → Option (Value → World → Prop)) (S : Nat → Bool) (n : Nat) (L : Array Bool → Act → Env → Prop) : Nat → Array Bool → Act → Env → Prop
 | 0, listed, a, E => Sat R w0 Ψ S E → L listed a E
 | f + 1, listed, a, E => Sat R w0 Ψ S E → Region.ready md ops listed ≠ [] ∧ ∀ i ∈ Region.ready md ops listed, i < n ∧ op P ops md R w0 Ψ S i (anyL P ops md R w0 Ψ S n L f (listed.setIfInBounds i true)) a E
theorem soundL {n g : Nat} {L : Array Bool → Act → Env → Prop} {Q : Exit → Act → World → Prop} (ht : ∀ u v w, R u v → R v w → R u w) (hst : ∀ k ψ, Ψ k = some ψ → ∀ v w w', R w w' → ψ v w → ψ v w') (hR : ∀ w w', R w w' → w.heap.size ≤ w'.heap.size)
 (hL : ∀ listed a E w, R w0 w → Facts Ψ S E w → L listed a E → wpAny P md ops Q g listed a w) : ∀ (f : Nat) (listed : Array Bool) (a : Act) (E : Env) (w : World), R w0 w → Facts Ψ S E w →
 anyL P ops md R w0 Ψ S n L f listed a E → wpAny P md ops Q (f + g) listed a w
 | 0, listed, a, E, w, h1, h2, h => by rw [Nat.zero_add]; exact hL _ _ E _ h1 h2 (h ⟨w, h1, h2⟩)
 | f + 1, listed, a, E, w, h1, h2, h => by
   rw [show f + 1 + g = (f + g) + 1 by omega]
   obtain ⟨h3, h4⟩ := h ⟨w, h1, h2⟩
   exact ⟨fun h0 => absurd h0 h3, fun i hi => op_sound ht hst hR h1 h2 (h4 i hi).2 (fun a' E' w' _ h1' h2' hn => soundL ht hst hR hL f _ a' E' w' h1' h2' hn)⟩
def YP (P : Program) (ops : Array Oper) (md : Region.Mode) (R : World → World → Prop) (w0 : World) (Ψ : Nat → Option (Value → World → Prop)) (i : Nat) (o : Oper) (v : Value) (a : Act) (E : Env) : Prop :=
 (Region.wanted o (yielded ops a.tmps) = true ∧ Ψ i = none ∧ ∀ w, Pre ops md R w0 Ψ i E w → Pure P o a w v) ∨ (Region.wanted o (yielded ops a.tmps) = false ∧ v = undef)
def YM (P : Program) (ops : Array Oper) (md : Region.Mode) (R : World → World → Prop) (w0 : World) (Ψ : Nat → Option (Value → World → Prop)) (S : Nat → Bool) (i : Nat) (o : Oper) (ψ : Value → World → Prop) (a : Act) (E : Env) : Prop :=
 Region.wanted o (yielded ops a.tmps) = true ∧ Ψ i = some ψ ∧ ∀ w, Pre ops md R w0 Ψ i E w → Makes P R (S i) o a w ψ
theorem YP.keep {i : Nat} {oi : Oper} {d : Option Tmp} (hsi : ∀ cs b, oi.op ≠ .select cs b) (h3 : ∀ t, d = some t → t ∉ oi.looksAt ops) {v : Value} {a : Act} {E E' : Env} (u : Value) (hs : ∀ k x, E k = some x → E' k = some x)
 (h : YP P ops md R w0 Ψ i oi v a E) : YP P ops md R w0 Ψ i oi v (a.put d u) E' := by
 unfold YP Pure at *
 rw [wanted_put oi a d u h3, execOp_put oi hsi a d u h3]
 rcases h with ⟨x, y, z⟩ | h
 · exact .inl ⟨x, y, fun w hw => z w (pre_less hs hw)⟩
 · exact .inr h
theorem YM.keep {i : Nat} {oi : Oper} {d : Option Tmp} (hsi : ∀ cs b, oi.op ≠ .select cs b) (h3 : ∀ t, d = some t → t ∉ oi.looksAt ops) {ψ : Value → World → Prop} {a : Act} {E E' : Env} (u : Value) (hs : ∀ k x, E k = some x → E' k = some x)
 (h : YM P ops md R w0 Ψ S i oi ψ a E) : YM P ops md R w0 Ψ S i oi ψ (a.put d u) E' := by
 unfold YM Makes at *
 rw [wanted_put oi a d u h3, execOp_put oi hsi a d u h3]
 exact ⟨h.1, h.2.1, fun w hw => h.2.2 w (pre_less hs hw)⟩
theorem op_putP {i j : Nat} {oi oj : Oper} {v : Value} (hj : ops[j]? = some oj) (hap : oi.apart ops oj = true) (hsi : ∀ cs b, oi.op ≠ .select cs b) (hsj : ∀ cs b, oj.op ≠ .select cs b) {N : Act → Env → Prop} {a : Act} {E : Env}
 (hE : E j = none) (hy : YP P ops md R w0 Ψ i oi v a E) (h : op P ops md R w0 Ψ S j N (a.put oi.dst v) E) :
 op P ops md R w0 Ψ S j (fun a' E' => YP P ops md R w0 Ψ i oi v a' E' ∧ N (a'.put oi.dst v) E') a E := by
 obtain ⟨h1, h2, h3⟩ := Oper.apart_spec hap
 unfold op at *
 simp only [hj] at *
 rw [wanted_put oj a oi.dst v h1] at h
 split
 · rename_i hw
   simp only [hw, if_true] at h
   split
   · rename_i hψ
     simp only [hψ] at h
     obtain ⟨u, hu, hn⟩ := h
     unfold Pure at *
     rw [execOp_put oj hsj a oi.dst v h1] at hu
     exact ⟨u, hu, hy.keep hsi h3 u (fun _ _ h => h), by rw [← Act.put_comm a v u h2]; exact hn⟩
   · rename_i ψ hψ
     simp only [hψ] at h
     obtain ⟨hm, hn⟩ := h
     unfold Makes at *
     rw [execOp_put oj hsj a oi.dst v h1] at hm
     exact ⟨hm, fun u hu => ⟨hy.keep hsi h3 u (less_set hE), by rw [← Act.put_comm a v u h2]; exact hn u hu⟩⟩
 · rename_i hw
   simp only [hw] at h
   exact ⟨hy.keep hsi h3 _ (fun _ _ h => h), by rw [← Act.put_comm a v undef h2]; exact h⟩
theorem op_putM (ht : ∀ u v w, R u v → R v w → R u w) (hst : ∀ k ψ, Ψ k = some ψ → ∀ v w w', R w w' → ψ v w → ψ v w') (hR : ∀ w w', R w w' → w.heap.size ≤ w'.heap.size) {i j : Nat} {oi oj : Oper} {ψi : Value → World → Prop} (hj : ops[j]? = some oj) (hap : oi.apart ops oj = true)
 (hsi : ∀ cs b, oi.op ≠ .select cs b) (hsj : ∀ cs b, oj.op ≠ .select cs b) {N : Act → Env → Prop} {a : Act} {E : Env}
 (hij : j ≠ i) (hE : E j = none) (hEi : E i = none) (hdep : dep ops md j i = false) (hsat : Sat R w0 Ψ S E) (hy : YM P ops md R w0 Ψ S i oi ψi a E)
 (h : ∀ v, Sat R w0 Ψ S (setE E i v) → op P ops md R w0 Ψ S j N (a.put oi.dst v) (setE E i v)) :
 op P ops md R w0 Ψ S j (fun a' E' => YM P ops md R w0 Ψ S i oi ψi a' E' ∧ ∀ v, Sat R w0 Ψ S (setE E' i v) → N (a'.put oi.dst v) (setE E' i v)) a E := by
 obtain ⟨h1, h2, h3⟩ := Oper.apart_spec hap
 obtain ⟨ws, hws, hfs⟩ := hsat
 obtain ⟨v0, hv0⟩ := makes_sat ht hst hR hy.2.1 hws hfs (hy.2.2 ws (pre_of hws hfs))
 have hpre : ∀ v w, Pre ops md R w0 Ψ j E w → Pre ops md R w0 Ψ j (setE E i v) w := fun v w hp => by
  refine ⟨hp.1, fun k x ψ hd hk hψ => ?_⟩
  unfold setE at hk
  by_cases hki : k = i
  · subst hki; rw [hdep] at hd; cases hd
  · rw [if_neg hki] at hk; exact hp.2 k x ψ hd hk hψ
 have hw0 : ∀ v, Region.wanted oj (yielded ops (a.put oi.dst v).tmps) = Region.wanted oj (yielded ops a.tmps) := fun v => wanted_put oj a oi.dst v h1
 unfold op at *
 simp only [hj, hw0] at *
 split
 · rename_i hw
   simp only [hw, if_true] at h
   split
   · rename_i hψ
     simp only [hψ] at h
     obtain ⟨u, hu, _⟩ := h v0 hv0
     unfold Pure at hu
     rw [execOp_put oj hsj a oi.dst v0 h1] at hu
     have hu' : ∀ w, Pre ops md R w0 Ψ j E w → Pure P oj a w u := fun w hp => hu w (hpre v0 w hp)
     refine ⟨u, hu', hy.keep hsi h3 u (fun _ _ h => h), fun v hv => ?_⟩
     obtain ⟨x, hx, hn⟩ := h v hv
     unfold Pure at hx
     rw [execOp_put oj hsj a oi.dst v h1] at hx
     have hxu : x = u := Pure.one (hx ws (hpre v ws (pre_of hws hfs))) (hu' ws (pre_of hws hfs))
     subst hxu
     rw [← Act.put_comm a v x h2]; exact hn
   · rename_i ψ hψ
     simp only [hψ] at h
     have hm := (h v0 hv0).1
     unfold Makes at hm
     rw [execOp_put oj hsj a oi.dst v0 h1] at hm
     refine ⟨fun w hp => hm w (hpre v0 w hp), fun u hu => ⟨hy.keep hsi h3 u (less_set hE), fun v hv => ?_⟩⟩
     have hle : ∀ k x, setE E i v k = some x → setE (setE E j u) i v k = some x := by
        rw [← setE_comm E u v hij]
        refine less_set ?_
        unfold setE; rw [if_neg hij]; exact hE
     have hs1 : Sat R w0 Ψ S (setE E i v) := by
        obtain ⟨w, x, y⟩ := hv
        exact ⟨w, x, facts_less hle y⟩
     rw [← Act.put_comm a v u h2, ← setE_comm E u v hij]
     exact (h v hs1).2 u (by rw [setE_comm E u v hij]; exact hv)
 · rename_i hw
   simp only [hw] at h
   refine ⟨hy.keep hsi h3 _ (fun _ _ h => h), fun v hv => ?_⟩
   rw [← Act.put_comm a v undef h2]; exact h v hv
theorem unlisted {listed : Array Bool} {E E' : Env} {j : Nat} (hE : ∀ k, listed.getD k true = false → E k = none) (hE' : E' = E ∨ ∃ u, E' = setE E j u) : ∀ k, (listed.setIfInBounds j true).getD k true = false → E' k = none := by
 intro k hk
 by_cases hjk : j = k
 · subst hjk
   exfalso
   by_cases hlt : j < listed.size <;> simp [hlt] at hk
 · rw [getD_set_ne true hjk] at hk
   rcases hE' with rfl | ⟨u, rfl⟩
   · exact hE k hk
   · unfold setE; rw [if_neg (Ne.symm hjk)]; exact hE k hk
theorem not_waits {i j : Nat} {oj : Oper} {listed : Array Bool} (hr : i ∈ Region.ready md ops listed) (hj : j ∈ Region.ready md ops listed) (hoj : ops[j]? = some oj) : ∀ e ∈ oj.after, Region.binds md e = true → e.on ≠ i := by
 intro e he hb heq
 obtain ⟨_, o, ho, hall⟩ := mem_ready.1 hj
 rw [hoj] at ho; cases ho
 have h1 := hall e he hb
 have h0 := (mem_ready.1 hr).1
 rw [heq] at h1
 rcases Nat.lt_or_ge i listed.size with h' | h'
 · simp [h'] at h0 h1; rw [h0] at h1; cases h1
 · simp [Array.getElem?_eq_none h'] at h1
theorem firstP {n : Nat} {L : Array Bool → Act → Env → Prop} {i : Nat} {oi : Oper} {v : Value} (hi : ops[i]? = some oi) (hsel : ∀ (j : Nat) (o : Oper) cs b, ops[j]? = some o → o.op ≠ .select cs b)
 (hsk : Region.sinkB md ops n = true) (hch : Region.chainB md ops n = true) (hn : n < ops.size) (hin : i < n) (hdone : ∀ listed a E, L listed a E → ∀ j ∈ Region.ready md ops listed, n ≤ j) :
 ∀ (fuel : Nat) (listed : Array Bool) (a : Act) (E : Env), HeadInv md ops n listed →
   (∀ j oj, ops[j]? = some oj → j ≠ i → listed.getD j true = false → (∀ e ∈ oj.after, Region.binds md e = true → e.on ≠ i) → oi.apart ops oj = true) →
   i ∈ Region.ready md ops listed → (∀ k, listed.getD k true = false → E k = none) → YP P ops md R w0 Ψ i oi v a E →
   anyL P ops md R w0 Ψ S n L fuel (listed.setIfInBounds i true) (a.put oi.dst v) E → anyL P ops md R w0 Ψ S n L (fuel + 1) listed a E := by
 have here : ∀ (K : Act → Env → Prop) (a : Act) (E : Env), YP P ops md R w0 Ψ i oi v a E → K (a.put oi.dst v) E → op P ops md R w0 Ψ S i K a E := by
  intro K a E hy hK
  unfold op
  simp only [hi]
  rcases hy with ⟨hw, hψ, hv⟩ | ⟨hw, rfl⟩
  · simp only [hw, if_true, hψ]; exact ⟨v, hv, hK⟩
  · simp only [hw, Bool.false_eq_true, if_false]; exact hK
 intro fuel
 induction fuel with
 | zero =>
   intro listed a E inv _ hr _ hy H hs
   have hun := (mem_ready.1 hr).1
   refine ⟨fun h => (by rw [h] at hr; cases hr), fun j hj => ?_⟩
   have hjn : j < n := by
    rcases Nat.lt_or_ge j n with h | h
    · exact h
    · exact absurd hj (tail_waits hsk hch hn inv _ i rfl hin hun j h)
   refine ⟨hjn, ?_⟩
   by_cases hji : j = i
   · subst hji; exact here _ _ _ hy H
   · have := hdone _ _ _ (H hs) j (ready_mono hj hji)
     omega
 | succ fuel ih =>
   intro listed a E inv hfree hr hE hy H hs
   have hun := (mem_ready.1 hr).1
   refine ⟨fun h => (by rw [h] at hr; cases hr), fun j hj => ?_⟩
   have hjn : j < n := by
    rcases Nat.lt_or_ge j n with h | h
    · exact h
    · exact absurd hj (tail_waits hsk hch hn inv _ i rfl hin hun j h)
   refine ⟨hjn, ?_⟩
   by_cases hji : j = i
   · subst hji; exact here _ _ _ hy H
   · have h1 := ((H hs).2 j (ready_mono hj hji)).2
     obtain ⟨hjun, oj, hoj, hall⟩ := mem_ready.1 hj
     have h2 := op_putP hoj (hfree j oj hoj hji hjun (not_waits hr hj hoj)) (fun cs b => hsel i oi cs b hi) (fun cs b => hsel j oj cs b hoj) (hE j hjun) hy h1
     have hfree' : ∀ k ok, ops[k]? = some ok → k ≠ i → (listed.setIfInBounds j true).getD k true = false →
      (∀ e ∈ ok.after, Region.binds md e = true → e.on ≠ i) → oi.apart ops ok = true := fun k ok hk hki hun hno => by
        refine hfree k ok hk hki ?_ hno
        by_cases hjk : j = k
        · subst hjk; exact hjun
        · rw [getD_set_ne true hjk] at hun; exact hun
     refine op_more (fun a' E' hE' h3 => ih (listed.setIfInBounds j true) a' E' (inv.set hj hjn) hfree' (ready_mono hr (Ne.symm hji)) (unlisted hE hE') h3.1 ?_) h2
     rw [Array.setIfInBounds_comm _ _ hji]
     exact h3.2
theorem firstM {n : Nat} {L : Array Bool → Act → Env → Prop} (ht : ∀ u v w, R u v → R v w → R u w) (hst : ∀ k ψ, Ψ k = some ψ → ∀ v w w', R w w' → ψ v w → ψ v w') (hR : ∀ w w', R w w' → w.heap.size ≤ w'.heap.size) {i : Nat} {oi : Oper} {ψi : Value → World → Prop} (hi : ops[i]? = some oi)
 (hsel : ∀ (j : Nat) (o : Oper) cs b, ops[j]? = some o → o.op ≠ .select cs b)
 (hsk : Region.sinkB md ops n = true) (hch : Region.chainB md ops n = true) (hn : n < ops.size) (hin : i < n) (hdone : ∀ listed a E, L listed a E → ∀ j ∈ Region.ready md ops listed, n ≤ j) :
 ∀ (fuel : Nat) (listed : Array Bool) (a : Act) (E : Env), HeadInv md ops n listed →
   (∀ j oj, ops[j]? = some oj → j ≠ i → listed.getD j true = false → (∀ e ∈ oj.after, Region.binds md e = true → e.on ≠ i) → oi.apart ops oj = true) →
   i ∈ Region.ready md ops listed → (∀ k, listed.getD k true = false → E k = none) → YM P ops md R w0 Ψ S i oi ψi a E →
   (∀ v, Sat R w0 Ψ S (setE E i v) → anyL P ops md R w0 Ψ S n L fuel (listed.setIfInBounds i true) (a.put oi.dst v) (setE E i v)) → anyL P ops md R w0 Ψ S n L (fuel + 1) listed a E := by
 have here : ∀ (K : Act → Env → Prop) (a : Act) (E : Env), YM P ops md R w0 Ψ S i oi ψi a E → (∀ v, Sat R w0 Ψ S (setE E i v) → K (a.put oi.dst v) (setE E i v)) → op P ops md R w0 Ψ S i K a E := by
  intro K a E hy hK
  unfold op
  obtain ⟨hw, hψ, hv⟩ := hy
  simp only [hi, hw, if_true, hψ]
  exact ⟨hv, hK⟩
 intro fuel
 induction fuel with
 | zero =>
   intro listed a E inv _ hr hE hy H hs
   have hun := (mem_ready.1 hr).1
   refine ⟨fun h => (by rw [h] at hr; cases hr), fun j hj => ?_⟩
   have hjn : j < n := by
    rcases Nat.lt_or_ge j n with h | h
    · exact h
    · exact absurd hj (tail_waits hsk hch hn inv _ i rfl hin hun j h)
   refine ⟨hjn, ?_⟩
   by_cases hji : j = i
   · subst hji; exact here _ _ _ hy H
   · have := ready_mono hj hji
     obtain ⟨ws, hws, hfs⟩ := hs
     obtain ⟨v0, hv0⟩ := makes_sat ht hst hR hy.2.1 hws hfs (hy.2.2 ws (pre_of hws hfs))
     have := hdone _ _ _ (H v0 hv0 hv0) j this
     omega
 | succ fuel ih =>
   intro listed a E inv hfree hr hE hy H hs
   have hun := (mem_ready.1 hr).1
   refine ⟨fun h => (by rw [h] at hr; cases hr), fun j hj => ?_⟩
   have hjn : j < n := by
    rcases Nat.lt_or_ge j n with h | h
    · exact h
    · exact absurd hj (tail_waits hsk hch hn inv _ i rfl hin hun j h)
   refine ⟨hjn, ?_⟩
   by_cases hji : j = i
   · subst hji; exact here _ _ _ hy H
   · obtain ⟨hjun, oj, hoj, hall⟩ := mem_ready.1 hj
     have hnw := not_waits hr hj hoj
     have hdep : dep ops md j i = false := by
        unfold dep
        simp only [hoj, Option.map_some, Option.getD_some]
        rw [List.any_eq_false]
        intro e he hb
        simp only [Bool.and_eq_true, beq_iff_eq] at hb
        exact hnw e (by simpa using he) hb.1 hb.2
     have h2 := op_putM (N := anyL P ops md R w0 Ψ S n L fuel ((listed.setIfInBounds i true).setIfInBounds j true)) ht hst hR hoj (hfree j oj hoj hji hjun hnw) (fun cs b => hsel i oi cs b hi) (fun cs b => hsel j oj cs b hoj) hji (hE j hjun) (hE i (mem_ready.1 hr).1) hdep hs hy
        (fun v hv => ((H v hv hv).2 j (ready_mono hj hji)).2)
     have hfree' : ∀ k ok, ops[k]? = some ok → k ≠ i → (listed.setIfInBounds j true).getD k true = false →
      (∀ e ∈ ok.after, Region.binds md e = true → e.on ≠ i) → oi.apart ops ok = true := fun k ok hk hki hun hno => by
        refine hfree k ok hk hki ?_ hno
        by_cases hjk : j = k
        · subst hjk; exact hjun
        · rw [getD_set_ne true hjk] at hun; exact hun
     refine op_more (fun a' E' hE' h3 => ih (listed.setIfInBounds j true) a' E' (inv.set hj hjn) hfree' (ready_mono hr (Ne.symm hji)) (unlisted hE hE') h3.1 ?_) h2
     rw [Array.setIfInBounds_comm _ _ hji]
     exact h3.2
theorem lexL {n g : Nat} (ht : ∀ u v w, R u v → R v w → R u w) (hst : ∀ k ψ, Ψ k = some ψ → ∀ v w w', R w w' → ψ v w → ψ v w') (hR : ∀ w w', R w w' → w.heap.size ≤ w'.heap.size) (hs : Region.noSelect ops = true)
 (hsk : Region.sinkB md ops n = true) (hch : Region.chainB md ops n = true) (hn : n < ops.size) :
 ∀ (l : List Oper) (k : Nat) (listed : Array Bool) (a : Act) (E : Env), (∀ j, j < l.length → l[j]? = ops[k + j]?) → k + l.length = n → HeadInv md ops n listed → Region.lexHead md ops g l.length k listed = true → (∀ k, listed.getD k true = false → E k = none) →
   wpUp P ops md R w0 Ψ S Qf l k a E → anyL P ops md R w0 Ψ S n (fun listed' a' E' => Region.seqB md ops g n listed' = true ∧ Qf a' E') l.length listed a E
 | [], k, _, _, _, _, hk, _, hB, _, h => by
   have : k = n := by simpa using hk
   subst this
   exact fun _ => ⟨by simpa [Region.lexHead] using hB, h⟩
 | o :: l, k, listed, a, E, hl, hk, inv, hB, hE, h => by
   have h0 : ops[k]? = some o := by simpa using (hl 0 (by simp)).symm
   simp only [List.length_cons, Region.lexHead, Bool.and_eq_true] at hB
   obtain ⟨⟨hr, hf⟩, hB'⟩ := hB
   have hkn : k < n := by simp only [List.length_cons] at hk; omega
   have hk' : k + 1 + l.length = n := by simp only [List.length_cons] at hk; omega
   have hr' : k ∈ Region.ready md ops listed := by simpa using hr
   have hl' : ∀ j, j < l.length → l[j]? = ops[k + 1 + j]? := fun j hj => by have := hl (j + 1) (by simp; omega); simpa [Nat.add_assoc, Nat.add_comm 1 j] using this
   have hd : ∀ listed' (a' : Act) (E' : Env), (Region.seqB md ops g n listed' = true ∧ Qf a' E') → ∀ j ∈ Region.ready md ops listed', n ≤ j := fun listed' a' E' hL => seqB_ready hL.1
   unfold wpUp at h
   by_cases hw : Region.wanted o (yielded ops a.tmps) = true
   · simp only [hw, if_true] at h
     cases hψ : Ψ k with
     | none =>
       simp only [hψ] at h
       obtain ⟨v, hv, hn'⟩ := h
       exact firstP h0 (Region.noSelect_spec hs) hsk hch hn hkn hd l.length listed a E inv (Region.free_spec h0 hf) hr' hE (.inl ⟨hw, hψ, hv⟩) (lexL ht hst hR hs hsk hch hn l (k + 1) _ _ E hl' hk' (inv.set hr' hkn) hB' (unlisted hE (.inl rfl)) hn')
     | some ψ =>
       simp only [hψ] at h
       obtain ⟨hm, hn'⟩ := h
       exact firstM ht hst hR h0 (Region.noSelect_spec hs) hsk hch hn hkn hd l.length listed a E inv (Region.free_spec h0 hf) hr' hE ⟨hw, hψ, hm⟩ (fun v hv => lexL ht hst hR hs hsk hch hn l (k + 1) _ _ _ hl' hk' (inv.set hr' hkn) hB' (unlisted hE (.inr ⟨v, rfl⟩)) (hn' v hv))
   · simp only [hw] at h
     exact firstP h0 (Region.noSelect_spec hs) hsk hch hn hkn hd l.length listed a E inv (Region.free_spec h0 hf) hr' hE (.inr ⟨by simpa using hw, rfl⟩) (lexL ht hst hR hs hsk hch hn l (k + 1) _ _ E hl' hk' (inv.set hr' hkn) hB' (unlisted hE (.inl rfl)) h)
structure Held (p : Prop) : Prop where
 out : p
theorem wpUp_pure {o : Oper} {l : List Oper} {k : Nat} {a : Act} {E : Env} (v : Value) (hw : Region.wanted o (yielded ops a.tmps) = true) (hψ : Ψ k = none)
 (hv : ∀ w, Pre ops md R w0 Ψ k E w → (execOp a.eval o).run P w = .ok (.value v) w) (h : Held (wpUp P ops md R w0 Ψ S Qf l (k + 1) (a.put o.dst v) E)) : Held (wpUp P ops md R w0 Ψ S Qf (o :: l) k a E) := by
 refine ⟨?_⟩
 unfold wpUp
 simp only [hw, if_true, hψ]
 exact ⟨v, fun w hp => .inl (hv w hp), h.out⟩
theorem wpUp_pu {o : Oper} {l : List Oper} {k : Nat} {a : Act} {E : Env} {v : Value} (h : Held (wpUp P ops md R w0 Ψ S Qf l (k + 1) (a.put o.dst v) E)) (hw : Region.wanted o (yielded ops a.tmps) = true := by rfl) (hψ : Ψ k = none := by rfl)
 (hv : ∀ w, Pre ops md R w0 Ψ k E w → (execOp a.eval o).run P w = .ok (.value v) w := by (intro wz hp; clear hp; go_simp; try (with_reducible rfl))) : Held (wpUp P ops md R w0 Ψ S Qf (o :: l) k a E) := wpUp_pure v hw hψ hv h
theorem wpUp_pass {o : Oper} {l : List Oper} {k : Nat} {a : Act} {E : Env} (hw : Region.wanted o (yielded ops a.tmps) = false) (h : Held (wpUp P ops md R w0 Ψ S Qf l (k + 1) (a.put o.dst undef) E)) : Held (wpUp P ops md R w0 Ψ S Qf (o :: l) k a E) := by
 refine ⟨?_⟩
 unfold wpUp
 simp only [hw, Bool.false_eq_true, if_false]
 exact h.out
theorem wpUp_end {k : Nat} {a : Act} {E : Env} (h : Qf a E) : Held (wpUp P ops md R w0 Ψ S Qf [] k a E) := ⟨h⟩
theorem wpUp_call {o : Oper} {l : List Oper} {k : Nat} {a : Act} {E : Env} (ψ : Value → World → Prop) (f : FuncId) (args : Array Value) (hw : Region.wanted o (yielded ops a.tmps) = true) (hψ : Ψ k = some ψ) (hS : S k = false)
 (hv : ∀ w, (execOp a.eval o).run P w = .ok (.enter f args) w) (hc : ∀ w, Pre ops md R w0 Ψ k E w → Calls P f args w fun e w'' => ∃ v, e = .returned v ∧ R w w'' ∧ ψ v w'')
 (h : ∀ v, Sat R w0 Ψ S (setE E k v) → Held (wpUp P ops md R w0 Ψ S Qf l (k + 1) (a.put o.dst v) (setE E k v))) : Held (wpUp P ops md R w0 Ψ S Qf (o :: l) k a E) := by
 refine ⟨?_⟩
 unfold wpUp
 simp only [hw, if_true, hψ]
 refine ⟨fun w hp => ?_, fun v hv => (h v hv).out⟩
 unfold Makes
 rw [hv w]
 exact ⟨hS, rfl, hc w hp⟩
theorem wpUp_make {o : Oper} {l : List Oper} {k : Nat} {a : Act} {E : Env} (ψ : Value → World → Prop) (hw : Region.wanted o (yielded ops a.tmps) = true) (hψ : Ψ k = some ψ)
 (hv : ∀ w, Pre ops md R w0 Ψ k E w → ∃ u w', (execOp a.eval o).run P w = .ok (.value u) w' ∧ R w w' ∧ ψ u w' ∧ (S k = true → ∃ g, u = .pointer (some g) ∧ w.heap.size ≤ g.block ∧ g.block < w'.heap.size))
 (h : ∀ v, Sat R w0 Ψ S (setE E k v) → Held (wpUp P ops md R w0 Ψ S Qf l (k + 1) (a.put o.dst v) (setE E k v))) : Held (wpUp P ops md R w0 Ψ S Qf (o :: l) k a E) := by
 refine ⟨?_⟩
 unfold wpUp
 simp only [hw, if_true, hψ]
 refine ⟨fun w hp => ?_, fun v hv => (h v hv).out⟩
 obtain ⟨u, w', h1, h2, h3, h4⟩ := hv w hp
 unfold Makes
 rw [h1]
 exact ⟨h2, h3, h4⟩
end
open Go.RowKit in
theorem wp_region_tail {P : Program} {id : Nat} {Q : Exit → Act → World → Prop} {a : Act} {w : World} {l : List Oper} (n : Nat) (Ψ : Nat → Option (Value → World → Prop)) (S : Nat → Bool) (hm : P.follows .mixedOrders = true) (hB : Region.lexTailB .any l.toArray n = true)
 (hst : ∀ k ψ, Ψ k = some ψ → ∀ v w w', Below w.heap.size w w' → ψ v w → ψ v w')
 (h : Held (wpUp P l.toArray .any (fun w w' => Below w.heap.size w w') w Ψ S (fun a' E => ∀ w', Below w.heap.size w w' → Facts Ψ S E w' → wpList P l.toArray Q (l.drop n) a' w') (l.take n) 0 a (fun _ => none))) : (Code.region id l.toArray true).wp P Q a w := by
 have ht : ∀ u v w : World, Below u.heap.size u v → Below v.heap.size v w → Below u.heap.size u w := fun u v w h1 h2 => h1.trans (h2.mono h1.size)
 have hR : ∀ u v : World, Below u.heap.size u v → u.heap.size ≤ v.heap.size := fun u v h => h.size
 simp only [Region.lexTailB, Bool.and_eq_true, decide_eq_true_eq] at hB
 obtain ⟨⟨⟨⟨hsel, hn⟩, hs⟩, hc⟩, hlex⟩ := hB
 have hn' : n < l.length := by simpa using hn
 have htl : (l.take n).length = n := by simp; omega
 have hdl : (l.drop n).length = l.toArray.size - n := by simp
 have inv0 : HeadInv .any l.toArray n (Array.replicate l.toArray.size false) :=
  ⟨by simp, fun j oj _ hl => (by rw [getD_replicate_false] at hl; cases hl), fun t _ ht => getD_in (by simpa using ht) (getD_replicate_false _ _)⟩
 have H := lexL (md := .any) (g := l.toArray.size - n) ht hst hR hsel hs hc hn (l.take n) 0 _ a (fun _ => none) (fun j hj => by
  have hj' : j < n := by rw [htl] at hj; exact hj
  simp [hj']) (by simpa using htl) inv0 (by rw [htl]; exact hlex) (fun _ _ => rfl) h.out
 refine wp_region_any hm ?_
 have := soundL (Q := Q) (g := l.toArray.size - n) ht hst hR (fun listed a' E w' h1 h2 hL => by
  have := wpAny_of_seq (md := .any) (Q' := Q) (l.drop n) n listed a' w' (fun j => by simp [List.getElem?_drop]) (by rw [hdl]; exact hL.1) (hL.2 w' h1 h2)
  rwa [hdl] at this) _ _ _ _ { w with drawn := w.drawn + 1 } (Below.refl _ _).drew ⟨fun k v ψ hk _ => (by cases hk), fun k g _ hk => (by cases hk), fun k j g g' _ _ _ hk _ => (by cases hk)⟩ H
 rw [htl, show n + (l.toArray.size - n) = l.toArray.size by omega] at this
 exact this
def tell : List (Nat × (Value → World → Prop)) → Nat → Option (Value → World → Prop)
 | [], _ => none
 | p :: l, i => if i = p.1 then some p.2 else tell l i
open Go.RowKit in
def Steady (ψ : Value → World → Prop) : Prop := ∀ v w w', Below w.heap.size w w' → ψ v w → ψ v w'
open Go.RowKit in
theorem tell_steady : ∀ (l : List (Nat × (Value → World → Prop))), (∀ p ∈ l, Steady p.2) → ∀ k ψ, tell l k = some ψ → ∀ v w w', Below w.heap.size w w' → ψ v w → ψ v w'
 | [], _, k, ψ, hk => by simp [tell] at hk
 | p :: l, h, k, ψ, hk => by
   unfold tell at hk
   by_cases hkp : k = p.1
   · rw [if_pos hkp] at hk; cases hk; exact h p (by simp)
   · rw [if_neg hkp] at hk; exact tell_steady l (fun q hq => h q (by simp [hq])) k ψ hk
end Go.Proofs.YthbldjnpnligpaaDoor.UpT

/-
 A region whose order is left open, in which calls make memory: one walk in the order of the text serves every order, if what each such call makes is told by a fact that stays while the world grows.
-/

namespace Go.Proofs.YthbldjnpnligpaaDoor.Up
set_option linter.unusedSimpArgs false
set_option linter.unusedVariables false
set_option maxRecDepth 100000
open Go
abbrev Env := Nat → Option Value
def setE (E : Env) (i : Nat) (v : Value) : Env := fun k => if k = i then some v else E k
theorem setE_comm (E : Env) {i j : Nat} (u v : Value) (h : j ≠ i) : setE (setE E i v) j u = setE (setE E j u) i v := by
 funext k
 unfold setE
 by_cases h1 : k = j
 · subst h1; simp [h]
 · by_cases h2 : k = i
   · rw [if_neg h1, if_pos h2, if_pos h2]
   · rw [if_neg h1, if_neg h2, if_neg h2, if_neg h1]
section
variable (P : Program) (ops : Array Oper) (md : Region.Mode) (R : World → World → Prop) (w0 : World) (Ψ : Nat → Option (Value → World → Prop)) (Qf : Act → Env → Prop)
def Facts (E : Env) (w : World) : Prop := ∀ k v ψ, E k = some v → Ψ k = some ψ → ψ v w
def Sat (E : Env) : Prop := ∃ w, R w0 w ∧ Facts Ψ E w
def dep (i k : Nat) : Bool := ((ops[i]?).map fun o => o.after.toList.any fun e => Region.binds md e && e.on == k).getD false
def Pre (i : Nat) (E : Env) (w : World) : Prop := R w0 w ∧ ∀ k v ψ, dep ops md i k = true → E k = some v → Ψ k = some ψ → ψ v w
def Pure (o : Oper) (a : Act) (w : World) (v : Value) : Prop := (execOp a.eval o).run P w = .ok (.value v) w ∨ ((execOp a.eval o).run P w = .ok .skip w ∧ v = undef)
def MakesOf (ψ : Value → World → Prop) (w : World) : Result Next → Prop
 | .ok (.value u) w' => R w w' ∧ ψ u w'
 | .ok (.enter f args) w' => w' = w ∧ Calls P f args w fun e w'' => ∃ v, e = .returned v ∧ R w w'' ∧ ψ v w''
 | _ => False
def Makes (o : Oper) (a : Act) (w : World) (ψ : Value → World → Prop) : Prop := MakesOf P R ψ w ((execOp a.eval o).run P w)
def op (i : Nat) (next : Act → Env → Prop) (a : Act) (E : Env) : Prop :=
 match ops[i]? with
 | none => next a E
 | some o => if Region.wanted o (yielded ops a.tmps) = true then
    match Ψ i with
    | none => ∃ v, (∀ w, Pre ops md R w0 Ψ i E w → Pure P o a w v) ∧ next (a.put o.dst v) E
    | some ψ => (∀ w, Pre ops md R w0 Ψ i E w → Makes P R o a w ψ) ∧ ∀ v, Sat R w0 Ψ (setE E i v) → next (a.put o.dst v) (setE E i v)
   else next (a.put o.dst undef) E
def anyU : Nat → Array Bool → Act → Env → Prop
 | 0, listed, a, E => Sat R w0 Ψ E → Region.ready md ops listed = [] ∧ Qf a E
 | fuel + 1, listed, a, E => Sat R w0 Ψ E → (Region.ready md ops listed = [] → Qf a E) ∧ ∀ i ∈ Region.ready md ops listed, op P ops md R w0 Ψ i (anyU fuel (listed.setIfInBounds i true)) a E
def wpUp : List Oper → Nat → Act → Env → Prop
 | [], _, a, E => Qf a E
 | o :: l, k, a, E => if Region.wanted o (yielded ops a.tmps) = true then
     match Ψ k with
     | none => ∃ v, (∀ w, Pre ops md R w0 Ψ k E w → Pure P o a w v) ∧ wpUp l (k + 1) (a.put o.dst v) E
     | some ψ => (∀ w, Pre ops md R w0 Ψ k E w → Makes P R o a w ψ) ∧ ∀ v, Sat R w0 Ψ (setE E k v) → wpUp l (k + 1) (a.put o.dst v) (setE E k v)
   else wpUp l (k + 1) (a.put o.dst undef) E
end
section
variable {P : Program} {ops : Array Oper} {md : Region.Mode} {R : World → World → Prop} {w0 : World} {Ψ : Nat → Option (Value → World → Prop)} {Qf : Act → Env → Prop}
theorem Pure.one {o : Oper} {a : Act} {w : World} {u v : Value} (h : Pure P o a w u) (k : Pure P o a w v) : u = v := by
 rcases h with h | ⟨h, rfl⟩ <;> rcases k with k | ⟨k, rfl⟩ <;> rw [h] at k <;> simp at k
 all_goals first | exact k | rfl
theorem op_more {j : Nat} {K K' : Act → Env → Prop} {a : Act} {E : Env} (h : ∀ a' E', (E' = E ∨ ∃ u, E' = setE E j u) → K a' E' → K' a' E') (hh : op P ops md R w0 Ψ j K a E) : op P ops md R w0 Ψ j K' a E := by
 unfold op at *
 split
 · rename_i ho; simp only [ho] at hh; exact h _ _ (.inl rfl) hh
 · rename_i o ho
   simp only [ho] at hh
   split
   · rename_i hw
     simp only [hw, if_true] at hh
     split
     · rename_i hψ
       simp only [hψ] at hh
       obtain ⟨v, h1, h2⟩ := hh
       exact ⟨v, h1, h _ _ (.inl rfl) h2⟩
     · rename_i ψ hψ
       simp only [hψ] at hh
       exact ⟨hh.1, fun v hv => h _ _ (.inr ⟨v, rfl⟩) (hh.2 v hv)⟩
   · rename_i hw
     simp only [hw] at hh
     exact h _ _ (.inl rfl) hh
theorem pre_of {i : Nat} {E : Env} {w : World} (h1 : R w0 w) (h2 : Facts Ψ E w) : Pre ops md R w0 Ψ i E w := ⟨h1, fun k v ψ _ hE hψ => h2 k v ψ hE hψ⟩
theorem pre_less {i : Nat} {E E' : Env} {w : World} (hs : ∀ k v, E k = some v → E' k = some v) (h : Pre ops md R w0 Ψ i E' w) : Pre ops md R w0 Ψ i E w :=
 ⟨h.1, fun k v ψ hd hE hψ => h.2 k v ψ hd (hs k v hE) hψ⟩
theorem facts_less {E E' : Env} {w : World} (hs : ∀ k v, E k = some v → E' k = some v) (h : Facts Ψ E' w) : Facts Ψ E w := fun k v ψ hE hψ => h k v ψ (hs k v hE) hψ
theorem less_set {E : Env} {i : Nat} {v : Value} (h : E i = none) : ∀ k u, E k = some u → setE E i v k = some u := by
 intro k u hk
 unfold setE
 by_cases hki : k = i
 · subst hki; rw [h] at hk; cases hk
 · rw [if_neg hki]; exact hk
theorem makes_sat (ht : ∀ u v w, R u v → R v w → R u w) (hst : ∀ k ψ, Ψ k = some ψ → ∀ v w w', R w w' → ψ v w → ψ v w') {i : Nat} {o : Oper} {a : Act} {E : Env} {w : World} {ψ : Value → World → Prop} (hi : E i = none)
 (hψ : Ψ i = some ψ) (h1 : R w0 w) (h2 : Facts Ψ E w) (h : Makes P R o a w ψ) : ∃ v, Sat R w0 Ψ (setE E i v) := by
 have fin : ∀ v w', R w w' → ψ v w' → Sat R w0 Ψ (setE E i v) := fun v w' hr hv => by
  refine ⟨w', ht _ _ _ h1 hr, fun k u ψ' hk hψ' => ?_⟩
  unfold setE at hk
  by_cases hki : k = i
  · subst hki
    rw [if_pos rfl] at hk
    rw [hψ] at hψ'
    cases hk; cases hψ'
    exact hv
  · rw [if_neg hki] at hk
    exact hst k ψ' hψ' u w w' hr (h2 k u ψ' hk hψ')
 unfold Makes at h
 generalize (execOp a.eval o).run P w = r at h
 cases r with
 | ok n w' =>
   cases n <;> simp only [MakesOf] at h
   case value u => exact ⟨u, fin u w' h.1 h.2⟩
   case enter f args =>
    obtain ⟨e, w'', _, ⟨v, _, hr, hv⟩, _⟩ := h.2 []
    exact ⟨v, fin v w'' hr hv⟩
 | halt x w' => simp only [MakesOf] at h
def YP (P : Program) (ops : Array Oper) (md : Region.Mode) (R : World → World → Prop) (w0 : World) (Ψ : Nat → Option (Value → World → Prop)) (i : Nat) (o : Oper) (v : Value) (a : Act) (E : Env) : Prop :=
 (Region.wanted o (yielded ops a.tmps) = true ∧ Ψ i = none ∧ ∀ w, Pre ops md R w0 Ψ i E w → Pure P o a w v) ∨ (Region.wanted o (yielded ops a.tmps) = false ∧ v = undef)
def YM (P : Program) (ops : Array Oper) (md : Region.Mode) (R : World → World → Prop) (w0 : World) (Ψ : Nat → Option (Value → World → Prop)) (i : Nat) (o : Oper) (ψ : Value → World → Prop) (a : Act) (E : Env) : Prop :=
 Region.wanted o (yielded ops a.tmps) = true ∧ Ψ i = some ψ ∧ ∀ w, Pre ops md R w0 Ψ i E w → Makes P R o a w ψ
theorem YP.keep {i : Nat} {oi : Oper} {d : Option Tmp} (hsi : ∀ cs b, oi.op ≠ .select cs b) (h3 : ∀ t, d = some t → t ∉ oi.looksAt ops) {v : Value} {a : Act} {E E' : Env} (u : Value) (hs : ∀ k x, E k = some x → E' k = some x)
 (h : YP P ops md R w0 Ψ i oi v a E) : YP P ops md R w0 Ψ i oi v (a.put d u) E' := by
 unfold YP Pure at *
 rw [wanted_put oi a d u h3, execOp_put oi hsi a d u h3]
 rcases h with ⟨x, y, z⟩ | h
 · exact .inl ⟨x, y, fun w hw => z w (pre_less hs hw)⟩
 · exact .inr h
theorem YM.keep {i : Nat} {oi : Oper} {d : Option Tmp} (hsi : ∀ cs b, oi.op ≠ .select cs b) (h3 : ∀ t, d = some t → t ∉ oi.looksAt ops) {ψ : Value → World → Prop} {a : Act} {E E' : Env} (u : Value) (hs : ∀ k x, E k = some x → E' k = some x)
 (h : YM P ops md R w0 Ψ i oi ψ a E) : YM P ops md R w0 Ψ i oi ψ (a.put d u) E' := by
 unfold YM Makes at *
 rw [wanted_put oi a d u h3, execOp_put oi hsi a d u h3]
 exact ⟨h.1, h.2.1, fun w hw => h.2.2 w (pre_less hs hw)⟩
theorem op_putP {i j : Nat} {oi oj : Oper} {v : Value} (hj : ops[j]? = some oj) (hap : oi.apart ops oj = true) (hsi : ∀ cs b, oi.op ≠ .select cs b) (hsj : ∀ cs b, oj.op ≠ .select cs b) {N : Act → Env → Prop} {a : Act} {E : Env}
 (hE : E j = none) (hy : YP P ops md R w0 Ψ i oi v a E) (h : op P ops md R w0 Ψ j N (a.put oi.dst v) E) :
 op P ops md R w0 Ψ j (fun a' E' => YP P ops md R w0 Ψ i oi v a' E' ∧ N (a'.put oi.dst v) E') a E := by
 obtain ⟨h1, h2, h3⟩ := Oper.apart_spec hap
 unfold op at *
 simp only [hj] at *
 rw [wanted_put oj a oi.dst v h1] at h
 split
 · rename_i hw
   simp only [hw, if_true] at h
   split
   · rename_i hψ
     simp only [hψ] at h
     obtain ⟨u, hu, hn⟩ := h
     unfold Pure at *
     rw [execOp_put oj hsj a oi.dst v h1] at hu
     exact ⟨u, hu, hy.keep hsi h3 u (fun _ _ h => h), by rw [← Act.put_comm a v u h2]; exact hn⟩
   · rename_i ψ hψ
     simp only [hψ] at h
     obtain ⟨hm, hn⟩ := h
     unfold Makes at *
     rw [execOp_put oj hsj a oi.dst v h1] at hm
     exact ⟨hm, fun u hu => ⟨hy.keep hsi h3 u (less_set hE), by rw [← Act.put_comm a v u h2]; exact hn u hu⟩⟩
 · rename_i hw
   simp only [hw] at h
   exact ⟨hy.keep hsi h3 _ (fun _ _ h => h), by rw [← Act.put_comm a v undef h2]; exact h⟩
theorem op_putM (ht : ∀ u v w, R u v → R v w → R u w) (hst : ∀ k ψ, Ψ k = some ψ → ∀ v w w', R w w' → ψ v w → ψ v w') {i j : Nat} {oi oj : Oper} {ψi : Value → World → Prop} (hj : ops[j]? = some oj) (hap : oi.apart ops oj = true)
 (hsi : ∀ cs b, oi.op ≠ .select cs b) (hsj : ∀ cs b, oj.op ≠ .select cs b) {N : Act → Env → Prop} {a : Act} {E : Env}
 (hij : j ≠ i) (hE : E j = none) (hEi : E i = none) (hdep : dep ops md j i = false) (hsat : Sat R w0 Ψ E) (hy : YM P ops md R w0 Ψ i oi ψi a E)
 (h : ∀ v, Sat R w0 Ψ (setE E i v) → op P ops md R w0 Ψ j N (a.put oi.dst v) (setE E i v)) :
 op P ops md R w0 Ψ j (fun a' E' => YM P ops md R w0 Ψ i oi ψi a' E' ∧ ∀ v, Sat R w0 Ψ (setE E' i v) → N (a'.put oi.dst v) (setE E' i v)) a E := by
 obtain ⟨h1, h2, h3⟩ := Oper.apart_spec hap
 obtain ⟨ws, hws, hfs⟩ := hsat
 obtain ⟨v0, hv0⟩ := makes_sat ht hst hEi hy.2.1 hws hfs (hy.2.2 ws (pre_of hws hfs))
 have hpre : ∀ v w, Pre ops md R w0 Ψ j E w → Pre ops md R w0 Ψ j (setE E i v) w := fun v w hp => by
  refine ⟨hp.1, fun k x ψ hd hk hψ => ?_⟩
  unfold setE at hk
  by_cases hki : k = i
  · subst hki; rw [hdep] at hd; cases hd
  · rw [if_neg hki] at hk; exact hp.2 k x ψ hd hk hψ
 have hw0 : ∀ v, Region.wanted oj (yielded ops (a.put oi.dst v).tmps) = Region.wanted oj (yielded ops a.tmps) := fun v => wanted_put oj a oi.dst v h1
 unfold op at *
 simp only [hj, hw0] at *
 split
 · rename_i hw
   simp only [hw, if_true] at h
   split
   · rename_i hψ
     simp only [hψ] at h
     obtain ⟨u, hu, _⟩ := h v0 hv0
     unfold Pure at hu
     rw [execOp_put oj hsj a oi.dst v0 h1] at hu
     have hu' : ∀ w, Pre ops md R w0 Ψ j E w → Pure P oj a w u := fun w hp => hu w (hpre v0 w hp)
     refine ⟨u, hu', hy.keep hsi h3 u (fun _ _ h => h), fun v hv => ?_⟩
     obtain ⟨x, hx, hn⟩ := h v hv
     unfold Pure at hx
     rw [execOp_put oj hsj a oi.dst v h1] at hx
     have hxu : x = u := Pure.one (hx ws (hpre v ws (pre_of hws hfs))) (hu' ws (pre_of hws hfs))
     subst hxu
     rw [← Act.put_comm a v x h2]; exact hn
   · rename_i ψ hψ
     simp only [hψ] at h
     have hm := (h v0 hv0).1
     unfold Makes at hm
     rw [execOp_put oj hsj a oi.dst v0 h1] at hm
     refine ⟨fun w hp => hm w (hpre v0 w hp), fun u hu => ⟨hy.keep hsi h3 u (less_set hE), fun v hv => ?_⟩⟩
     have hle : ∀ k x, setE E i v k = some x → setE (setE E j u) i v k = some x := by
        rw [← setE_comm E u v hij]
        refine less_set ?_
        unfold setE; rw [if_neg hij]; exact hE
     have hs1 : Sat R w0 Ψ (setE E i v) := by
        obtain ⟨w, x, y⟩ := hv
        exact ⟨w, x, facts_less hle y⟩
     rw [← Act.put_comm a v u h2, ← setE_comm E u v hij]
     exact (h v hs1).2 u (by rw [setE_comm E u v hij]; exact hv)
 · rename_i hw
   simp only [hw] at h
   refine ⟨hy.keep hsi h3 _ (fun _ _ h => h), fun v hv => ?_⟩
   rw [← Act.put_comm a v undef h2]; exact h v hv
theorem unlisted {listed : Array Bool} {E E' : Env} {j : Nat} (hE : ∀ k, listed.getD k true = false → E k = none) (hE' : E' = E ∨ ∃ u, E' = setE E j u) : ∀ k, (listed.setIfInBounds j true).getD k true = false → E' k = none := by
 intro k hk
 by_cases hjk : j = k
 · subst hjk
   exfalso
   by_cases hlt : j < listed.size <;> simp [hlt] at hk
 · rw [getD_set_ne true hjk] at hk
   rcases hE' with rfl | ⟨u, rfl⟩
   · exact hE k hk
   · unfold setE; rw [if_neg (Ne.symm hjk)]; exact hE k hk
theorem not_waits {i j : Nat} {oj : Oper} {listed : Array Bool} (hr : i ∈ Region.ready md ops listed) (hj : j ∈ Region.ready md ops listed) (hoj : ops[j]? = some oj) : ∀ e ∈ oj.after, Region.binds md e = true → e.on ≠ i := by
 intro e he hb heq
 obtain ⟨_, o, ho, hall⟩ := mem_ready.1 hj
 rw [hoj] at ho; cases ho
 have h1 := hall e he hb
 have h0 := (mem_ready.1 hr).1
 rw [heq] at h1
 rcases Nat.lt_or_ge i listed.size with h' | h'
 · simp [h'] at h0 h1; rw [h0] at h1; cases h1
 · simp [Array.getElem?_eq_none h'] at h1
theorem firstP {i : Nat} {oi : Oper} {v : Value} (hi : ops[i]? = some oi) (hsel : ∀ (j : Nat) (o : Oper) cs b, ops[j]? = some o → o.op ≠ .select cs b) :
 ∀ (fuel : Nat) (listed : Array Bool) (a : Act) (E : Env),
   (∀ j oj, ops[j]? = some oj → j ≠ i → listed.getD j true = false → (∀ e ∈ oj.after, Region.binds md e = true → e.on ≠ i) → oi.apart ops oj = true) →
   i ∈ Region.ready md ops listed → (∀ k, listed.getD k true = false → E k = none) → YP P ops md R w0 Ψ i oi v a E →
   anyU P ops md R w0 Ψ Qf fuel (listed.setIfInBounds i true) (a.put oi.dst v) E → anyU P ops md R w0 Ψ Qf (fuel + 1) listed a E := by
 have here : ∀ (K : Act → Env → Prop) (a : Act) (E : Env), YP P ops md R w0 Ψ i oi v a E → K (a.put oi.dst v) E → op P ops md R w0 Ψ i K a E := by
  intro K a E hy hK
  unfold op
  simp only [hi]
  rcases hy with ⟨hw, hψ, hv⟩ | ⟨hw, rfl⟩
  · simp only [hw, if_true, hψ]; exact ⟨v, hv, hK⟩
  · simp only [hw, Bool.false_eq_true, if_false]; exact hK
 intro fuel
 induction fuel with
 | zero =>
   intro listed a E _ hr _ hy H hs
   refine ⟨fun h => (by rw [h] at hr; cases hr), fun j hj => ?_⟩
   by_cases hji : j = i
   · subst hji; exact here _ _ _ hy H
   · have := ready_mono hj hji
     rw [(H hs).1] at this
     cases this
 | succ fuel ih =>
   intro listed a E hfree hr hE hy H hs
   refine ⟨fun h => (by rw [h] at hr; cases hr), fun j hj => ?_⟩
   by_cases hji : j = i
   · subst hji; exact here _ _ _ hy H
   · have h1 := (H hs).2 j (ready_mono hj hji)
     obtain ⟨hjun, oj, hoj, hall⟩ := mem_ready.1 hj
     have h2 := op_putP hoj (hfree j oj hoj hji hjun (not_waits hr hj hoj)) (fun cs b => hsel i oi cs b hi) (fun cs b => hsel j oj cs b hoj) (hE j hjun) hy h1
     have hfree' : ∀ k ok, ops[k]? = some ok → k ≠ i → (listed.setIfInBounds j true).getD k true = false →
      (∀ e ∈ ok.after, Region.binds md e = true → e.on ≠ i) → oi.apart ops ok = true := fun k ok hk hki hun hno => by
        refine hfree k ok hk hki ?_ hno
        by_cases hjk : j = k
        · subst hjk; exact hjun
        · rw [getD_set_ne true hjk] at hun; exact hun
     refine op_more (fun a' E' hE' h3 => ih (listed.setIfInBounds j true) a' E' hfree' (ready_mono hr (Ne.symm hji)) (unlisted hE hE') h3.1 ?_) h2
     rw [Array.setIfInBounds_comm _ _ hji]
     exact h3.2
theorem firstM (ht : ∀ u v w, R u v → R v w → R u w) (hst : ∀ k ψ, Ψ k = some ψ → ∀ v w w', R w w' → ψ v w → ψ v w') {i : Nat} {oi : Oper} {ψi : Value → World → Prop} (hi : ops[i]? = some oi)
 (hsel : ∀ (j : Nat) (o : Oper) cs b, ops[j]? = some o → o.op ≠ .select cs b) :
 ∀ (fuel : Nat) (listed : Array Bool) (a : Act) (E : Env),
   (∀ j oj, ops[j]? = some oj → j ≠ i → listed.getD j true = false → (∀ e ∈ oj.after, Region.binds md e = true → e.on ≠ i) → oi.apart ops oj = true) →
   i ∈ Region.ready md ops listed → (∀ k, listed.getD k true = false → E k = none) → YM P ops md R w0 Ψ i oi ψi a E →
   (∀ v, Sat R w0 Ψ (setE E i v) → anyU P ops md R w0 Ψ Qf fuel (listed.setIfInBounds i true) (a.put oi.dst v) (setE E i v)) → anyU P ops md R w0 Ψ Qf (fuel + 1) listed a E := by
 have here : ∀ (K : Act → Env → Prop) (a : Act) (E : Env), YM P ops md R w0 Ψ i oi ψi a E → (∀ v, Sat R w0 Ψ (setE E i v) → K (a.put oi.dst v) (setE E i v)) → op P ops md R w0 Ψ i K a E := by
  intro K a E hy hK
  unfold op
  obtain ⟨hw, hψ, hv⟩ := hy
  simp only [hi, hw, if_true, hψ]
  exact ⟨hv, hK⟩
 intro fuel
 induction fuel with
 | zero =>
   intro listed a E _ hr hE hy H hs
   refine ⟨fun h => (by rw [h] at hr; cases hr), fun j hj => ?_⟩
   by_cases hji : j = i
   · subst hji; exact here _ _ _ hy H
   · have := ready_mono hj hji
     obtain ⟨ws, hws, hfs⟩ := hs
     obtain ⟨v0, hv0⟩ := makes_sat ht hst (hE i (mem_ready.1 hr).1) hy.2.1 hws hfs (hy.2.2 ws (pre_of hws hfs))
     rw [(H v0 hv0 hv0).1] at this
     cases this
 | succ fuel ih =>
   intro listed a E hfree hr hE hy H hs
   refine ⟨fun h => (by rw [h] at hr; cases hr), fun j hj => ?_⟩
   by_cases hji : j = i
   · subst hji; exact here _ _ _ hy H
   · obtain ⟨hjun, oj, hoj, hall⟩ := mem_ready.1 hj
     have hnw := not_waits hr hj hoj
     have hdep : dep ops md j i = false := by
        unfold dep
        simp only [hoj, Option.map_some, Option.getD_some]
        rw [List.any_eq_false]
        intro e he hb
        simp only [Bool.and_eq_true, beq_iff_eq] at hb
        exact hnw e (by simpa using he) hb.1 hb.2
     have h2 := op_putM (N := anyU P ops md R w0 Ψ Qf fuel ((listed.setIfInBounds i true).setIfInBounds j true)) ht hst hoj (hfree j oj hoj hji hjun hnw) (fun cs b => hsel i oi cs b hi) (fun cs b => hsel j oj cs b hoj) hji (hE j hjun) (hE i (mem_ready.1 hr).1) hdep hs hy
        (fun v hv => (H v hv hv).2 j (ready_mono hj hji))
     have hfree' : ∀ k ok, ops[k]? = some ok → k ≠ i → (listed.setIfInBounds j true).getD k true = false →
      (∀ e ∈ ok.after, Region.binds md e = true → e.on ≠ i) → oi.apart ops ok = true := fun k ok hk hki hun hno => by
        refine hfree k ok hk hki ?_ hno
        by_cases hjk : j = k
        · subst hjk; exact hjun
        · rw [getD_set_ne true hjk] at hun; exact hun
     refine op_more (fun a' E' hE' h3 => ih (listed.setIfInBounds j true) a' E' hfree' (ready_mono hr (Ne.symm hji)) (unlisted hE hE') h3.1 ?_) h2
     rw [Array.setIfInBounds_comm _ _ hji]
     exact h3.2
structure Held (p : Prop) : Prop where
 out : p
theorem wpUp_pure {o : Oper} {l : List Oper} {k : Nat} {a : Act} {E : Env} (v : Value) (hw : Region.wanted o (yielded ops a.tmps) = true) (hψ : Ψ k = none)
 (hv : ∀ w, Pre ops md R w0 Ψ k E w → (execOp a.eval o).run P w = .ok (.value v) w) (h : Held (wpUp P ops md R w0 Ψ Qf l (k + 1) (a.put o.dst v) E)) : Held (wpUp P ops md R w0 Ψ Qf (o :: l) k a E) := by
 refine ⟨?_⟩
 unfold wpUp
 simp only [hw, if_true, hψ]
 exact ⟨v, fun w hp => .inl (hv w hp), h.out⟩
theorem wpUp_pass {o : Oper} {l : List Oper} {k : Nat} {a : Act} {E : Env} (hw : Region.wanted o (yielded ops a.tmps) = false) (h : Held (wpUp P ops md R w0 Ψ Qf l (k + 1) (a.put o.dst undef) E)) : Held (wpUp P ops md R w0 Ψ Qf (o :: l) k a E) := by
 refine ⟨?_⟩
 unfold wpUp
 simp only [hw, Bool.false_eq_true, if_false]
 exact h.out
theorem wpUp_end {k : Nat} {a : Act} {E : Env} (h : Qf a E) : Held (wpUp P ops md R w0 Ψ Qf [] k a E) := ⟨h⟩
theorem wpUp_call {o : Oper} {l : List Oper} {k : Nat} {a : Act} {E : Env} (ψ : Value → World → Prop) (f : FuncId) (args : Array Value) (hw : Region.wanted o (yielded ops a.tmps) = true) (hψ : Ψ k = some ψ)
 (hv : ∀ w, (execOp a.eval o).run P w = .ok (.enter f args) w) (hc : ∀ w, Pre ops md R w0 Ψ k E w → Calls P f args w fun e w'' => ∃ v, e = .returned v ∧ R w w'' ∧ ψ v w'')
 (h : ∀ v, Sat R w0 Ψ (setE E k v) → Held (wpUp P ops md R w0 Ψ Qf l (k + 1) (a.put o.dst v) (setE E k v))) : Held (wpUp P ops md R w0 Ψ Qf (o :: l) k a E) := by
 refine ⟨?_⟩
 unfold wpUp
 simp only [hw, if_true, hψ]
 refine ⟨fun w hp => ?_, fun v hv => (h v hv).out⟩
 unfold Makes
 rw [hv w]
 exact ⟨rfl, hc w hp⟩
end
def tell : List (Nat × (Value → World → Prop)) → Nat → Option (Value → World → Prop)
 | [], _ => none
 | p :: l, i => if i = p.1 then some p.2 else tell l i
open Go.RowKit in
def Steady (ψ : Value → World → Prop) : Prop := ∀ v w w', Below w.heap.size w w' → ψ v w → ψ v w'
open Go.RowKit in
theorem tell_steady : ∀ (l : List (Nat × (Value → World → Prop))), (∀ p ∈ l, Steady p.2) → ∀ k ψ, tell l k = some ψ → ∀ v w w', Below w.heap.size w w' → ψ v w → ψ v w'
 | [], _, k, ψ, hk => by simp [tell] at hk
 | p :: l, h, k, ψ, hk => by
   unfold tell at hk
   by_cases hkp : k = p.1
   · rw [if_pos hkp] at hk; cases hk; exact h p (by simp)
   · rw [if_neg hkp] at hk; exact tell_steady l (fun q hq => h q (by simp [hq])) k ψ hk
end Go.Proofs.YthbldjnpnligpaaDoor.Up

/-
 What calls within a region that draws are told to hand back.
-/

namespace Go.Proofs.YthbldjnpnligpaaDoor
set_option linter.unusedSimpArgs false
set_option linter.unusedVariables false
set_option maxRecDepth 100000
open Go.RowKit
def isV (x : Value) : Value → World → Prop := fun v _ => v = x
theorem isV_steady (x : Value) : Up.Steady (isV x) := fun v w w' hb h => h
def slB (n : Nat) (xs : List Int) : Value → World → Prop := fun v w => ∃ a c, v = .slice a n c ∧ Bs w a c xs
theorem slB_steady (n : Nat) (xs : List Int) : Up.Steady (slB n xs) := fun v w w' hb ⟨a, c, h1, h2⟩ => ⟨a, c, h1, h2.stays hb⟩
theorem calls_isV {P : Program} {f : FuncId} {args : Array Value} {w : World} {x : Value} (h : Calls P f args w fun e w' => e = .returned x ∧ Below w.heap.size w w') :
 Calls P f args w fun e w' => ∃ v, e = .returned v ∧ Below w.heap.size w w' ∧ isV x v w' := h.mono fun e w' ⟨h1, h2⟩ => ⟨_, h1, h2, rfl⟩
theorem calls_slB {P : Program} {f : FuncId} {args : Array Value} {w : World} {n : Nat} {xs : List Int} (h : Calls P f args w fun e w' => ∃ a c, e = .returned (.slice a n c) ∧ Bs w' a c xs ∧ Below w.heap.size w w') :
 Calls P f args w fun e w' => ∃ v, e = .returned v ∧ Below w.heap.size w w' ∧ slB n xs v w' := h.mono fun e w' ⟨a, c, h1, h2, h3⟩ => ⟨_, h1, h3, a, c, rfl, h2⟩
end Go.Proofs.YthbldjnpnligpaaDoor
