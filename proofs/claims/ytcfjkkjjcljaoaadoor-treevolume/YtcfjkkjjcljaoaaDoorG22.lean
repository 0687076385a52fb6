/-
  A region whose order is left open, in which calls make memory: one walk in the order of the text serves every order, if what each such call makes is told by a fact that stays while the world grows.
-/
import Derived.Test.YtcfjkkjjcljaoaaDoorG01
import Derived.Test.YtcfjkkjjcljaoaaDoorG10
import Derived.Deep.Quiet
import Derived.Below
import Derived.Laws.Closers25b
namespace Go.Proofs.YtcfjkkjjcljaoaaDoor.Up
set_option linter.unusedSimpArgs false
set_option linter.unusedVariables false
set_option maxRecDepth 100000
open Go

/-- What the calls carried out so far have handed back, by their places in the region. -/
abbrev Env := Nat → Option Value
def setE (E : Env) (i : Nat) (v : Value) : Env := fun k => if k = i then some v else E k

theorem setE_comm (E : Env) {i j : Nat} (u v : Value) (h : j ≠ i) : setE (setE E i v) j u = setE (setE E j u) i v := by
  funext k
  unfold setE
  by_cases h1 : k = j
  · subst h1; simp [h]
  · by_cases h2 : k = i
    · rw [if_neg h1, if_pos h2, if_pos h2]
    · rw [if_neg h1, if_neg h2, if_neg h2, if_neg h1]

section
variable (P : Program) (ops : Array Oper) (md : Region.Mode) (R : World → World → Prop) (w0 : World) (Ψ : Nat → Option (Value → World → Prop)) (Qf : Act → Env → Prop)

def Facts (E : Env) (w : World) : Prop := ∀ k v ψ, E k = some v → Ψ k = some ψ → ψ v w
def Sat (E : Env) : Prop := ∃ w, R w0 w ∧ Facts Ψ E w
def dep (i k : Nat) : Bool := ((ops[i]?).map fun o => o.after.toList.any fun e => Region.binds md e && e.on == k).getD false
def Pre (i : Nat) (E : Env) (w : World) : Prop := R w0 w ∧ ∀ k v ψ, dep ops md i k = true → E k = some v → Ψ k = some ψ → ψ v w

def Pure (o : Oper) (a : Act) (w : World) (v : Value) : Prop := (execOp a.eval o).run P w = .ok (.value v) w ∨ ((execOp a.eval o).run P w = .ok .skip w ∧ v = undef)
def MakesOf (ψ : Value → World → Prop) (w : World) : Result Next → Prop
  | .ok (.value u) w' => R w w' ∧ ψ u w'
  | .ok (.enter f args) w' => w' = w ∧ Calls P f args w fun e w'' => ∃ v, e = .returned v ∧ R w w'' ∧ ψ v w''
  | _ => False
def Makes (o : Oper) (a : Act) (w : World) (ψ : Value → World → Prop) : Prop := MakesOf P R ψ w ((execOp a.eval o).run P w)

/-- Operation number i comes up. -/
def op (i : Nat) (next : Act → Env → Prop) (a : Act) (E : Env) : Prop :=
  match ops[i]? with
  | none => next a E
  | some o => if Region.wanted o (yielded ops a.tmps) = true then
      match Ψ i with
      | none => ∃ v, (∀ w, Pre ops md R w0 Ψ i E w → Pure P o a w v) ∧ next (a.put o.dst v) E
      | some ψ => (∀ w, Pre ops md R w0 Ψ i E w → Makes P R o a w ψ) ∧ ∀ v, Sat R w0 Ψ (setE E i v) → next (a.put o.dst v) (setE E i v)
    else next (a.put o.dst undef) E

/-- Whatever order is picked from here on. -/
def anyU : Nat → Array Bool → Act → Env → Prop
  | 0, listed, a, E => Sat R w0 Ψ E → Region.ready md ops listed = [] ∧ Qf a E
  | fuel + 1, listed, a, E => Sat R w0 Ψ E → (Region.ready md ops listed = [] → Qf a E) ∧ ∀ i ∈ Region.ready md ops listed, op P ops md R w0 Ψ i (anyU fuel (listed.setIfInBounds i true)) a E

/-- The walk in the order of the text. -/
def wpUp : List Oper → Nat → Act → Env → Prop
  | [], _, a, E => Qf a E
  | o :: l, k, a, E => if Region.wanted o (yielded ops a.tmps) = true then
      match Ψ k with
      | none => ∃ v, (∀ w, Pre ops md R w0 Ψ k E w → Pure P o a w v) ∧ wpUp l (k + 1) (a.put o.dst v) E
      | some ψ => (∀ w, Pre ops md R w0 Ψ k E w → Makes P R o a w ψ) ∧ ∀ v, Sat R w0 Ψ (setE E k v) → wpUp l (k + 1) (a.put o.dst v) (setE E k v)
    else wpUp l (k + 1) (a.put o.dst undef) E
end

section
variable {P : Program} {ops : Array Oper} {md : Region.Mode} {R : World → World → Prop} {w0 : World} {Ψ : Nat → Option (Value → World → Prop)} {Qf : Act → Env → Prop}

theorem Pure.one {o : Oper} {a : Act} {w : World} {u v : Value} (h : Pure P o a w u) (k : Pure P o a w v) : u = v := by
  rcases h with h | ⟨h, rfl⟩ <;> rcases k with k | ⟨k, rfl⟩ <;> rw [h] at k <;> simp at k
  all_goals first | exact k | rfl

theorem op_more {j : Nat} {K K' : Act → Env → Prop} {a : Act} {E : Env} (h : ∀ a' E', (E' = E ∨ ∃ u, E' = setE E j u) → K a' E' → K' a' E') (hh : op P ops md R w0 Ψ j K a E) : op P ops md R w0 Ψ j K' a E := by
  unfold op at *
  split
  · rename_i ho; simp only [ho] at hh; exact h _ _ (.inl rfl) hh
  · rename_i o ho
    simp only [ho] at hh
    split
    · rename_i hw
      simp only [hw, if_true] at hh
      split
      · rename_i hψ
        simp only [hψ] at hh
        obtain ⟨v, h1, h2⟩ := hh
        exact ⟨v, h1, h _ _ (.inl rfl) h2⟩
      · rename_i ψ hψ
        simp only [hψ] at hh
        exact ⟨hh.1, fun v hv => h _ _ (.inr ⟨v, rfl⟩) (hh.2 v hv)⟩
    · rename_i hw
      simp only [hw] at hh
      exact h _ _ (.inl rfl) hh

theorem pre_of {i : Nat} {E : Env} {w : World} (h1 : R w0 w) (h2 : Facts Ψ E w) : Pre ops md R w0 Ψ i E w := ⟨h1, fun k v ψ _ hE hψ => h2 k v ψ hE hψ⟩
theorem pre_less {i : Nat} {E E' : Env} {w : World} (hs : ∀ k v, E k = some v → E' k = some v) (h : Pre ops md R w0 Ψ i E' w) : Pre ops md R w0 Ψ i E w :=
  ⟨h.1, fun k v ψ hd hE hψ => h.2 k v ψ hd (hs k v hE) hψ⟩
theorem facts_less {E E' : Env} {w : World} (hs : ∀ k v, E k = some v → E' k = some v) (h : Facts Ψ E' w) : Facts Ψ E w := fun k v ψ hE hψ => h k v ψ (hs k v hE) hψ
theorem less_set {E : Env} {i : Nat} {v : Value} (h : E i = none) : ∀ k u, E k = some u → setE E i v k = some u := by
  intro k u hk
  unfold setE
  by_cases hki : k = i
  · subst hki; rw [h] at hk; cases hk
  · rw [if_neg hki]; exact hk

theorem makes_sat (ht : ∀ u v w, R u v → R v w → R u w) (hst : ∀ k ψ, Ψ k = some ψ → ∀ v w w', R w w' → ψ v w → ψ v w') {i : Nat} {o : Oper} {a : Act} {E : Env} {w : World} {ψ : Value → World → Prop} (hi : E i = none)
    (hψ : Ψ i = some ψ) (h1 : R w0 w) (h2 : Facts Ψ E w) (h : Makes P R o a w ψ) : ∃ v, Sat R w0 Ψ (setE E i v) := by
  have fin : ∀ v w', R w w' → ψ v w' → Sat R w0 Ψ (setE E i v) := fun v w' hr hv => by
    refine ⟨w', ht _ _ _ h1 hr, fun k u ψ' hk hψ' => ?_⟩
    unfold setE at hk
    by_cases hki : k = i
    · subst hki
      rw [if_pos rfl] at hk
      rw [hψ] at hψ'
      cases hk; cases hψ'
      exact hv
    · rw [if_neg hki] at hk
      exact hst k ψ' hψ' u w w' hr (h2 k u ψ' hk hψ')
  unfold Makes at h
  generalize (execOp a.eval o).run P w = r at h
  cases r with
  | ok n w' =>
    cases n <;> simp only [MakesOf] at h
    case value u => exact ⟨u, fin u w' h.1 h.2⟩
    case enter f args =>
      obtain ⟨e, w'', _, ⟨v, _, hr, hv⟩, _⟩ := h.2 []
      exact ⟨v, fin v w'' hr hv⟩
  | halt x w' => simp only [MakesOf] at h

theorem sound {Q : Exit → Act → World → Prop} (ht : ∀ u v w, R u v → R v w → R u w) (hst : ∀ k ψ, Ψ k = some ψ → ∀ v w w', R w w' → ψ v w → ψ v w')
    (hQ : ∀ a E w, R w0 w → Facts Ψ E w → Qf a E → Q .normal a w) : ∀ (fuel : Nat) (listed : Array Bool) (a : Act) (E : Env) (w : World), (∀ k, listed.getD k true = false → E k = none) → R w0 w → Facts Ψ E w →
    anyU P ops md R w0 Ψ Qf fuel listed a E → wpAny P md ops Q fuel listed a w
  | 0, _, a, E, w, _, h1, h2, h => ⟨(h ⟨w, h1, h2⟩).1, hQ a E w h1 h2 (h ⟨w, h1, h2⟩).2⟩
  | fuel + 1, listed, a, E, w, hE, h1, h2, h => by
    obtain ⟨h3, h4⟩ := h ⟨w, h1, h2⟩
    refine ⟨fun h0 => hQ a E w h1 h2 (h3 h0), fun i hi => ?_⟩
    have h5 := h4 i hi
    have hiE : E i = none := hE i (mem_ready.1 hi).1
    have hE1 : ∀ E' : Env, (E' = E ∨ ∃ u, E' = setE E i u) → ∀ k, (listed.setIfInBounds i true).getD k true = false → E' k = none := by
      intro E' hE' k hk
      by_cases hki : i = k
      · subst hki
        exfalso
        by_cases hlt : i < listed.size <;> simp [hlt] at hk
      · rw [getD_set_ne true hki] at hk
        rcases hE' with rfl | ⟨u, rfl⟩
        · exact hE k hk
        · unfold setE; rw [if_neg (Ne.symm hki)]; exact hE k hk
    have next : ∀ a' w' u, R w w' → (∀ ψ, Ψ i = some ψ → ψ u w') → anyU P ops md R w0 Ψ Qf fuel (listed.setIfInBounds i true) a' (setE E i u) → wpAny P md ops Q fuel (listed.setIfInBounds i true) a' w' := fun a' w' u hr hu hn => by
      refine sound ht hst hQ fuel _ a' _ w' (hE1 _ (.inr ⟨u, rfl⟩)) (ht _ _ _ h1 hr) (fun k x ψ hk hψ => ?_) hn
      unfold setE at hk
      by_cases hki : k = i
      · subst hki; rw [if_pos rfl] at hk; cases hk; exact hu ψ hψ
      · rw [if_neg hki] at hk; exact hst k ψ hψ x w w' hr (h2 k x ψ hk hψ)
    unfold op at h5
    unfold wpOp
    split
    · rename_i ho; simp only [ho] at h5; exact sound ht hst hQ fuel _ a E w (hE1 _ (.inl rfl)) h1 h2 h5
    · rename_i o ho
      simp only [ho] at h5
      split
      · rename_i hw
        simp only [hw, if_true] at h5
        refine .inl ?_
        cases hψ : Ψ i with
        | none =>
          simp only [hψ] at h5
          obtain ⟨v, hv, hn⟩ := h5
          unfold Oper.wp
          rcases hv w (pre_of h1 h2) with h6 | ⟨h6, rfl⟩ <;> rw [h6] <;> exact sound ht hst hQ fuel _ _ E w (hE1 _ (.inl rfl)) h1 h2 hn
        | some ψ =>
          simp only [hψ] at h5
          obtain ⟨hm, hn⟩ := h5
          have h6 := hm w (pre_of h1 h2)
          have hone : ∀ v w', ψ v w' → ∀ ψ', Ψ i = some ψ' → ψ' v w' := fun v w' hv ψ' hψ' => by rw [hψ] at hψ'; cases hψ'; exact hv
          have hsat : ∀ v w', R w w' → ψ v w' → Sat R w0 Ψ (setE E i v) := fun v w' hr hv => by
            refine ⟨w', ht _ _ _ h1 hr, fun k u ψ' hk hψ' => ?_⟩
            unfold setE at hk
            by_cases hki : k = i
            · subst hki; rw [if_pos rfl] at hk; cases hk; exact hone v w' hv ψ' hψ'
            · rw [if_neg hki] at hk; exact hst k ψ' hψ' u w w' hr (h2 k u ψ' hk hψ')
          unfold Makes at h6
          unfold Oper.wp
          generalize (execOp a.eval o).run P w = r at h6
          cases r with
          | ok n w' =>
            cases n <;> simp only [MakesOf] at h6 <;> simp only [Oper.upon]
            case value u => exact next _ w' u h6.1 (hone u w' h6.2) (hn u (hsat u w' h6.1 h6.2))
            case enter f args =>
              obtain ⟨rfl, hc⟩ := h6
              refine hc.mono fun e w'' he => ?_
              obtain ⟨v, rfl, hr, hv⟩ := he
              exact next _ w'' v hr (hone v w'' hv) (hn v (hsat v w'' hr hv))
          | halt x w' => simp only [MakesOf] at h6
      · rename_i hw
        simp only [hw] at h5
        exact sound ht hst hQ fuel _ _ E w (hE1 _ (.inl rfl)) h1 h2 h5

/-- In state a operation o leaves v, in every world of its class; or it is passed over. -/
def YP (P : Program) (ops : Array Oper) (md : Region.Mode) (R : World → World → Prop) (w0 : World) (Ψ : Nat → Option (Value → World → Prop)) (i : Nat) (o : Oper) (v : Value) (a : Act) (E : Env) : Prop :=
  (Region.wanted o (yielded ops a.tmps) = true ∧ Ψ i = none ∧ ∀ w, Pre ops md R w0 Ψ i E w → Pure P o a w v) ∨ (Region.wanted o (yielded ops a.tmps) = false ∧ v = undef)
def YM (P : Program) (ops : Array Oper) (md : Region.Mode) (R : World → World → Prop) (w0 : World) (Ψ : Nat → Option (Value → World → Prop)) (i : Nat) (o : Oper) (ψ : Value → World → Prop) (a : Act) (E : Env) : Prop :=
  Region.wanted o (yielded ops a.tmps) = true ∧ Ψ i = some ψ ∧ ∀ w, Pre ops md R w0 Ψ i E w → Makes P R o a w ψ

theorem YP.keep {i : Nat} {oi : Oper} {d : Option Tmp} (hsi : ∀ cs b, oi.op ≠ .select cs b) (h3 : ∀ t, d = some t → t ∉ oi.looksAt ops) {v : Value} {a : Act} {E E' : Env} (u : Value) (hs : ∀ k x, E k = some x → E' k = some x)
    (h : YP P ops md R w0 Ψ i oi v a E) : YP P ops md R w0 Ψ i oi v (a.put d u) E' := by
  unfold YP Pure at *
  rw [wanted_put oi a d u h3, execOp_put oi hsi a d u h3]
  rcases h with ⟨x, y, z⟩ | h
  · exact .inl ⟨x, y, fun w hw => z w (pre_less hs hw)⟩
  · exact .inr h
theorem YM.keep {i : Nat} {oi : Oper} {d : Option Tmp} (hsi : ∀ cs b, oi.op ≠ .select cs b) (h3 : ∀ t, d = some t → t ∉ oi.looksAt ops) {ψ : Value → World → Prop} {a : Act} {E E' : Env} (u : Value) (hs : ∀ k x, E k = some x → E' k = some x)
    (h : YM P ops md R w0 Ψ i oi ψ a E) : YM P ops md R w0 Ψ i oi ψ (a.put d u) E' := by
  unfold YM Makes at *
  rw [wanted_put oi a d u h3, execOp_put oi hsi a d u h3]
  exact ⟨h.1, h.2.1, fun w hw => h.2.2 w (pre_less hs hw)⟩

theorem op_putP {i j : Nat} {oi oj : Oper} {v : Value} (hj : ops[j]? = some oj) (hap : oi.apart ops oj = true) (hsi : ∀ cs b, oi.op ≠ .select cs b) (hsj : ∀ cs b, oj.op ≠ .select cs b) {N : Act → Env → Prop} {a : Act} {E : Env}
    (hE : E j = none) (hy : YP P ops md R w0 Ψ i oi v a E) (h : op P ops md R w0 Ψ j N (a.put oi.dst v) E) :
    op P ops md R w0 Ψ j (fun a' E' => YP P ops md R w0 Ψ i oi v a' E' ∧ N (a'.put oi.dst v) E') a E := by
  obtain ⟨h1, h2, h3⟩ := Oper.apart_spec hap
  unfold op at *
  simp only [hj] at *
  rw [wanted_put oj a oi.dst v h1] at h
  split
  · rename_i hw
    simp only [hw, if_true] at h
    split
    · rename_i hψ
      simp only [hψ] at h
      obtain ⟨u, hu, hn⟩ := h
      unfold Pure at *
      rw [execOp_put oj hsj a oi.dst v h1] at hu
      exact ⟨u, hu, hy.keep hsi h3 u (fun _ _ h => h), by rw [← Act.put_comm a v u h2]; exact hn⟩
    · rename_i ψ hψ
      simp only [hψ] at h
      obtain ⟨hm, hn⟩ := h
      unfold Makes at *
      rw [execOp_put oj hsj a oi.dst v h1] at hm
      exact ⟨hm, fun u hu => ⟨hy.keep hsi h3 u (less_set hE), by rw [← Act.put_comm a v u h2]; exact hn u hu⟩⟩
  · rename_i hw
    simp only [hw] at h
    exact ⟨hy.keep hsi h3 _ (fun _ _ h => h), by rw [← Act.put_comm a v undef h2]; exact h⟩

theorem op_putM (ht : ∀ u v w, R u v → R v w → R u w) (hst : ∀ k ψ, Ψ k = some ψ → ∀ v w w', R w w' → ψ v w → ψ v w') {i j : Nat} {oi oj : Oper} {ψi : Value → World → Prop} (hj : ops[j]? = some oj) (hap : oi.apart ops oj = true)
    (hsi : ∀ cs b, oi.op ≠ .select cs b) (hsj : ∀ cs b, oj.op ≠ .select cs b) {N : Act → Env → Prop} {a : Act} {E : Env}
    (hij : j ≠ i) (hE : E j = none) (hEi : E i = none) (hdep : dep ops md j i = false) (hsat : Sat R w0 Ψ E) (hy : YM P ops md R w0 Ψ i oi ψi a E)
    (h : ∀ v, Sat R w0 Ψ (setE E i v) → op P ops md R w0 Ψ j N (a.put oi.dst v) (setE E i v)) :
    op P ops md R w0 Ψ j (fun a' E' => YM P ops md R w0 Ψ i oi ψi a' E' ∧ ∀ v, Sat R w0 Ψ (setE E' i v) → N (a'.put oi.dst v) (setE E' i v)) a E := by
  obtain ⟨h1, h2, h3⟩ := Oper.apart_spec hap
  obtain ⟨ws, hws, hfs⟩ := hsat
  obtain ⟨v0, hv0⟩ := makes_sat ht hst hEi hy.2.1 hws hfs (hy.2.2 ws (pre_of hws hfs))
  have hpre : ∀ v w, Pre ops md R w0 Ψ j E w → Pre ops md R w0 Ψ j (setE E i v) w := fun v w hp => by
    refine ⟨hp.1, fun k x ψ hd hk hψ => ?_⟩
    unfold setE at hk
    by_cases hki : k = i
    · subst hki; rw [hdep] at hd; cases hd
    · rw [if_neg hki] at hk; exact hp.2 k x ψ hd hk hψ
  have hw0 : ∀ v, Region.wanted oj (yielded ops (a.put oi.dst v).tmps) = Region.wanted oj (yielded ops a.tmps) := fun v => wanted_put oj a oi.dst v h1
  unfold op at *
  simp only [hj, hw0] at *
  split
  · rename_i hw
    simp only [hw, if_true] at h
    split
    · rename_i hψ
      simp only [hψ] at h
      obtain ⟨u, hu, _⟩ := h v0 hv0
      unfold Pure at hu
      rw [execOp_put oj hsj a oi.dst v0 h1] at hu
      have hu' : ∀ w, Pre ops md R w0 Ψ j E w → Pure P oj a w u := fun w hp => hu w (hpre v0 w hp)
      refine ⟨u, hu', hy.keep hsi h3 u (fun _ _ h => h), fun v hv => ?_⟩
      obtain ⟨x, hx, hn⟩ := h v hv
      unfold Pure at hx
      rw [execOp_put oj hsj a oi.dst v h1] at hx
      have hxu : x = u := Pure.one (hx ws (hpre v ws (pre_of hws hfs))) (hu' ws (pre_of hws hfs))
      subst hxu
      rw [← Act.put_comm a v x h2]; exact hn
    · rename_i ψ hψ
      simp only [hψ] at h
      have hm := (h v0 hv0).1
      unfold Makes at hm
      rw [execOp_put oj hsj a oi.dst v0 h1] at hm
      refine ⟨fun w hp => hm w (hpre v0 w hp), fun u hu => ⟨hy.keep hsi h3 u (less_set hE), fun v hv => ?_⟩⟩
      have hle : ∀ k x, setE E i v k = some x → setE (setE E j u) i v k = some x := by
        rw [← setE_comm E u v hij]
        refine less_set ?_
        unfold setE; rw [if_neg hij]; exact hE
      have hs1 : Sat R w0 Ψ (setE E i v) := by
        obtain ⟨w, x, y⟩ := hv
        exact ⟨w, x, facts_less hle y⟩
      rw [← Act.put_comm a v u h2, ← setE_comm E u v hij]
      exact (h v hs1).2 u (by rw [setE_comm E u v hij]; exact hv)
  · rename_i hw
    simp only [hw] at h
    refine ⟨hy.keep hsi h3 _ (fun _ _ h => h), fun v hv => ?_⟩
    rw [← Act.put_comm a v undef h2]; exact h v hv

theorem unlisted {listed : Array Bool} {E E' : Env} {j : Nat} (hE : ∀ k, listed.getD k true = false → E k = none) (hE' : E' = E ∨ ∃ u, E' = setE E j u) : ∀ k, (listed.setIfInBounds j true).getD k true = false → E' k = none := by
  intro k hk
  by_cases hjk : j = k
  · subst hjk
    exfalso
    by_cases hlt : j < listed.size <;> simp [hlt] at hk
  · rw [getD_set_ne true hjk] at hk
    rcases hE' with rfl | ⟨u, rfl⟩
    · exact hE k hk
    · unfold setE; rw [if_neg (Ne.symm hjk)]; exact hE k hk

theorem not_waits {i j : Nat} {oj : Oper} {listed : Array Bool} (hr : i ∈ Region.ready md ops listed) (hj : j ∈ Region.ready md ops listed) (hoj : ops[j]? = some oj) : ∀ e ∈ oj.after, Region.binds md e = true → e.on ≠ i := by
  intro e he hb heq
  obtain ⟨_, o, ho, hall⟩ := mem_ready.1 hj
  rw [hoj] at ho; cases ho
  have h1 := hall e he hb
  have h0 := (mem_ready.1 hr).1
  rw [heq] at h1
  rcases Nat.lt_or_ge i listed.size with h' | h'
  · simp [h'] at h0 h1; rw [h0] at h1; cases h1
  · simp [Array.getElem?_eq_none h'] at h1

theorem firstP {i : Nat} {oi : Oper} {v : Value} (hi : ops[i]? = some oi) (hsel : ∀ (j : Nat) (o : Oper) cs b, ops[j]? = some o → o.op ≠ .select cs b) :
    ∀ (fuel : Nat) (listed : Array Bool) (a : Act) (E : Env),
      (∀ j oj, ops[j]? = some oj → j ≠ i → listed.getD j true = false → (∀ e ∈ oj.after, Region.binds md e = true → e.on ≠ i) → oi.apart ops oj = true) →
      i ∈ Region.ready md ops listed → (∀ k, listed.getD k true = false → E k = none) → YP P ops md R w0 Ψ i oi v a E →
      anyU P ops md R w0 Ψ Qf fuel (listed.setIfInBounds i true) (a.put oi.dst v) E → anyU P ops md R w0 Ψ Qf (fuel + 1) listed a E := by
  have here : ∀ (K : Act → Env → Prop) (a : Act) (E : Env), YP P ops md R w0 Ψ i oi v a E → K (a.put oi.dst v) E → op P ops md R w0 Ψ i K a E := by
    intro K a E hy hK
    unfold op
    simp only [hi]
    rcases hy with ⟨hw, hψ, hv⟩ | ⟨hw, rfl⟩
    · simp only [hw, if_true, hψ]; exact ⟨v, hv, hK⟩
    · simp only [hw, Bool.false_eq_true, if_false]; exact hK
  intro fuel
  induction fuel with
  | zero =>
    intro listed a E _ hr _ hy H hs
    refine ⟨fun h => (by rw [h] at hr; cases hr), fun j hj => ?_⟩
    by_cases hji : j = i
    · subst hji; exact here _ _ _ hy H
    · have := ready_mono hj hji
      rw [(H hs).1] at this
      cases this
  | succ fuel ih =>
    intro listed a E hfree hr hE hy H hs
    refine ⟨fun h => (by rw [h] at hr; cases hr), fun j hj => ?_⟩
    by_cases hji : j = i
    · subst hji; exact here _ _ _ hy H
    · have h1 := (H hs).2 j (ready_mono hj hji)
      obtain ⟨hjun, oj, hoj, hall⟩ := mem_ready.1 hj
      have h2 := op_putP hoj (hfree j oj hoj hji hjun (not_waits hr hj hoj)) (fun cs b => hsel i oi cs b hi) (fun cs b => hsel j oj cs b hoj) (hE j hjun) hy h1
      have hfree' : ∀ k ok, ops[k]? = some ok → k ≠ i → (listed.setIfInBounds j true).getD k true = false →
          (∀ e ∈ ok.after, Region.binds md e = true → e.on ≠ i) → oi.apart ops ok = true := fun k ok hk hki hun hno => by
        refine hfree k ok hk hki ?_ hno
        by_cases hjk : j = k
        · subst hjk; exact hjun
        · rw [getD_set_ne true hjk] at hun; exact hun
      refine op_more (fun a' E' hE' h3 => ih (listed.setIfInBounds j true) a' E' hfree' (ready_mono hr (Ne.symm hji)) (unlisted hE hE') h3.1 ?_) h2
      rw [Array.setIfInBounds_comm _ _ hji]
      exact h3.2

theorem firstM (ht : ∀ u v w, R u v → R v w → R u w) (hst : ∀ k ψ, Ψ k = some ψ → ∀ v w w', R w w' → ψ v w → ψ v w') {i : Nat} {oi : Oper} {ψi : Value → World → Prop} (hi : ops[i]? = some oi)
    (hsel : ∀ (j : Nat) (o : Oper) cs b, ops[j]? = some o → o.op ≠ .select cs b) :
    ∀ (fuel : Nat) (listed : Array Bool) (a : Act) (E : Env),
      (∀ j oj, ops[j]? = some oj → j ≠ i → listed.getD j true = false → (∀ e ∈ oj.after, Region.binds md e = true → e.on ≠ i) → oi.apart ops oj = true) →
      i ∈ Region.ready md ops listed → (∀ k, listed.getD k true = false → E k = none) → YM P ops md R w0 Ψ i oi ψi a E →
      (∀ v, Sat R w0 Ψ (setE E i v) → anyU P ops md R w0 Ψ Qf fuel (listed.setIfInBounds i true) (a.put oi.dst v) (setE E i v)) → anyU P ops md R w0 Ψ Qf (fuel + 1) listed a E := by
  have here : ∀ (K : Act → Env → Prop) (a : Act) (E : Env), YM P ops md R w0 Ψ i oi ψi a E → (∀ v, Sat R w0 Ψ (setE E i v) → K (a.put oi.dst v) (setE E i v)) → op P ops md R w0 Ψ i K a E := by
    intro K a E hy hK
    unfold op
    obtain ⟨hw, hψ, hv⟩ := hy
    simp only [hi, hw, if_true, hψ]
    exact ⟨hv, hK⟩
  intro fuel
  induction fuel with
  | zero =>
    intro listed a E _ hr hE hy H hs
    refine ⟨fun h => (by rw [h] at hr; cases hr), fun j hj => ?_⟩
    by_cases hji : j = i
    · subst hji; exact here _ _ _ hy H
    · have := ready_mono hj hji
      obtain ⟨ws, hws, hfs⟩ := hs
      obtain ⟨v0, hv0⟩ := makes_sat ht hst (hE i (mem_ready.1 hr).1) hy.2.1 hws hfs (hy.2.2 ws (pre_of hws hfs))
      rw [(H v0 hv0 hv0).1] at this
      cases this
  | succ fuel ih =>
    intro listed a E hfree hr hE hy H hs
    refine ⟨fun h => (by rw [h] at hr; cases hr), fun j hj => ?_⟩
    by_cases hji : j = i
    · subst hji; exact here _ _ _ hy H
    · obtain ⟨hjun, oj, hoj, hall⟩ := mem_ready.1 hj
      have hnw := not_waits hr hj hoj
      have hdep : dep ops md j i = false := by
        unfold dep
        simp only [hoj, Option.map_some, Option.getD_some]
        rw [List.any_eq_false]
        intro e he hb
        simp only [Bool.and_eq_true, beq_iff_eq] at hb
        exact hnw e (by simpa using he) hb.1 hb.2
      have h2 := op_putM (N := anyU P ops md R w0 Ψ Qf fuel ((listed.setIfInBounds i true).setIfInBounds j true)) ht hst hoj (hfree j oj hoj hji hjun hnw) (fun cs b => hsel i oi cs b hi) (fun cs b => hsel j oj cs b hoj) hji (hE j hjun) (hE i (mem_ready.1 hr).1) hdep hs hy
        (fun v hv => (H v hv hv).2 j (ready_mono hj hji))
      have hfree' : ∀ k ok, ops[k]? = some ok → k ≠ i → (listed.setIfInBounds j true).getD k true = false →
          (∀ e ∈ ok.after, Region.binds md e = true → e.on ≠ i) → oi.apart ops ok = true := fun k ok hk hki hun hno => by
        refine hfree k ok hk hki ?_ hno
        by_cases hjk : j = k
        · subst hjk; exact hjun
        · rw [getD_set_ne true hjk] at hun; exact hun
      refine op_more (fun a' E' hE' h3 => ih (listed.setIfInBounds j true) a' E' hfree' (ready_mono hr (Ne.symm hji)) (unlisted hE hE') h3.1 ?_) h2
      rw [Array.setIfInBounds_comm _ _ hji]
      exact h3.2

theorem lexU (ht : ∀ u v w, R u v → R v w → R u w) (hst : ∀ k ψ, Ψ k = some ψ → ∀ v w w', R w w' → ψ v w → ψ v w') (hs : Region.noSelect ops = true) :
    ∀ (l : List Oper) (k : Nat) (listed : Array Bool) (a : Act) (E : Env), (∀ j, l[j]? = ops[k + j]?) → Region.lexFrom md ops l.length k listed = true → (∀ k, listed.getD k true = false → E k = none) →
      wpUp P ops md R w0 Ψ Qf l k a E → anyU P ops md R w0 Ψ Qf l.length listed a E
  | [], _, _, _, _, _, hB, _, h => fun _ => ⟨by simpa [Region.lexFrom] using hB, h⟩
  | o :: l, k, listed, a, E, hl, hB, hE, h => by
    have h0 : ops[k]? = some o := by simpa using (hl 0).symm
    simp only [List.length_cons, Region.lexFrom, Bool.and_eq_true] at hB
    obtain ⟨⟨hr, hf⟩, hB'⟩ := hB
    have hr' : k ∈ Region.ready md ops listed := by simpa using hr
    have hl' : ∀ j, l[j]? = ops[k + 1 + j]? := fun j => by have := hl (j + 1); simpa [Nat.add_assoc, Nat.add_comm 1 j] using this
    unfold wpUp at h
    by_cases hw : Region.wanted o (yielded ops a.tmps) = true
    · simp only [hw, if_true] at h
      cases hψ : Ψ k with
      | none =>
        simp only [hψ] at h
        obtain ⟨v, hv, hn⟩ := h
        exact firstP h0 (Region.noSelect_spec hs) l.length listed a E (Region.free_spec h0 hf) hr' hE (.inl ⟨hw, hψ, hv⟩) (lexU ht hst hs l (k + 1) _ _ E hl' hB' (unlisted hE (.inl rfl)) hn)
      | some ψ =>
        simp only [hψ] at h
        obtain ⟨hm, hn⟩ := h
        exact firstM ht hst h0 (Region.noSelect_spec hs) l.length listed a E (Region.free_spec h0 hf) hr' hE ⟨hw, hψ, hm⟩ (fun v hv => lexU ht hst hs l (k + 1) _ _ _ hl' hB' (unlisted hE (.inr ⟨v, rfl⟩)) (hn v hv))
    · simp only [hw] at h
      exact firstP h0 (Region.noSelect_spec hs) l.length listed a E (Region.free_spec h0 hf) hr' hE (.inr ⟨by simpa using hw, rfl⟩) (lexU ht hst hs l (k + 1) _ _ E hl' hB' (unlisted hE (.inl rfl)) h)
/-- A goal that no tactic unfolds. -/
structure Held (p : Prop) : Prop where
  out : p

theorem wpUp_pure {o : Oper} {l : List Oper} {k : Nat} {a : Act} {E : Env} (v : Value) (hw : Region.wanted o (yielded ops a.tmps) = true) (hψ : Ψ k = none)
    (hv : ∀ w, Pre ops md R w0 Ψ k E w → (execOp a.eval o).run P w = .ok (.value v) w) (h : Held (wpUp P ops md R w0 Ψ Qf l (k + 1) (a.put o.dst v) E)) : Held (wpUp P ops md R w0 Ψ Qf (o :: l) k a E) := by
  refine ⟨?_⟩
  unfold wpUp
  simp only [hw, if_true, hψ]
  exact ⟨v, fun w hp => .inl (hv w hp), h.out⟩

theorem wpUp_pass {o : Oper} {l : List Oper} {k : Nat} {a : Act} {E : Env} (hw : Region.wanted o (yielded ops a.tmps) = false) (h : Held (wpUp P ops md R w0 Ψ Qf l (k + 1) (a.put o.dst undef) E)) : Held (wpUp P ops md R w0 Ψ Qf (o :: l) k a E) := by
  refine ⟨?_⟩
  unfold wpUp
  simp only [hw, Bool.false_eq_true, if_false]
  exact h.out

theorem wpUp_end {k : Nat} {a : Act} {E : Env} (h : Qf a E) : Held (wpUp P ops md R w0 Ψ Qf [] k a E) := ⟨h⟩

/-- A call of a Go function that makes memory. -/
theorem wpUp_call {o : Oper} {l : List Oper} {k : Nat} {a : Act} {E : Env} (ψ : Value → World → Prop) (f : FuncId) (args : Array Value) (hw : Region.wanted o (yielded ops a.tmps) = true) (hψ : Ψ k = some ψ)
    (hv : ∀ w, (execOp a.eval o).run P w = .ok (.enter f args) w) (hc : ∀ w, Pre ops md R w0 Ψ k E w → Calls P f args w fun e w'' => ∃ v, e = .returned v ∧ R w w'' ∧ ψ v w'')
    (h : ∀ v, Sat R w0 Ψ (setE E k v) → Held (wpUp P ops md R w0 Ψ Qf l (k + 1) (a.put o.dst v) (setE E k v))) : Held (wpUp P ops md R w0 Ψ Qf (o :: l) k a E) := by
  refine ⟨?_⟩
  unfold wpUp
  simp only [hw, if_true, hψ]
  refine ⟨fun w hp => ?_, fun v hv => (h v hv).out⟩
  unfold Makes
  rw [hv w]
  exact ⟨rfl, hc w hp⟩
end

open Go.RowKit in
theorem wp_region_up {P : Program} {id : Nat} {Q : Exit → Act → World → Prop} {a : Act} {w : World} {l : List Oper} (Ψ : Nat → Option (Value → World → Prop)) (hm : P.follows .mixedOrders = true) (hB : Region.lexB .any l.toArray = true)
    (hst : ∀ k ψ, Ψ k = some ψ → ∀ v w w', Below w.heap.size w w' → ψ v w → ψ v w')
    (h : Held (wpUp P l.toArray .any (fun w w' => Below w.heap.size w w') w Ψ (fun a' E => ∀ w', Below w.heap.size w w' → Facts Ψ E w' → Q .normal a' w') l 0 a (fun _ => none))) : (Code.region id l.toArray true).wp P Q a w := by
  have ht : ∀ u v w : World, Below u.heap.size u v → Below v.heap.size v w → Below u.heap.size u w := fun u v w h1 h2 => h1.trans (h2.mono h1.size)
  simp only [Region.lexB, Bool.and_eq_true] at hB
  refine wp_region_any hm (sound (R := fun w w' => Below w.heap.size w w') (w0 := w) (Ψ := Ψ) (Qf := fun a' E => ∀ w', Below w.heap.size w w' → Facts Ψ E w' → Q .normal a' w') ht hst (fun a' E w' h1 h2 h3 => h3 w' h1 h2) _ _ _ (fun _ => none) _ (fun _ _ => rfl) (Below.refl _ _).drew (fun k v ψ hk _ => by cases hk) ?_)
  have := lexU (md := .any) ht hst hB.1 l 0 (Array.replicate l.toArray.size false) a (fun _ => none) (by simp) (by simpa using hB.2) (fun _ _ => rfl) h.out
  simpa using this
/-- What is told of each call that makes memory, by its place. -/
def tell : List (Nat × (Value → World → Prop)) → Nat → Option (Value → World → Prop)
  | [], _ => none
  | p :: l, i => if i = p.1 then some p.2 else tell l i

open Go.RowKit in
def Steady (ψ : Value → World → Prop) : Prop := ∀ v w w', Below w.heap.size w w' → ψ v w → ψ v w'

open Go.RowKit in
theorem tell_steady : ∀ (l : List (Nat × (Value → World → Prop))), (∀ p ∈ l, Steady p.2) → ∀ k ψ, tell l k = some ψ → ∀ v w w', Below w.heap.size w w' → ψ v w → ψ v w'
  | [], _, k, ψ, hk => by simp [tell] at hk
  | p :: l, h, k, ψ, hk => by
    unfold tell at hk
    by_cases hkp : k = p.1
    · rw [if_pos hkp] at hk; cases hk; exact h p (by simp)
    · rw [if_neg hkp] at hk; exact tell_steady l (fun q hq => h q (by simp [hq])) k ψ hk
end Go.Proofs.YtcfjkkjjcljaoaaDoor.Up

/-
  What calls within a region that draws are told to hand back.
-/

namespace Go.Proofs.YtcfjkkjjcljaoaaDoor
set_option linter.unusedSimpArgs false
set_option linter.unusedVariables false
set_option maxRecDepth 100000
open Go.RowKit

/-- The value is this one. -/
def isV (x : Value) : Value → World → Prop := fun v _ => v = x
theorem isV_steady (x : Value) : Up.Steady (isV x) := fun v w w' hb h => h
/-- The value is a slice of these bytes. -/
def slB (n : Nat) (xs : List Int) : Value → World → Prop := fun v w => ∃ a c, v = .slice a n c ∧ Bs w a c xs
theorem slB_steady (n : Nat) (xs : List Int) : Up.Steady (slB n xs) := fun v w w' hb ⟨a, c, h1, h2⟩ => ⟨a, c, h1, h2.stays hb⟩

theorem calls_isV {P : Program} {f : FuncId} {args : Array Value} {w : World} {x : Value} (h : Calls P f args w fun e w' => e = .returned x ∧ Below w.heap.size w w') :
    Calls P f args w fun e w' => ∃ v, e = .returned v ∧ Below w.heap.size w w' ∧ isV x v w' := h.mono fun e w' ⟨h1, h2⟩ => ⟨_, h1, h2, rfl⟩
theorem calls_slB {P : Program} {f : FuncId} {args : Array Value} {w : World} {n : Nat} {xs : List Int} (h : Calls P f args w fun e w' => ∃ a c, e = .returned (.slice a n c) ∧ Bs w' a c xs ∧ Below w.heap.size w w') :
    Calls P f args w fun e w' => ∃ v, e = .returned v ∧ Below w.heap.size w w' ∧ slB n xs v w' := h.mono fun e w' ⟨a, c, h1, h2, h3⟩ => ⟨_, h1, h3, a, c, rfl, h2⟩
end Go.Proofs.YtcfjkkjjcljaoaaDoor

/-
  Package disk: Rot, Fuse, Dump, New; no disk.
-/

namespace Go.Proofs.YtcfjkkjjcljaoaaDoor
set_option linter.unusedSimpArgs false
set_option linter.unusedVariables false
set_option maxRecDepth 100000
open Go.RowKit

section
variable {p bl : Nat} {v : Value} {bufs : List Buf} {laid : List Int} {off fused : Bool} {left : Nat}

theorem rot_arg (i : Int) (a : Option Addr) (n c : Nat) (w : World) (hD : DkAt w p bl v bufs laid off fused left) (hn63 : n ≤ 140737488351232) (hi : ¬ ((0 ≤ i ∧ i < ((laid.length / 256 : Nat) : Int)) ∧ n ≤ 256)) :
    Calls Tryd.prog 36 #[.pointer (some ⟨p, 0, none⟩), .int .i64 i, .slice a n c] w fun e w' => e = .returned (.int .i64 1) ∧ w' = w := by
  have hcall := has_run i w hD
  by_cases hh : 0 ≤ i ∧ i < ((laid.length / 256 : Nat) : Int)
  · rw [decide_eq_true hh] at hcall
    have hn : (256 : Int) < (n : Int) := by omega
    clear hi hh
    go_enter Tryd.func36, Tryd.ntmps36
    go_wp2_with (first
      | (go_at_call 70; refine hcall.mono ?_; rintro e w' ⟨rfl, rfl⟩))
    go_ret
    exact ⟨rfl, rfl⟩
  · rw [decide_eq_false hh] at hcall
    clear hi hh
    go_enter Tryd.func36, Tryd.ntmps36
    go_wp2_with (first
      | (go_at_call 70; refine hcall.mono ?_; rintro e w' ⟨rfl, rfl⟩))
    go_ret
    exact ⟨rfl, rfl⟩

theorem fuse_run (f : Int) (w : World) (hD : DkAt w p bl v bufs laid off fused left) (hf : f ≤ 9223372036854775807) :
    Calls Tryd.prog 37 #[.pointer (some ⟨p, 0, none⟩), .int .i64 f] w fun e w' => (∃ v, e = .returned v) ∧ DkAt w' p bl v bufs laid off true (max f 0).toNat ∧ But p w w' := by
  obtain ⟨h0, h1, h2, h3, h4⟩ := hD.fields
  have f3 := hD.free 3
  have f4 := hD.free 4
  go_enter Tryd.func37, Tryd.ntmps37
  go_wp2
  · go_end0
    have e : ((max f 0).toNat : Int) = 0 := by omega
    exact ⟨⟨_, rfl⟩, hD.flags (by omega) (((But.refl _ _).setCell _ _).setCell _ _) (by rw [e]; exact (hD.blk.set 3 _).set 4 _), ((But.refl _ _).setCell _ _).setCell _ _⟩
  · go_end0
    have e : ((max f 0).toNat : Int) = f := by omega
    exact ⟨⟨_, rfl⟩, hD.flags (by omega) (((But.refl _ _).setCell _ _).setCell _ _) (by rw [e]; exact (hD.blk.set 3 _).set 4 _), ((But.refl _ _).setCell _ _).setCell _ _⟩

theorem dump_run (w : World) (hD : DkAt w p bl v bufs laid off fused left) :
    Calls Tryd.prog 11 #[.pointer (some ⟨p, 0, none⟩)] w fun e w' => ∃ g cap, e = .returned (.slice (some ⟨g, 0, none⟩) laid.length cap) ∧ w'.ownsRow w.heap.size 5 1 (.slice (some ⟨g, 0, none⟩) laid.length cap) laid.length (laid.map (Value.int .u8)) ∧ Below w.heap.size w w' := by
  obtain ⟨h0, h1, h2, h3, h4⟩ := hD.fields
  obtain ⟨n, hn, hn1, hn2⟩ := hD.siz
  have hcl := clone_run ⟨bl, 0, none⟩ _ _ w (hD.row.bs hD.rng (by unfold maxLen; omega)) (by omega) (by omega)
  obtain ⟨L, hL⟩ : ∃ L, L = laid.length := ⟨_, rfl⟩
  rw [← hL] at h0 hcl ⊢
  clear hL hn
  go_enter Tryd.func11, Tryd.ntmps11
  go_wp2_with (go_at_call 49; refine hcl.mono ?_; rintro e w2 ⟨g, cap, rfl, hown, hb2⟩)
  go_ret
  exact ⟨g, cap, rfl, hown, hb2⟩

theorem new_arg (n : Int) (w : World) (hn : n < 16 ∨ 512 < n) :
    Calls Tryd.prog 25 #[.int .i64 n] w fun e w' => e = .returned (.tuple #[.pointer none, .int .i64 1]) ∧ w' = w := by
  rcases hn with hn | hn
  · go_enter Tryd.func25, Tryd.ntmps25
    go_wp2
    refine bodyPost_ret (results_tmp2 rfl _ _ _) rfl ?_
    exact ⟨rfl, rfl⟩
  · have hn' : ¬ n < 16 := by omega
    go_enter Tryd.func25, Tryd.ntmps25
    go_wp2
    refine bodyPost_ret (results_tmp2 rfl _ _ _) rfl ?_
    exact ⟨rfl, rfl⟩

theorem dnew_run (n : Nat) (w : World) (hn1 : 16 ≤ n) (hn2 : n ≤ 512) :
    Calls Tryd.prog 25 #[.int .i64 (n : Int)] w fun e w' => ∃ p, e = .returned (.tuple #[.pointer (some ⟨p, 0, none⟩), .int .i64 0]) ∧ ∃ bl, DkAt w' p bl (.slice none 0 0) [] (List.replicate (256 * n) 0) false false 0 ∧ w.heap.size ≤ p ∧ w.heap.size ≤ bl ∧ Below w.heap.size w w' := by
  have hi : (Tryd.prog.info? 5).map (fun i => (i.zero, i.size, i.bytes)) = some (some (.int .u8 0), 1, 1) := by kernel_rfl
  obtain ⟨i0, hi0, hz0, hz1, hz2⟩ := info_parts hi
  have h1 : ¬ ((n : Int) < 16) := by omega
  have h2 : ¬ ((512 : Int) < (n : Int)) := by omega
  go_enter Tryd.func25, Tryd.ntmps25
  go_wp2_with (refine wpList_make_bytes (w0 := w) (by rfl) (.tmp 11) (.tmp 11) 43 (by rfl) w.heap.size 5 i0 Tryd.underlying43 hi0 hz0 hz1 hz2 .i64 .i64 ((n : Int) * 256) ((n : Int) * 256) (256 * n) (by rfl) (by rfl) (by omega) (by omega) (by omega) (Nat.le_refl _) (Below.refl _ _) ?_; intro w1 hrow hb1)
  refine bodyPost_ret (results_tmp2 rfl _ _ _) rfl ?_
  refine ⟨w1.heap.size, rfl, w.heap.size, ?_, hb1.size, Nat.le_refl _, hb1.alloc hb1.size _⟩
  have hl : (List.replicate (256 * n) (0 : Int)).length = 256 * n := List.length_replicate
  refine ⟨by rw [hl]; exact Blk.newAt rfl rfl, ?_, World.ownsRow_nil _ _ _ _, fun f hf => by simp at hf, ?_, ⟨n, hl, hn1, hn2⟩, by omega⟩
  · have h3 := hrow.lt
    unfold Row at *
    rw [Below.heap_alloc _ _ _ h3]
    exact hrow
  · intro x hx
    obtain ⟨_, rfl⟩ := List.mem_replicate.1 hx
    omega

/-- Exclusive or of two bytes. -/
def xorB (x y : Int) : Int := bits BinOp.xor IntKind.u8 x y

/-- The sector's bytes when the first k bytes of a mask are turned. -/
def xorTo (laid : List Int) (s : Nat) (ms : List Int) (k : Nat) : List Int := (List.range k).foldl (fun l j => l.set (256 * s + j) (xorB (l.getD (256 * s + j) 0) (ms.getD j 0))) laid

theorem xorTo_succ (laid : List Int) (s : Nat) (ms : List Int) (k : Nat) : xorTo laid s ms (k + 1) = (xorTo laid s ms k).set (256 * s + k) (xorB ((xorTo laid s ms k).getD (256 * s + k) 0) (ms.getD k 0)) := by
  simp [xorTo, List.range_succ]

theorem xorTo_length (laid : List Int) (s : Nat) (ms : List Int) (k : Nat) : (xorTo laid s ms k).length = laid.length := by
  induction k with
  | zero => rfl
  | succ k ih => rw [xorTo_succ, List.length_set, ih]

theorem xorTo_rng {laid : List Int} {s : Nat} {ms : List Int} (h : ∀ x ∈ laid, 0 ≤ x ∧ x ≤ 255) (k : Nat) : ∀ x ∈ xorTo laid s ms k, 0 ≤ x ∧ x ≤ 255 := by
  induction k with
  | zero => exact h
  | succ k ih =>
    intro x hx
    rw [xorTo_succ] at hx
    rcases List.mem_or_eq_of_mem_set hx with hx | rfl
    · exact ih x hx
    · exact bits_within .xor .u8 _ _

set_option maxHeartbeats 1000000 in
theorem rot_run (s : Nat) (a : Option Addr) (c : Nat) (ms : List Int) (w : World) (hD : DkAt w p bl v bufs laid off fused left) (hs : 256 * s + 256 ≤ laid.length) (hB : Bs w a c ms) (hm : ms.length ≤ 256) (hne : ms ≠ [] → ∀ x, a = some x → x.block ≠ bl) :
    Calls Tryd.prog 36 #[.pointer (some ⟨p, 0, none⟩), .int .i64 (s : Int), .slice a ms.length c] w fun e w' => e = .returned (.int .i64 0) ∧ DkAt w' p bl v bufs (xorTo laid s ms ms.length) off fused left ∧ But bl w w' := by
  have hcall := has_run (s : Int) w hD
  rw [decide_eq_true (by omega)] at hcall
  have hsec := sector_run s w hD hs
  have hm' : ¬ ((256 : Int) < (ms.length : Int)) := by omega
  go_enter Tryd.func36, Tryd.ntmps36
  go_wp2_with (first
    | (go_at_call 70; refine hcall.mono ?_; rintro e w' ⟨rfl, rfl⟩)
    | (go_at_call 71; refine hsec.mono ?_; rintro e w' ⟨rfl, rfl⟩))
  go_loopw [26] (fun x wr => ∃ k : Nat, x = .int .i64 k ∧ k ≤ ms.length ∧ Row 5 wr bl (xorTo laid s ms k) ∧ But bl w' wr) (fun x _ => ms.length - (intOf x).toNat)
  case atStart => exact ⟨0, rfl, Nat.zero_le _, hD.row, But.refl _ _⟩
  case round =>
    rename_i hrel
    obtain ⟨k, rfl, hk, hrow, hbut⟩ := hrel
    by_cases hlt : k < ms.length
    · obtain ⟨b, o, ha, hc⟩ := (hB.but hbut (fun h0 x hx => hne h0 x hx)).cell (by omega)
      have hck := hc k hlt
      have hcl := hrow.cell (256 * s + k) (by rw [xorTo_length]; omega)
      have hfl := hrow.free (256 * s + k)
      obtain ⟨X, hX⟩ : ∃ X, X = (xorTo laid s ms k).getD (256 * s + k) 0 := ⟨_, rfl⟩
      obtain ⟨M, hM⟩ : ∃ M, M = ms.getD k 0 := ⟨_, rfl⟩
      rw [← hX] at hcl
      rw [← hM] at hck
      have HX : Hid (xorTo laid s ms (k + 1) = (xorTo laid s ms k).set (256 * s + k) (bits BinOp.xor IntKind.u8 X M)) := by
        have := xorTo_succ laid s ms k
        rw [← hX, ← hM] at this
        exact this
      subst ha
      clear hX hM hc
      have hlt' : (k : Int) < (ms.length : Int) := by omega
      have hlt2 : (k : Int) < 256 := by omega
      go_wp2
      go_roundw
      case rel =>
        refine ⟨k + 1, by go_num, by omega, ?_, hbut.setCell _ _⟩
        rw [HX.out]
        exact hrow.set _ _
      case measure => simp [intOf]; omega
    · have hk2 : k = ms.length := by omega
      have hlt' : ¬ ((k : Int) < (ms.length : Int)) := by omega
      go_wp2
      go_ret
      rw [hk2] at hrow
      exact ⟨rfl, hD.relaid (xorTo_length _ _ _ _) (xorTo_rng hD.rng _) hbut hrow, hbut⟩

end

section
attribute [local go_sem] Oper.semAt_some wide_fn wide_depth round_fn round_depth

set_option maxRecDepth 100000 in
set_option maxHeartbeats 4000000 in
theorem read_nil (i : Int) (w : World) : Calls Tryd.prog 93 #[.pointer none, .int .i64 i] w fun e w' => e = .returned (.tuple #[.slice none 0 0, .int .i64 8]) ∧ Below w.heap.size w w' := by
  refine (callsIn_wide (n := 0)).1 (callsIn_of_wp_marks Tryd.func93 rfl trivial ?_ rfl)
  simp only [Tryd.ntmps93, List.size_toArray, List.length_cons, List.length_nil, Nat.reduceAdd, Nat.reduceSub, Array.replicate_succ, Array.replicate_zero, List.push_toArray, List.append_toArray, List.nil_append, List.cons_append]
  gi_wp2_with (first
    | (gi_at_call 74; refine (callsIn_wide.2 (down_nil _)).mono ?_; rintro e w' ⟨rfl, rfl⟩))
  have c1 : (((w.alloc (.cells #[.int .i64 i] 3)).alloc (.cells #[.slice none 0 0] 43)).alloc (.cells #[.int .i64 8] 47)).cell? ⟨w.heap.size + 1, 0, none⟩ = some (.slice none 0 0) := (Blk.alloc (Blk.newAt (vs := [.slice none 0 0]) (by simp) rfl) _).cell 0
  have c2 : (((w.alloc (.cells #[.int .i64 i] 3)).alloc (.cells #[.slice none 0 0] 43)).alloc (.cells #[.int .i64 8] 47)).cell? ⟨w.heap.size + 1 + 1, 0, none⟩ = some (.int .i64 8) := (Blk.newAt (vs := [.int .i64 8]) (by simp) rfl).cell 0
  exact ⟨_, results_cells2 rfl _ _ _ rfl rfl (load_slice c1) (load_errno c2), rfl, (((Below.refl _ _).alloc (Nat.le_refl _) _).alloc (by simp) _).alloc (by simp; omega) _⟩

set_option maxRecDepth 100000 in
set_option maxHeartbeats 4000000 in
theorem flush_nil (w : World) : Calls Tryd.prog 39 #[.pointer none] w fun e w' => e = .returned (.int .i64 8) ∧ Below w.heap.size w w' := by
  refine (callsIn_wide (n := 0)).1 (callsIn_of_wp_marks Tryd.func39 rfl trivial ?_ rfl)
  simp only [Tryd.ntmps39, List.size_toArray, List.length_cons, List.length_nil, Nat.reduceAdd, Nat.reduceSub, Array.replicate_succ, Array.replicate_zero, List.push_toArray, List.append_toArray, List.nil_append, List.cons_append]
  gi_wp2_with (first
    | (gi_at_call 74; refine (callsIn_wide.2 (down_nil _)).mono ?_; rintro e w' ⟨rfl, rfl⟩))
  exact ⟨_, results_tmp rfl _ _ _, rfl, (Below.refl _ _).alloc (Nat.le_refl _) _⟩

set_option maxRecDepth 100000 in
set_option maxHeartbeats 4000000 in
theorem crash_nil (k : Value) (a : Option Addr) (n c : Nat) (hk : k = .slice a n c) (w : World) : Calls Tryd.prog 38 #[.pointer none, k] w fun e w' => (∃ v, e = .returned v) ∧ Below w.heap.size w w' := by
  subst hk
  refine (callsIn_wide (n := 0)).1 (callsIn_of_wp_marks Tryd.func38 rfl trivial ?_ rfl)
  simp only [Tryd.ntmps38, List.size_toArray, List.length_cons, List.length_nil, Nat.reduceAdd, Nat.reduceSub, Array.replicate_succ, Array.replicate_zero, List.push_toArray, List.append_toArray, List.nil_append, List.cons_append]
  gi_wp2
  exact ⟨_, results_none rfl _ _ _, ⟨_, rfl⟩, ((Below.refl _ _).alloc (Nat.le_refl _) _).alloc (by simp) _⟩

end

theorem write_nil (i : Int) (b : Value) (w : World) : Calls Tryd.prog 97 #[.pointer none, .int .i64 i, b] w fun e w' => e = .returned (.int .i64 8) ∧ w' = w := by
  go_enter Tryd.func97, Tryd.ntmps97
  go_wp2_with (go_at_call 74; refine (down_nil _).mono ?_; rintro e w' ⟨rfl, rfl⟩)
  go_ret
  exact ⟨rfl, rfl⟩

theorem rot_nil (i : Int) (b : Value) (w : World) : Calls Tryd.prog 36 #[.pointer none, .int .i64 i, b] w fun e w' => e = .returned (.int .i64 8) ∧ w' = w := by
  go_enter Tryd.func36, Tryd.ntmps36
  go_wp2
  go_ret
  exact ⟨rfl, rfl⟩

theorem fuse_nil (f : Int) (w : World) : Calls Tryd.prog 37 #[.pointer none, .int .i64 f] w fun e w' => (∃ v, e = .returned v) ∧ w' = w := by
  go_enter Tryd.func37, Tryd.ntmps37
  go_wp2
  refine bodyPost_ret (results_none rfl _ _ _) rfl ?_
  exact ⟨⟨_, rfl⟩, rfl⟩

theorem dump_nil (w : World) : Calls Tryd.prog 11 #[.pointer none] w fun e w' => e = .returned (.slice none 0 0) ∧ w' = w := by
  go_enter Tryd.func11, Tryd.ntmps11
  go_wp2
  go_ret
  exact ⟨rfl, rfl⟩

end Go.Proofs.YtcfjkkjjcljaoaaDoor
