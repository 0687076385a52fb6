/-
  A region whose order is left open, in which calls make memory: one walk in the order of the text serves every order, if what each such call makes is told by a fact that stays while the world grows.
-/
import Derived.Test.YthbcphalokoknaaDoorG01
import Derived.Test.YthbcphalokoknaaDoorG07
import Derived.Deep.Quiet
import Derived.Below
namespace Go.Proofs.YthbcphalokoknaaDoor.Up
set_option linter.unusedSimpArgs false
set_option linter.unusedVariables false
open Go

/-- What the calls carried out so far have handed back, by their places in the region. -/
abbrev Env := Nat → Option Value
def setE (E : Env) (i : Nat) (v : Value) : Env := fun k => if k = i then some v else E k

theorem setE_comm (E : Env) {i j : Nat} (u v : Value) (h : j ≠ i) : setE (setE E i v) j u = setE (setE E j u) i v := by
  funext k
  unfold setE
  by_cases h1 : k = j
  · subst h1; simp [h]
  · by_cases h2 : k = i
    · rw [if_neg h1, if_pos h2, if_pos h2]
    · rw [if_neg h1, if_neg h2, if_neg h2, if_neg h1]

section
variable (P : Program) (ops : Array Oper) (md : Region.Mode) (R : World → World → Prop) (w0 : World) (Ψ : Nat → Option (Value → World → Prop)) (Qf : Act → Env → Prop)

def Facts (E : Env) (w : World) : Prop := ∀ k v ψ, E k = some v → Ψ k = some ψ → ψ v w
def Sat (E : Env) : Prop := ∃ w, R w0 w ∧ Facts Ψ E w
def dep (i k : Nat) : Bool := ((ops[i]?).map fun o => o.after.toList.any fun e => Region.binds md e && e.on == k).getD false
def Pre (i : Nat) (E : Env) (w : World) : Prop := R w0 w ∧ ∀ k v ψ, dep ops md i k = true → E k = some v → Ψ k = some ψ → ψ v w

def Pure (o : Oper) (a : Act) (w : World) (v : Value) : Prop := (execOp a.eval o).run P w = .ok (.value v) w ∨ ((execOp a.eval o).run P w = .ok .skip w ∧ v = undef)
def MakesOf (ψ : Value → World → Prop) (w : World) : Result Next → Prop
  | .ok (.value u) w' => R w w' ∧ ψ u w'
  | .ok (.enter f args) w' => w' = w ∧ Calls P f args w fun e w'' => ∃ v, e = .returned v ∧ R w w'' ∧ ψ v w''
  | _ => False
def Makes (o : Oper) (a : Act) (w : World) (ψ : Value → World → Prop) : Prop := MakesOf P R ψ w ((execOp a.eval o).run P w)

/-- Operation number i comes up. -/
def op (i : Nat) (next : Act → Env → Prop) (a : Act) (E : Env) : Prop :=
  match ops[i]? with
  | none => next a E
  | some o => if Region.wanted o (yielded ops a.tmps) = true then
      match Ψ i with
      | none => ∃ v, (∀ w, Pre ops md R w0 Ψ i E w → Pure P o a w v) ∧ next (a.put o.dst v) E
      | some ψ => (∀ w, Pre ops md R w0 Ψ i E w → Makes P R o a w ψ) ∧ ∀ v, Sat R w0 Ψ (setE E i v) → next (a.put o.dst v) (setE E i v)
    else next (a.put o.dst undef) E

/-- Whatever order is picked from here on. -/
def anyU : Nat → Array Bool → Act → Env → Prop
  | 0, listed, a, E => Sat R w0 Ψ E → Region.ready md ops listed = [] ∧ Qf a E
  | fuel + 1, listed, a, E => Sat R w0 Ψ E → (Region.ready md ops listed = [] → Qf a E) ∧ ∀ i ∈ Region.ready md ops listed, op P ops md R w0 Ψ i (anyU fuel (listed.setIfInBounds i true)) a E

/-- The walk in the order of the text. -/
def wpUp : List Oper → Nat → Act → Env → Prop
  | [], _, a, E => Qf a E
  | o :: l, k, a, E => if Region.wanted o (yielded ops a.tmps) = true then
      match Ψ k with
      | none => ∃ v, (∀ w, Pre ops md R w0 Ψ k E w → Pure P o a w v) ∧ wpUp l (k + 1) (a.put o.dst v) E
      | some ψ => (∀ w, Pre ops md R w0 Ψ k E w → Makes P R o a w ψ) ∧ ∀ v, Sat R w0 Ψ (setE E k v) → wpUp l (k + 1) (a.put o.dst v) (setE E k v)
    else wpUp l (k + 1) (a.put o.dst undef) E
end

section
variable {P : Program} {ops : Array Oper} {md : Region.Mode} {R : World → World → Prop} {w0 : World} {Ψ : Nat → Option (Value → World → Prop)} {Qf : Act → Env → Prop}

theorem Pure.one {o : Oper} {a : Act} {w : World} {u v : Value} (h : Pure P o a w u) (k : Pure P o a w v) : u = v := by
  rcases h with h | ⟨h, rfl⟩ <;> rcases k with k | ⟨k, rfl⟩ <;> rw [h] at k <;> simp at k
  all_goals first | exact k | rfl

theorem op_more {j : Nat} {K K' : Act → Env → Prop} {a : Act} {E : Env} (h : ∀ a' E', (E' = E ∨ ∃ u, E' = setE E j u) → K a' E' → K' a' E') (hh : op P ops md R w0 Ψ j K a E) : op P ops md R w0 Ψ j K' a E := by
  unfold op at *
  split
  · rename_i ho; simp only [ho] at hh; exact h _ _ (.inl rfl) hh
  · rename_i o ho
    simp only [ho] at hh
    split
    · rename_i hw
      simp only [hw, if_true] at hh
      split
      · rename_i hψ
        simp only [hψ] at hh
        obtain ⟨v, h1, h2⟩ := hh
        exact ⟨v, h1, h _ _ (.inl rfl) h2⟩
      · rename_i ψ hψ
        simp only [hψ] at hh
        exact ⟨hh.1, fun v hv => h _ _ (.inr ⟨v, rfl⟩) (hh.2 v hv)⟩
    · rename_i hw
      simp only [hw] at hh
      exact h _ _ (.inl rfl) hh

theorem pre_of {i : Nat} {E : Env} {w : World} (h1 : R w0 w) (h2 : Facts Ψ E w) : Pre ops md R w0 Ψ i E w := ⟨h1, fun k v ψ _ hE hψ => h2 k v ψ hE hψ⟩
theorem pre_less {i : Nat} {E E' : Env} {w : World} (hs : ∀ k v, E k = some v → E' k = some v) (h : Pre ops md R w0 Ψ i E' w) : Pre ops md R w0 Ψ i E w :=
  ⟨h.1, fun k v ψ hd hE hψ => h.2 k v ψ hd (hs k v hE) hψ⟩
theorem facts_less {E E' : Env} {w : World} (hs : ∀ k v, E k = some v → E' k = some v) (h : Facts Ψ E' w) : Facts Ψ E w := fun k v ψ hE hψ => h k v ψ (hs k v hE) hψ
theorem less_set {E : Env} {i : Nat} {v : Value} (h : E i = none) : ∀ k u, E k = some u → setE E i v k = some u := by
  intro k u hk
  unfold setE
  by_cases hki : k = i
  · subst hki; rw [h] at hk; cases hk
  · rw [if_neg hki]; exact hk

theorem makes_sat (ht : ∀ u v w, R u v → R v w → R u w) (hst : ∀ k ψ, Ψ k = some ψ → ∀ v w w', R w w' → ψ v w → ψ v w') {i : Nat} {o : Oper} {a : Act} {E : Env} {w : World} {ψ : Value → World → Prop} (hi : E i = none)
    (hψ : Ψ i = some ψ) (h1 : R w0 w) (h2 : Facts Ψ E w) (h : Makes P R o a w ψ) : ∃ v, Sat R w0 Ψ (setE E i v) := by
  have fin : ∀ v w', R w w' → ψ v w' → Sat R w0 Ψ (setE E i v) := fun v w' hr hv => by
    refine ⟨w', ht _ _ _ h1 hr, fun k u ψ' hk hψ' => ?_⟩
    unfold setE at hk
    by_cases hki : k = i
    · subst hki
      rw [if_pos rfl] at hk
      rw [hψ] at hψ'
      cases hk; cases hψ'
      exact hv
    · rw [if_neg hki] at hk
      exact hst k ψ' hψ' u w w' hr (h2 k u ψ' hk hψ')
  unfold Makes at h
  generalize (execOp a.eval o).run P w = r at h
  cases r with
  | ok n w' =>
    cases n <;> simp only [MakesOf] at h
    case value u => exact ⟨u, fin u w' h.1 h.2⟩
    case enter f args =>
      obtain ⟨e, w'', _, ⟨v, _, hr, hv⟩, _⟩ := h.2 []
      exact ⟨v, fin v w'' hr hv⟩
  | halt x w' => simp only [MakesOf] at h

theorem sound {Q : Exit → Act → World → Prop} (ht : ∀ u v w, R u v → R v w → R u w) (hst : ∀ k ψ, Ψ k = some ψ → ∀ v w w', R w w' → ψ v w → ψ v w')
    (hQ : ∀ a E w, R w0 w → Facts Ψ E w → Qf a E → Q .normal a w) : ∀ (fuel : Nat) (listed : Array Bool) (a : Act) (E : Env) (w : World), (∀ k, listed.getD k true = false → E k = none) → R w0 w → Facts Ψ E w →
    anyU P ops md R w0 Ψ Qf fuel listed a E → wpAny P md ops Q fuel listed a w
  | 0, _, a, E, w, _, h1, h2, h => ⟨(h ⟨w, h1, h2⟩).1, hQ a E w h1 h2 (h ⟨w, h1, h2⟩).2⟩
  | fuel + 1, listed, a, E, w, hE, h1, h2, h => by
    obtain ⟨h3, h4⟩ := h ⟨w, h1, h2⟩
    refine ⟨fun h0 => hQ a E w h1 h2 (h3 h0), fun i hi => ?_⟩
    have h5 := h4 i hi
    have hiE : E i = none := hE i (mem_ready.1 hi).1
    have hE1 : ∀ E' : Env, (E' = E ∨ ∃ u, E' = setE E i u) → ∀ k, (listed.setIfInBounds i true).getD k true = false → E' k = none := by
      intro E' hE' k hk
      by_cases hki : i = k
      · subst hki
        exfalso
        by_cases hlt : i < listed.size <;> simp [hlt] at hk
      · rw [getD_set_ne true hki] at hk
        rcases hE' with rfl | ⟨u, rfl⟩
        · exact hE k hk
        · unfold setE; rw [if_neg (Ne.symm hki)]; exact hE k hk
    have next : ∀ a' w' u, R w w' → (∀ ψ, Ψ i = some ψ → ψ u w') → anyU P ops md R w0 Ψ Qf fuel (listed.setIfInBounds i true) a' (setE E i u) → wpAny P md ops Q fuel (listed.setIfInBounds i true) a' w' := fun a' w' u hr hu hn => by
      refine sound ht hst hQ fuel _ a' _ w' (hE1 _ (.inr ⟨u, rfl⟩)) (ht _ _ _ h1 hr) (fun k x ψ hk hψ => ?_) hn
      unfold setE at hk
      by_cases hki : k = i
      · subst hki; rw [if_pos rfl] at hk; cases hk; exact hu ψ hψ
      · rw [if_neg hki] at hk; exact hst k ψ hψ x w w' hr (h2 k x ψ hk hψ)
    unfold op at h5
    unfold wpOp
    split
    · rename_i ho; simp only [ho] at h5; exact sound ht hst hQ fuel _ a E w (hE1 _ (.inl rfl)) h1 h2 h5
    · rename_i o ho
      simp only [ho] at h5
      split
      · rename_i hw
        simp only [hw, if_true] at h5
        refine .inl ?_
        cases hψ : Ψ i with
        | none =>
          simp only [hψ] at h5
          obtain ⟨v, hv, hn⟩ := h5
          unfold Oper.wp
          rcases hv w (pre_of h1 h2) with h6 | ⟨h6, rfl⟩ <;> rw [h6] <;> exact sound ht hst hQ fuel _ _ E w (hE1 _ (.inl rfl)) h1 h2 hn
        | some ψ =>
          simp only [hψ] at h5
          obtain ⟨hm, hn⟩ := h5
          have h6 := hm w (pre_of h1 h2)
          have hone : ∀ v w', ψ v w' → ∀ ψ', Ψ i = some ψ' → ψ' v w' := fun v w' hv ψ' hψ' => by rw [hψ] at hψ'; cases hψ'; exact hv
          have hsat : ∀ v w', R w w' → ψ v w' → Sat R w0 Ψ (setE E i v) := fun v w' hr hv => by
            refine ⟨w', ht _ _ _ h1 hr, fun k u ψ' hk hψ' => ?_⟩
            unfold setE at hk
            by_cases hki : k = i
            · subst hki; rw [if_pos rfl] at hk; cases hk; exact hone v w' hv ψ' hψ'
            · rw [if_neg hki] at hk; exact hst k ψ' hψ' u w w' hr (h2 k u ψ' hk hψ')
          unfold Makes at h6
          unfold Oper.wp
          generalize (execOp a.eval o).run P w = r at h6
          cases r with
          | ok n w' =>
            cases n <;> simp only [MakesOf] at h6 <;> simp only [Oper.upon]
            case value u => exact next _ w' u h6.1 (hone u w' h6.2) (hn u (hsat u w' h6.1 h6.2))
            case enter f args =>
              obtain ⟨rfl, hc⟩ := h6
              refine hc.mono fun e w'' he => ?_
              obtain ⟨v, rfl, hr, hv⟩ := he
              exact next _ w'' v hr (hone v w'' hv) (hn v (hsat v w'' hr hv))
          | halt x w' => simp only [MakesOf] at h6
      · rename_i hw
        simp only [hw] at h5
        exact sound ht hst hQ fuel _ _ E w (hE1 _ (.inl rfl)) h1 h2 h5

/-- In state a operation o leaves v, in every world of its class; or it is passed over. -/
def YP (P : Program) (ops : Array Oper) (md : Region.Mode) (R : World → World → Prop) (w0 : World) (Ψ : Nat → Option (Value → World → Prop)) (i : Nat) (o : Oper) (v : Value) (a : Act) (E : Env) : Prop :=
  (Region.wanted o (yielded ops a.tmps) = true ∧ Ψ i = none ∧ ∀ w, Pre ops md R w0 Ψ i E w → Pure P o a w v) ∨ (Region.wanted o (yielded ops a.tmps) = false ∧ v = undef)
def YM (P : Program) (ops : Array Oper) (md : Region.Mode) (R : World → World → Prop) (w0 : World) (Ψ : Nat → Option (Value → World → Prop)) (i : Nat) (o : Oper) (ψ : Value → World → Prop) (a : Act) (E : Env) : Prop :=
  Region.wanted o (yielded ops a.tmps) = true ∧ Ψ i = some ψ ∧ ∀ w, Pre ops md R w0 Ψ i E w → Makes P R o a w ψ

theorem YP.keep {i : Nat} {oi : Oper} {d : Option Tmp} (hsi : ∀ cs b, oi.op ≠ .select cs b) (h3 : ∀ t, d = some t → t ∉ oi.looksAt ops) {v : Value} {a : Act} {E E' : Env} (u : Value) (hs : ∀ k x, E k = some x → E' k = some x)
    (h : YP P ops md R w0 Ψ i oi v a E) : YP P ops md R w0 Ψ i oi v (a.put d u) E' := by
  unfold YP Pure at *
  rw [wanted_put oi a d u h3, execOp_put oi hsi a d u h3]
  rcases h with ⟨x, y, z⟩ | h
  · exact .inl ⟨x, y, fun w hw => z w (pre_less hs hw)⟩
  · exact .inr h
theorem YM.keep {i : Nat} {oi : Oper} {d : Option Tmp} (hsi : ∀ cs b, oi.op ≠ .select cs b) (h3 : ∀ t, d = some t → t ∉ oi.looksAt ops) {ψ : Value → World → Prop} {a : Act} {E E' : Env} (u : Value) (hs : ∀ k x, E k = some x → E' k = some x)
    (h : YM P ops md R w0 Ψ i oi ψ a E) : YM P ops md R w0 Ψ i oi ψ (a.put d u) E' := by
  unfold YM Makes at *
  rw [wanted_put oi a d u h3, execOp_put oi hsi a d u h3]
  exact ⟨h.1, h.2.1, fun w hw => h.2.2 w (pre_less hs hw)⟩

theorem op_putP {i j : Nat} {oi oj : Oper} {v : Value} (hj : ops[j]? = some oj) (hap : oi.apart ops oj = true) (hsi : ∀ cs b, oi.op ≠ .select cs b) (hsj : ∀ cs b, oj.op ≠ .select cs b) {N : Act → Env → Prop} {a : Act} {E : Env}
    (hE : E j = none) (hy : YP P ops md R w0 Ψ i oi v a E) (h : op P ops md R w0 Ψ j N (a.put oi.dst v) E) :
    op P ops md R w0 Ψ j (fun a' E' => YP P ops md R w0 Ψ i oi v a' E' ∧ N (a'.put oi.dst v) E') a E := by
  obtain ⟨h1, h2, h3⟩ := Oper.apart_spec hap
  unfold op at *
  simp only [hj] at *
  rw [wanted_put oj a oi.dst v h1] at h
  split
  · rename_i hw
    simp only [hw, if_true] at h
    split
    · rename_i hψ
      simp only [hψ] at h
      obtain ⟨u, hu, hn⟩ := h
      unfold Pure at *
      rw [execOp_put oj hsj a oi.dst v h1] at hu
      exact ⟨u, hu, hy.keep hsi h3 u (fun _ _ h => h), by rw [← Act.put_comm a v u h2]; exact hn⟩
    · rename_i ψ hψ
      simp only [hψ] at h
      obtain ⟨hm, hn⟩ := h
      unfold Makes at *
      rw [execOp_put oj hsj a oi.dst v h1] at hm
      exact ⟨hm, fun u hu => ⟨hy.keep hsi h3 u (less_set hE), by rw [← Act.put_comm a v u h2]; exact hn u hu⟩⟩
  · rename_i hw
    simp only [hw] at h
    exact ⟨hy.keep hsi h3 _ (fun _ _ h => h), by rw [← Act.put_comm a v undef h2]; exact h⟩

theorem op_putM (ht : ∀ u v w, R u v → R v w → R u w) (hst : ∀ k ψ, Ψ k = some ψ → ∀ v w w', R w w' → ψ v w → ψ v w') {i j : Nat} {oi oj : Oper} {ψi : Value → World → Prop} (hj : ops[j]? = some oj) (hap : oi.apart ops oj = true)
    (hsi : ∀ cs b, oi.op ≠ .select cs b) (hsj : ∀ cs b, oj.op ≠ .select cs b) {N : Act → Env → Prop} {a : Act} {E : Env}
    (hij : j ≠ i) (hE : E j = none) (hEi : E i = none) (hdep : dep ops md j i = false) (hsat : Sat R w0 Ψ E) (hy : YM P ops md R w0 Ψ i oi ψi a E)
    (h : ∀ v, Sat R w0 Ψ (setE E i v) → op P ops md R w0 Ψ j N (a.put oi.dst v) (setE E i v)) :
    op P ops md R w0 Ψ j (fun a' E' => YM P ops md R w0 Ψ i oi ψi a' E' ∧ ∀ v, Sat R w0 Ψ (setE E' i v) → N (a'.put oi.dst v) (setE E' i v)) a E := by
  obtain ⟨h1, h2, h3⟩ := Oper.apart_spec hap
  obtain ⟨ws, hws, hfs⟩ := hsat
  obtain ⟨v0, hv0⟩ := makes_sat ht hst hEi hy.2.1 hws hfs (hy.2.2 ws (pre_of hws hfs))
  have hpre : ∀ v w, Pre ops md R w0 Ψ j E w → Pre ops md R w0 Ψ j (setE E i v) w := fun v w hp => by
    refine ⟨hp.1, fun k x ψ hd hk hψ => ?_⟩
    unfold setE at hk
    by_cases hki : k = i
    · subst hki; rw [hdep] at hd; cases hd
    · rw [if_neg hki] at hk; exact hp.2 k x ψ hd hk hψ
  have hw0 : ∀ v, Region.wanted oj (yielded ops (a.put oi.dst v).tmps) = Region.wanted oj (yielded ops a.tmps) := fun v => wanted_put oj a oi.dst v h1
  unfold op at *
  simp only [hj, hw0] at *
  split
  · rename_i hw
    simp only [hw, if_true] at h
    split
    · rename_i hψ
      simp only [hψ] at h
      obtain ⟨u, hu, _⟩ := h v0 hv0
      unfold Pure at hu
      rw [execOp_put oj hsj a oi.dst v0 h1] at hu
      have hu' : ∀ w, Pre ops md R w0 Ψ j E w → Pure P oj a w u := fun w hp => hu w (hpre v0 w hp)
      refine ⟨u, hu', hy.keep hsi h3 u (fun _ _ h => h), fun v hv => ?_⟩
      obtain ⟨x, hx, hn⟩ := h v hv
      unfold Pure at hx
      rw [execOp_put oj hsj a oi.dst v h1] at hx
      have hxu : x = u := Pure.one (hx ws (hpre v ws (pre_of hws hfs))) (hu' ws (pre_of hws hfs))
      subst hxu
      rw [← Act.put_comm a v x h2]; exact hn
    · rename_i ψ hψ
      simp only [hψ] at h
      have hm := (h v0 hv0).1
      unfold Makes at hm
      rw [execOp_put oj hsj a oi.dst v0 h1] at hm
      refine ⟨fun w hp => hm w (hpre v0 w hp), fun u hu => ⟨hy.keep hsi h3 u (less_set hE), fun v hv => ?_⟩⟩
      have hle : ∀ k x, setE E i v k = some x → setE (setE E j u) i v k = some x := by
        rw [← setE_comm E u v hij]
        refine less_set ?_
        unfold setE; rw [if_neg hij]; exact hE
      have hs1 : Sat R w0 Ψ (setE E i v) := by
        obtain ⟨w, x, y⟩ := hv
        exact ⟨w, x, facts_less hle y⟩
      rw [← Act.put_comm a v u h2, ← setE_comm E u v hij]
      exact (h v hs1).2 u (by rw [setE_comm E u v hij]; exact hv)
  · rename_i hw
    simp only [hw] at h
    refine ⟨hy.keep hsi h3 _ (fun _ _ h => h), fun v hv => ?_⟩
    rw [← Act.put_comm a v undef h2]; exact h v hv

theorem unlisted {listed : Array Bool} {E E' : Env} {j : Nat} (hE : ∀ k, listed.getD k true = false → E k = none) (hE' : E' = E ∨ ∃ u, E' = setE E j u) : ∀ k, (listed.setIfInBounds j true).getD k true = false → E' k = none := by
  intro k hk
  by_cases hjk : j = k
  · subst hjk
    exfalso
    by_cases hlt : j < listed.size <;> simp [hlt] at hk
  · rw [getD_set_ne true hjk] at hk
    rcases hE' with rfl | ⟨u, rfl⟩
    · exact hE k hk
    · unfold setE; rw [if_neg (Ne.symm hjk)]; exact hE k hk

theorem not_waits {i j : Nat} {oj : Oper} {listed : Array Bool} (hr : i ∈ Region.ready md ops listed) (hj : j ∈ Region.ready md ops listed) (hoj : ops[j]? = some oj) : ∀ e ∈ oj.after, Region.binds md e = true → e.on ≠ i := by
  intro e he hb heq
  obtain ⟨_, o, ho, hall⟩ := mem_ready.1 hj
  rw [hoj] at ho; cases ho
  have h1 := hall e he hb
  have h0 := (mem_ready.1 hr).1
  rw [heq] at h1
  rcases Nat.lt_or_ge i listed.size with h' | h'
  · simp [h'] at h0 h1; rw [h0] at h1; cases h1
  · simp [Array.getElem?_eq_none h'] at h1

theorem firstP {i : Nat} {oi : Oper} {v : Value} (hi : ops[i]? = some oi) (hsel : ∀ (j : Nat) (o : Oper) cs b, ops[j]? = some o → o.op ≠ .select cs b) :
    ∀ (fuel : Nat) (listed : Array Bool) (a : Act) (E : Env),
      (∀ j oj, ops[j]? = some oj → j ≠ i → listed.getD j true = false → (∀ e ∈ oj.after, Region.binds md e = true → e.on ≠ i) → oi.apart ops oj = true) →
      i ∈ Region.ready md ops listed → (∀ k, listed.getD k true = false → E k = none) → YP P ops md R w0 Ψ i oi v a E →
      anyU P ops md R w0 Ψ Qf fuel (listed.setIfInBounds i true) (a.put oi.dst v) E → anyU P ops md R w0 Ψ Qf (fuel + 1) listed a E := by
  have here : ∀ (K : Act → Env → Prop) (a : Act) (E : Env), YP P ops md R w0 Ψ i oi v a E → K (a.put oi.dst v) E → op P ops md R w0 Ψ i K a E := by
    intro K a E hy hK
    unfold op
    simp only [hi]
    rcases hy with ⟨hw, hψ, hv⟩ | ⟨hw, rfl⟩
    · simp only [hw, if_true, hψ]; exact ⟨v, hv, hK⟩
    · simp only [hw, Bool.false_eq_true, if_false]; exact hK
  intro fuel
  induction fuel with
  | zero =>
    intro listed a E _ hr _ hy H hs
    refine ⟨fun h => (by rw [h] at hr; cases hr), fun j hj => ?_⟩
    by_cases hji : j = i
    · subst hji; exact here _ _ _ hy H
    · have := ready_mono hj hji
      rw [(H hs).1] at this
      cases this
  | succ fuel ih =>
    intro listed a E hfree hr hE hy H hs
    refine ⟨fun h => (by rw [h] at hr; cases hr), fun j hj => ?_⟩
    by_cases hji : j = i
    · subst hji; exact here _ _ _ hy H
    · have h1 := (H hs).2 j (ready_mono hj hji)
      obtain ⟨hjun, oj, hoj, hall⟩ := mem_ready.1 hj
      have h2 := op_putP hoj (hfree j oj hoj hji hjun (not_waits hr hj hoj)) (fun cs b => hsel i oi cs b hi) (fun cs b => hsel j oj cs b hoj) (hE j hjun) hy h1
      have hfree' : ∀ k ok, ops[k]? = some ok → k ≠ i → (listed.setIfInBounds j true).getD k true = false →
          (∀ e ∈ ok.after, Region.binds md e = true → e.on ≠ i) → oi.apart ops ok = true := fun k ok hk hki hun hno => by
        refine hfree k ok hk hki ?_ hno
        by_cases hjk : j = k
        · subst hjk; exact hjun
        · rw [getD_set_ne true hjk] at hun; exact hun
      refine op_more (fun a' E' hE' h3 => ih (listed.setIfInBounds j true) a' E' hfree' (ready_mono hr (Ne.symm hji)) (unlisted hE hE') h3.1 ?_) h2
      rw [Array.setIfInBounds_comm _ _ hji]
      exact h3.2

theorem firstM (ht : ∀ u v w, R u v → R v w → R u w) (hst : ∀ k ψ, Ψ k = some ψ → ∀ v w w', R w w' → ψ v w → ψ v w') {i : Nat} {oi : Oper} {ψi : Value → World → Prop} (hi : ops[i]? = some oi)
    (hsel : ∀ (j : Nat) (o : Oper) cs b, ops[j]? = some o → o.op ≠ .select cs b) :
    ∀ (fuel : Nat) (listed : Array Bool) (a : Act) (E : Env),
      (∀ j oj, ops[j]? = some oj → j ≠ i → listed.getD j true = false → (∀ e ∈ oj.after, Region.binds md e = true → e.on ≠ i) → oi.apart ops oj = true) →
      i ∈ Region.ready md ops listed → (∀ k, listed.getD k true = false → E k = none) → YM P ops md R w0 Ψ i oi ψi a E →
      (∀ v, Sat R w0 Ψ (setE E i v) → anyU P ops md R w0 Ψ Qf fuel (listed.setIfInBounds i true) (a.put oi.dst v) (setE E i v)) → anyU P ops md R w0 Ψ Qf (fuel + 1) listed a E := by
  have here : ∀ (K : Act → Env → Prop) (a : Act) (E : Env), YM P ops md R w0 Ψ i oi ψi a E → (∀ v, Sat R w0 Ψ (setE E i v) → K (a.put oi.dst v) (setE E i v)) → op P ops md R w0 Ψ i K a E := by
    intro K a E hy hK
    unfold op
    obtain ⟨hw, hψ, hv⟩ := hy
    simp only [hi, hw, if_true, hψ]
    exact ⟨hv, hK⟩
  intro fuel
  induction fuel with
  | zero =>
    intro listed a E _ hr hE hy H hs
    refine ⟨fun h => (by rw [h] at hr; cases hr), fun j hj => ?_⟩
    by_cases hji : j = i
    · subst hji; exact here _ _ _ hy H
    · have := ready_mono hj hji
      obtain ⟨ws, hws, hfs⟩ := hs
      obtain ⟨v0, hv0⟩ := makes_sat ht hst (hE i (mem_ready.1 hr).1) hy.2.1 hws hfs (hy.2.2 ws (pre_of hws hfs))
      rw [(H v0 hv0 hv0).1] at this
      cases this
  | succ fuel ih =>
    intro listed a E hfree hr hE hy H hs
    refine ⟨fun h => (by rw [h] at hr; cases hr), fun j hj => ?_⟩
    by_cases hji : j = i
    · subst hji; exact here _ _ _ hy H
    · obtain ⟨hjun, oj, hoj, hall⟩ := mem_ready.1 hj
      have hnw := not_waits hr hj hoj
      have hdep : dep ops md j i = false := by
        unfold dep
        simp only [hoj, Option.map_some, Option.getD_some]
        rw [List.any_eq_false]
        intro e he hb
        simp only [Bool.and_eq_true, beq_iff_eq] at hb
        exact hnw e (by simpa using he) hb.1 hb.2
      have h2 := op_putM (N := anyU P ops md R w0 Ψ Qf fuel ((listed.setIfInBounds i true).setIfInBounds j true)) ht hst hoj (hfree j oj hoj hji hjun hnw) (fun cs b => hsel i oi cs b hi) (fun cs b => hsel j oj cs b hoj) hji (hE j hjun) (hE i (mem_ready.1 hr).1) hdep hs hy
        (fun v hv => (H v hv hv).2 j (ready_mono hj hji))
      have hfree' : ∀ k ok, ops[k]? = some ok → k ≠ i → (listed.setIfInBounds j true).getD k true = false →
          (∀ e ∈ ok.after, Region.binds md e = true → e.on ≠ i) → oi.apart ops ok = true := fun k ok hk hki hun hno => by
        refine hfree k ok hk hki ?_ hno
        by_cases hjk : j = k
        · subst hjk; exact hjun
        · rw [getD_set_ne true hjk] at hun; exact hun
      refine op_more (fun a' E' hE' h3 => ih (listed.setIfInBounds j true) a' E' hfree' (ready_mono hr (Ne.symm hji)) (unlisted hE hE') h3.1 ?_) h2
      rw [Array.setIfInBounds_comm _ _ hji]
      exact h3.2

theorem lexU (ht : ∀ u v w, R u v → R v w → R u w) (hst : ∀ k ψ, Ψ k = some ψ → ∀ v w w', R w w' → ψ v w → ψ v w') (hs : Region.noSelect ops = true) :
    ∀ (l : List Oper) (k : Nat) (listed : Array Bool) (a : Act) (E : Env), (∀ j, l[j]? = ops[k + j]?) → Region.lexFrom md ops l.length k listed = true → (∀ k, listed.getD k true = false → E k = none) →
      wpUp P ops md R w0 Ψ Qf l k a E → anyU P ops md R w0 Ψ Qf l.length listed a E
  | [], _, _, _, _, _, hB, _, h => fun _ => ⟨by simpa [Region.lexFrom] using hB, h⟩
  | o :: l, k, listed, a, E, hl, hB, hE, h => by
    have h0 : ops[k]? = some o := by simpa using (hl 0).symm
    simp only [List.length_cons, Region.lexFrom, Bool.and_eq_true] at hB
    obtain ⟨⟨hr, hf⟩, hB'⟩ := hB
    have hr' : k ∈ Region.ready md ops listed := by simpa using hr
    have hl' : ∀ j, l[j]? = ops[k + 1 + j]? := fun j => by have := hl (j + 1); simpa [Nat.add_assoc, Nat.add_comm 1 j] using this
    unfold wpUp at h
    by_cases hw : Region.wanted o (yielded ops a.tmps) = true
    · simp only [hw, if_true] at h
      cases hψ : Ψ k with
      | none =>
        simp only [hψ] at h
        obtain ⟨v, hv, hn⟩ := h
        exact firstP h0 (Region.noSelect_spec hs) l.length listed a E (Region.free_spec h0 hf) hr' hE (.inl ⟨hw, hψ, hv⟩) (lexU ht hst hs l (k + 1) _ _ E hl' hB' (unlisted hE (.inl rfl)) hn)
      | some ψ =>
        simp only [hψ] at h
        obtain ⟨hm, hn⟩ := h
        exact firstM ht hst h0 (Region.noSelect_spec hs) l.length listed a E (Region.free_spec h0 hf) hr' hE ⟨hw, hψ, hm⟩ (fun v hv => lexU ht hst hs l (k + 1) _ _ _ hl' hB' (unlisted hE (.inr ⟨v, rfl⟩)) (hn v hv))
    · simp only [hw] at h
      exact firstP h0 (Region.noSelect_spec hs) l.length listed a E (Region.free_spec h0 hf) hr' hE (.inr ⟨by simpa using hw, rfl⟩) (lexU ht hst hs l (k + 1) _ _ E hl' hB' (unlisted hE (.inl rfl)) h)
/-- A goal that no tactic unfolds. -/
structure Held (p : Prop) : Prop where
  out : p

theorem wpUp_pure {o : Oper} {l : List Oper} {k : Nat} {a : Act} {E : Env} (v : Value) (hw : Region.wanted o (yielded ops a.tmps) = true) (hψ : Ψ k = none)
    (hv : ∀ w, Pre ops md R w0 Ψ k E w → (execOp a.eval o).run P w = .ok (.value v) w) (h : Held (wpUp P ops md R w0 Ψ Qf l (k + 1) (a.put o.dst v) E)) : Held (wpUp P ops md R w0 Ψ Qf (o :: l) k a E) := by
  refine ⟨?_⟩
  unfold wpUp
  simp only [hw, if_true, hψ]
  exact ⟨v, fun w hp => .inl (hv w hp), h.out⟩

theorem wpUp_pass {o : Oper} {l : List Oper} {k : Nat} {a : Act} {E : Env} (hw : Region.wanted o (yielded ops a.tmps) = false) (h : Held (wpUp P ops md R w0 Ψ Qf l (k + 1) (a.put o.dst undef) E)) : Held (wpUp P ops md R w0 Ψ Qf (o :: l) k a E) := by
  refine ⟨?_⟩
  unfold wpUp
  simp only [hw, Bool.false_eq_true, if_false]
  exact h.out

theorem wpUp_end {k : Nat} {a : Act} {E : Env} (h : Qf a E) : Held (wpUp P ops md R w0 Ψ Qf [] k a E) := ⟨h⟩

/-- A call of a Go function that makes memory. -/
theorem wpUp_call {o : Oper} {l : List Oper} {k : Nat} {a : Act} {E : Env} (ψ : Value → World → Prop) (f : FuncId) (args : Array Value) (hw : Region.wanted o (yielded ops a.tmps) = true) (hψ : Ψ k = some ψ)
    (hv : ∀ w, (execOp a.eval o).run P w = .ok (.enter f args) w) (hc : ∀ w, Pre ops md R w0 Ψ k E w → Calls P f args w fun e w'' => ∃ v, e = .returned v ∧ R w w'' ∧ ψ v w'')
    (h : ∀ v, Sat R w0 Ψ (setE E k v) → Held (wpUp P ops md R w0 Ψ Qf l (k + 1) (a.put o.dst v) (setE E k v))) : Held (wpUp P ops md R w0 Ψ Qf (o :: l) k a E) := by
  refine ⟨?_⟩
  unfold wpUp
  simp only [hw, if_true, hψ]
  refine ⟨fun w hp => ?_, fun v hv => (h v hv).out⟩
  unfold Makes
  rw [hv w]
  exact ⟨rfl, hc w hp⟩
end

open Go.RowKit in
theorem wp_region_up {P : Program} {id : Nat} {Q : Exit → Act → World → Prop} {a : Act} {w : World} {l : List Oper} (Ψ : Nat → Option (Value → World → Prop)) (hm : P.follows .mixedOrders = true) (hB : Region.lexB .any l.toArray = true)
    (hst : ∀ k ψ, Ψ k = some ψ → ∀ v w w', Below w.heap.size w w' → ψ v w → ψ v w')
    (h : Held (wpUp P l.toArray .any (fun w w' => Below w.heap.size w w') w Ψ (fun a' E => ∀ w', Below w.heap.size w w' → Facts Ψ E w' → Q .normal a' w') l 0 a (fun _ => none))) : (Code.region id l.toArray true).wp P Q a w := by
  have ht : ∀ u v w : World, Below u.heap.size u v → Below v.heap.size v w → Below u.heap.size u w := fun u v w h1 h2 => h1.trans (h2.mono h1.size)
  simp only [Region.lexB, Bool.and_eq_true] at hB
  refine wp_region_any hm (sound (R := fun w w' => Below w.heap.size w w') (w0 := w) (Ψ := Ψ) (Qf := fun a' E => ∀ w', Below w.heap.size w w' → Facts Ψ E w' → Q .normal a' w') ht hst (fun a' E w' h1 h2 h3 => h3 w' h1 h2) _ _ _ (fun _ => none) _ (fun _ _ => rfl) (Below.refl _ _).drew (fun k v ψ hk _ => by cases hk) ?_)
  have := lexU (md := .any) ht hst hB.1 l 0 (Array.replicate l.toArray.size false) a (fun _ => none) (by simp) (by simpa using hB.2) (fun _ _ => rfl) h.out
  simpa using this
/-- What is told of each call that makes memory, by its place. -/
def tell : List (Nat × (Value → World → Prop)) → Nat → Option (Value → World → Prop)
  | [], _ => none
  | p :: l, i => if i = p.1 then some p.2 else tell l i

open Go.RowKit in
def Steady (ψ : Value → World → Prop) : Prop := ∀ v w w', Below w.heap.size w w' → ψ v w → ψ v w'

open Go.RowKit in
theorem tell_steady : ∀ (l : List (Nat × (Value → World → Prop))), (∀ p ∈ l, Steady p.2) → ∀ k ψ, tell l k = some ψ → ∀ v w w', Below w.heap.size w w' → ψ v w → ψ v w'
  | [], _, k, ψ, hk => by simp [tell] at hk
  | p :: l, h, k, ψ, hk => by
    unfold tell at hk
    by_cases hkp : k = p.1
    · rw [if_pos hkp] at hk; cases hk; exact h p (by simp)
    · rw [if_neg hkp] at hk; exact tell_steady l (fun q hq => h q (by simp [hq])) k ψ hk
end Go.Proofs.YthbcphalokoknaaDoor.Up

/-
  What calls within a region that draws are told to hand back.
-/

namespace Go.Proofs.YthbcphalokoknaaDoor
set_option linter.unusedSimpArgs false
set_option linter.unusedVariables false
open Go.RowKit

/-- The value is this one. -/
def isV (x : Value) : Value → World → Prop := fun v _ => v = x
theorem isV_steady (x : Value) : Up.Steady (isV x) := fun v w w' hb h => h
/-- The value is a slice of these bytes. -/
def slB (n : Nat) (xs : List Int) : Value → World → Prop := fun v w => ∃ a c, v = .slice a n c ∧ Bs w a c xs
theorem slB_steady (n : Nat) (xs : List Int) : Up.Steady (slB n xs) := fun v w w' hb ⟨a, c, h1, h2⟩ => ⟨a, c, h1, h2.stays hb⟩

theorem calls_isV {P : Program} {f : FuncId} {args : Array Value} {w : World} {x : Value} (h : Calls P f args w fun e w' => e = .returned x ∧ Below w.heap.size w w') :
    Calls P f args w fun e w' => ∃ v, e = .returned v ∧ Below w.heap.size w w' ∧ isV x v w' := h.mono fun e w' ⟨h1, h2⟩ => ⟨_, h1, h2, rfl⟩
theorem calls_slB {P : Program} {f : FuncId} {args : Array Value} {w : World} {n : Nat} {xs : List Int} (h : Calls P f args w fun e w' => ∃ a c, e = .returned (.slice a n c) ∧ Bs w' a c xs ∧ Below w.heap.size w w') :
    Calls P f args w fun e w' => ∃ v, e = .returned v ∧ Below w.heap.size w w' ∧ slB n xs v w' := h.mono fun e w' ⟨a, c, h1, h2, h3⟩ => ⟨_, h1, h3, a, c, rfl, h2⟩
end Go.Proofs.YthbcphalokoknaaDoor

/-
  Pointers that came in, as the walks take them.
-/

namespace Go.Proofs.YthbcphalokoknaaDoor
set_option linter.unusedSimpArgs false
set_option linter.unusedVariables false
set_option maxRecDepth 100000
open Go.RowKit Go.ChangeShapes Go.WideShapes

theorem wf_u32 {n : Int} (h : (Lit.int .u32 n).wf = true) : ∃ k : Nat, n = k ∧ k < 4294967296 := by
  simp [Lit.wf, IntKind.min, IntKind.max, IntKind.bits, IntKind.signed] at h
  exact ⟨n.toNat, by omega, by omega⟩

section
variable {H : Type} {enc : TypeId × Value → H} {W : World} {base : Nat}

theorem open_ptr_cs {fuel : Nat} {held : Bool} {cs : List Value} {x : DataW H × List MemPlace} (h : DataW.trod enc Tryd.prog W base (fun _ => true) held fuel 26 cs = some x) : ∃ p : Pt, cs = p.vs ∧ p.ok := by
  have hH : Tryd.prog.cellsOf 23 = 32 := by kernel_rfl
  have hU : Tryd.prog.cellsOf 22 = 1 := by kernel_rfl
  have hT : Tryd.prog.cellsOf 24 = 2 := by kernel_rfl
  have hB : Tryd.prog.cellsOf 5 = 1 := by kernel_rfl
  have hP : Tryd.prog.cellsOf 26 = 35 := by kernel_rfl
  cases fuel with
  | zero => simp [DataW.trod] at h
  | succ fuel =>
    simp only [DataW.trod, Tryd.underlying26, hP] at h
    split at h
    · rename_i hl
      obtain ⟨xs, hm, hx⟩ := Option.map_eq_some_iff.1 h
      obtain ⟨_, _, h0⟩ := Lib.mapM_at hm 0 _ rfl
      obtain ⟨_, _, h1⟩ := Lib.mapM_at hm 1 _ rfl
      obtain ⟨_, _, h2⟩ := Lib.mapM_at hm 2 _ rfl
      simp only [hH, hU, hT] at h0 h1 h2
      obtain ⟨zs, e0, l0, r0⟩ := open_array Tryd.underlying23 Tryd.underlying5 hB hH h0
      obtain ⟨n1, e1, _, w1⟩ := DataW.trod_int Tryd.underlying22 h1
      obtain ⟨ys, e2, l2, r2⟩ := open_array Tryd.underlying24 Tryd.underlying22 hU hT h2
      obtain ⟨b, rfl, hb⟩ := wf_u32 w1
      match ys, l2, e2, r2 with
      | [y0, y1], _, e2, r2 =>
        obtain ⟨a0, rfl, ha0⟩ := wf_u32 (r2 y0 (by simp))
        obtain ⟨a1, rfl, ha1⟩ := wf_u32 (r2 y1 (by simp))
        refine ⟨⟨zs, b, a0, a1⟩, ?_, ⟨l0, fun z hz => wf_u8 (r0 z hz), hb, ha0, ha1⟩⟩
        unfold Pt.vs
        simp only
        have c1 : cs = cs.take 32 ++ cs.drop 32 := (List.take_append_drop _ _).symm
        have c2 : cs.drop 32 = (cs.drop 32).take 1 ++ cs.drop 33 := by rw [show 33 = 32 + 1 from rfl, ← List.drop_drop]; exact (List.take_append_drop _ _).symm
        have c3 : (cs.drop 33).take 2 = cs.drop 33 := List.take_of_length_le (by simp; omega)
        rw [List.drop_zero] at e0
        rw [c1, c2, ← c3, e0, e1, e2]
        rfl
    · cases h

theorem open_ptr {r : Reach} {b0 : Nat} {v : Value} {d : DataW H} {p : List MemPlace} {held : Bool} (hv : Value.okWide Tryd.prog W r b0 26 v) (h : DataW.Trod enc Tryd.prog W base (fun _ => true) held 26 v d p) :
    ∃ q : Pt, v = .agg q.vs.toArray ∧ q.ok := by
  have hagg : ∃ cs, v = .agg cs := by
    simp only [Value.okWide, Tryd.underlying26] at hv
    obtain ⟨cs, h1, _⟩ := hv
    exact ⟨cs, h1⟩
  obtain ⟨cs, rfl⟩ := hagg
  obtain ⟨fuel, hf⟩ := h
  obtain ⟨q, h1, h2⟩ := open_ptr_cs hf
  refine ⟨q, ?_, h2⟩
  simp only [Value.cells] at h1
  rw [← h1]

end
end Go.Proofs.YthbcphalokoknaaDoor
