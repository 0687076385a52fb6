/-
  The walk of the law BankHealed.
-/
import Derived.Test.YtjlmldhlmnafnaaDoorG32
import Derived.Test.YtjlmldhlmnafnaaDoorG19
import Derived.Test.YtjlmldhlmnafnaaDoorG09
import Derived.Deep.QuietTactic
namespace Go.Proofs.YtjlmldhlmnafnaaDoor
set_option linter.unusedSimpArgs false
set_option linter.unusedVariables false
set_option maxRecDepth 100000
open Go.RowKit

/-- The value is a new slice of 256 bytes. -/
def nuB (base : Nat) (xs : List Int) : Value → World → Prop := fun v w => ∃ a c, v = .slice a 256 c ∧ NewB base w a c xs
theorem nuB_steady (base : Nat) (xs : List Int) : Up.Steady (nuB base xs) := fun v w w' hb ⟨a, c, h1, h2⟩ => ⟨a, c, h1, h2.stays hb⟩
theorem whole_later {w : World} (a : Option Addr) (c n : Nat) (bs : List Int) (hB : Bs w a c bs) (hn : n = bs.length) (hl : bs.length ≤ 256) : ∀ u, Below w.heap.size w u → Calls Tryd.prog 22 #[.slice a n c] u fun e w' => ∃ a2 c2, e = .returned (.slice a2 256 c2) ∧ NewB u.heap.size w' a2 c2 (wholeL bs) ∧ Below u.heap.size u w' := fun u hu => by
  subst hn
  have := whole_run a c bs u (hB.stays hu) (by omega)
  rw [wholeL_len hl] at this
  exact this

theorem calls_nuB {base : Nat} {u : World} {f : FuncId} {args : Array Value} {xs : List Int} (h : Calls Tryd.prog f args u fun e w' => ∃ a2 c2, e = .returned (.slice a2 256 c2) ∧ NewB u.heap.size w' a2 c2 xs ∧ Below u.heap.size u w') (hb : base ≤ u.heap.size) :
    Calls Tryd.prog f args u fun e w' => ∃ v, e = .returned v ∧ Below u.heap.size u w' ∧ nuB base xs v w' := h.mono fun e w' ⟨a, c, h1, h2, h3⟩ => ⟨_, h1, h3, a, c, rfl, h2.mono hb⟩

structure Healed (S0 : DS) (l0 : List Bool) (m0 m1 B O : List Int) (S1 S2 S3 S4 S5 S6 S7 : DS) (l1 : List Bool) (x y : Bool) (n : Nat) (e n6 n7 : Nat) (f : Int) : Prop where
  put : putK S0 l0 7 B 2 = ((S1, l1), pt45 (shaOf B), 0)
  flush : S1.flush = (S2, 0)
  rot0 : (S2.rot 4 m0).1 = S3
  rot1 : (S3.rot 5 m1).1 = S4
  look : lookK S4 (pt45 (shaOf B)) = ((x, y), 0)
  heal : healK S4 (pt45 (shaOf B)) = ((S5, n), (e : Int))
  code : (e = 0 ∧ cntR x y < 2 ∧ n = cntR x y) ∨ (e = 9 ∧ cntR x y = 2)
  fix : fixK S5 (pt45 (shaOf B)) O = ((S6, n6), f)
  told : (f == 0) = (shaOf O == shaOf B)
  fix2 : fixK S6 (pt45 (shaOf B)) B = ((S7, n7), 0)
  look2 : lookK S7 (pt45 (shaOf B)) = ((true, true), 0)
  l0 : S0.ws.length ≤ 800000
  l1 : S1.ws.length ≤ 800000
  l2 : S2.ws.length ≤ 800000
  l3 : S3.ws.length ≤ 800000
  l4 : S4.ws.length ≤ 800000
  l5 : S5.ws.length ≤ 800000
  l6 : S6.ws.length ≤ 800000
  l7 : S7.ws.length ≤ 800000

theorem healed_pure (m0 m1 B O : List Int) (hBl : B.length = 256) (hBr : ∀ y ∈ B, 0 ≤ y ∧ y ≤ 255) (hOl : O.length = 256) (hOr : ∀ y ∈ O, 0 ≤ y ∧ y ≤ 255) : ∃ S1 S2 S3 S4 S5 S6 S7 l1 x y n e n6 n7 f, Healed (DS.new 32) (lab 32 4) m0 m1 B O S1 S2 S3 S4 S5 S6 S7 l1 x y n e n6 n7 f := by
  obtain ⟨S1, l1, h1, h2, h3, h4⟩ := putK_live (Live.new (n := 32) (by omega) (by omega)) (by omega) take32 hBl hBr
  obtain ⟨f1, f2, f3, f4⟩ := h2.flush
  obtain ⟨r1, r2⟩ := f2.rot 4 m0
  obtain ⟨q1, q2⟩ := r1.rot 5 m1
  have hm : (pt45 (shaOf B)).may = true := pt45_may _
  have hh : (pt45 (shaOf B)).hole = false := pt45_hole _
  obtain ⟨P, hP⟩ : ∃ P, P = pt45 (shaOf B) := ⟨_, rfl⟩
  have hPx : P.x = 4 := by rw [hP]; rfl
  have hPy : P.y = 5 := by rw [hP]; rfl
  have hPh : P.h = shaOf B := by rw [hP]; rfl
  rw [← hP] at hm hh h1
  have hex : ∀ {S : DS}, Live S 32 → ∃ S5 n, ∃ e : Nat, healK S P = ((S5, n), (e : Int)) ∧ ((e = 0 ∧ cntR (rightL S P.x P.h) (rightL S P.y P.h) < 2 ∧ n = cntR (rightL S P.x P.h) (rightL S P.y P.h)) ∨ (e = 9 ∧ cntR (rightL S P.x P.h) (rightL S P.y P.h) = 2)) ∧ Live S5 32 ∧ S5.ws.length ≤ S.ws.length + 2 := by
    intro S hS
    have hrk : readK S P = if rightL S P.x P.h = true then (readW S.laid S.ws P.x, 0) else if rightL S P.y P.h = true then (readW S.laid S.ws P.y, 0) else ([], 9) := by
      unfold readK
      rw [okK_live hS hm, if_neg (by simp), hh, if_neg (by simp)]
    have hgo : ∀ b, shaOf b = P.h → b.length = 256 → (∀ y ∈ b, 0 ≤ y ∧ y ≤ 255) → readK S P = (b, 0) → cntR (rightL S P.x P.h) (rightL S P.y P.h) < 2 → ∃ S5 n, ∃ e : Nat, healK S P = ((S5, n), (e : Int)) ∧ ((e = 0 ∧ cntR (rightL S P.x P.h) (rightL S P.y P.h) < 2 ∧ n = cntR (rightL S P.x P.h) (rightL S P.y P.h)) ∨ (e = 9 ∧ cntR (rightL S P.x P.h) (rightL S P.y P.h) = 2)) ∧ Live S5 32 ∧ S5.ws.length ≤ S.ws.length + 2 := by
      intro b hs hl hr hrd hc
      obtain ⟨S5, z1, z2, _, _, z3⟩ := restK_live (p := P) (b := b) hS (by omega) (by omega) (by omega) (by omega) (by omega) hl hr hs
      refine ⟨S5, _, 0, ?_, .inl ⟨rfl, hc, rfl⟩, z2, z3⟩
      unfold healK
      rw [hrd, if_neg (by simp), z1]
      rfl
    cases hx : rightL S P.x P.h
    · cases hy : rightL S P.y P.h
      · rw [hx, hy] at hrk
        simp only [Bool.false_eq_true, if_false] at hrk
        refine ⟨S, 0, 9, ?_, .inr ⟨rfl, rfl⟩, hS, by omega⟩
        unfold healK
        rw [hrk, if_pos (by simp)]
        rfl
      · obtain ⟨g1, g2, g3⟩ := rightL_lt hS.ok hy
        have := hgo (readW S.laid S.ws P.y) g3 (readW_ok hS.ok g1).1 (readW_ok hS.ok g1).2 (by rw [hrk, hx, hy]; simp) (by rw [hx, hy]; decide)
        rwa [hx, hy] at this
    · obtain ⟨g1, g2, g3⟩ := rightL_lt hS.ok hx
      have := hgo (readW S.laid S.ws P.x) g3 (readW_ok hS.ok g1).1 (readW_ok hS.ok g1).2 (by rw [hrk, hx]; simp) (by rw [hx]; cases rightL S P.y P.h <;> decide)
      rwa [hx] at this
  obtain ⟨S5, n, e, s1, s2, s3, s4⟩ := hex q1
  have hfx : ∀ {S : DS} {b : List Int}, Live S 32 → b.length = 256 → (∀ y ∈ b, 0 ≤ y ∧ y ≤ 255) → ∃ S' m f, fixK S P b = ((S', m), f) ∧ (f == 0) = (shaOf b == P.h) ∧ Live S' 32 ∧ S'.ws.length ≤ S.ws.length + 2 ∧ (shaOf b = P.h → lookK S' P = ((true, true), 0)) := by
    intro S b hS hl hr
    unfold fixK
    rw [if_neg (by simp [okK_live hS hm]), if_neg (by simp [hh, hl])]
    by_cases hs : shaOf b = P.h
    · rw [if_neg (by simp [hs])]
      obtain ⟨S5, z1, z2, z4, z5, z3⟩ := restK_live (p := P) (b := b) hS (by omega) (by omega) (by omega) (by omega) (by omega) hl hr hs
      refine ⟨S5, _, _, z1, by simp [hs], z2, z3, fun _ => ?_⟩
      unfold lookK
      rw [if_neg (by simp [okK_live z2 hm]), z4, z5]
    · rw [if_pos hs]
      exact ⟨S, 0, 14, rfl, by simp [hs], hS, by omega, fun h => absurd h hs⟩
  obtain ⟨S6, n6, f, t1, t2, t3, t4, _⟩ := hfx s3 hOl hOr
  obtain ⟨S7, n7, f7, u1, u2, u3, u4, u5⟩ := hfx t3 hBl hBr
  have hf7 : f7 = 0 := by rw [hPh] at u2; simpa using u2
  have hws : (S1.flush.1.rot 4 m0).1.ws = [] := by rw [r2, f3]
  have hws2 : ((S1.flush.1.rot 4 m0).1.rot 5 m1).1.ws = [] := by rw [q2, hws]
  rw [hws2] at s4
  simp only [List.length_nil] at s4
  refine ⟨S1, S1.flush.1, (S1.flush.1.rot 4 m0).1, ((S1.flush.1.rot 4 m0).1.rot 5 m1).1, S5, S6, S7, l1, rightL ((S1.flush.1.rot 4 m0).1.rot 5 m1).1 P.x P.h, rightL ((S1.flush.1.rot 4 m0).1.rot 5 m1).1 P.y P.h, n, e, n6, n7, f, ?_⟩
  subst hP
  exact ⟨h1, by rw [← f1], rfl, rfl, by unfold lookK; rw [if_neg (by simp [okK_live q1 hm])], s1, s2, t1, t2, by rw [u1, hf7], u5 rfl, by simp [DS.new], by rw [h3]; simp [DS.new], by rw [f3]; simp, by rw [hws]; simp, by rw [hws2]; simp, by omega, by omega, by omega⟩

end Go.Proofs.YtjlmldhlmnafnaaDoor

/-
  As UpT, where the first operations, in any order, are followed by ONE call of any effect, and that one by operations that only read.
-/

namespace Go.Proofs.YtjlmldhlmnafnaaDoor.UpT
set_option linter.unusedSimpArgs false
set_option linter.unusedVariables false
set_option maxRecDepth 100000
open Go

section
variable {P : Program} {ops : Array Oper} {md : Region.Mode} {R : World → World → Prop} {w0 : World} {Ψ : Nat → Option (Value → World → Prop)} {S : Nat → Bool} {Qf : Act → Env → Prop}

/-- Each operation behind number n waits for one from n on. -/
def chainM (md : Region.Mode) (ops : Array Oper) (n : Nat) : Bool := (List.range ops.size).all fun t => decide (t ≤ n) || (List.range t).any fun s => decide (n ≤ s) && Region.waitsFor md ops t s
def Chain (md : Region.Mode) (ops : Array Oper) (n : Nat) : Prop := chainM md ops n = true
theorem tail_waits2 {n : Nat} {listed : Array Bool} (hs : Region.sinkB md ops n = true) (hc : Chain md ops n) (hn : n < ops.size) (inv : HeadInv md ops n listed) :
    ∀ (d i : Nat), n - i = d → i < n → listed.getD i true = false → ∀ t, n ≤ t → t ∉ Region.ready md ops listed := by
  intro d
  induction d using Nat.strongRecOn with
  | _ d ih =>
    intro i hd hi hun t ht hr
    obtain ⟨_, ot, hot, hall⟩ := mem_ready.1 hr
    have htlt : t < ops.size := (Array.getElem?_eq_some_iff.1 hot).1
    by_cases htn : t = n
    · subst htn
      have h1 := List.all_eq_true.1 hs i (List.mem_range.2 hi)
      obtain ⟨j, hj, hj2⟩ := List.any_eq_true.1 h1
      simp only [Bool.and_eq_true, decide_eq_true_eq] at hj2
      obtain ⟨oj, hoj, e, he, hb, hon⟩ := Region.waitsFor_spec hj2.2
      have hjle : j ≤ t := by have := List.mem_range.1 hj; omega
      by_cases hjt : j = t
      · subst hjt
        have : oj = ot := Option.some.inj (hoj.symm.trans hot)
        subst this
        have h2 := hall e he hb
        rw [hon, getD_both hun] at h2
        cases h2
      · cases hl : listed.getD j false with
        | true =>
          have h2 := inv.closed j oj hoj hl e he hb
          rw [hon, getD_both hun] at h2
          cases h2
        | false =>
          have hjs : j < listed.size := by rw [inv.size]; omega
          exact ih (t - j) (by omega) j rfl (by omega) (getD_in hjs hl) t (Nat.le_refl _) hr
    · have h1 := List.all_eq_true.1 hc t (List.mem_range.2 htlt)
      simp only [Bool.or_eq_true, decide_eq_true_eq] at h1
      rcases h1 with h1 | h1
      · omega
      · obtain ⟨s, hs1, hs2⟩ := List.any_eq_true.1 h1
        simp only [Bool.and_eq_true, decide_eq_true_eq] at hs2
        have hst := List.mem_range.1 hs1
        obtain ⟨o', ho', e, he, hb, hon⟩ := Region.waitsFor_spec hs2.2
        have : o' = ot := Option.some.inj (ho'.symm.trans hot)
        subst this
        have h2 := hall e he hb
        rw [hon, getD_both (inv.tail s hs2.1 (by omega))] at h2
        cases h2

def midB (md : Region.Mode) (ops : Array Oper) (n : Nat) (listed : Array Bool) : Bool := decide (Region.ready md ops listed = [n]) && Region.lexFrom md ops (ops.size - (n + 1)) (n + 1) (listed.setIfInBounds n true)
def midHead (md : Region.Mode) (ops : Array Oper) (n : Nat) : Nat → Nat → Array Bool → Bool
  | 0, _, listed => midB md ops n listed
  | f + 1, k, listed => (Region.ready md ops listed).contains k && Region.free md ops listed k && midHead md ops n f (k + 1) (listed.setIfInBounds k true)
def midAll (md : Region.Mode) (ops : Array Oper) (n : Nat) : Bool :=
  Region.noSelect ops && decide (n < ops.size) && Region.sinkB md ops n && chainM md ops n && midHead md ops n n 0 (Array.replicate ops.size false)
theorem midB_ready {n : Nat} {listed : Array Bool} (h : midB md ops n listed = true) : ∀ j ∈ Region.ready md ops listed, n ≤ j := by
  intro j hj
  simp only [midB, Bool.and_eq_true, decide_eq_true_eq] at h
  rw [h.1] at hj
  have : j = n := by simpa using hj
  omega

theorem firstP2 {n : Nat} {L : Array Bool → Act → Env → Prop} {i : Nat} {oi : Oper} {v : Value} (hi : ops[i]? = some oi) (hsel : ∀ (j : Nat) (o : Oper) cs b, ops[j]? = some o → o.op ≠ .select cs b)
    (hsk : Region.sinkB md ops n = true) (hch : Chain md ops n) (hn : n < ops.size) (hin : i < n) (hdone : ∀ listed a E, L listed a E → ∀ j ∈ Region.ready md ops listed, n ≤ j) :
    ∀ (fuel : Nat) (listed : Array Bool) (a : Act) (E : Env), HeadInv md ops n listed →
      (∀ j oj, ops[j]? = some oj → j ≠ i → listed.getD j true = false → (∀ e ∈ oj.after, Region.binds md e = true → e.on ≠ i) → oi.apart ops oj = true) →
      i ∈ Region.ready md ops listed → (∀ k, listed.getD k true = false → E k = none) → YP P ops md R w0 Ψ i oi v a E →
      anyL P ops md R w0 Ψ S n L fuel (listed.setIfInBounds i true) (a.put oi.dst v) E → anyL P ops md R w0 Ψ S n L (fuel + 1) listed a E := by
  have here : ∀ (K : Act → Env → Prop) (a : Act) (E : Env), YP P ops md R w0 Ψ i oi v a E → K (a.put oi.dst v) E → op P ops md R w0 Ψ S i K a E := by
    intro K a E hy hK
    unfold op
    simp only [hi]
    rcases hy with ⟨hw, hψ, hv⟩ | ⟨hw, rfl⟩
    · simp only [hw, if_true, hψ]; exact ⟨v, hv, hK⟩
    · simp only [hw, Bool.false_eq_true, if_false]; exact hK
  intro fuel
  induction fuel with
  | zero =>
    intro listed a E inv _ hr _ hy H hs
    have hun := (mem_ready.1 hr).1
    refine ⟨fun h => (by rw [h] at hr; cases hr), fun j hj => ?_⟩
    have hjn : j < n := by
      rcases Nat.lt_or_ge j n with h | h
      · exact h
      · exact absurd hj (tail_waits2 hsk hch hn inv _ i rfl hin hun j h)
    refine ⟨hjn, ?_⟩
    by_cases hji : j = i
    · subst hji; exact here _ _ _ hy H
    · have := hdone _ _ _ (H hs) j (ready_mono hj hji)
      omega
  | succ fuel ih =>
    intro listed a E inv hfree hr hE hy H hs
    have hun := (mem_ready.1 hr).1
    refine ⟨fun h => (by rw [h] at hr; cases hr), fun j hj => ?_⟩
    have hjn : j < n := by
      rcases Nat.lt_or_ge j n with h | h
      · exact h
      · exact absurd hj (tail_waits2 hsk hch hn inv _ i rfl hin hun j h)
    refine ⟨hjn, ?_⟩
    by_cases hji : j = i
    · subst hji; exact here _ _ _ hy H
    · have h1 := ((H hs).2 j (ready_mono hj hji)).2
      obtain ⟨hjun, oj, hoj, hall⟩ := mem_ready.1 hj
      have h2 := op_putP hoj (hfree j oj hoj hji hjun (not_waits hr hj hoj)) (fun cs b => hsel i oi cs b hi) (fun cs b => hsel j oj cs b hoj) (hE j hjun) hy h1
      have hfree' : ∀ k ok, ops[k]? = some ok → k ≠ i → (listed.setIfInBounds j true).getD k true = false →
          (∀ e ∈ ok.after, Region.binds md e = true → e.on ≠ i) → oi.apart ops ok = true := fun k ok hk hki hun hno => by
        refine hfree k ok hk hki ?_ hno
        by_cases hjk : j = k
        · subst hjk; exact hjun
        · rw [getD_set_ne true hjk] at hun; exact hun
      refine op_more (fun a' E' hE' h3 => ih (listed.setIfInBounds j true) a' E' (inv.set hj hjn) hfree' (ready_mono hr (Ne.symm hji)) (unlisted hE hE') h3.1 ?_) h2
      rw [Array.setIfInBounds_comm _ _ hji]
      exact h3.2

theorem firstM2 {n : Nat} {L : Array Bool → Act → Env → Prop} (ht : ∀ u v w, R u v → R v w → R u w) (hst : ∀ k ψ, Ψ k = some ψ → ∀ v w w', R w w' → ψ v w → ψ v w') (hR : ∀ w w', R w w' → w.heap.size ≤ w'.heap.size) {i : Nat} {oi : Oper} {ψi : Value → World → Prop} (hi : ops[i]? = some oi)
    (hsel : ∀ (j : Nat) (o : Oper) cs b, ops[j]? = some o → o.op ≠ .select cs b)
    (hsk : Region.sinkB md ops n = true) (hch : Chain md ops n) (hn : n < ops.size) (hin : i < n) (hdone : ∀ listed a E, L listed a E → ∀ j ∈ Region.ready md ops listed, n ≤ j) :
    ∀ (fuel : Nat) (listed : Array Bool) (a : Act) (E : Env), HeadInv md ops n listed →
      (∀ j oj, ops[j]? = some oj → j ≠ i → listed.getD j true = false → (∀ e ∈ oj.after, Region.binds md e = true → e.on ≠ i) → oi.apart ops oj = true) →
      i ∈ Region.ready md ops listed → (∀ k, listed.getD k true = false → E k = none) → YM P ops md R w0 Ψ S i oi ψi a E →
      (∀ v, Sat R w0 Ψ S (setE E i v) → anyL P ops md R w0 Ψ S n L fuel (listed.setIfInBounds i true) (a.put oi.dst v) (setE E i v)) → anyL P ops md R w0 Ψ S n L (fuel + 1) listed a E := by
  have here : ∀ (K : Act → Env → Prop) (a : Act) (E : Env), YM P ops md R w0 Ψ S i oi ψi a E → (∀ v, Sat R w0 Ψ S (setE E i v) → K (a.put oi.dst v) (setE E i v)) → op P ops md R w0 Ψ S i K a E := by
    intro K a E hy hK
    unfold op
    obtain ⟨hw, hψ, hv⟩ := hy
    simp only [hi, hw, if_true, hψ]
    exact ⟨hv, hK⟩
  intro fuel
  induction fuel with
  | zero =>
    intro listed a E inv _ hr hE hy H hs
    have hun := (mem_ready.1 hr).1
    refine ⟨fun h => (by rw [h] at hr; cases hr), fun j hj => ?_⟩
    have hjn : j < n := by
      rcases Nat.lt_or_ge j n with h | h
      · exact h
      · exact absurd hj (tail_waits2 hsk hch hn inv _ i rfl hin hun j h)
    refine ⟨hjn, ?_⟩
    by_cases hji : j = i
    · subst hji; exact here _ _ _ hy H
    · have := ready_mono hj hji
      obtain ⟨ws, hws, hfs⟩ := hs
      obtain ⟨v0, hv0⟩ := makes_sat ht hst hR hy.2.1 hws hfs (hy.2.2 ws (pre_of hws hfs))
      have := hdone _ _ _ (H v0 hv0 hv0) j this
      omega
  | succ fuel ih =>
    intro listed a E inv hfree hr hE hy H hs
    have hun := (mem_ready.1 hr).1
    refine ⟨fun h => (by rw [h] at hr; cases hr), fun j hj => ?_⟩
    have hjn : j < n := by
      rcases Nat.lt_or_ge j n with h | h
      · exact h
      · exact absurd hj (tail_waits2 hsk hch hn inv _ i rfl hin hun j h)
    refine ⟨hjn, ?_⟩
    by_cases hji : j = i
    · subst hji; exact here _ _ _ hy H
    · obtain ⟨hjun, oj, hoj, hall⟩ := mem_ready.1 hj
      have hnw := not_waits hr hj hoj
      have hdep : dep ops md j i = false := by
        unfold dep
        simp only [hoj, Option.map_some, Option.getD_some]
        rw [List.any_eq_false]
        intro e he hb
        simp only [Bool.and_eq_true, beq_iff_eq] at hb
        exact hnw e (by simpa using he) hb.1 hb.2
      have h2 := op_putM (N := anyL P ops md R w0 Ψ S n L fuel ((listed.setIfInBounds i true).setIfInBounds j true)) ht hst hR hoj (hfree j oj hoj hji hjun hnw) (fun cs b => hsel i oi cs b hi) (fun cs b => hsel j oj cs b hoj) hji (hE j hjun) (hE i (mem_ready.1 hr).1) hdep hs hy
        (fun v hv => ((H v hv hv).2 j (ready_mono hj hji)).2)
      have hfree' : ∀ k ok, ops[k]? = some ok → k ≠ i → (listed.setIfInBounds j true).getD k true = false →
          (∀ e ∈ ok.after, Region.binds md e = true → e.on ≠ i) → oi.apart ops ok = true := fun k ok hk hki hun hno => by
        refine hfree k ok hk hki ?_ hno
        by_cases hjk : j = k
        · subst hjk; exact hjun
        · rw [getD_set_ne true hjk] at hun; exact hun
      refine op_more (fun a' E' hE' h3 => ih (listed.setIfInBounds j true) a' E' (inv.set hj hjn) hfree' (ready_mono hr (Ne.symm hji)) (unlisted hE hE') h3.1 ?_) h2
      rw [Array.setIfInBounds_comm _ _ hji]
      exact h3.2

theorem lexM {n : Nat} (ht : ∀ u v w, R u v → R v w → R u w) (hst : ∀ k ψ, Ψ k = some ψ → ∀ v w w', R w w' → ψ v w → ψ v w') (hR : ∀ w w', R w w' → w.heap.size ≤ w'.heap.size) (hs : Region.noSelect ops = true)
    (hsk : Region.sinkB md ops n = true) (hch : Chain md ops n) (hn : n < ops.size) :
    ∀ (l : List Oper) (k : Nat) (listed : Array Bool) (a : Act) (E : Env), (∀ j, j < l.length → l[j]? = ops[k + j]?) → k + l.length = n → HeadInv md ops n listed → midHead md ops n l.length k listed = true → (∀ k, listed.getD k true = false → E k = none) →
      wpUp P ops md R w0 Ψ S Qf l k a E → anyL P ops md R w0 Ψ S n (fun listed' a' E' => midB md ops n listed' = true ∧ Qf a' E') l.length listed a E
  | [], k, _, _, _, _, hk, _, hB, _, h => by
    have : k = n := by simpa using hk
    subst this
    exact fun _ => ⟨by simpa [midHead] using hB, h⟩
  | o :: l, k, listed, a, E, hl, hk, inv, hB, hE, h => by
    have h0 : ops[k]? = some o := by simpa using (hl 0 (by simp)).symm
    simp only [List.length_cons, midHead, Bool.and_eq_true] at hB
    obtain ⟨⟨hr, hf⟩, hB'⟩ := hB
    have hkn : k < n := by simp only [List.length_cons] at hk; omega
    have hk' : k + 1 + l.length = n := by simp only [List.length_cons] at hk; omega
    have hr' : k ∈ Region.ready md ops listed := by simpa using hr
    have hl' : ∀ j, j < l.length → l[j]? = ops[k + 1 + j]? := fun j hj => by have := hl (j + 1) (by simp; omega); simpa [Nat.add_assoc, Nat.add_comm 1 j] using this
    have hd : ∀ listed' (a' : Act) (E' : Env), (midB md ops n listed' = true ∧ Qf a' E') → ∀ j ∈ Region.ready md ops listed', n ≤ j := fun listed' a' E' hL => midB_ready hL.1
    unfold wpUp at h
    by_cases hw : Region.wanted o (yielded ops a.tmps) = true
    · simp only [hw, if_true] at h
      cases hψ : Ψ k with
      | none =>
        simp only [hψ] at h
        obtain ⟨v, hv, hn'⟩ := h
        exact firstP2 h0 (Region.noSelect_spec hs) hsk hch hn hkn hd l.length listed a E inv (Region.free_spec h0 hf) hr' hE (.inl ⟨hw, hψ, hv⟩) (lexM ht hst hR hs hsk hch hn l (k + 1) _ _ E hl' hk' (inv.set hr' hkn) hB' (unlisted hE (.inl rfl)) hn')
      | some ψ =>
        simp only [hψ] at h
        obtain ⟨hm, hn'⟩ := h
        exact firstM2 ht hst hR h0 (Region.noSelect_spec hs) hsk hch hn hkn hd l.length listed a E inv (Region.free_spec h0 hf) hr' hE ⟨hw, hψ, hm⟩ (fun v hv => lexM ht hst hR hs hsk hch hn l (k + 1) _ _ _ hl' hk' (inv.set hr' hkn) hB' (unlisted hE (.inr ⟨v, rfl⟩)) (hn' v hv))
    · simp only [hw] at h
      exact firstP2 h0 (Region.noSelect_spec hs) hsk hch hn hkn hd l.length listed a E inv (Region.free_spec h0 hf) hr' hE (.inr ⟨by simpa using hw, rfl⟩) (lexM ht hst hR hs hsk hch hn l (k + 1) _ _ E hl' hk' (inv.set hr' hkn) hB' (unlisted hE (.inl rfl)) h)

/-- Only the normal end. -/
theorem wpList_one {Mid : Act → World → Prop} {K : Act → World → Prop} {Q : Exit → Act → World → Prop} {n : Nat} {o : Oper} {a : Act} {w : World} (ho : ops[n]? = some o) (h : wpList P ops (midQ Mid) [o] a w) (hK : ∀ a w, Mid a w → K a w) : wpOp P ops Q n K a w := by
  have hout : ¬ LetsOut (midQ Mid) := fun ⟨_, _, h⟩ => h
  unfold wpOp
  simp only [ho]
  unfold wpList at h
  split
  · rename_i hw
    simp only [hw, if_true] at h
    rcases h with h | h
    · refine .inl ?_
      unfold Oper.wp at *
      generalize (execOp a.eval o).run P w = r at *
      cases r with
      | ok x w' =>
        cases x <;> simp only [Oper.upon] at h ⊢
        case value u => exact hK _ _ h
        case skip => exact hK _ _ h
        case defer d => exact hK _ _ h
        case enter f args =>
          refine h.mono fun e w'' he => ?_
          cases e with
          | returned v => exact hK _ _ he
          | panicked c => exact he.elim
          | outgrown => exact (hout he).elim
        case row row args => exact h.mono fun v w'' he => hK _ _ he
      | halt x w' => cases x <;> simp only [Oper.upon] at h ⊢ <;> exact h.elim
    · exact (hout h.2).elim
  · rename_i hw
    simp only [hw] at h
    exact hK _ _ h
end

open Go.RowKit in
theorem wp_region_mid {P : Program} {id : Nat} {Q : Exit → Act → World → Prop} {a : Act} {w : World} {l : List Oper} (n : Nat) (Ψ : Nat → Option (Value → World → Prop)) (S : Nat → Bool) (hm : P.follows .mixedOrders = true) (hB : midAll .any l.toArray n = true)
    (hst : ∀ k ψ, Ψ k = some ψ → ∀ v w w', Below w.heap.size w w' → ψ v w → ψ v w')
    (h : Held (wpUp P l.toArray .any (fun w w' => Below w.heap.size w w') w Ψ S (fun a' E => ∀ w', Below w.heap.size w w' → Facts Ψ S E w' → wpList P l.toArray (midQ fun a2 w2 => wpQuiet P l.toArray (fun u => ∃ m, u = w2.drewN m) (fun a3 => ∀ u, (∃ m, u = w2.drewN m) → Q .normal a3 u) (l.drop (n + 1)) a2) ((l.drop n).take 1) a' w') (l.take n) 0 a (fun _ => none))) : (Code.region id l.toArray true).wp P Q a w := by
  have ht : ∀ u v w : World, Below u.heap.size u v → Below v.heap.size v w → Below u.heap.size u w := fun u v w h1 h2 => h1.trans (h2.mono h1.size)
  have hR : ∀ u v : World, Below u.heap.size u v → u.heap.size ≤ v.heap.size := fun u v h => h.size
  simp only [midAll, Bool.and_eq_true, decide_eq_true_eq] at hB
  obtain ⟨⟨⟨⟨hsel, hn⟩, hs⟩, hc⟩, hlex⟩ := hB
  have hn' : n < l.length := by simpa using hn
  have htl : (l.take n).length = n := by simp; omega
  have inv0 : HeadInv .any l.toArray n (Array.replicate l.toArray.size false) :=
    ⟨by simp, fun j oj _ hl => (by rw [getD_replicate_false] at hl; cases hl), fun t _ ht => getD_in (by simpa using ht) (getD_replicate_false _ _)⟩
  have H := lexM (md := .any) ht hst hR hsel hs hc hn (l.take n) 0 _ a (fun _ => none) (fun j hj => by
    have hj' : j < n := by rw [htl] at hj; exact hj
    simp [hj']) (by simpa using htl) inv0 (by rw [htl]; exact hlex) (fun _ _ => rfl) h.out
  refine wp_region_any hm ?_
  have := soundL (Q := Q) (g := l.toArray.size - n) ht hst hR (fun listed a' E w' h1 h2 hL => by
    obtain ⟨hm1, hq⟩ := hL
    simp only [midB, Bool.and_eq_true, decide_eq_true_eq] at hm1
    have hg : l.toArray.size - n = (l.toArray.size - (n + 1)) + 1 := by simp at hn ⊢; omega
    rw [hg]
    refine ⟨fun h0 => (by rw [h0] at hm1; cases hm1.1), fun i hi => ?_⟩
    rw [hm1.1] at hi
    obtain rfl : i = n := by simpa using hi
    have hdn : l.drop i = l[i] :: l.drop (i + 1) := List.drop_eq_getElem_cons hn'
    have h3 := hq w' h1 h2
    rw [hdn] at h3
    simp only [List.take_succ_cons, List.take_zero] at h3
    refine wpList_one (o := l[i]) (by simp [hn']) h3 fun a2 w2 hquiet => ?_
    have hdl : (l.drop (i + 1)).length = l.toArray.size - (i + 1) := by simp
    have hq2 := wpAnyQ_lex (C := fun u => ∃ m, u = w2.drewN m) (md := .any) hsel (l.drop (i + 1)) (i + 1) (listed.setIfInBounds i true) a2 (fun j => by simp [List.getElem?_drop]) (by rw [hdl]; exact hm1.2) hquiet
    rw [hdl] at hq2
    exact wpAny_of_quiet (Q := fun a3 => ∀ u, (∃ m, u = w2.drewN m) → Q .normal a3 u) (fun _ u hu h => h u hu) _ _ _ _ ⟨0, rfl⟩ hq2) _ _ _ _ { w with drawn := w.drawn + 1 } (Below.refl _ _).drew ⟨fun k v ψ hk _ => (by cases hk), fun k g _ hk => (by cases hk), fun k j g g' _ _ _ hk _ => (by cases hk)⟩ H
  rw [htl, show n + (l.toArray.size - n) = l.toArray.size by omega] at this
  exact this

end Go.Proofs.YtjlmldhlmnafnaaDoor.UpT

/-
  The walk of the law BankHealed.
-/

namespace Go.Proofs.YtjlmldhlmnafnaaDoor
set_option linter.unusedSimpArgs false
set_option linter.unusedVariables false
set_option maxRecDepth 100000
open Go.RowKit

theorem index_masks (g j : Nat) (hj : j < 2) (u : World) : (Instr.indexAt 66 (.pointer (some ⟨g, 0, none⟩)) (.int .i64 (j : Int))).run Tryd.prog u = .ok (.pointer (some ⟨g, j, none⟩)) u := by
  have := index_ptr (P := Tryd.prog) (t := 66) (e := 43) (n := 2) (m := 1) (g := g) (off := 0) (K := .i64) (j := j) Tryd.underlying66 (by kernel_rfl) hj u
  simpa using this
theorem build_tt (w : World) : (Instr.build 46 [(0, Value.bool true), (1, .bool true)].toArray).run Tryd.prog w = .ok (.agg (twoB true true).toArray) w := by kernel_rfl
theorem equal_tt (u : World) : (Op.equalIn 10000 46 (.agg (twoB true true).toArray) (.agg (twoB true true).toArray)).run Tryd.prog u = .ok true u := by kernel_rfl

set_option maxHeartbeats 8000000 in
theorem healed_long0 (ba : Option Addr) (bc : Nat) (bs : List Int) (m0a : Option Addr) (m0c : Nat) (m0 : List Int) (m1a : Option Addr) (m1c : Nat) (m1 : List Int) (oa : Option Addr) (oc : Nat) (os : List Int) (w : World) (hV : Vars w) (hB : Bs w ba bc bs) (hM0 : Bs w m0a m0c m0) (hM1 : Bs w m1a m1c m1) (hO : Bs w oa oc os) (h1 : 256 < bs.length) :
    Calls Tryd.prog 5 #[.slice ba bs.length bc, .agg #[.slice m0a m0.length m0c, .slice m1a m1.length m1c], .slice oa os.length oc] w fun e w' => e = .returned (.bool true) ∧ Below w.heap.size w w' := by
  have hal := fun u (hu : Vars u) => balive_run u hu
  have him0 : ∀ (g : Nat) (u : World), (Instr.indexAt 66 (.pointer (some ⟨g, 0, none⟩)) (.int .i64 0)).run Tryd.prog u = .ok (.pointer (some ⟨g, 0, none⟩)) u := fun g u => index_masks g 0 (by omega) u
  have him1 : ∀ (g : Nat) (u : World), (Instr.indexAt 66 (.pointer (some ⟨g, 0, none⟩)) (.int .i64 1)).run Tryd.prog u = .ok (.pointer (some ⟨g, 1, none⟩)) u := fun g u => index_masks g 1 (by omega) u
  obtain ⟨nb, hnb⟩ : ∃ n, n = bs.length := ⟨_, rfl⟩
  obtain ⟨n0, hn0⟩ : ∃ n, n = m0.length := ⟨_, rfl⟩
  obtain ⟨n1, hn1⟩ : ∃ n, n = m1.length := ⟨_, rfl⟩
  obtain ⟨no, hno⟩ : ∃ n, n = os.length := ⟨_, rfl⟩
  rw [← hnb, ← hn0, ← hn1, ← hno]
  obtain ⟨mv, hmv⟩ : ∃ mv, mv = [Value.slice m0a n0 m0c, .slice m1a n1 m1c] := ⟨_, rfl⟩
  have HMV : Hid (mv[0]? = some (Value.slice m0a n0 m0c) ∧ mv[1]? = some (Value.slice m1a n1 m1c)) := by rw [hmv]; exact ⟨rfl, rfl⟩
  have hag : (#[Value.slice m0a n0 m0c, .slice m1a n1 m1c] : Array Value) = mv.toArray := by rw [hmv]
  rw [hag]
  have hqnb : decide ((256 : Int) < (nb : Int)) = true := by simp; omega
  clear hmv hag hnb hn0 hn1 hno
  go_enter Tryd.func5, Tryd.ntmps5
  go_wp2_with (first
    | ((with_reducible show wpList _ _ _ (Oper.mk _ (Op.box _ _) _ _ _ _ :: _) _ _); refine wpList_box0 (by rfl) 66 (.tmp 1) (by rfl) mv (by rfl) ?_; intro w1 hL1 hb1 hs1
       clear hs1
       have hc10 : w1.cell? ⟨w.heap.size, 0, none⟩ = some (.slice m0a n0 m0c) := (hL1.cell 0).trans HMV.out.1
       have hc11 : w1.cell? ⟨w.heap.size, 1, none⟩ = some (.slice m1a n1 m1c) := (hL1.cell 1).trans HMV.out.2
       have hfr := bs_fresh 32 w1 (by omega) (by omega))
    | (go_at_call 7; go_must (refine hfr.mono ?_); rintro e w2 ⟨k, p, g, rfl, hK2⟩
       have hb2 := hK2.bel
       have hc20 := (hb2.cell (p := ⟨w.heap.size, 0, none⟩) hL1.lt).trans hc10
       have hc21 := (hb2.cell (p := ⟨w.heap.size, 1, none⟩) hL1.lt).trans hc11)
    | (go_at_call 18; go_must (refine (hal _ (hK2.vars (hV.stays hb1))).mono ?_); rintro e w3 ⟨rfl, hb3⟩))
  go_ret
  exact ⟨rfl, (hb1.trans (hb2.mono hb1.size)).trans (hb3.mono (Nat.le_trans hb1.size hb2.size))⟩

set_option maxHeartbeats 8000000 in
theorem healed_long1 (ba : Option Addr) (bc : Nat) (bs : List Int) (m0a : Option Addr) (m0c : Nat) (m0 : List Int) (m1a : Option Addr) (m1c : Nat) (m1 : List Int) (oa : Option Addr) (oc : Nat) (os : List Int) (w : World) (hV : Vars w) (hB : Bs w ba bc bs) (hM0 : Bs w m0a m0c m0) (hM1 : Bs w m1a m1c m1) (hO : Bs w oa oc os) (h1 : bs.length ≤ 256) (h2 : 256 < os.length) :
    Calls Tryd.prog 5 #[.slice ba bs.length bc, .agg #[.slice m0a m0.length m0c, .slice m1a m1.length m1c], .slice oa os.length oc] w fun e w' => e = .returned (.bool true) ∧ Below w.heap.size w w' := by
  have hal := fun u (hu : Vars u) => balive_run u hu
  have him0 : ∀ (g : Nat) (u : World), (Instr.indexAt 66 (.pointer (some ⟨g, 0, none⟩)) (.int .i64 0)).run Tryd.prog u = .ok (.pointer (some ⟨g, 0, none⟩)) u := fun g u => index_masks g 0 (by omega) u
  have him1 : ∀ (g : Nat) (u : World), (Instr.indexAt 66 (.pointer (some ⟨g, 0, none⟩)) (.int .i64 1)).run Tryd.prog u = .ok (.pointer (some ⟨g, 1, none⟩)) u := fun g u => index_masks g 1 (by omega) u
  obtain ⟨nb, hnb⟩ : ∃ n, n = bs.length := ⟨_, rfl⟩
  obtain ⟨n0, hn0⟩ : ∃ n, n = m0.length := ⟨_, rfl⟩
  obtain ⟨n1, hn1⟩ : ∃ n, n = m1.length := ⟨_, rfl⟩
  obtain ⟨no, hno⟩ : ∃ n, n = os.length := ⟨_, rfl⟩
  rw [← hnb, ← hn0, ← hn1, ← hno]
  obtain ⟨mv, hmv⟩ : ∃ mv, mv = [Value.slice m0a n0 m0c, .slice m1a n1 m1c] := ⟨_, rfl⟩
  have HMV : Hid (mv[0]? = some (Value.slice m0a n0 m0c) ∧ mv[1]? = some (Value.slice m1a n1 m1c)) := by rw [hmv]; exact ⟨rfl, rfl⟩
  have hag : (#[Value.slice m0a n0 m0c, .slice m1a n1 m1c] : Array Value) = mv.toArray := by rw [hmv]
  rw [hag]
  have hqnb : decide ((256 : Int) < (nb : Int)) = false := by simp; omega
  have hqno : decide ((256 : Int) < (no : Int)) = true := by simp; omega
  clear hmv hag hnb hn0 hn1 hno
  go_enter Tryd.func5, Tryd.ntmps5
  go_wp2_with (first
    | ((with_reducible show wpList _ _ _ (Oper.mk _ (Op.box _ _) _ _ _ _ :: _) _ _); refine wpList_box0 (by rfl) 66 (.tmp 1) (by rfl) mv (by rfl) ?_; intro w1 hL1 hb1 hs1
       clear hs1
       have hc10 : w1.cell? ⟨w.heap.size, 0, none⟩ = some (.slice m0a n0 m0c) := (hL1.cell 0).trans HMV.out.1
       have hc11 : w1.cell? ⟨w.heap.size, 1, none⟩ = some (.slice m1a n1 m1c) := (hL1.cell 1).trans HMV.out.2
       have hfr := bs_fresh 32 w1 (by omega) (by omega))
    | (go_at_call 7; go_must (refine hfr.mono ?_); rintro e w2 ⟨k, p, g, rfl, hK2⟩
       have hb2 := hK2.bel
       have hc20 := (hb2.cell (p := ⟨w.heap.size, 0, none⟩) hL1.lt).trans hc10
       have hc21 := (hb2.cell (p := ⟨w.heap.size, 1, none⟩) hL1.lt).trans hc11)
    | (go_at_call 18; go_must (refine (hal _ (hK2.vars (hV.stays hb1))).mono ?_); rintro e w3 ⟨rfl, hb3⟩))
  go_ret
  exact ⟨rfl, (hb1.trans (hb2.mono hb1.size)).trans (hb3.mono (Nat.le_trans hb1.size hb2.size))⟩

set_option maxHeartbeats 8000000 in
theorem healed_long2 (ba : Option Addr) (bc : Nat) (bs : List Int) (m0a : Option Addr) (m0c : Nat) (m0 : List Int) (m1a : Option Addr) (m1c : Nat) (m1 : List Int) (oa : Option Addr) (oc : Nat) (os : List Int) (w : World) (hV : Vars w) (hB : Bs w ba bc bs) (hM0 : Bs w m0a m0c m0) (hM1 : Bs w m1a m1c m1) (hO : Bs w oa oc os) (h1 : bs.length ≤ 256) (h2 : os.length ≤ 256) (h3 : 256 < m0.length) :
    Calls Tryd.prog 5 #[.slice ba bs.length bc, .agg #[.slice m0a m0.length m0c, .slice m1a m1.length m1c], .slice oa os.length oc] w fun e w' => e = .returned (.bool true) ∧ Below w.heap.size w w' := by
  have hal := fun u (hu : Vars u) => balive_run u hu
  have him0 : ∀ (g : Nat) (u : World), (Instr.indexAt 66 (.pointer (some ⟨g, 0, none⟩)) (.int .i64 0)).run Tryd.prog u = .ok (.pointer (some ⟨g, 0, none⟩)) u := fun g u => index_masks g 0 (by omega) u
  have him1 : ∀ (g : Nat) (u : World), (Instr.indexAt 66 (.pointer (some ⟨g, 0, none⟩)) (.int .i64 1)).run Tryd.prog u = .ok (.pointer (some ⟨g, 1, none⟩)) u := fun g u => index_masks g 1 (by omega) u
  obtain ⟨nb, hnb⟩ : ∃ n, n = bs.length := ⟨_, rfl⟩
  obtain ⟨n0, hn0⟩ : ∃ n, n = m0.length := ⟨_, rfl⟩
  obtain ⟨n1, hn1⟩ : ∃ n, n = m1.length := ⟨_, rfl⟩
  obtain ⟨no, hno⟩ : ∃ n, n = os.length := ⟨_, rfl⟩
  rw [← hnb, ← hn0, ← hn1, ← hno]
  obtain ⟨mv, hmv⟩ : ∃ mv, mv = [Value.slice m0a n0 m0c, .slice m1a n1 m1c] := ⟨_, rfl⟩
  have HMV : Hid (mv[0]? = some (Value.slice m0a n0 m0c) ∧ mv[1]? = some (Value.slice m1a n1 m1c)) := by rw [hmv]; exact ⟨rfl, rfl⟩
  have hag : (#[Value.slice m0a n0 m0c, .slice m1a n1 m1c] : Array Value) = mv.toArray := by rw [hmv]
  rw [hag]
  have hqnb : decide ((256 : Int) < (nb : Int)) = false := by simp; omega
  have hqno : decide ((256 : Int) < (no : Int)) = false := by simp; omega
  have hqn0 : decide ((256 : Int) < (n0 : Int)) = true := by simp; omega
  clear hmv hag hnb hn0 hn1 hno
  go_enter Tryd.func5, Tryd.ntmps5
  go_wp2_with (first
    | ((with_reducible show wpList _ _ _ (Oper.mk _ (Op.box _ _) _ _ _ _ :: _) _ _); refine wpList_box0 (by rfl) 66 (.tmp 1) (by rfl) mv (by rfl) ?_; intro w1 hL1 hb1 hs1
       clear hs1
       have hc10 : w1.cell? ⟨w.heap.size, 0, none⟩ = some (.slice m0a n0 m0c) := (hL1.cell 0).trans HMV.out.1
       have hc11 : w1.cell? ⟨w.heap.size, 1, none⟩ = some (.slice m1a n1 m1c) := (hL1.cell 1).trans HMV.out.2
       have hfr := bs_fresh 32 w1 (by omega) (by omega))
    | (go_at_call 7; go_must (refine hfr.mono ?_); rintro e w2 ⟨k, p, g, rfl, hK2⟩
       have hb2 := hK2.bel
       have hc20 := (hb2.cell (p := ⟨w.heap.size, 0, none⟩) hL1.lt).trans hc10
       have hc21 := (hb2.cell (p := ⟨w.heap.size, 1, none⟩) hL1.lt).trans hc11)
    | (go_at_call 18; go_must (refine (hal _ (hK2.vars (hV.stays hb1))).mono ?_); rintro e w3 ⟨rfl, hb3⟩))
  go_ret
  exact ⟨rfl, (hb1.trans (hb2.mono hb1.size)).trans (hb3.mono (Nat.le_trans hb1.size hb2.size))⟩

set_option maxHeartbeats 8000000 in
theorem healed_long3 (ba : Option Addr) (bc : Nat) (bs : List Int) (m0a : Option Addr) (m0c : Nat) (m0 : List Int) (m1a : Option Addr) (m1c : Nat) (m1 : List Int) (oa : Option Addr) (oc : Nat) (os : List Int) (w : World) (hV : Vars w) (hB : Bs w ba bc bs) (hM0 : Bs w m0a m0c m0) (hM1 : Bs w m1a m1c m1) (hO : Bs w oa oc os) (h1 : bs.length ≤ 256) (h2 : os.length ≤ 256) (h3 : m0.length ≤ 256) (h4 : 256 < m1.length) :
    Calls Tryd.prog 5 #[.slice ba bs.length bc, .agg #[.slice m0a m0.length m0c, .slice m1a m1.length m1c], .slice oa os.length oc] w fun e w' => e = .returned (.bool true) ∧ Below w.heap.size w w' := by
  have hal := fun u (hu : Vars u) => balive_run u hu
  have him0 : ∀ (g : Nat) (u : World), (Instr.indexAt 66 (.pointer (some ⟨g, 0, none⟩)) (.int .i64 0)).run Tryd.prog u = .ok (.pointer (some ⟨g, 0, none⟩)) u := fun g u => index_masks g 0 (by omega) u
  have him1 : ∀ (g : Nat) (u : World), (Instr.indexAt 66 (.pointer (some ⟨g, 0, none⟩)) (.int .i64 1)).run Tryd.prog u = .ok (.pointer (some ⟨g, 1, none⟩)) u := fun g u => index_masks g 1 (by omega) u
  obtain ⟨nb, hnb⟩ : ∃ n, n = bs.length := ⟨_, rfl⟩
  obtain ⟨n0, hn0⟩ : ∃ n, n = m0.length := ⟨_, rfl⟩
  obtain ⟨n1, hn1⟩ : ∃ n, n = m1.length := ⟨_, rfl⟩
  obtain ⟨no, hno⟩ : ∃ n, n = os.length := ⟨_, rfl⟩
  rw [← hnb, ← hn0, ← hn1, ← hno]
  obtain ⟨mv, hmv⟩ : ∃ mv, mv = [Value.slice m0a n0 m0c, .slice m1a n1 m1c] := ⟨_, rfl⟩
  have HMV : Hid (mv[0]? = some (Value.slice m0a n0 m0c) ∧ mv[1]? = some (Value.slice m1a n1 m1c)) := by rw [hmv]; exact ⟨rfl, rfl⟩
  have hag : (#[Value.slice m0a n0 m0c, .slice m1a n1 m1c] : Array Value) = mv.toArray := by rw [hmv]
  rw [hag]
  have hqnb : decide ((256 : Int) < (nb : Int)) = false := by simp; omega
  have hqno : decide ((256 : Int) < (no : Int)) = false := by simp; omega
  have hqn0 : decide ((256 : Int) < (n0 : Int)) = false := by simp; omega
  have hqn1 : decide ((256 : Int) < (n1 : Int)) = true := by simp; omega
  clear hmv hag hnb hn0 hn1 hno
  go_enter Tryd.func5, Tryd.ntmps5
  go_wp2_with (first
    | ((with_reducible show wpList _ _ _ (Oper.mk _ (Op.box _ _) _ _ _ _ :: _) _ _); refine wpList_box0 (by rfl) 66 (.tmp 1) (by rfl) mv (by rfl) ?_; intro w1 hL1 hb1 hs1
       clear hs1
       have hc10 : w1.cell? ⟨w.heap.size, 0, none⟩ = some (.slice m0a n0 m0c) := (hL1.cell 0).trans HMV.out.1
       have hc11 : w1.cell? ⟨w.heap.size, 1, none⟩ = some (.slice m1a n1 m1c) := (hL1.cell 1).trans HMV.out.2
       have hfr := bs_fresh 32 w1 (by omega) (by omega))
    | (go_at_call 7; go_must (refine hfr.mono ?_); rintro e w2 ⟨k, p, g, rfl, hK2⟩
       have hb2 := hK2.bel
       have hc20 := (hb2.cell (p := ⟨w.heap.size, 0, none⟩) hL1.lt).trans hc10
       have hc21 := (hb2.cell (p := ⟨w.heap.size, 1, none⟩) hL1.lt).trans hc11)
    | (go_at_call 18; go_must (refine (hal _ (hK2.vars (hV.stays hb1))).mono ?_); rintro e w3 ⟨rfl, hb3⟩))
  go_ret
  exact ⟨rfl, (hb1.trans (hb2.mono hb1.size)).trans (hb3.mono (Nat.le_trans hb1.size hb2.size))⟩

end Go.Proofs.YtjlmldhlmnafnaaDoor
