/-
  A range over a function that is a method value (its receiver bound): the caller's law, for iterators that tell round by round what they need.
-/
import Derived.RangeFuncNested
import Derived.RangeFuncLeaves
import Derived.Shelf.Abstract
import Derived.WalkKit
import Derived.OwnWalkIn
import Derived.TacticsInMore
import Derived.LoopNIn
import Derived.LoopIn
namespace Go.Proofs.YteocmmmnfbabaaaDoor
set_option linter.unusedSimpArgs false
set_option linter.unusedVariables false
open Go.RowKit

/-- All lies as it lay, but what is no cells from the block B on. -/
structure Aside (B : Nat) (w w' : World) : Prop where
  os : w'.os = w.os
  tape : w'.tape = w.tape
  output : w'.output = w.output
  size : w.heap.size ≤ w'.heap.size
  block : ∀ k, k < w.heap.size → (k < B ∨ ∃ o : Obj, w.heap[k]? = some o ∧ o.isCells = true) → w'.heap[k]? = w.heap[k]?

theorem Aside.of_below {B : Nat} {w w' : World} (h : Below w.heap.size w w') : Aside B w w' := ⟨h.os, h.tape, h.output, h.size, fun k hk _ => h.block k hk⟩

theorem Aside.put {B l : Nat} {w : World} {o : Obj} (o' : Obj) (hl : w.heap[l]? = some o) (hB : B ≤ l) (ho : o.isCells = false) : Aside B w (w.putObj l o') := by
  have hg := grownBy_putObj' w l o'
  refine ⟨rfl, rfl, rfl, hg.size, fun k hk h => hg.block k hk (fun e => ?_)⟩
  cases e
  rcases h with h | ⟨o1, h1, h2⟩
  · omega
  · rw [hl] at h1; cases h1; rw [ho] at h2; cases h2

theorem Aside.cell {B : Nat} {w w' : World} (h : Aside B w w') {p : Addr} {v : Value} (hc : w.cell? p = some v) : w'.cell? p = some v := by
  rw [World.cell?_of_block (w := w) (h.block p.block (World.block_lt_of_cell? w _ hc) (.inr (cells_of_cell hc)))]
  exact hc

theorem wide_fn (f : FuncId) : Fence.wide.fn f = True := eq_true trivial
theorem wide_depth : (Fence.wide.depth = none) = True := eq_true rfl
theorem round_fn (l : Nat) (f : FuncId) : (Fence.wide.inRound l).fn f = True := eq_true trivial
theorem round_depth (l : Nat) : ((Fence.wide.inRound l).depth = none) = True := eq_true rfl

/-- How a round may be left. -/
def endOf (B : Nat) (I : World → Prop) (Ix : Code → World → Prop) (W : World) : Exit → Act → World → Prop
  | .normal, _, W' => KeepsFrom B W W' ∧ I W'
  | .ret, _, W' => KeepsFrom B W W' ∧ Ix .ret W'
  | .exit id, _, W' => KeepsFrom B W W' ∧ Ix (.exit id) W'
  | .goto t, _, W' => KeepsFrom B W W' ∧ Ix (.goto t) W'
  | .panic _, _, _ => False
  | .outgrown, _, _ => False

/-- An iterator g with a receiver r: N rounds, the i-th with the values encs i, as long as what it needs is there. -/
def Iter (P : Program) (g : Nat) (r : Value) (N : Nat) (encs : Nat → Array Value) (Nd : World → Prop) (W : World) : Prop :=
  ∀ (l : Nat) (J : Nat → World → Prop) (Jx : World → Prop), (∀ i W1, J i W1 → Nd W1) → (∀ i W1 W2, J i W1 → Below W1.heap.size W1 W2 → J i W2) →
    (∀ i W1, i < N → J i W1 → YieldAt Fence.wide 0 P l (encs i) W1 fun e W' => (e = .returned (.bool true) ∧ J (i + 1) W') ∨ (e = .returned (.bool false) ∧ Jx W')) →
    J 0 W → CallsIn Fence.wide 0 P g #[r, .func (.yield l) #[] #[]] W fun e W' => (∃ v, e = .returned v) ∧ (J N W' ∨ Jx W')

theorem wpIn_range_bound {P : Program} {g : Operand} {ps : Array Tmp} {assign body : Code} {Q : Exit → Act → World → Prop} {a : Act} {w : World} (gf : Nat) (r : Value)
    (hg : a.eval g = .func (.func gf) #[r] #[]) (eg : ∀ args w, (callFunc gf args).run P w = .ok (.enter gf args) w)
    (N : Nat) (encs : Nat → Array Value) (Nd : World → Prop) (hit : ∀ W, Nd W → Iter P gf r N encs Nd W) (hps : ∀ i, (encs i).size = ps.size)
    (I : Nat → World → Prop) (Ix : Code → World → Prop) (hNd : ∀ i W, I i W → Nd W)
    (hI : ∀ i W W', I i W → Aside w.heap.size W W' → I i W') (hIx : ∀ c W W', Ix c W → Aside w.heap.size W W' → Ix c W') (h0 : I 0 w)
    (hround : ∀ (l i : Nat) (W : World) (K : Act → World → Prop), i < N → I i W →
      (∀ a₁ w₁, KeepsFrom w.heap.size W w₁ → (∀ w₂, Aside w.heap.size w₁ w₂ → body.wpIn (Fence.wide.inRound l) 0 P (endOf w.heap.size (I (i + 1)) Ix w₂) a₁ w₂) → K a₁ w₁) →
      assign.wpIn (Fence.wide.inRound l) 0 P (Exit.then K (fun _ _ _ => False)) { tmps := (ps.zip (encs i)).foldl (fun t (p, v) => t.setIfInBounds p v) a.tmps, defers := [] } W)
    (hdone : ∀ W, I N W → W.heap[w.heap.size]? = some (.deferred (some [])) → Q .normal { a with defers := { target := .collected w.heap.size, args := #[] } :: a.defers } W)
    (hstop : ∀ (c : Code) (W : World), Ix c W → W.heap[w.heap.size]? = some (.deferred (some [])) → c.wpIn Fence.wide 0 P Q { a with defers := { target := .collected w.heap.size, args := #[] } :: a.defers } W) :
    (Code.rangeFunc g ps assign body).wpIn Fence.wide 0 P Q a w := by
  refine wpIn_rangeFunc ?_
  intro fn hfn
  obtain ⟨B, hB⟩ : ∃ B, B = w.heap.size := ⟨_, rfl⟩
  obtain ⟨rec, hrec⟩ : ∃ rec : LoopState → Option Code → Loop, rec = fun st pe => { state := st, pending := pe, fn, tmps := a.tmps, params := ps, assign, body, defers := w.heap.size } := ⟨_, rfl⟩
  obtain ⟨W1, hW1⟩ : ∃ W1, (w.alloc (.deferred (some []))).alloc (.loop (rec .ready none)) = W1 := ⟨_, rfl⟩
  have hbel : Below w.heap.size w W1 := by rw [← hW1]; exact ((Below.refl _ w).alloc (Nat.le_refl _) _).alloc (by simp) _
  have hl1 : W1.heap[w.heap.size + 1]? = some (.loop (rec .ready none)) := by
    rw [← hW1]; have := World.alloc_heap_new (w.alloc (.deferred (some []))) (.loop (rec .ready none)); rwa [World.size_alloc] at this
  have hd1 : W1.heap[w.heap.size]? = some (.deferred (some [])) := by
    rw [← hW1]; exact (Below.heap_alloc _ _ _ (by simp)).trans (World.alloc_heap_new w _)
  have hkeep : ∀ {X Y : World} {k : Nat} {o : Obj}, Below X.heap.size X Y → X.heap[k]? = some o → Y.heap[k]? = some o := fun hb hk => (hb.block _ (Array.getElem?_eq_some_iff.1 hk).1).trans hk
  refine ⟨w.heap.size + 1, [{ target := .collected w.heap.size, args := #[] }], W1, { target := .fn (.func gf) #[], args := #[r, .func (.yield (w.heap.size + 1)) #[] #[]] }, W1, gf,
    #[r, .func (.yield (w.heap.size + 1)) #[] #[]], W1, ?_, ?_, fun _ _ => trivial, ?_, fun h => (by cases h), ?_⟩
  · rw [← hW1, hrec]; exact run_enterLoop_outer _ _ _ _ _
  · simp only [resolve, hg]
    simp [go_sem]
  · simp [invoke, go_sem, eg]
  refine (hit W1 (hNd 0 _ (hI 0 _ _ h0 (Aside.of_below hbel))) (w.heap.size + 1)
    (fun i W => I i W ∧ W.heap[w.heap.size + 1]? = some (.loop (rec .ready none)) ∧ W.heap[w.heap.size]? = some (.deferred (some [])))
    (fun W => ∃ c, Ix c W ∧ W.heap[w.heap.size + 1]? = some (.loop (rec .done (some c))) ∧ W.heap[w.heap.size]? = some (.deferred (some [])))
    (fun i W h => hNd i W h.1) (fun i X Y h hb => ⟨hI i _ _ h.1 (Aside.of_below hb), hkeep hb h.2.1, hkeep hb h.2.2⟩) ?_ ⟨hI 0 _ _ h0 (Aside.of_below hbel), hl1, hd1⟩).mono ?_
  · rintro i W hi ⟨hIi, hl, hd⟩
    have hy := run_yield (P := P) (args := encs i) hl (by rw [hrec]; exact hps i)
    rw [hrec] at hy
    refine ⟨fn, _, assign, body, hy, roundIn_of_wpIn hfn (hround _ i W _ hi hIi ?_)⟩
    intro a₁ w₁ hk1 hbody
    have hl' := hk1.same _ _ (by omega) hl rfl
    have hd' := hk1.same _ _ (Nat.le_refl _) hd rfl
    refine ⟨_, run_beginRound hl' (by rw [hrec]), ?_⟩
    have hlt : w.heap.size + 1 < w₁.heap.size := (Array.getElem?_eq_some_iff.1 hl').1
    have hl2 : (w₁.putObj (w.heap.size + 1) (.loop { rec .ready none with state := .busy })).heap[w.heap.size + 1]? = some (.loop { rec .ready none with state := .busy }) := World.putObj_heap_same hlt
    have hd2 : (w₁.putObj (w.heap.size + 1) (.loop { rec .ready none with state := .busy })).heap[w.heap.size]? = some (.deferred (some [])) := (World.putObj_heap_other (by omega)).trans hd'
    refine wpIn_mono (hbody _ (Aside.put _ hl' (by omega) rfl)) ?_
    have fin : ∀ (jump : Option Code) (W3 : World), KeepsFrom w.heap.size (w₁.putObj (w.heap.size + 1) (.loop { rec .ready none with state := .busy })) W3 →
        ∃ W4, (Instr.endRound (w.heap.size + 1) jump).run P W3 = .ok (.bool jump.isNone) W4 ∧ Aside w.heap.size W3 W4 ∧
          W4.heap[w.heap.size + 1]? = some (.loop (rec (if jump.isNone then .ready else .done) jump)) ∧ W4.heap[w.heap.size]? = some (.deferred (some [])) := fun jump W3 hk3 => by
      have hl3 := hk3.same _ _ (by omega) hl2 rfl
      have hd3 := hk3.same _ _ (Nat.le_refl _) hd2 rfl
      have h := run_endRound (P := P) jump hl3
      refine ⟨_, h, Aside.put _ hl3 (by omega) rfl, ?_, (World.putObj_heap_other (by omega)).trans hd3⟩
      rw [World.putObj_heap_same (Array.getElem?_eq_some_iff.1 hl3).1, hrec]
    intro e a3 W3 hp
    cases e with
    | normal =>
      obtain ⟨W4, hr, hA, h1, h2⟩ := fin none W3 hp.1
      exact ⟨_, _, hr, .inl ⟨rfl, hI _ _ _ hp.2 hA, h1, h2⟩⟩
    | ret =>
      obtain ⟨W4, hr, hA, h1, h2⟩ := fin (some .ret) W3 hp.1
      exact ⟨_, _, hr, .inr ⟨rfl, .ret, hIx _ _ _ hp.2 hA, h1, h2⟩⟩
    | exit id =>
      obtain ⟨W4, hr, hA, h1, h2⟩ := fin (some (.exit id)) W3 hp.1
      exact ⟨_, _, hr, .inr ⟨rfl, .exit id, hIx _ _ _ hp.2 hA, h1, h2⟩⟩
    | goto t =>
      obtain ⟨W4, hr, hA, h1, h2⟩ := fin (some (.goto t)) W3 hp.1
      exact ⟨_, _, hr, .inr ⟨rfl, .goto t, hIx _ _ _ hp.2 hA, h1, h2⟩⟩
    | panic ch => exact hp.elim
    | outgrown => exact hp.elim
  · rintro e W2 ⟨⟨v, rfl⟩, (⟨hi, hl, hd⟩ | ⟨c, hi, hl, hd⟩)⟩
    · exact ⟨none, _, by have := run_endLoop (P := P) hl (by rw [hrec]; simp); rw [hrec] at this; exact this, hdone _ (hI _ _ _ hi (Aside.put _ hl (by omega) rfl)) ((World.putObj_heap_other (by omega)).trans hd)⟩
    · exact ⟨some c, _, by have := run_endLoop (P := P) hl (by rw [hrec]; simp); rw [hrec] at this; exact this, hstop c _ (hIx _ _ _ hi (Aside.put _ hl (by omega) rfl)) ((World.putObj_heap_other (by omega)).trans hd)⟩

end Go.Proofs.YteocmmmnfbabaaaDoor
