/-
  Both maps beside each other: what stays through an act.
-/
import Derived.Test.YtfmfjaokpnadaaaSpRefK
import Derived.Test.YtfmfjaokpnadaaaSpRefT
import Derived.Test.YtfmfjaokpnadaaaSpOpens
import Derived.Test.YtfmfjaokpnadaaaSpSame
import Derived.Test.YtfmfjaokpnadaaaUpKit
namespace Go.Proofs.Ytfmfjaokpnadaaa
set_option linter.unusedSimpArgs false
set_option linter.unusedVariables false
open Go.RowKit

theorem blk_ne {e e' : TypeId} {w : World} {g g' : Nat} {vs vs' : List Value} (h : Blk e w g vs) (h' : Blk e' w g' vs') (hne : e ≠ e') : g ≠ g' := by
  rintro rfl
  unfold Blk at *
  rw [h] at h'
  simp at h'
  exact hne h'.2

/-- Our map at g, the document's in the variable at M, its truths at q; the act at X; the copy at C. -/
structure Pk (u : World) (g M q cq n X C : Nat) (lm lt l0 : List Bool) (av : List Value) : Prop where
  m : Mp u g lm
  b : Blk 29 u M [.slice (some ⟨q, 0, none⟩) n cq]
  t : Tr u q cq lt
  x : Blk 35 u X av
  c : Mp u C l0

section
variable {u u' : World} {g M q cq n X C : Nat} {lm lt l0 : List Bool} {av : List Value}

theorem Pk.stays (h : Pk u g M q cq n X C lm lt l0 av) (hb : Below u.heap.size u u') : Pk u' g M q cq n X C lm lt l0 av := ⟨h.m.stays hb, h.b.stays hb, h.t.stays hb, h.x.stays hb, h.c.stays hb⟩

theorem Pk.act {lm' : List Bool} (h : Pk u g M q cq n X C lm lt l0 av) (hm : Mp u' g lm') (hb : But g u u') (hC : C ≠ g) : Pk u' g M q cq n X C lm' lt l0 av := by
  obtain ⟨r, h1, h2, h3⟩ := h.t
  exact ⟨hm, h.b.but hb (blk_ne h.b h.m.blk (by decide)), ⟨r, h1.but hb (blk_ne h1 h.m.blk (by decide)), h2, h3⟩, h.x.but hb (blk_ne h.x h.m.blk (by decide)), ⟨h.c.blk.but hb hC, h.c.lo, h.c.hi⟩⟩

theorem Pk.ref {q' cq' : Nat} {lt' : List Bool} (h : Pk u g M q cq n X C lm lt l0 av) (ht : Tr u q' cq' lt') : Pk (u.setCell ⟨M, 0, none⟩ (.slice (some ⟨q', 0, none⟩) n cq')) g M q' cq' n X C lm lt' l0 av := by
  have hb : But M u (u.setCell ⟨M, 0, none⟩ (.slice (some ⟨q', 0, none⟩) n cq')) := (But.refl M u).setCell 0 _
  obtain ⟨r, h1, h2, h3⟩ := ht
  exact ⟨⟨h.m.blk.but hb (blk_ne h.m.blk h.b (by decide)), h.m.lo, h.m.hi⟩, h.b.set 0 _, ⟨r, h1.but hb (blk_ne h1 h.b (by decide)), h2, h3⟩, h.x.but hb (blk_ne h.x h.b (by decide)), ⟨h.c.blk.but hb (blk_ne h.c.blk h.b (by decide)), h.c.lo, h.c.hi⟩⟩

theorem us_ref {a : Option Addr} {ks : List Nat} {x : Value} (h : Us u a ks) (hb : Blk 29 u M [.slice (some ⟨q, 0, none⟩) n cq]) : Us (u.setCell ⟨M, 0, none⟩ x) a ks := by
  refine ⟨h.rng, ?_⟩
  rcases h.lay with h0 | ⟨b, off, rfl, hc⟩
  · exact .inl h0
  · refine .inr ⟨b, off, rfl, fun i hi => ?_⟩
    have hci := hc i hi
    have hne : b ≠ M := by
      rintro rfl
      rw [hb.cell] at hci
      have hm := List.mem_of_getElem? hci
      simp at hm
    have hB : But M u (u.setCell ⟨M, 0, none⟩ x) := (But.refl M u).setCell 0 _
    rw [World.cell?_of_block (w := u) (hB.block b hne (World.block_lt_of_cell? u _ hci))]
    exact hci
end

theorem takeL_rng (l : List Bool) (k : Int) (hl : l.length ≤ 512) : ∀ x ∈ (takeL l k).2.1, x < 4294967296 := by
  unfold takeL
  split
  · simp
  · split
    · simp
    · intro x hx
      have := (Fr_mem.1 (List.mem_of_mem_take hx)).1
      omega

theorem takeL_few (l : List Bool) (k : Int) : (takeL l k).2.1.length ≤ 8 := by
  unfold takeL
  split
  · simp
  · split
    · simp
    · simp; omega

section
variable {g c : Nat} {l : List Bool}

theorem rtake_run (n : Nat) (k : Int) (w : World) (hT : Tr w g c l) (hn : n = l.length) (h16 : 16 ≤ n) (hl : n ≤ 512) :
    Calls Try.prog 13 #[.agg #[.slice (some ⟨g, 0, none⟩) n c], .int .i64 k] w fun e w' =>
      ∃ q cq v, e = .returned (.tuple #[.agg #[.slice (some ⟨q, 0, none⟩) n cq], v, .int .i64 ((takeL l k).2.2 : Int)]) ∧ Tr w' q cq (takeL l k).1 ∧ Nums w.heap.size w' v (takeL l k).2.1 ∧ Below w.heap.size w w' := by
  unfold takeL
  by_cases h1 : k < 0 ∨ 8 < k
  · rw [if_pos h1]
    refine (rtake_bad n k h1 w).mono ?_
    rintro e w' ⟨rfl, hb⟩
    exact ⟨_, _, _, rfl, hT.stays hb, Nums.none _ _, hb⟩
  · rw [if_neg h1]
    obtain ⟨m, rfl⟩ : ∃ m : Nat, k = (m : Int) := ⟨k.toNat, by omega⟩
    by_cases h2 : (freeN l : Int) < (m : Int)
    · rw [if_pos h2]
      refine (rtake_full n m (by omega) w hT hn hl (by omega)).mono ?_
      rintro e w' ⟨rfl, hb⟩
      exact ⟨_, _, _, rfl, hT.stays hb, Nums.none _ _, hb⟩
    · rw [if_neg h2]
      refine (rtake_some n m (by omega) w hT hn h16 hl (by omega)).mono ?_
      rintro e w' ⟨q, cq, v, h3, h4, h5, _, h6⟩
      exact ⟨q, cq, v, h3, h4, h5, h6⟩

theorem rgive_run (n i : Nat) (hi : i < 4294967296) (w : World) (hT : Tr w g c l) (hn : n = l.length) (hl : n ≤ 512) :
    Calls Try.prog 15 #[.agg #[.slice (some ⟨g, 0, none⟩) n c], .int .u32 (i : Int)] w fun e w' =>
      ∃ q cq, e = .returned (.tuple #[.agg #[.slice (some ⟨q, 0, none⟩) n cq], .int .i64 ((giveL l i).2 : Int)]) ∧ Tr w' q cq (giveL l i).1 ∧ Below w.heap.size w w' := by
  unfold giveL
  by_cases hc : i < l.length ∧ 4 ≤ i ∧ l.getD i false = true
  · rw [if_pos hc]
    refine (rgive_yes i n w hT hn hl (by omega) hc.2.1 hc.2.2).mono ?_
    rintro e w' ⟨q, cq, h3, h4, _, h6⟩
    exact ⟨q, cq, h3, h4, h6⟩
  · rw [if_neg hc]
    refine (rgive_no i n hi w hT hn hl (by rw [hn]; exact hc)).mono ?_
    rintro e w' ⟨rfl, hb⟩
    exact ⟨_, _, rfl, hT.stays hb, hb⟩
end

theorem run_none32 (w : World) : (Instr.buildSlice 33 0 #[]).run Try.prog w = .ok (.slice (some ⟨w.heap.size, 0, none⟩) 0 0) (w.alloc (.cells #[] 32)) := by kernel_rfl

/-- A slice of no numbers. -/
theorem wpList_none32 {w : World} {ops : Array Oper} {rest : List Oper} {o : Oper} {a : Act} {Q : Exit → Act → World → Prop} (hgd : o.guard = none) (ho : o.op = Op.buildSlice 33 0 #[]) (d : Option Tmp) (hd : o.dst = d)
    (h : ∀ w' b, Below w.heap.size w w' → wpList Try.prog ops Q rest (a.put d (.slice (some ⟨b, 0, none⟩) 0 0)) w') : wpList Try.prog ops Q (o :: rest) a w := by
  subst hd
  refine wpList_plain hgd fun K hK => ?_
  have e : (#[] : Array (Nat × Operand)).map (fun (i, x) => (i, a.eval x)) = #[] := by simp
  unfold Oper.wp execOp
  simp only [ho, Sem.run_bind, Sem.run_pure, Result.andThen_ok, e, run_none32]
  exact hK _ _ (h _ _ ((Below.refl _ _).alloc (Nat.le_refl _) _))
end Go.Proofs.Ytfmfjaokpnadaaa
