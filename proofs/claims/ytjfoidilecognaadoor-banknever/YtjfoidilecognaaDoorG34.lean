/-
  The walk of the law BankHealed.
-/
import Derived.Test.YtjfoidilecognaaDoorG33
namespace Go.Proofs.YtjfoidilecognaaDoor
set_option linter.unusedSimpArgs false
set_option linter.unusedVariables false
set_option maxRecDepth 100000
open Go.RowKit

/-- The value is a new slice of 256 bytes. -/
def nuB (base : Nat) (xs : List Int) : Value → World → Prop := fun v w => ∃ a c, v = .slice a 256 c ∧ NewB base w a c xs
theorem nuB_steady (base : Nat) (xs : List Int) : Up.Steady (nuB base xs) := fun v w w' hb ⟨a, c, h1, h2⟩ => ⟨a, c, h1, h2.stays hb⟩
theorem whole_later {w : World} (a : Option Addr) (c n : Nat) (bs : List Int) (hB : Bs w a c bs) (hn : n = bs.length) (hl : bs.length ≤ 256) : ∀ u, Below w.heap.size w u → Calls Tryd.prog 43 #[.slice a n c] u fun e w' => ∃ a2 c2, e = .returned (.slice a2 256 c2) ∧ NewB u.heap.size w' a2 c2 (wholeL bs) ∧ Below u.heap.size u w' := fun u hu => by
  subst hn
  have := whole_run a c bs u (hB.stays hu) (by omega)
  rw [wholeL_len hl] at this
  exact this

theorem calls_nuB {base : Nat} {u : World} {f : FuncId} {args : Array Value} {xs : List Int} (h : Calls Tryd.prog f args u fun e w' => ∃ a2 c2, e = .returned (.slice a2 256 c2) ∧ NewB u.heap.size w' a2 c2 xs ∧ Below u.heap.size u w') (hb : base ≤ u.heap.size) :
    Calls Tryd.prog f args u fun e w' => ∃ v, e = .returned v ∧ Below u.heap.size u w' ∧ nuB base xs v w' := h.mono fun e w' ⟨a, c, h1, h2, h3⟩ => ⟨_, h1, h3, a, c, rfl, h2.mono hb⟩

structure Healed (S0 : DS) (l0 : List Bool) (m0 m1 B O : List Int) (S1 S2 S3 S4 S5 S6 S7 : DS) (l1 : List Bool) (x y : Bool) (n : Nat) (e n6 n7 : Nat) (f : Int) : Prop where
  put : putK S0 l0 7 B 2 = ((S1, l1), pt45 (shaOf B), 0)
  flush : S1.flush = (S2, 0)
  rot0 : (S2.rot 4 m0).1 = S3
  rot1 : (S3.rot 5 m1).1 = S4
  look : lookK S4 (pt45 (shaOf B)) = ((x, y), 0)
  heal : healK S4 (pt45 (shaOf B)) = ((S5, n), (e : Int))
  code : (e = 0 ∧ cntR x y < 2 ∧ n = cntR x y) ∨ (e = 9 ∧ cntR x y = 2)
  fix : fixK S5 (pt45 (shaOf B)) O = ((S6, n6), f)
  told : (f == 0) = (shaOf O == shaOf B)
  fix2 : fixK S6 (pt45 (shaOf B)) B = ((S7, n7), 0)
  look2 : lookK S7 (pt45 (shaOf B)) = ((true, true), 0)
  l0 : S0.ws.length ≤ 800000
  l1 : S1.ws.length ≤ 800000
  l2 : S2.ws.length ≤ 800000
  l3 : S3.ws.length ≤ 800000
  l4 : S4.ws.length ≤ 800000
  l5 : S5.ws.length ≤ 800000
  l6 : S6.ws.length ≤ 800000
  l7 : S7.ws.length ≤ 800000

theorem healed_pure (m0 m1 B O : List Int) (hBl : B.length = 256) (hBr : ∀ y ∈ B, 0 ≤ y ∧ y ≤ 255) (hOl : O.length = 256) (hOr : ∀ y ∈ O, 0 ≤ y ∧ y ≤ 255) : ∃ S1 S2 S3 S4 S5 S6 S7 l1 x y n e n6 n7 f, Healed (DS.new 32) (lab 32 4) m0 m1 B O S1 S2 S3 S4 S5 S6 S7 l1 x y n e n6 n7 f := by
  obtain ⟨S1, l1, h1, h2, h3, h4⟩ := putK_live (Live.new (n := 32) (by omega) (by omega)) (by omega) take32 hBl hBr
  obtain ⟨f1, f2, f3, f4⟩ := h2.flush
  obtain ⟨r1, r2⟩ := f2.rot 4 m0
  obtain ⟨q1, q2⟩ := r1.rot 5 m1
  have hm : (pt45 (shaOf B)).may = true := pt45_may _
  have hh : (pt45 (shaOf B)).hole = false := pt45_hole _
  obtain ⟨P, hP⟩ : ∃ P, P = pt45 (shaOf B) := ⟨_, rfl⟩
  have hPx : P.x = 4 := by rw [hP]; rfl
  have hPy : P.y = 5 := by rw [hP]; rfl
  have hPh : P.h = shaOf B := by rw [hP]; rfl
  rw [← hP] at hm hh h1
  have hex : ∀ {S : DS}, Live S 32 → ∃ S5 n, ∃ e : Nat, healK S P = ((S5, n), (e : Int)) ∧ ((e = 0 ∧ cntR (rightL S P.x P.h) (rightL S P.y P.h) < 2 ∧ n = cntR (rightL S P.x P.h) (rightL S P.y P.h)) ∨ (e = 9 ∧ cntR (rightL S P.x P.h) (rightL S P.y P.h) = 2)) ∧ Live S5 32 ∧ S5.ws.length ≤ S.ws.length + 2 := by
    intro S hS
    have hrk : readK S P = if rightL S P.x P.h = true then (readW S.laid S.ws P.x, 0) else if rightL S P.y P.h = true then (readW S.laid S.ws P.y, 0) else ([], 9) := by
      unfold readK
      rw [okK_live hS hm, if_neg (by simp), hh, if_neg (by simp)]
    have hgo : ∀ b, shaOf b = P.h → b.length = 256 → (∀ y ∈ b, 0 ≤ y ∧ y ≤ 255) → readK S P = (b, 0) → cntR (rightL S P.x P.h) (rightL S P.y P.h) < 2 → ∃ S5 n, ∃ e : Nat, healK S P = ((S5, n), (e : Int)) ∧ ((e = 0 ∧ cntR (rightL S P.x P.h) (rightL S P.y P.h) < 2 ∧ n = cntR (rightL S P.x P.h) (rightL S P.y P.h)) ∨ (e = 9 ∧ cntR (rightL S P.x P.h) (rightL S P.y P.h) = 2)) ∧ Live S5 32 ∧ S5.ws.length ≤ S.ws.length + 2 := by
      intro b hs hl hr hrd hc
      obtain ⟨S5, z1, z2, _, _, z3⟩ := restK_live (p := P) (b := b) hS (by omega) (by omega) (by omega) (by omega) (by omega) hl hr hs
      refine ⟨S5, _, 0, ?_, .inl ⟨rfl, hc, rfl⟩, z2, z3⟩
      unfold healK
      rw [hrd, if_neg (by simp), z1]
      rfl
    cases hx : rightL S P.x P.h
    · cases hy : rightL S P.y P.h
      · rw [hx, hy] at hrk
        simp only [Bool.false_eq_true, if_false] at hrk
        refine ⟨S, 0, 9, ?_, .inr ⟨rfl, rfl⟩, hS, by omega⟩
        unfold healK
        rw [hrk, if_pos (by simp)]
        rfl
      · obtain ⟨g1, g2, g3⟩ := rightL_lt hS.ok hy
        have := hgo (readW S.laid S.ws P.y) g3 (readW_ok hS.ok g1).1 (readW_ok hS.ok g1).2 (by rw [hrk, hx, hy]; simp) (by rw [hx, hy]; decide)
        rwa [hx, hy] at this
    · obtain ⟨g1, g2, g3⟩ := rightL_lt hS.ok hx
      have := hgo (readW S.laid S.ws P.x) g3 (readW_ok hS.ok g1).1 (readW_ok hS.ok g1).2 (by rw [hrk, hx]; simp) (by rw [hx]; cases rightL S P.y P.h <;> decide)
      rwa [hx] at this
  obtain ⟨S5, n, e, s1, s2, s3, s4⟩ := hex q1
  have hfx : ∀ {S : DS} {b : List Int}, Live S 32 → b.length = 256 → (∀ y ∈ b, 0 ≤ y ∧ y ≤ 255) → ∃ S' m f, fixK S P b = ((S', m), f) ∧ (f == 0) = (shaOf b == P.h) ∧ Live S' 32 ∧ S'.ws.length ≤ S.ws.length + 2 ∧ (shaOf b = P.h → lookK S' P = ((true, true), 0)) := by
    intro S b hS hl hr
    unfold fixK
    rw [if_neg (by simp [okK_live hS hm]), if_neg (by simp [hh, hl])]
    by_cases hs : shaOf b = P.h
    · rw [if_neg (by simp [hs])]
      obtain ⟨S5, z1, z2, z4, z5, z3⟩ := restK_live (p := P) (b := b) hS (by omega) (by omega) (by omega) (by omega) (by omega) hl hr hs
      refine ⟨S5, _, _, z1, by simp [hs], z2, z3, fun _ => ?_⟩
      unfold lookK
      rw [if_neg (by simp [okK_live z2 hm]), z4, z5]
    · rw [if_pos hs]
      exact ⟨S, 0, 14, rfl, by simp [hs], hS, by omega, fun h => absurd h hs⟩
  obtain ⟨S6, n6, f, t1, t2, t3, t4, _⟩ := hfx s3 hOl hOr
  obtain ⟨S7, n7, f7, u1, u2, u3, u4, u5⟩ := hfx t3 hBl hBr
  have hf7 : f7 = 0 := by rw [hPh] at u2; simpa using u2
  have hws : (S1.flush.1.rot 4 m0).1.ws = [] := by rw [r2, f3]
  have hws2 : ((S1.flush.1.rot 4 m0).1.rot 5 m1).1.ws = [] := by rw [q2, hws]
  rw [hws2] at s4
  simp only [List.length_nil] at s4
  refine ⟨S1, S1.flush.1, (S1.flush.1.rot 4 m0).1, ((S1.flush.1.rot 4 m0).1.rot 5 m1).1, S5, S6, S7, l1, rightL ((S1.flush.1.rot 4 m0).1.rot 5 m1).1 P.x P.h, rightL ((S1.flush.1.rot 4 m0).1.rot 5 m1).1 P.y P.h, n, e, n6, n7, f, ?_⟩
  subst hP
  exact ⟨h1, by rw [← f1], rfl, rfl, by unfold lookK; rw [if_neg (by simp [okK_live q1 hm])], s1, s2, t1, t2, by rw [u1, hf7], u5 rfl, by simp [DS.new], by rw [h3]; simp [DS.new], by rw [f3]; simp, by rw [hws]; simp, by rw [hws2]; simp, by omega, by omega, by omega⟩

end Go.Proofs.YtjfoidilecognaaDoor

/-
  The laws' functions block and do.
-/

namespace Go.Proofs.YtjfoidilecognaaDoor
set_option linter.unusedSimpArgs false
set_option linter.unusedVariables false
set_option maxRecDepth 100000
open Go.RowKit

theorem Stay.less {M N : Nat → Prop} {w w' : World} (h : Stay N w w') (hn : ∀ j, M j → N j) : Stay M w w' := ⟨h.size, fun j hj hl => h.block j (hn j hj) hl⟩
theorem Stay.new {M : Nat → Prop} {a b c : World} {m : Nat} (h : Stay M a b) (hb : But m b c) (hm : a.heap.size ≤ m) : Stay M a c := ⟨Nat.le_trans h.size hb.size, fun j hj hl => (hb.block j (by omega) (Nat.lt_of_lt_of_le hl h.size)).trans (h.block j hj hl)⟩

set_option maxHeartbeats 4000000 in
theorem ablock_run (x : ActK) (hx : x.p.ok) (w : World) (hB : Bs w x.ba x.bc x.bs) (hl : x.bs.length ≤ 300) :
    Calls Tryd.prog 25 #[.agg x.cells.toArray] w fun e w' => ∃ a c, e = .returned (.slice a x.blk.length c) ∧ Bs w' a c x.blk ∧ (∀ y, a = some y → (x.blk = x.bs ∧ x.ba = some y) ∨ w.heap.size ≤ y.block) ∧ Below w.heap.size w w' := by
  have HX : Hid (x.cells[1]? = some (.int .i64 x.copies) ∧ x.cells[39]? = some (.slice x.ba x.bs.length x.bc)) := ⟨(ActK.cells_at hx).2.1, (ActK.cells_at hx).2.2.2.2⟩
  have hwl := fun u (hu : Below w.heap.size w u) => whole_run x.ba x.bc x.bs u (hB.stays hu) hl
  obtain ⟨av, hav⟩ : ∃ av, av = x.cells := ⟨_, rfl⟩
  rw [← hav] at HX ⊢
  obtain ⟨n, hn⟩ : ∃ n, n = x.bs.length := ⟨_, rfl⟩
  have HN : Hid (n = x.bs.length) := hn
  rw [← hn] at HX hwl
  by_cases h5 : 5 < x.copies
  · have hb : x.blk = x.bs := by unfold ActK.blk; rw [if_pos h5]
    have hd : decide (5 < x.copies) = true := by simp; omega
    rw [hb, ← hn]
    clear hav hn
    go_enter Tryd.func25, Tryd.ntmps25
    go_wp2_with (first
      | ((with_reducible show wpList _ _ _ (Oper.mk _ (Op.box _ _) _ _ _ _ :: _) _ _); refine wpList_box0 (by rfl) 45 (.tmp 0) (by rfl) av (by rfl) ?_; intro w1 hL1 hb1 hs1
         clear hs1
         have hc1 : w1.cell? ⟨w.heap.size, 1, none⟩ = some (.int .i64 x.copies) := (hL1.cell 1).trans HX.out.1
         have hc39 : w1.cell? ⟨w.heap.size, 39, none⟩ = some (.slice x.ba n x.bc) := (hL1.cell 39).trans HX.out.2))
    go_ret
    exact ⟨x.ba, x.bc, rfl, hB.stays hb1, fun y hy => .inl ⟨by first | rfl | trivial, hy⟩, hb1⟩
  · have hb : x.blk = wholeL x.bs := by unfold ActK.blk; rw [if_neg h5]
    have hd : decide (5 < x.copies) = false := by simp; omega
    rw [hb]
    clear hav hn
    go_enter Tryd.func25, Tryd.ntmps25
    go_wp2_with (first
      | ((with_reducible show wpList _ _ _ (Oper.mk _ (Op.box _ _) _ _ _ _ :: _) _ _); refine wpList_box0 (by rfl) 45 (.tmp 0) (by rfl) av (by rfl) ?_; intro w1 hL1 hb1 hs1
         clear hs1
         have hc1 : w1.cell? ⟨w.heap.size, 1, none⟩ = some (.int .i64 x.copies) := (hL1.cell 1).trans HX.out.1
         have hc39 : w1.cell? ⟨w.heap.size, 39, none⟩ = some (.slice x.ba n x.bc) := (hL1.cell 39).trans HX.out.2
         have hw1 := hwl w1 hb1)
      | (go_at_call 43; go_must (refine hw1.mono ?_); rintro e w2 ⟨a2, c2, rfl, hN2, hb2⟩))
    go_ret
    exact ⟨a2, c2, rfl, hN2.1, fun y hy => .inr (Nat.le_trans hb1.size (hN2.2 y hy)), below_then hb1 hb2⟩
theorem block_later {w : World} (x : ActK) (hx : x.p.ok) (hB : Bs w x.ba x.bc x.bs) (hl : x.bs.length ≤ 300) (n : Nat) (hn : n = x.blk.length) : ∀ u, Below w.heap.size w u → Calls Tryd.prog 25 #[.agg x.cells.toArray] u fun e w' => ∃ a c, e = .returned (.slice a n c) ∧ Bs w' a c x.blk ∧ (∀ y, a = some y → (x.blk = x.bs ∧ x.ba = some y) ∨ u.heap.size ≤ y.block) ∧ Below u.heap.size u w' := fun u hu => by
  rw [hn]; exact ablock_run x hx u (hB.stays hu) hl
/-- The value is an act's block. -/
def akB (base : Nat) (x : ActK) : Value → World → Prop := fun v w => ∃ a c, v = .slice a x.blk.length c ∧ Bs w a c x.blk ∧ ∀ y, a = some y → (x.blk = x.bs ∧ x.ba = some y) ∨ base ≤ y.block
theorem akB_steady (base : Nat) (x : ActK) : Up.Steady (akB base x) := fun v w w' hb ⟨a, c, h1, h2, h3⟩ => ⟨a, c, h1, h2.stays hb, h3⟩

end Go.Proofs.YtjfoidilecognaaDoor
