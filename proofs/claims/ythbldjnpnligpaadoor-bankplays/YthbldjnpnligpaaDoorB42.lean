/-
 The walk of the law BankHealed.
-/
import Derived.Test.YthbldjnpnligpaaDoorB41
import Derived.Test.YthbldjnpnligpaaDoorB36
namespace Go.Proofs.YthbldjnpnligpaaDoor
set_option linter.unusedSimpArgs false
set_option linter.unusedVariables false
set_option maxRecDepth 100000
open Go.RowKit
end Go.Proofs.YthbldjnpnligpaaDoor

/-
 The laws' functions block and do.
-/

namespace Go.Proofs.YthbldjnpnligpaaDoor
set_option linter.unusedSimpArgs false
set_option linter.unusedVariables false
set_option maxRecDepth 100000
open Go.RowKit
theorem Stay.less {M N : Nat → Prop} {w w' : World} (h : Stay N w w') (hn : ∀ j, M j → N j) : Stay M w w' := ⟨h.size, fun j hj hl => h.block j (hn j hj) hl⟩
theorem Stay.new {M : Nat → Prop} {a b c : World} {m : Nat} (h : Stay M a b) (hb : But m b c) (hm : a.heap.size ≤ m) : Stay M a c := ⟨Nat.le_trans h.size hb.size, fun j hj hl => (hb.block j (by omega) (Nat.lt_of_lt_of_le hl h.size)).trans (h.block j hj hl)⟩
set_option maxHeartbeats 4000000 in
theorem ablock_run (x : ActK) (hx : x.p.ok) (w : World) (hB : Bs w x.ba x.bc x.bs) (hl : x.bs.length ≤ 300) :
 Calls Tryd.prog 51 #[.agg x.cells.toArray] w fun e w' => ∃ a c, e = .returned (.slice a x.blk.length c) ∧ Bs w' a c x.blk ∧ (∀ y, a = some y → (x.blk = x.bs ∧ x.ba = some y) ∨ w.heap.size ≤ y.block) ∧ Below w.heap.size w w' := by
 have HX : Hid (x.cells[1]? = some (.int .i64 x.copies) ∧ x.cells[39]? = some (.slice x.ba x.bs.length x.bc)) := ⟨(ActK.cells_at hx).2.1, (ActK.cells_at hx).2.2.2.2⟩
 have hwl := fun u (hu : Below w.heap.size w u) => whole_run x.ba x.bc x.bs u (hB.stays hu) hl
 obtain ⟨av, hav⟩ : ∃ av, av = x.cells := ⟨_, rfl⟩
 rw [← hav] at HX ⊢
 obtain ⟨n, hn⟩ : ∃ n, n = x.bs.length := ⟨_, rfl⟩
 have HN : Hid (n = x.bs.length) := hn
 rw [← hn] at HX hwl
 by_cases h5 : 5 < x.copies
 · have hb : x.blk = x.bs := by unfold ActK.blk; rw [if_pos h5]
   have hd : decide (5 < x.copies) = true := by simp; omega
   rw [hb, ← hn]
   clear hav hn
   go_enter Tryd.func51, Tryd.ntmps51
   go_wp2_with (first
    | ((with_reducible show wpList _ _ _ (Oper.mk _ (Op.box _ _) _ _ _ _ :: _) _ _); refine wpList_box0 (by rfl) 45 (.tmp 0) (by rfl) av (by rfl) ?_; intro w1 hL1 hb1 hs1
       clear hs1
       have hc1 : w1.cell? ⟨w.heap.size, 1, none⟩ = some (.int .i64 x.copies) := (hL1.cell 1).trans HX.out.1
       have hc39 : w1.cell? ⟨w.heap.size, 39, none⟩ = some (.slice x.ba n x.bc) := (hL1.cell 39).trans HX.out.2))
   go_ret
   exact ⟨x.ba, x.bc, rfl, hB.stays hb1, fun y hy => .inl ⟨by first | rfl | trivial, hy⟩, hb1⟩
 · have hb : x.blk = wholeL x.bs := by unfold ActK.blk; rw [if_neg h5]
   have hd : decide (5 < x.copies) = false := by simp; omega
   rw [hb]
   clear hav hn
   go_enter Tryd.func51, Tryd.ntmps51
   go_wp2_with (first
    | ((with_reducible show wpList _ _ _ (Oper.mk _ (Op.box _ _) _ _ _ _ :: _) _ _); refine wpList_box0 (by rfl) 45 (.tmp 0) (by rfl) av (by rfl) ?_; intro w1 hL1 hb1 hs1
       clear hs1
       have hc1 : w1.cell? ⟨w.heap.size, 1, none⟩ = some (.int .i64 x.copies) := (hL1.cell 1).trans HX.out.1
       have hc39 : w1.cell? ⟨w.heap.size, 39, none⟩ = some (.slice x.ba n x.bc) := (hL1.cell 39).trans HX.out.2
       have hw1 := hwl w1 hb1)
    | (go_at_call 68; go_must (refine hw1.mono ?_); rintro e w2 ⟨a2, c2, rfl, hN2, hb2⟩))
   go_ret
   exact ⟨a2, c2, rfl, hN2.1, fun y hy => .inr (Nat.le_trans hb1.size (hN2.2 y hy)), below_then hb1 hb2⟩
theorem block_later {w : World} (x : ActK) (hx : x.p.ok) (hB : Bs w x.ba x.bc x.bs) (hl : x.bs.length ≤ 300) (n : Nat) (hn : n = x.blk.length) : ∀ u, Below w.heap.size w u → Calls Tryd.prog 51 #[.agg x.cells.toArray] u fun e w' => ∃ a c, e = .returned (.slice a n c) ∧ Bs w' a c x.blk ∧ (∀ y, a = some y → (x.blk = x.bs ∧ x.ba = some y) ∨ u.heap.size ≤ y.block) ∧ Below u.heap.size u w' := fun u hu => by
 rw [hn]; exact ablock_run x hx u (hB.stays hu) hl
def akB (base : Nat) (x : ActK) : Value → World → Prop := fun v w => ∃ a c, v = .slice a x.blk.length c ∧ Bs w a c x.blk ∧ ∀ y, a = some y → (x.blk = x.bs ∧ x.ba = some y) ∨ base ≤ y.block
theorem akB_steady (base : Nat) (x : ActK) : Up.Steady (akB base x) := fun v w w' hb ⟨a, c, h1, h2, h3⟩ => ⟨a, c, h1, h2.stays hb, h3⟩
end Go.Proofs.YthbldjnpnligpaaDoor

/-
 A region that draws: two loads of whole values, two stores of them, in whatever order; then the rest.
-/

namespace Go.Proofs.YthbldjnpnligpaaDoor
set_option linter.unusedSimpArgs false
set_option linter.unusedVariables false
set_option maxRecDepth 100000
open Go.RowKit
def twoOrders (ops : Array Oper) : Bool :=
 let L := Array.replicate ops.size false
 decide (Region.ready .any ops L = [0, 1]) && decide (Region.ready .any ops (L.setIfInBounds 0 true) = [1, 2]) && decide (Region.ready .any ops (L.setIfInBounds 1 true) = [0]) &&
 decide (Region.ready .any ops ((L.setIfInBounds 0 true).setIfInBounds 1 true) = [2]) && decide (Region.ready .any ops ((L.setIfInBounds 1 true).setIfInBounds 0 true) = [2]) && decide (Region.ready .any ops ((L.setIfInBounds 0 true).setIfInBounds 2 true) = [1]) &&
 Region.seqB .any ops (ops.size - 3) 3 (((L.setIfInBounds 0 true).setIfInBounds 1 true).setIfInBounds 2 true) && Region.seqB .any ops (ops.size - 3) 3 (((L.setIfInBounds 1 true).setIfInBounds 0 true).setIfInBounds 2 true) && Region.seqB .any ops (ops.size - 3) 3 (((L.setIfInBounds 0 true).setIfInBounds 2 true).setIfInBounds 1 true)
theorem put_none (a : Act) (v : Value) : a.put none v = a := rfl
theorem wp_region_two {P : Program} {id : Nat} {Q : Exit → Act → World → Prop} {a : Act} {w : World} {o0 o1 o2 : Oper} {l : List Oper} (hm : P.follows .mixedOrders = true) (hO : twoOrders (o0 :: o1 :: o2 :: l).toArray = true)
 (g0 : o0.guard = none) (g1 : o1.guard = none) (g2 : o2.guard = none) (s0 s1 : Tmp) (hs : s0 ≠ s1) (d0 : o0.dst = some s0) (d1 : o1.dst = some s1) (d2 : o2.dst = none)
 (x0 x1 x2 : Tmp) (t0 t1 : TypeId) (p0 : o0.op = Op.load t0 (.tmp x0)) (p1 : o1.op = Op.load t1 (.tmp x1)) (p2 : o2.op = Op.store t0 (.tmp x2) (.tmp s0)) (hx : x0 ≠ s1 ∧ x1 ≠ s0 ∧ x2 ≠ s0 ∧ x2 ≠ s1) (hz : s0 < a.tmps.size)
 (b0 b1 b2 n0 n1 : Nat) (e0 : a.eval (.tmp x0) = .pointer (some ⟨b0, 0, none⟩)) (e1 : a.eval (.tmp x1) = .pointer (some ⟨b1, 0, none⟩)) (e2 : a.eval (.tmp x2) = .pointer (some ⟨b2, 0, none⟩))
 (A0 : ∀ w, (isAgg t0).run P w = .ok true w) (Z0 : ∀ w, (sizeOf t0).run P w = .ok n0 w) (A1 : ∀ w, (isAgg t1).run P w = .ok true w) (Z1 : ∀ w, (sizeOf t1).run P w = .ok n1 w)
 {k0 k1 k2 : TypeId} {u0 u1 u2 : List Value} (h0 : Blk k0 w b0 u0) (h1 : Blk k1 w b1 u1) (h2 : Blk k2 w b2 u2) (l0 : u0.length = n0) (l1 : u1.length = n1) (l2 : u2.length = n0) (o : ∀ v ∈ u0, v.oneCell' = true) (hne : b1 ≠ b2)
 (h : ∀ w', Blk k2 w' b2 u0 → But b2 w w' → w'.heap.size = w.heap.size → wpList P (o0 :: o1 :: o2 :: l).toArray Q l ((a.put (some s0) (.agg u0.toArray)).put (some s1) (.agg u1.toArray)) w') : (Code.region id (o0 :: o1 :: o2 :: l).toArray true).wp P Q a w := by
 have ev : ∀ (c : Act) (s x : Tmp) (v : Value), x ≠ s → (c.put (some s) v).eval (.tmp x) = c.eval (.tmp x) := fun c s x v hn => by
  show ((c.tmps.setIfInBounds s v).getD x undef) = c.tmps.getD x undef
  rw [Array.getD_eq_getD_getElem?, Array.getD_eq_getD_getElem?, Array.getElem?_setIfInBounds_ne (Ne.symm hn)]
 have es : ∀ (c : Act) (v : Value), s0 < c.tmps.size → (c.put (some s0) v).eval (.tmp s0) = v := fun c v hc => by
  show ((c.tmps.setIfInBounds s0 v).getD s0 undef) = v
  rw [Array.getD_eq_getD_getElem?, Array.getElem?_setIfInBounds_self_of_lt hc]
  rfl
 have hcomm : (a.put (some s1) (.agg u1.toArray)).put (some s0) (.agg u0.toArray) = (a.put (some s0) (.agg u0.toArray)).put (some s1) (.agg u1.toArray) := Act.put_comm a _ _ (fun d hd => by cases hd; intro e; exact hs (Option.some.inj e))
 have W : ∀ {n : Nat} {us : List Value}, us.length = n → us = (us.drop 0).take n := fun {n us} e => by rw [List.drop_zero, List.take_of_length_le (by omega)]
 have V : u0 = u2.take 0 ++ u0 ++ u2.drop (0 + n0) := by rw [List.take_zero, List.nil_append, List.drop_eq_nil_of_le (by omega), List.append_nil]
 simp only [twoOrders, Bool.and_eq_true, decide_eq_true_eq] at hO
 obtain ⟨⟨⟨⟨⟨⟨⟨⟨r, r0⟩, r1⟩, r01⟩, r10⟩, r02⟩, q1⟩, q2⟩, q3⟩ := hO
 refine wp_region_any hm ?_
 have hsz : (o0 :: o1 :: o2 :: l).toArray.size = l.length + 3 := by simp
 have hfu : (o0 :: o1 :: o2 :: l).toArray.size - 3 = l.length := by simp
 rw [hfu] at q1 q2 q3
 have fin : ∀ (w' : World) (L : Array Bool), Region.seqB .any (o0 :: o1 :: o2 :: l).toArray l.length 3 L = true → Blk k2 w' b2 u0 → But b2 w w' → w'.heap.size = w.heap.size → wpAny P .any (o0 :: o1 :: o2 :: l).toArray Q l.length L ((a.put (some s0) (.agg u0.toArray)).put (some s1) (.agg u1.toArray)) w' := fun w' L hL k1 k2 k3 =>
  any_seq 3 hfu.symm hL (h w' k1 k2 k3)
 have hd : ∀ {w' : World}, But b2 (World.drew w) w' → But b2 w w' := fun k => ⟨k.os, k.tape, k.output, k.size, k.block⟩
 rw [hsz]
 change wpAny _ _ _ _ (l.length + 1 + 1 + 1) _ _ (World.drew _)
 refine any_loads 0 1 r rfl rfl g0 g1 (some s0) (some s1) d0 d1 (.tmp x0) (.tmp x1) t0 t1 p0 p1 b0 0 n0 b1 0 n1 e0 e1 A0 Z0 A1 Z1 h0.drew h1.drew u0 u1 (W l0) l0 (W l1) l1 ?_ ?_
 · refine any_ls 1 2 r0 rfl rfl g1 g2 (some s1) none d1 d2 (.tmp x1) t1 p1 b1 0 n1 ((ev _ _ _ _ hx.2.1).trans e1) A1 Z1 h1.drew u1 (W l1) l1 (.tmp x2) (.tmp s0) t0 p2 b2 0 n0 ((ev _ _ _ _ hx.2.2.1).trans e2) u0 (es a _ hz) Z0 h2.drew l0 (by omega) o u0 V ?_ ?_
   · refine any_store 2 r01 rfl g2 none d2 (.tmp x2) (.tmp s0) t0 p2 b2 0 n0 ((ev _ _ _ _ hx.2.2.2).trans ((ev _ _ _ _ hx.2.2.1).trans e2)) u0 ((ev _ _ _ _ hs).trans (es a _ hz)) Z0 h2.drew l0 (by omega) o u0 V ?_
     intro w' k1 k2 k3
     exact fin w' _ q1 k1 (hd k2) k3
   · intro w' k1 k2 k3
     refine any_load 1 r02 rfl g1 (some s1) d1 (.tmp x1) t1 p1 b1 0 n1 ((ev _ _ _ _ hx.2.1).trans e1) A1 Z1 (h1.drew.but k2 hne) u1 (W l1) l1 ?_
     exact fin w' _ q3 k1 (hd k2) k3
 · refine any_load 0 r1 rfl g0 (some s0) d0 (.tmp x0) t0 p0 b0 0 n0 ((ev _ _ _ _ hx.1).trans e0) A0 Z0 h0.drew u0 (W l0) l0 ?_
   refine any_store 2 r10 rfl g2 none d2 (.tmp x2) (.tmp s0) t0 p2 b2 0 n0 ((ev _ _ _ _ hx.2.2.1).trans ((ev _ _ _ _ hx.2.2.2).trans e2)) u0 (es _ _ (by show s0 < (a.tmps.setIfInBounds s1 _).size; rw [Array.size_setIfInBounds]; exact hz)) Z0 h2.drew l0 (by omega) o u0 V ?_
   intro w' k1 k2 k3
   rw [put_none, hcomm]
   exact fin w' _ q2 k1 (hd k2) k3
end Go.Proofs.YthbldjnpnligpaaDoor
