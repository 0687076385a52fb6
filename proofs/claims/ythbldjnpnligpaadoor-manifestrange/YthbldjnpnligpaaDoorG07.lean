/-
  The walks over ptr.written and ptr.Decode.
-/
import Derived.Test.YthbldjnpnligpaaDoorG06
import Derived.RangeFuncNested
import Derived.RangeFuncLeaves
import Derived.Shelf.Abstract
import Derived.WalkKit
import Derived.OwnWalkIn
import Derived.TacticsInMore
import Derived.LoopNIn
import Derived.LoopIn
namespace Go.Proofs.YthbldjnpnligpaaDoor
set_option linter.unusedSimpArgs false
set_option linter.unusedVariables false
set_option maxRecDepth 100000
open Go.RowKit

theorem zero_splice {xs : List Int} (h : xs.length = 32) : splice Pt.zero.vs 0 (xs.map (Value.int .u8)) = Pt.vs ⟨xs, 0, 0, 0⟩ := by
  unfold splice Pt.vs
  simp [h, Pt.zero]

set_option maxHeartbeats 1000000 in
set_option maxRecDepth 100000 in
theorem written_run (a : Option Addr) (c : Nat) (xs : List Int) (w : World) (hB : Bs w a c xs) (hl : xs.length = 44) :
    Calls Tryd.prog 158 #[.slice a 44 c] w fun e w' => e = .returned (.agg (decP xs).vs.toArray) ∧ Below w.heap.size w w' := by
  obtain ⟨a', c', hrun, hB'⟩ := Bs.fromAll (P := Tryd.prog) a c xs 43 5 Tryd.underlying43 sizes5 Tryd.elem43 32 (by omega)
  have hsl : ∀ u : World, (Instr.slice 43 (.slice a 44 c) (some (.int .i64 32)) none none).run Tryd.prog u = .ok (.slice a' 12 c') u := fun u => by
    have := hrun u .i64
    rw [hl] at this
    exact this
  have hx1 : (xs.take 32).length = 32 := by simp; omega
  have hx2 : (xs.drop 32).length = 12 := by simp; omega
  have hx3 : (xs.drop 36).length = 8 := by simp; omega
  have hx4 : (xs.drop 40).length = 4 := by simp; omega
  have H32 : Hid ((xs.drop 32).drop 4 = xs.drop 36) := by show _ = _; rw [List.drop_drop]
  have H36 : Hid ((xs.drop 36).drop 4 = xs.drop 40) := by show _ = _; rw [List.drop_drop]
  obtain ⟨n0, hn0⟩ : ∃ n, n = n32 (xs.drop 32) := ⟨_, rfl⟩
  obtain ⟨n1, hn1⟩ : ∃ n, n = n32 (xs.drop 36) := ⟨_, rfl⟩
  obtain ⟨n2, hn2⟩ : ∃ n, n = n32 (xs.drop 40) := ⟨_, rfl⟩
  have HN : Hid (n0 = n32 (xs.drop 32) ∧ n1 = n32 (xs.drop 36) ∧ n2 = n32 (xs.drop 40)) := ⟨hn0, hn1, hn2⟩
  have hzl : Pt.zero.vs.length = 35 := Pt.vs_len Pt.zero_ok
  clear hrun hn0 hn1 hn2
  have hok : ∀ b x y : Nat, (Pt.vs ⟨xs.take 32, b, x, y⟩).length = 35 := fun b x y => by rw [Pt.vs, List.length_append, List.length_map]; simp only; rw [hx1]; rfl
  have hne : xs ≠ [] := by intro h; rw [h] at hl; simp at hl
  go_enter Tryd.func158, Tryd.ntmps158
  go_wp2_with (first
    | (refine wpList_alloc0 (by rfl) 42 (by rfl) (some 2) (by rfl) Pt.zero.vs alloc_ptr0 ?_; intro w1 hR1 hb1 hs1)
    | (refine wpList_alloc0 (by rfl) 42 (by rfl) (some 3) (by rfl) Pt.zero.vs alloc_ptr0 ?_; intro w2 hP2 hb2 hs2; have hR2 := hR1.stays hb2; have hB2 := (hB.stays hb1).stays hb2; rw [hs1] at hP2 hs2)
    | (refine wpList_copy_blk (by rfl) (.tmp 7) (.tmp 8) 43 43 (by rfl) 5 Tryd.underlying43 sizes5 _ 0 32 32 _ 44 c (by rfl) (by rfl) hP2 xs 32 hB2 (by decide) (by rfl) (by omega) (by rw [hzl]; omega) ?_
       intro w3 hP3 hbut3 hs3
       rw [zero_splice hx1] at hP3
       have hR3 := hR2.but hbut3 (by omega)
       have hB3 := hB' _ (hB2.but hbut3 (fun _ b hb => by have := hB.lt hne hb; omega))
       have hc0 := take32_nat a' c' 12 8 _ w3 hB3 hx2.symm rfl (by omega)
       rw [← HN.out.1, H32.out] at hc0)
    | (go_at_call_of 130 (Value.slice a' 12 c'); go_must (refine hc0.mono ?_); rintro e w4 ⟨a4, c4, rfl, hB4, hb4, hN4⟩
       have hP4 := hP3.stays hb4; have hR4 := hR3.stays hb4)
    | (refine wpList_store_int (by rfl) (.tmp 17) (.tmp 14) 34 (by rfl) _ 32 (by rfl) .u32 n0 (by rfl) size_u32 hP4 (by rw [hok]; omega) ?_
       intro w5 hP5 hbut5 hs5
       rw [Pt.vs_setb hx1] at hP5
       have hR5 := hR4.but hbut5 (by omega)
       have hB5 := hB4.but hbut5 (fun _ b hb => by have := hN4 b hb; omega)
       have hc1 := take32_nat a4 c4 8 4 _ w5 hB5 hx3.symm rfl (by omega)
       rw [← HN.out.2.1, H36.out] at hc1)
    | (go_at_call_of 130 (Value.slice a4 8 c4); go_must (refine hc1.mono ?_); rintro e w6 ⟨a6, c6, rfl, hB6, hb6, hN6⟩
       have hP6 := hP5.stays hb6; have hR6 := hR5.stays hb6)
    | (refine wpList_store_int (by rfl) (.tmp 25) (.tmp 21) 34 (by rfl) _ 33 (by rfl) .u32 n1 (by rfl) size_u32 hP6 (by rw [hok]; omega) ?_
       intro w7 hP7 hbut7 hs7
       rw [Pt.vs_setx hx1] at hP7
       have hR7 := hR6.but hbut7 (by omega)
       have hB7 := hB6.but hbut7 (fun _ b hb => by have := hN6 b hb; have := hb4.size; omega)
       have hc2 := take32_nat a6 c6 4 0 _ w7 hB7 hx4.symm rfl (by omega)
       rw [← HN.out.2.2] at hc2)
    | (go_at_call_of 130 (Value.slice a6 4 c6); go_must (refine hc2.mono ?_); rintro e w8 ⟨a8, c8, rfl, hB8, hb8, hN8⟩
       have hP8 := hP7.stays hb8; have hR8 := hR7.stays hb8)
    | (refine wpList_store_int (by rfl) (.tmp 33) (.tmp 29) 34 (by rfl) _ 34 (by rfl) .u32 n2 (by rfl) size_u32 hP8 (by rw [hok]; omega) ?_
       intro w9 hP9 hbut9 hs9
       go_must (rw [Pt.vs_sety hx1] at hP9)
       go_must (have hR9 := hR8.but hbut9 (by omega)))
    | (refine wpList_load_blk (by rfl) (.tmp 3) 42 (by rfl) _ 0 35 (by rfl) agg_ptr size_ptr hP9 _ (whole_load (hok _ _ _)) (hok _ _ _) ?_)
    | (refine wpList_store_blk (by rfl) (.tmp 2) (.tmp 34) 42 (by rfl) _ 0 35 (by rfl) _ (by rfl) size_ptr hR9 (hok _ _ _) (by omega) (Pt.vs_one _) _ (whole_store hzl) ?_
       intro wA hRA hbutA hsA))
  refine bodyPost_ret_blk rfl rfl (by rfl) agg_ptr size_ptr hRA (hok _ _ _) ⟨?_, ?_⟩
  · obtain ⟨h1, h2, h3⟩ := HN.out
    unfold decP
    rw [h1, h2, h3]
  · have k1 := hb1.trans (hb2.mono (by omega))
    have k3 := k1.trans (hbut3.below (by omega) (by omega))
    have k4 := k3.trans (hb4.mono (by omega))
    have k5 := k4.trans (hbut5.below (by omega) (by have := hb4.size; omega))
    have k6 := k5.trans (hb6.mono (by have := hb4.size; omega))
    have k7 := k6.trans (hbut7.below (by omega) (by have := hb4.size; have := hb6.size; omega))
    have k8 := k7.trans (hb8.mono (by have := hb4.size; have := hb6.size; omega))
    have k9 := k8.trans (hbut9.below (by omega) (by have := hb4.size; have := hb6.size; have := hb8.size; omega))
    exact k9.trans (hbutA.below (by omega) (by have := hb4.size; have := hb6.size; have := hb8.size; omega))
set_option maxHeartbeats 1000000 in
set_option maxRecDepth 100000 in
theorem decode_run (a : Option Addr) (c n : Nat) (xs : List Int) (w : World) (hn : n = xs.length) (hB : Bs w a c xs) :
    Calls Tryd.prog 131 #[.slice a n c] w fun e w' => e = .returned (.tuple #[.agg (decodeL xs).1.vs.toArray, .int .i64 ((decodeL xs).2 : Int)]) ∧ Below w.heap.size w w' := by
  have hzl : Pt.zero.vs.length = 35 := Pt.vs_len Pt.zero_ok
  unfold decodeL
  rw [← hn]
  rcases (by omega : n < 44 ∨ 44 < n ∨ n = 44) with h | h | h
  · rw [if_pos h]
    have h' : (n : Int) < 44 := by omega
    clear hn hB
    go_enter Tryd.func131, Tryd.ntmps131
    go_wp2_with (first
      | (refine wpList_alloc0 (by rfl) 42 (by rfl) (some 2) (by rfl) Pt.zero.vs alloc_ptr0 ?_; intro w1 hR1 hb1 hs1)
      | (refine wpList_build0 (by rfl) 42 (by rfl) _ build_ptr0 ?_)
      | (refine wpList_store_blk (by rfl) (.tmp 2) (.tmp 8) 42 (by rfl) _ 0 35 (by rfl) _ (by rfl) size_ptr hR1 hzl (by omega) (Pt.vs_one _) _ (whole_store hzl) ?_
         intro w2 hR2 hbut2 hs2))
    refine bodyPost_ret_blk2 rfl rfl (by rfl) (by rfl) agg_ptr size_ptr hR2 hzl ⟨rfl, ?_⟩
    exact hb1.trans (hbut2.below (Nat.le_refl _) (by omega))
  · rw [if_neg (by omega), if_pos h]
    have h' : ¬ (n : Int) < 44 := by omega
    have h'' : (44 : Int) < n := by omega
    clear hn hB
    go_enter Tryd.func131, Tryd.ntmps131
    go_wp2_with (first
      | (refine wpList_alloc0 (by rfl) 42 (by rfl) (some 2) (by rfl) Pt.zero.vs alloc_ptr0 ?_; intro w1 hR1 hb1 hs1)
      | (refine wpList_build0 (by rfl) 42 (by rfl) _ build_ptr0 ?_)
      | (refine wpList_store_blk (by rfl) (.tmp 2) (.tmp 12) 42 (by rfl) _ 0 35 (by rfl) _ (by rfl) size_ptr hR1 hzl (by omega) (Pt.vs_one _) _ (whole_store hzl) ?_
         intro w2 hR2 hbut2 hs2))
    refine bodyPost_ret_blk2 rfl rfl (by rfl) (by rfl) agg_ptr size_ptr hR2 hzl ⟨rfl, ?_⟩
    exact hb1.trans (hbut2.below (Nat.le_refl _) (by omega))
  · rw [if_neg (by omega), if_neg (by omega)]
    have hl : xs.length = 44 := by omega
    have hok := decP_ok hB.rng (by omega)
    have hvl := Pt.vs_len hok
    have hm := may_run (decP xs) hok
    subst h
    clear hn
    obtain ⟨p, hp⟩ : ∃ p, p = decP xs := ⟨_, rfl⟩
    have hwr : ∀ u, Bs u a c xs → Calls Tryd.prog 158 #[.slice a 44 c] u fun e w' => e = .returned (.agg p.vs.toArray) ∧ Below u.heap.size u w' := fun u hu => by rw [hp]; exact written_run a c xs u hu hl
    have HWR : Hid (∀ u, Bs u a c xs → Calls Tryd.prog 158 #[.slice a 44 c] u fun e w' => e = .returned (.agg p.vs.toArray) ∧ Below u.heap.size u w') := hwr
    rw [← hp] at hok hvl hm ⊢
    clear hwr hp
    cases hmv : p.may
    · rw [hmv] at hm
      rw [if_neg (by simp)]
      go_enter Tryd.func131, Tryd.ntmps131
      go_wp2_with (first
        | (refine wpList_alloc0 (by rfl) 42 (by rfl) (some 2) (by rfl) Pt.zero.vs alloc_ptr0 ?_; intro w1 hR1 hb1 hs1)
        | (go_at_call 158; go_must (refine (HWR.out _ (hB.stays hb1)).mono ?_); rintro e w2 ⟨rfl, hb2⟩; have hR2 := hR1.stays hb2)
        | (refine wpList_alloc0 (by rfl) 42 (by rfl) (some 4) (by rfl) Pt.zero.vs alloc_ptr0 ?_; intro w3 hP3 hb3 hs3; have hR3 := hR2.stays hb3)
        | (refine wpList_store_blk (by rfl) (.tmp 4) (.tmp 14) 42 (by rfl) _ 0 35 (by rfl) _ (by rfl) size_ptr hP3 hvl (by omega) (Pt.vs_one _) _ (whole_store hzl) ?_
           intro w4 hP4 hbut4 hs4; have hR4 := hR3.but hbut4 (by have := hb2.size; omega))
        | (refine wpList_load_blk (by rfl) (.tmp 4) 42 (by rfl) _ 0 35 (by rfl) agg_ptr size_ptr hP4 _ (whole_load hvl) hvl ?_)
        | (go_at_call 147; go_must (refine (hm _).mono ?_); rintro e w5 ⟨rfl, hb5⟩; have hR5 := hR4.stays hb5)
        | (refine wpList_build0 (by rfl) 42 (by rfl) _ build_ptr0 ?_)
        | (refine wpList_store_blk (by rfl) (.tmp 2) (.tmp 18) 42 (by rfl) _ 0 35 (by rfl) _ (by rfl) size_ptr hR5 hzl (by omega) (Pt.vs_one _) _ (whole_store hzl) ?_
           intro w6 hR6 hbut6 hs6))
      refine bodyPost_ret_blk2 rfl rfl (by rfl) (by rfl) agg_ptr size_ptr hR6 hzl ⟨rfl, ?_⟩
      have z2 := hb2.size
      have z5 := hb5.size
      exact ((((hb1.trans (hb2.mono (by omega))).trans (hb3.mono (by omega))).trans (hbut4.below (by omega) (by omega))).trans (hb5.mono (by omega))).trans (hbut6.below (Nat.le_refl _) (by omega))
    · rw [hmv] at hm
      rw [if_pos rfl]
      go_enter Tryd.func131, Tryd.ntmps131
      go_wp2_with (first
        | (refine wpList_alloc0 (by rfl) 42 (by rfl) (some 2) (by rfl) Pt.zero.vs alloc_ptr0 ?_; intro w1 hR1 hb1 hs1)
        | (go_at_call 158; go_must (refine (HWR.out _ (hB.stays hb1)).mono ?_); rintro e w2 ⟨rfl, hb2⟩; have hR2 := hR1.stays hb2)
        | (refine wpList_alloc0 (by rfl) 42 (by rfl) (some 4) (by rfl) Pt.zero.vs alloc_ptr0 ?_; intro w3 hP3 hb3 hs3; have hR3 := hR2.stays hb3)
        | (refine wpList_store_blk (by rfl) (.tmp 4) (.tmp 14) 42 (by rfl) _ 0 35 (by rfl) _ (by rfl) size_ptr hP3 hvl (by omega) (Pt.vs_one _) _ (whole_store hzl) ?_
           intro w4 hP4 hbut4 hs4; have hR4 := hR3.but hbut4 (by have := hb2.size; omega))
        | (refine wpList_load_blk (by rfl) (.tmp 4) 42 (by rfl) _ 0 35 (by rfl) agg_ptr size_ptr hP4 _ (whole_load hvl) hvl ?_)
        | (go_at_call 147; go_must (refine (hm _).mono ?_); rintro e w5 ⟨rfl, hb5⟩; have hR5 := hR4.stays hb5; have hP5 := hP4.stays hb5)
        | (refine wpList_load_blk (by rfl) (.tmp 4) 42 (by rfl) _ 0 35 (by rfl) agg_ptr size_ptr hP5 _ (whole_load hvl) hvl ?_)
        | (refine wpList_store_blk (by rfl) (.tmp 2) (.tmp 19) 42 (by rfl) _ 0 35 (by rfl) _ (by rfl) size_ptr hR5 hvl (by omega) (Pt.vs_one _) _ (whole_store hzl) ?_
           intro w6 hR6 hbut6 hs6))
      refine bodyPost_ret_blk2 rfl rfl (by rfl) (by rfl) agg_ptr size_ptr hR6 hvl ⟨rfl, ?_⟩
      have z2 := hb2.size
      have z5 := hb5.size
      exact ((((hb1.trans (hb2.mono (by omega))).trans (hb3.mono (by omega))).trans (hbut4.below (by omega) (by omega))).trans (hb5.mono (by omega))).trans (hbut6.below (Nat.le_refl _) (by omega))

end Go.Proofs.YthbldjnpnligpaaDoor

/-
  Parts of bytes; elements of arrays.
-/

namespace Go.Proofs.YthbldjnpnligpaaDoor
set_option linter.unusedSimpArgs false
set_option linter.unusedVariables false
set_option maxRecDepth 100000
open Go.RowKit

theorem slice_mid {P : Program} {t e : TypeId} {b off n c i m : Nat} (ht : P.underlying t = some (.slice e)) (he : P.elem t = e) (hs : (P.info? e).map (·.size) = some 1) (hc : i + m ≤ c) (hm : 0 < m) (K K' : IntKind) (w : World) :
    (Instr.slice t (.slice (some ⟨b, off, none⟩) n c) (some (.int K (i : Int))) (some (.int K' ((i + m : Nat) : Int))) none).run P w = .ok (.slice (some ⟨b, off + i, none⟩) m (c - i)) w := by
  have hz := sizeOf_run hs w
  have hadd : (⟨b, off, none⟩ : Addr).add i = ⟨b, off + i, none⟩ := by unfold Addr.add; split <;> simp_all
  have hne : ¬ c = i := by omega
  rw [run_slice_lh w t (some ⟨b, off, none⟩) n c (by rw [he]; exact ht) K K' i ((i + m : Nat) : Int) (by omega) (by omega) (by omega), he, hz]
  simp [Result.andThen, sliced, hne, hadd]
  omega

theorem Bs.mid {w : World} {b off c : Nat} {xs : List Int} (h : Bs w (some ⟨b, off, none⟩) c xs) (q m : Nat) (hq : q + m ≤ xs.length) (hm0 : 0 < m) : Bs w (some ⟨b, off + q, none⟩) (c - q) ((xs.drop q).take m) := by
  have hl : ((xs.drop q).take m).length = m := by simp; omega
  have hc := h.cap
  have hm := h.capm
  refine ⟨fun x hx => h.rng x (List.mem_of_mem_drop (List.mem_of_mem_take hx)), by omega, by omega, (fun h => by cases h), .inr ⟨b, off + q, rfl, fun i hi => ?_⟩⟩
  rw [hl] at hi
  obtain ⟨b1, o1, he, hc1⟩ := h.cell (by omega)
  cases he
  rw [Nat.add_assoc, hc1 (q + i) (by omega)]
  simp [List.getD, List.getElem?_take, List.getElem?_drop, hi]

theorem index_ptr {P : Program} {t e : TypeId} {n m g off : Nat} {K : IntKind} {j : Nat} (ht : P.underlying t = some (.array n e)) (hs : (P.info? e).map (·.size) = some m) (hj : j < n) (w : World) :
    (Instr.indexAt t (.pointer (some ⟨g, off, none⟩)) (.int K (j : Int))).run P w = .ok (.pointer (some ⟨g, off + j * m, none⟩)) w := by
  have hz := sizeOf_run hs w
  have hb : (0 : Int) ≤ (j : Int) ∧ (j : Int) < (n : Int) := by omega
  have hadd : (⟨g, off, none⟩ : Addr).add (j * m) = ⟨g, off + j * m, none⟩ := by unfold Addr.add; split <;> simp_all
  simp [Instr.indexAt, asIntOf, run_underlying ht, hz, hb, hadd, Sem.run_bind, Instr.sureAddr]
  omega

end Go.Proofs.YthbldjnpnligpaaDoor

/-
  A range over a function that is a method value (its receiver bound): the caller's law, for iterators that tell round by round what they need.
-/

namespace Go.Proofs.YthbldjnpnligpaaDoor
set_option linter.unusedSimpArgs false
set_option linter.unusedVariables false
set_option maxRecDepth 100000
open Go.RowKit

/-- All lies as it lay, but what is no cells from the block B on. -/
structure Aside (B : Nat) (w w' : World) : Prop where
  os : w'.os = w.os
  tape : w'.tape = w.tape
  output : w'.output = w.output
  size : w.heap.size ≤ w'.heap.size
  block : ∀ k, k < w.heap.size → (k < B ∨ ∃ o : Obj, w.heap[k]? = some o ∧ o.isCells = true) → w'.heap[k]? = w.heap[k]?

theorem Aside.of_below {B : Nat} {w w' : World} (h : Below w.heap.size w w') : Aside B w w' := ⟨h.os, h.tape, h.output, h.size, fun k hk _ => h.block k hk⟩

theorem Aside.put {B l : Nat} {w : World} {o : Obj} (o' : Obj) (hl : w.heap[l]? = some o) (hB : B ≤ l) (ho : o.isCells = false) : Aside B w (w.putObj l o') := by
  have hg := grownBy_putObj' w l o'
  refine ⟨rfl, rfl, rfl, hg.size, fun k hk h => hg.block k hk (fun e => ?_)⟩
  cases e
  rcases h with h | ⟨o1, h1, h2⟩
  · omega
  · rw [hl] at h1; cases h1; rw [ho] at h2; cases h2

theorem Aside.cell {B : Nat} {w w' : World} (h : Aside B w w') {p : Addr} {v : Value} (hc : w.cell? p = some v) : w'.cell? p = some v := by
  rw [World.cell?_of_block (w := w) (h.block p.block (World.block_lt_of_cell? w _ hc) (.inr (cells_of_cell hc)))]
  exact hc

theorem wide_fn (f : FuncId) : Fence.wide.fn f = True := eq_true trivial
theorem wide_depth : (Fence.wide.depth = none) = True := eq_true rfl
theorem round_fn (l : Nat) (f : FuncId) : (Fence.wide.inRound l).fn f = True := eq_true trivial
theorem round_depth (l : Nat) : ((Fence.wide.inRound l).depth = none) = True := eq_true rfl

/-- How a round may be left. -/
def endOf (B : Nat) (I : World → Prop) (Ix : Code → World → Prop) (W : World) : Exit → Act → World → Prop
  | .normal, _, W' => KeepsFrom B W W' ∧ I W'
  | .ret, _, W' => KeepsFrom B W W' ∧ Ix .ret W'
  | .exit id, _, W' => KeepsFrom B W W' ∧ Ix (.exit id) W'
  | .goto t, _, W' => KeepsFrom B W W' ∧ Ix (.goto t) W'
  | .panic _, _, _ => False
  | .outgrown, _, _ => False

/-- An iterator g with a receiver r: N rounds, the i-th with the values encs i, as long as what it needs is there. -/
def Iter (P : Program) (g : Nat) (r : Value) (N : Nat) (encs : Nat → Array Value) (Nd : World → Prop) (W : World) : Prop :=
  ∀ (l : Nat) (J : Nat → World → Prop) (Jx : World → Prop), (∀ i W1, J i W1 → Nd W1) → (∀ i W1 W2, J i W1 → Below W1.heap.size W1 W2 → J i W2) →
    (∀ i W1, i < N → J i W1 → YieldAt Fence.wide 0 P l (encs i) W1 fun e W' => (e = .returned (.bool true) ∧ J (i + 1) W') ∨ (e = .returned (.bool false) ∧ Jx W')) →
    J 0 W → CallsIn Fence.wide 0 P g #[r, .func (.yield l) #[] #[]] W fun e W' => (∃ v, e = .returned v) ∧ (J N W' ∨ Jx W')

theorem wpIn_range_bound {P : Program} {g : Operand} {ps : Array Tmp} {assign body : Code} {Q : Exit → Act → World → Prop} {a : Act} {w : World} (gf : Nat) (r : Value)
    (hg : a.eval g = .func (.func gf) #[r] #[]) (eg : ∀ args w, (callFunc gf args).run P w = .ok (.enter gf args) w)
    (N : Nat) (encs : Nat → Array Value) (Nd : World → Prop) (hit : ∀ W, Nd W → Iter P gf r N encs Nd W) (hps : ∀ i, (encs i).size = ps.size)
    (I : Nat → World → Prop) (Ix : Code → World → Prop) (hNd : ∀ i W, I i W → Nd W)
    (hI : ∀ i W W', I i W → Aside w.heap.size W W' → I i W') (hIx : ∀ c W W', Ix c W → Aside w.heap.size W W' → Ix c W') (h0 : I 0 w)
    (hround : ∀ (l i : Nat) (W : World) (K : Act → World → Prop), i < N → I i W →
      (∀ a₁ w₁, KeepsFrom w.heap.size W w₁ → (∀ w₂, Aside w.heap.size w₁ w₂ → body.wpIn (Fence.wide.inRound l) 0 P (endOf w.heap.size (I (i + 1)) Ix w₂) a₁ w₂) → K a₁ w₁) →
      assign.wpIn (Fence.wide.inRound l) 0 P (Exit.then K (fun _ _ _ => False)) { tmps := (ps.zip (encs i)).foldl (fun t (p, v) => t.setIfInBounds p v) a.tmps, defers := [] } W)
    (hdone : ∀ W, I N W → W.heap[w.heap.size]? = some (.deferred (some [])) → Q .normal { a with defers := { target := .collected w.heap.size, args := #[] } :: a.defers } W)
    (hstop : ∀ (c : Code) (W : World), Ix c W → W.heap[w.heap.size]? = some (.deferred (some [])) → c.wpIn Fence.wide 0 P Q { a with defers := { target := .collected w.heap.size, args := #[] } :: a.defers } W) :
    (Code.rangeFunc g ps assign body).wpIn Fence.wide 0 P Q a w := by
  refine wpIn_rangeFunc ?_
  intro fn hfn
  obtain ⟨B, hB⟩ : ∃ B, B = w.heap.size := ⟨_, rfl⟩
  obtain ⟨rec, hrec⟩ : ∃ rec : LoopState → Option Code → Loop, rec = fun st pe => { state := st, pending := pe, fn, tmps := a.tmps, params := ps, assign, body, defers := w.heap.size } := ⟨_, rfl⟩
  obtain ⟨W1, hW1⟩ : ∃ W1, (w.alloc (.deferred (some []))).alloc (.loop (rec .ready none)) = W1 := ⟨_, rfl⟩
  have hbel : Below w.heap.size w W1 := by rw [← hW1]; exact ((Below.refl _ w).alloc (Nat.le_refl _) _).alloc (by simp) _
  have hl1 : W1.heap[w.heap.size + 1]? = some (.loop (rec .ready none)) := by
    rw [← hW1]; have := World.alloc_heap_new (w.alloc (.deferred (some []))) (.loop (rec .ready none)); rwa [World.size_alloc] at this
  have hd1 : W1.heap[w.heap.size]? = some (.deferred (some [])) := by
    rw [← hW1]; exact (Below.heap_alloc _ _ _ (by simp)).trans (World.alloc_heap_new w _)
  have hkeep : ∀ {X Y : World} {k : Nat} {o : Obj}, Below X.heap.size X Y → X.heap[k]? = some o → Y.heap[k]? = some o := fun hb hk => (hb.block _ (Array.getElem?_eq_some_iff.1 hk).1).trans hk
  refine ⟨w.heap.size + 1, [{ target := .collected w.heap.size, args := #[] }], W1, { target := .fn (.func gf) #[], args := #[r, .func (.yield (w.heap.size + 1)) #[] #[]] }, W1, gf,
    #[r, .func (.yield (w.heap.size + 1)) #[] #[]], W1, ?_, ?_, fun _ _ => trivial, ?_, fun h => (by cases h), ?_⟩
  · rw [← hW1, hrec]; exact run_enterLoop_outer _ _ _ _ _
  · simp only [resolve, hg]
    simp [go_sem]
  · simp [invoke, go_sem, eg]
  refine (hit W1 (hNd 0 _ (hI 0 _ _ h0 (Aside.of_below hbel))) (w.heap.size + 1)
    (fun i W => I i W ∧ W.heap[w.heap.size + 1]? = some (.loop (rec .ready none)) ∧ W.heap[w.heap.size]? = some (.deferred (some [])))
    (fun W => ∃ c, Ix c W ∧ W.heap[w.heap.size + 1]? = some (.loop (rec .done (some c))) ∧ W.heap[w.heap.size]? = some (.deferred (some [])))
    (fun i W h => hNd i W h.1) (fun i X Y h hb => ⟨hI i _ _ h.1 (Aside.of_below hb), hkeep hb h.2.1, hkeep hb h.2.2⟩) ?_ ⟨hI 0 _ _ h0 (Aside.of_below hbel), hl1, hd1⟩).mono ?_
  · rintro i W hi ⟨hIi, hl, hd⟩
    have hy := run_yield (P := P) (args := encs i) hl (by rw [hrec]; exact hps i)
    rw [hrec] at hy
    refine ⟨fn, _, assign, body, hy, roundIn_of_wpIn hfn (hround _ i W _ hi hIi ?_)⟩
    intro a₁ w₁ hk1 hbody
    have hl' := hk1.same _ _ (by omega) hl rfl
    have hd' := hk1.same _ _ (Nat.le_refl _) hd rfl
    refine ⟨_, run_beginRound hl' (by rw [hrec]), ?_⟩
    have hlt : w.heap.size + 1 < w₁.heap.size := (Array.getElem?_eq_some_iff.1 hl').1
    have hl2 : (w₁.putObj (w.heap.size + 1) (.loop { rec .ready none with state := .busy })).heap[w.heap.size + 1]? = some (.loop { rec .ready none with state := .busy }) := World.putObj_heap_same hlt
    have hd2 : (w₁.putObj (w.heap.size + 1) (.loop { rec .ready none with state := .busy })).heap[w.heap.size]? = some (.deferred (some [])) := (World.putObj_heap_other (by omega)).trans hd'
    refine wpIn_mono (hbody _ (Aside.put _ hl' (by omega) rfl)) ?_
    have fin : ∀ (jump : Option Code) (W3 : World), KeepsFrom w.heap.size (w₁.putObj (w.heap.size + 1) (.loop { rec .ready none with state := .busy })) W3 →
        ∃ W4, (Instr.endRound (w.heap.size + 1) jump).run P W3 = .ok (.bool jump.isNone) W4 ∧ Aside w.heap.size W3 W4 ∧
          W4.heap[w.heap.size + 1]? = some (.loop (rec (if jump.isNone then .ready else .done) jump)) ∧ W4.heap[w.heap.size]? = some (.deferred (some [])) := fun jump W3 hk3 => by
      have hl3 := hk3.same _ _ (by omega) hl2 rfl
      have hd3 := hk3.same _ _ (Nat.le_refl _) hd2 rfl
      have h := run_endRound (P := P) jump hl3
      refine ⟨_, h, Aside.put _ hl3 (by omega) rfl, ?_, (World.putObj_heap_other (by omega)).trans hd3⟩
      rw [World.putObj_heap_same (Array.getElem?_eq_some_iff.1 hl3).1, hrec]
    intro e a3 W3 hp
    cases e with
    | normal =>
      obtain ⟨W4, hr, hA, h1, h2⟩ := fin none W3 hp.1
      exact ⟨_, _, hr, .inl ⟨rfl, hI _ _ _ hp.2 hA, h1, h2⟩⟩
    | ret =>
      obtain ⟨W4, hr, hA, h1, h2⟩ := fin (some .ret) W3 hp.1
      exact ⟨_, _, hr, .inr ⟨rfl, .ret, hIx _ _ _ hp.2 hA, h1, h2⟩⟩
    | exit id =>
      obtain ⟨W4, hr, hA, h1, h2⟩ := fin (some (.exit id)) W3 hp.1
      exact ⟨_, _, hr, .inr ⟨rfl, .exit id, hIx _ _ _ hp.2 hA, h1, h2⟩⟩
    | goto t =>
      obtain ⟨W4, hr, hA, h1, h2⟩ := fin (some (.goto t)) W3 hp.1
      exact ⟨_, _, hr, .inr ⟨rfl, .goto t, hIx _ _ _ hp.2 hA, h1, h2⟩⟩
    | panic ch => exact hp.elim
    | outgrown => exact hp.elim
  · rintro e W2 ⟨⟨v, rfl⟩, (⟨hi, hl, hd⟩ | ⟨c, hi, hl, hd⟩)⟩
    · exact ⟨none, _, by have := run_endLoop (P := P) hl (by rw [hrec]; simp); rw [hrec] at this; exact this, hdone _ (hI _ _ _ hi (Aside.put _ hl (by omega) rfl)) ((World.putObj_heap_other (by omega)).trans hd)⟩
    · exact ⟨some c, _, by have := run_endLoop (P := P) hl (by rw [hrec]; simp); rw [hrec] at this; exact this, hstop c _ (hIx _ _ _ hi (Aside.put _ hl (by omega) rfl)) ((World.putObj_heap_other (by omega)).trans hd)⟩

end Go.Proofs.YthbldjnpnligpaaDoor
