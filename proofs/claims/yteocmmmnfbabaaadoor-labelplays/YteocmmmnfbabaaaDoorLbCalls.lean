/-
  Package label's Encode and Decode, and the document's: one contract each; Same.
-/
import Derived.Test.YteocmmmnfbabaaaDoorLbEnc
import Derived.Test.YteocmmmnfbabaaaDoorLbRDec
import Derived.Test.YteocmmmnfbabaaaDoorWBase
namespace Go.Proofs.YteocmmmnfbabaaaDoor
set_option linter.unusedSimpArgs false
set_option linter.unusedVariables false
set_option maxRecDepth 100000
open Go.RowKit

theorem out_row {w : World} {g base : Nat} {xs : List Int} (h : Row 5 w g xs) (hg : base ≤ g) (hm : xs.length ≤ maxLen) : Out base w (.slice (some ⟨g, 0, none⟩) xs.length xs.length) xs :=
  ⟨by simp, .inr ⟨g, xs.length, _, rfl, hg, h, Nat.le_refl _, hm, by simp, by simp [List.take_of_length_le]⟩⟩

theorem lencode_run (l : Lb) (hl : l.ok) (a : Option Addr) (c : Nat) (w : World) (hB : Bs w a c l.m) (hV : Vars w) :
    Calls Tryd.prog 9 #[.agg (l.vs a c).toArray] w fun e w' => ∃ a' c', e = .returned (.tuple #[.slice a' (encL l).1.length c', .int .i64 ((encL l).2 : Int)]) ∧ Out w.heap.size w' (.slice a' (encL l).1.length c') (encL l).1 ∧ Below w.heap.size w w' := by
  unfold encL
  cases hm : l.may
  · have hlen : l.m.length ≤ 9223372036854775807 := by have h1 := hB.cap; have h2 := hB.capm; unfold maxLen at h2; omega
    refine (lencode_bad l hl a c w hlen hm).mono ?_
    rintro e w' ⟨rfl, hb⟩
    exact ⟨none, 0, by simp, out_none w' _, hb⟩
  · refine (lencode_ok l hl a c w hB hV hm).mono ?_
    rintro e w' ⟨g, rfl, hg, hR, hb⟩
    have h256 := Lb.bytes_len hl.p (Lb.may_parts hm).2
    simp only [if_true]
    have ho := out_row hR hg (by rw [h256]; decide)
    exact ⟨_, _, by rw [h256]; rfl, ho, hb⟩

theorem lrencode_run (l : Lb) (hl : l.ok) (a : Option Addr) (c : Nat) (w : World) (hB : Bs w a c l.m) :
    Calls Tryd.prog 10 #[.agg (l.vs a c).toArray] w fun e w' => ∃ a' c', e = .returned (.tuple #[.slice a' (encL l).1.length c', .int .i64 ((encL l).2 : Int)]) ∧ Out w.heap.size w' (.slice a' (encL l).1.length c') (encL l).1 ∧ Below w.heap.size w w' := by
  unfold encL
  cases hm : l.may
  · have hlen : l.m.length ≤ 9223372036854775807 := by have h1 := hB.cap; have h2 := hB.capm; unfold maxLen at h2; omega
    refine (lrencode_bad l hl a c w hlen hm).mono ?_
    rintro e w' ⟨rfl, hb⟩
    exact ⟨none, 0, by simp, out_none w' _, hb⟩
  · refine (lrencode_ok l hl a c w hB hm).mono ?_
    rintro e w' ⟨v, rfl, ho, hb⟩
    have h256 := Lb.bytes_len hl.p (Lb.may_parts hm).2
    simp only [if_true]
    obtain ⟨a', c', rfl⟩ := owns_form ho
    exact ⟨a', c', by rw [h256]; rfl, by unfold Out; rw [h256]; exact ho, hb⟩

theorem ldecode_run (a : Option Addr) (c n : Nat) (xs : List Int) (w : World) (hn : n = xs.length) (hB : Bs w a c xs) (hV : Vars w) :
    Calls Tryd.prog 13 #[.slice a n c] w fun e w' => ∃ a' c', e = .returned (.tuple #[.agg ((decL xs).1.vs a' c').toArray, .int .i64 ((decL xs).2 : Int)]) ∧ Out w.heap.size w' (.slice a' (decL xs).1.m.length c') (decL xs).1.m ∧ Below w.heap.size w w' := by
  have hnl : n ≤ 9223372036854775807 := by have h1 := hB.cap; have h2 := hB.capm; unfold maxLen at h2; omega
  unfold decL
  by_cases h1 : xs.length = 256
  · rw [if_neg (by omega)]
    obtain ⟨bb, oo, rfl, _⟩ := hB.cell (by omega)
    obtain rfl : n = 256 := by omega
    cases hs : sumL xs
    · refine (ldec_sum bb oo c xs w h1 hB hV hs).mono ?_
      rintro e w' ⟨rfl, hb⟩
      exact ⟨none, 0, by simp, out_none w' _, hb⟩
    · rw [if_neg (by decide)]
      unfold okL
      cases hmy : (decP ((xs.drop 8).take 44)).may
      · refine (ldec_form1 bb oo c xs w h1 hB hV hs hmy).mono ?_
        rintro e w' ⟨rfl, hb⟩
        exact ⟨none, 0, by simp, out_none w' _, hb⟩
      · cases hmg : decide (xs.take 4 = magicL)
        · refine (ldec_form2 bb oo c xs w h1 hB hV hs hmy hmg).mono ?_
          rintro e w' ⟨rfl, hb⟩
          exact ⟨none, 0, by simp, out_none w' _, hb⟩
        · cases hzz : decide ((xs.drop 116).take 108 = List.replicate 108 0)
          · refine (ldec_form3 bb oo c xs w h1 hB hV hs hmy hmg hzz).mono ?_
            rintro e w' ⟨rfl, hb⟩
            exact ⟨none, 0, by simp, out_none w' _, hb⟩
          · refine (ldec_ok bb oo c xs w h1 hB hV hs hmy hmg hzz).mono ?_
            rintro e w' ⟨a', c', rfl, ho, hb⟩
            simp only [Bool.and_true, if_true]
            exact ⟨a', c', rfl, by rw [lbOf_len h1]; exact ho, hb⟩
  · rw [if_pos h1]
    refine (ldec_len a c n w (by omega) hnl).mono ?_
    rintro e w' ⟨rfl, hb⟩
    exact ⟨none, 0, by simp, out_none w' _, hb⟩

theorem lrdecode_run (a : Option Addr) (c n : Nat) (xs : List Int) (w : World) (hn : n = xs.length) (hB : Bs w a c xs) :
    Calls Tryd.prog 14 #[.slice a n c] w fun e w' => ∃ a' c', e = .returned (.tuple #[.agg ((decL xs).1.vs a' c').toArray, .int .i64 ((decL xs).2 : Int)]) ∧ Bs w' a' c' (decL xs).1.m ∧ Below w.heap.size w w' := by
  have hnl : n ≤ 9223372036854775807 := by have h1 := hB.cap; have h2 := hB.capm; unfold maxLen at h2; omega
  unfold decL
  by_cases h1 : xs.length = 256
  · rw [if_neg (by omega)]
    obtain ⟨bb, oo, rfl, _⟩ := hB.cell (by omega)
    obtain rfl : n = 256 := by omega
    cases hs : sumL xs
    · refine (lrdec_sum bb oo c xs w h1 hB hs).mono ?_
      rintro e w' ⟨rfl, hb⟩
      exact ⟨none, 0, by simp, Bs.empty w', hb⟩
    · rw [if_neg (by decide)]
      cases hmy : (decP ((xs.drop 8).take 44)).may
      · refine (lrdec_form1 bb oo c xs w h1 hB hs hmy).mono ?_
        rintro e w' ⟨rfl, hb⟩
        rw [if_neg (by unfold okL; rw [hmy]; simp)]
        exact ⟨none, 0, by simp, Bs.empty w', hb⟩
      · by_cases hy : xs.take 4 = magicL ∧ (xs.drop 116).take 108 = List.replicate 108 0
        · refine (lrdec_ok bb oo c xs w h1 hB hs hmy hy).mono ?_
          rintro e w' ⟨⟨rfl, hB'⟩, hb⟩
          rw [if_pos (by unfold okL; rw [hmy]; simp [hy.1, hy.2])]
          exact ⟨_, _, rfl, hB', hb⟩
        · refine (lrdec_form2 bb oo c xs w h1 hB hs hmy hy).mono ?_
          rintro e w' ⟨rfl, hb⟩
          rw [if_neg (by unfold okL; rw [hmy]; simpa using hy)]
          exact ⟨none, 0, by simp, Bs.empty w', hb⟩
  · rw [if_pos h1]
    refine (lrdec_len a c n w (by omega) hnl).mono ?_
    rintro e w' ⟨rfl, hb⟩
    exact ⟨none, 0, by simp, Bs.empty w', hb⟩

/-- The law of a guarded load, its operation looked at first. -/
theorem wpList_load_guard7 {P : Program} {w : World} {ops : Array Oper} {rest : List Oper} {o : Oper} {a : Act} {Q : Exit → Act → World → Prop} (x : Operand) (t : TypeId) (ho : o.op = Op.load t x) (hw : Region.wanted o (yielded ops a.tmps) = true)
    (g off n : Nat) (hx : a.eval x = .pointer (some ⟨g, off, none⟩)) (hA : ∀ w, (isAgg t).run P w = .ok true w) (hZ : ∀ w, (sizeOf t).run P w = .ok n w) {e : TypeId} {vs : List Value} (hb : Blk e w g vs)
    (us : List Value) (hu : us = (vs.drop off).take n) (hl : us.length = n) (h : wpList P ops Q rest (a.put o.dst (.agg us.toArray)) w) : wpList P ops Q (o :: rest) a w :=
  wpList_load_blk_guard hw x t ho g off n hx hA hZ hb us hu hl h

def Lb.same (l m : Lb) : Bool := l.t == m.t && (l.p.same m.p && decide (l.m = m.m))
theorem Lb.same_iff {l m : Lb} : l.same m = true ↔ l = m := by
  obtain ⟨t, p, x⟩ := l
  obtain ⟨t', p', x'⟩ := m
  simp [Lb.same, Pt.same_iff]
theorem Lb.same_self (l : Lb) : l.same l = true := Lb.same_iff.2 rfl

set_option maxHeartbeats 8000000 in
theorem same_run (l m : Lb) (hl : l.ok) (hm : m.ok) (a a' : Option Addr) (c c' : Nat) (w : World) (hB : Bs w a c l.m) (hB' : Bs w a' c' m.m) :
    Calls Tryd.prog 15 #[.agg (l.vs a c).toArray, .agg (m.vs a' c').toArray] w fun e w' => e = .returned (.bool (l.same m)) ∧ Below w.heap.size w w' := by
  obtain ⟨vs, hvs⟩ : ∃ vs, vs = l.vs a c := ⟨_, rfl⟩
  obtain ⟨us, hus⟩ : ∃ us, us = m.vs a' c' := ⟨_, rfl⟩
  have HR : Hid (l.p.vs = (vs.drop 1).take 35) := by show _ = _; rw [hvs]; exact Lb.vs_root hl.p a c
  have HM : Hid (vs[36]? = some (.slice a l.m.length c)) := by show _ = _; rw [hvs]; exact Lb.vs_map hl.p a c
  have HT : Hid (vs[0]? = some (.int .u32 (l.t : Int))) := by show _ = _; rw [hvs]; exact Lb.vs_txg l a c
  have HR' : Hid (m.p.vs = (us.drop 1).take 35) := by show _ = _; rw [hus]; exact Lb.vs_root hm.p a' c'
  have HM' : Hid (us[36]? = some (.slice a' m.m.length c')) := by show _ = _; rw [hus]; exact Lb.vs_map hm.p a' c'
  have HT' : Hid (us[0]? = some (.int .u32 (m.t : Int))) := by show _ = _; rw [hus]; exact Lb.vs_txg m a' c'
  have hpl := Pt.vs_len hl.p
  have hpl' := Pt.vs_len hm.p
  have heq : ∀ u, (Op.equalIn 10000 26 (.agg l.p.vs.toArray) (.agg m.p.vs.toArray)).run Tryd.prog u = .ok (l.p.same m.p) u := fun u => equal_ptr hl.p hm.p 9997 u
  have e3 : ((strOfNums l.m).toList == (strOfNums m.m).toList) = decide (l.m = m.m) := str_beq hl.m hm.m
  have e1 : ((l.t : Int) == (m.t : Int)) = (l.t == m.t) := natbeq l.t m.t
  rw [← hvs, ← hus]
  clear hvs hus
  unfold Lb.same
  obtain ⟨b1, hb1⟩ : ∃ b, b = (l.t == m.t) := ⟨_, rfl⟩
  obtain ⟨b2, hb2⟩ : ∃ b, b = l.p.same m.p := ⟨_, rfl⟩
  obtain ⟨b3, hb3⟩ : ∃ b, b = decide (l.m = m.m) := ⟨_, rfl⟩
  rw [← hb1] at e1 ⊢
  rw [← hb2] at heq ⊢
  rw [← hb3] at e3 ⊢
  clear hb1 hb2 hb3
  go_enter Tryd.func15, Tryd.ntmps15
  cases b1
  · go_wp2_with (first
      | ((with_reducible show wpList _ _ _ (Oper.mk _ (Op.box _ _) _ _ _ _ :: _) _ _); refine wpList_box0 (by rfl) 29 (.tmp 0) (by rfl) vs (by rfl) ?_; intro w1 hL1 hb1 hs1)
      | ((with_reducible show wpList _ _ _ (Oper.mk _ (Op.box _ _) _ _ _ _ :: _) _ _); refine wpList_box0 (by rfl) 29 (.tmp 1) (by rfl) us (by rfl) ?_; intro w2 hM2 hb2 hs2
         rw [hs1] at hM2
         have hL2 := hL1.stays hb2
         have c1 : w2.cell? ⟨w.heap.size, 0, none⟩ = some (.int .u32 (l.t : Int)) := (hL2.cell 0).trans HT.out
         have c2 : w2.cell? ⟨w.heap.size + 1, 0, none⟩ = some (.int .u32 (m.t : Int)) := (hM2.cell 0).trans HT'.out
         have c3 : w2.cell? ⟨w.heap.size, 36, none⟩ = some (.slice a l.m.length c) := (hL2.cell 36).trans HM.out
         have c4 : w2.cell? ⟨w.heap.size + 1, 36, none⟩ = some (.slice a' m.m.length c') := (hM2.cell 36).trans HM'.out
         have v1 : (convert 27 9 (.slice a l.m.length c)).run Tryd.prog w2 = .ok (.string (strOfNums l.m)) w2 := (hB.stays (below_then hb1 hb2)).conv (P := Tryd.prog) _ rfl 27 5 Tryd.underlying27 Tryd.underlying5 9 Tryd.underlying9
         have v2 : (convert 27 9 (.slice a' m.m.length c')).run Tryd.prog w2 = .ok (.string (strOfNums m.m)) w2 := (hB'.stays (below_then hb1 hb2)).conv (P := Tryd.prog) _ rfl 27 5 Tryd.underlying27 Tryd.underlying5 9 Tryd.underlying9))
    go_ret
    exact ⟨rfl, below_then hb1 hb2⟩
  · cases b2
    · go_wp2_with (first
        | ((with_reducible show wpList _ _ _ (Oper.mk _ (Op.box _ _) _ _ _ _ :: _) _ _); refine wpList_box0 (by rfl) 29 (.tmp 0) (by rfl) vs (by rfl) ?_; intro w1 hL1 hb1 hs1)
        | ((with_reducible show wpList _ _ _ (Oper.mk _ (Op.box _ _) _ _ _ _ :: _) _ _); refine wpList_box0 (by rfl) 29 (.tmp 1) (by rfl) us (by rfl) ?_; intro w2 hM2 hb2 hs2
           rw [hs1] at hM2
           have hL2 := hL1.stays hb2
           have c1 : w2.cell? ⟨w.heap.size, 0, none⟩ = some (.int .u32 (l.t : Int)) := (hL2.cell 0).trans HT.out
           have c2 : w2.cell? ⟨w.heap.size + 1, 0, none⟩ = some (.int .u32 (m.t : Int)) := (hM2.cell 0).trans HT'.out
           have c3 : w2.cell? ⟨w.heap.size, 36, none⟩ = some (.slice a l.m.length c) := (hL2.cell 36).trans HM.out
           have c4 : w2.cell? ⟨w.heap.size + 1, 36, none⟩ = some (.slice a' m.m.length c') := (hM2.cell 36).trans HM'.out
           have v1 : (convert 27 9 (.slice a l.m.length c)).run Tryd.prog w2 = .ok (.string (strOfNums l.m)) w2 := (hB.stays (below_then hb1 hb2)).conv (P := Tryd.prog) _ rfl 27 5 Tryd.underlying27 Tryd.underlying5 9 Tryd.underlying9
           have v2 : (convert 27 9 (.slice a' m.m.length c')).run Tryd.prog w2 = .ok (.string (strOfNums m.m)) w2 := (hB'.stays (below_then hb1 hb2)).conv (P := Tryd.prog) _ rfl 27 5 Tryd.underlying27 Tryd.underlying5 9 Tryd.underlying9)
        | ((with_reducible show wpList _ _ _ (Oper.mk _ (Op.load _ _) _ _ _ _ :: _) _ _); refine wpList_load_guard7 (.tmp 11) 26 (by rfl) (by kernel_rfl) _ 1 35 (by rfl) agg_ptr size_ptr hL2 _ HR.out hpl ?_)
        | ((with_reducible show wpList _ _ _ (Oper.mk _ (Op.load _ _) _ _ _ _ :: _) _ _); refine wpList_load_guard7 (.tmp 13) 26 (by rfl) (by kernel_rfl) _ 1 35 (by rfl) agg_ptr size_ptr hM2 _ HR'.out hpl' ?_))
      go_ret
      exact ⟨rfl, below_then hb1 hb2⟩
    · go_wp2_with (first
        | ((with_reducible show wpList _ _ _ (Oper.mk _ (Op.box _ _) _ _ _ _ :: _) _ _); refine wpList_box0 (by rfl) 29 (.tmp 0) (by rfl) vs (by rfl) ?_; intro w1 hL1 hb1 hs1)
        | ((with_reducible show wpList _ _ _ (Oper.mk _ (Op.box _ _) _ _ _ _ :: _) _ _); refine wpList_box0 (by rfl) 29 (.tmp 1) (by rfl) us (by rfl) ?_; intro w2 hM2 hb2 hs2
           rw [hs1] at hM2
           have hL2 := hL1.stays hb2
           have c1 : w2.cell? ⟨w.heap.size, 0, none⟩ = some (.int .u32 (l.t : Int)) := (hL2.cell 0).trans HT.out
           have c2 : w2.cell? ⟨w.heap.size + 1, 0, none⟩ = some (.int .u32 (m.t : Int)) := (hM2.cell 0).trans HT'.out
           have c3 : w2.cell? ⟨w.heap.size, 36, none⟩ = some (.slice a l.m.length c) := (hL2.cell 36).trans HM.out
           have c4 : w2.cell? ⟨w.heap.size + 1, 36, none⟩ = some (.slice a' m.m.length c') := (hM2.cell 36).trans HM'.out
           have v1 : (convert 27 9 (.slice a l.m.length c)).run Tryd.prog w2 = .ok (.string (strOfNums l.m)) w2 := (hB.stays (below_then hb1 hb2)).conv (P := Tryd.prog) _ rfl 27 5 Tryd.underlying27 Tryd.underlying5 9 Tryd.underlying9
           have v2 : (convert 27 9 (.slice a' m.m.length c')).run Tryd.prog w2 = .ok (.string (strOfNums m.m)) w2 := (hB'.stays (below_then hb1 hb2)).conv (P := Tryd.prog) _ rfl 27 5 Tryd.underlying27 Tryd.underlying5 9 Tryd.underlying9)
        | ((with_reducible show wpList _ _ _ (Oper.mk _ (Op.load _ _) _ _ _ _ :: _) _ _); refine wpList_load_guard7 (.tmp 11) 26 (by rfl) (by kernel_rfl) _ 1 35 (by rfl) agg_ptr size_ptr hL2 _ HR.out hpl ?_)
        | ((with_reducible show wpList _ _ _ (Oper.mk _ (Op.load _ _) _ _ _ _ :: _) _ _); refine wpList_load_guard7 (.tmp 13) 26 (by rfl) (by kernel_rfl) _ 1 35 (by rfl) agg_ptr size_ptr hM2 _ HR'.out hpl' ?_))
      go_ret
      exact ⟨rfl, below_then hb1 hb2⟩

end Go.Proofs.YteocmmmnfbabaaaDoor
