/-
  Package label's Encode and Decode, and the document's: one contract each; Same.
-/
import Derived.Test.YthbcphalokoknaaDoorG17
import Derived.Test.YthbcphalokoknaaDoorG24
import Derived.Test.YthbcphalokoknaaDoorG19
import Derived.Test.YthbcphalokoknaaDoorG21
namespace Go.Proofs.YthbcphalokoknaaDoor
set_option linter.unusedSimpArgs false
set_option linter.unusedVariables false
set_option maxRecDepth 100000
open Go.RowKit

theorem out_row {w : World} {g base : Nat} {xs : List Int} (h : Row 5 w g xs) (hg : base ≤ g) (hm : xs.length ≤ maxLen) : Out base w (.slice (some ⟨g, 0, none⟩) xs.length xs.length) xs :=
  ⟨by simp, .inr ⟨g, xs.length, _, rfl, hg, h, Nat.le_refl _, hm, by simp, by simp [List.take_of_length_le]⟩⟩

theorem lencode_run (l : Lb) (hl : l.ok) (a : Option Addr) (c : Nat) (w : World) (hB : Bs w a c l.m) (hV : Vars w) :
    Calls Tryd.prog 9 #[.agg (l.vs a c).toArray] w fun e w' => ∃ a' c', e = .returned (.tuple #[.slice a' (encL l).1.length c', .int .i64 ((encL l).2 : Int)]) ∧ Out w.heap.size w' (.slice a' (encL l).1.length c') (encL l).1 ∧ Below w.heap.size w w' := by
  unfold encL
  cases hm : l.may
  · have hlen : l.m.length ≤ 9223372036854775807 := by have h1 := hB.cap; have h2 := hB.capm; unfold maxLen at h2; omega
    refine (lencode_bad l hl a c w hlen hm).mono ?_
    rintro e w' ⟨rfl, hb⟩
    exact ⟨none, 0, by simp, out_none w' _, hb⟩
  · refine (lencode_ok l hl a c w hB hV hm).mono ?_
    rintro e w' ⟨g, rfl, hg, hR, hb⟩
    have h256 := Lb.bytes_len hl.p (Lb.may_parts hm).2
    simp only [if_true]
    have ho := out_row hR hg (by rw [h256]; decide)
    exact ⟨_, _, by rw [h256]; rfl, ho, hb⟩

theorem lrencode_run (l : Lb) (hl : l.ok) (a : Option Addr) (c : Nat) (w : World) (hB : Bs w a c l.m) :
    Calls Tryd.prog 10 #[.agg (l.vs a c).toArray] w fun e w' => ∃ a' c', e = .returned (.tuple #[.slice a' (encL l).1.length c', .int .i64 ((encL l).2 : Int)]) ∧ Out w.heap.size w' (.slice a' (encL l).1.length c') (encL l).1 ∧ Below w.heap.size w w' := by
  unfold encL
  cases hm : l.may
  · have hlen : l.m.length ≤ 9223372036854775807 := by have h1 := hB.cap; have h2 := hB.capm; unfold maxLen at h2; omega
    refine (lrencode_bad l hl a c w hlen hm).mono ?_
    rintro e w' ⟨rfl, hb⟩
    exact ⟨none, 0, by simp, out_none w' _, hb⟩
  · refine (lrencode_ok l hl a c w hB hm).mono ?_
    rintro e w' ⟨v, rfl, ho, hb⟩
    have h256 := Lb.bytes_len hl.p (Lb.may_parts hm).2
    simp only [if_true]
    obtain ⟨a', c', rfl⟩ := owns_form ho
    exact ⟨a', c', by rw [h256]; rfl, by unfold Out; rw [h256]; exact ho, hb⟩

theorem ldecode_run (a : Option Addr) (c n : Nat) (xs : List Int) (w : World) (hn : n = xs.length) (hB : Bs w a c xs) (hV : Vars w) :
    Calls Tryd.prog 13 #[.slice a n c] w fun e w' => ∃ a' c', e = .returned (.tuple #[.agg ((decL xs).1.vs a' c').toArray, .int .i64 ((decL xs).2 : Int)]) ∧ Out w.heap.size w' (.slice a' (decL xs).1.m.length c') (decL xs).1.m ∧ Below w.heap.size w w' := by
  have hnl : n ≤ 9223372036854775807 := by have h1 := hB.cap; have h2 := hB.capm; unfold maxLen at h2; omega
  unfold decL
  by_cases h1 : xs.length = 256
  · rw [if_neg (by omega)]
    obtain ⟨bb, oo, rfl, _⟩ := hB.cell (by omega)
    obtain rfl : n = 256 := by omega
    cases hs : sumL xs
    · refine (ldec_sum bb oo c xs w h1 hB hV hs).mono ?_
      rintro e w' ⟨rfl, hb⟩
      exact ⟨none, 0, by simp, out_none w' _, hb⟩
    · rw [if_neg (by decide)]
      unfold okL
      cases hmy : (decP ((xs.drop 8).take 44)).may
      · refine (ldec_form1 bb oo c xs w h1 hB hV hs hmy).mono ?_
        rintro e w' ⟨rfl, hb⟩
        exact ⟨none, 0, by simp, out_none w' _, hb⟩
      · cases hmg : decide (xs.take 4 = magicL)
        · refine (ldec_form2 bb oo c xs w h1 hB hV hs hmy hmg).mono ?_
          rintro e w' ⟨rfl, hb⟩
          exact ⟨none, 0, by simp, out_none w' _, hb⟩
        · cases hzz : decide ((xs.drop 116).take 108 = List.replicate 108 0)
          · refine (ldec_form3 bb oo c xs w h1 hB hV hs hmy hmg hzz).mono ?_
            rintro e w' ⟨rfl, hb⟩
            exact ⟨none, 0, by simp, out_none w' _, hb⟩
          · refine (ldec_ok bb oo c xs w h1 hB hV hs hmy hmg hzz).mono ?_
            rintro e w' ⟨a', c', rfl, ho, hb⟩
            simp only [Bool.and_true, if_true]
            exact ⟨a', c', rfl, by rw [lbOf_len h1]; exact ho, hb⟩
  · rw [if_pos h1]
    refine (ldec_len a c n w (by omega) hnl).mono ?_
    rintro e w' ⟨rfl, hb⟩
    exact ⟨none, 0, by simp, out_none w' _, hb⟩

theorem lrdecode_run (a : Option Addr) (c n : Nat) (xs : List Int) (w : World) (hn : n = xs.length) (hB : Bs w a c xs) :
    Calls Tryd.prog 14 #[.slice a n c] w fun e w' => ∃ a' c', e = .returned (.tuple #[.agg ((decL xs).1.vs a' c').toArray, .int .i64 ((decL xs).2 : Int)]) ∧ Bs w' a' c' (decL xs).1.m ∧ Below w.heap.size w w' := by
  have hnl : n ≤ 9223372036854775807 := by have h1 := hB.cap; have h2 := hB.capm; unfold maxLen at h2; omega
  unfold decL
  by_cases h1 : xs.length = 256
  · rw [if_neg (by omega)]
    obtain ⟨bb, oo, rfl, _⟩ := hB.cell (by omega)
    obtain rfl : n = 256 := by omega
    cases hs : sumL xs
    · refine (lrdec_sum bb oo c xs w h1 hB hs).mono ?_
      rintro e w' ⟨rfl, hb⟩
      exact ⟨none, 0, by simp, Bs.empty w', hb⟩
    · rw [if_neg (by decide)]
      cases hmy : (decP ((xs.drop 8).take 44)).may
      · refine (lrdec_form1 bb oo c xs w h1 hB hs hmy).mono ?_
        rintro e w' ⟨rfl, hb⟩
        rw [if_neg (by unfold okL; rw [hmy]; simp)]
        exact ⟨none, 0, by simp, Bs.empty w', hb⟩
      · by_cases hy : xs.take 4 = magicL ∧ (xs.drop 116).take 108 = List.replicate 108 0
        · refine (lrdec_ok bb oo c xs w h1 hB hs hmy hy).mono ?_
          rintro e w' ⟨⟨rfl, hB'⟩, hb⟩
          rw [if_pos (by unfold okL; rw [hmy]; simp [hy.1, hy.2])]
          exact ⟨_, _, rfl, hB', hb⟩
        · refine (lrdec_form2 bb oo c xs w h1 hB hs hmy hy).mono ?_
          rintro e w' ⟨rfl, hb⟩
          rw [if_neg (by unfold okL; rw [hmy]; simpa using hy)]
          exact ⟨none, 0, by simp, Bs.empty w', hb⟩
  · rw [if_pos h1]
    refine (lrdec_len a c n w (by omega) hnl).mono ?_
    rintro e w' ⟨rfl, hb⟩
    exact ⟨none, 0, by simp, Bs.empty w', hb⟩

/-- The law of a guarded load, its operation looked at first. -/
theorem wpList_load_guard7 {P : Program} {w : World} {ops : Array Oper} {rest : List Oper} {o : Oper} {a : Act} {Q : Exit → Act → World → Prop} (x : Operand) (t : TypeId) (ho : o.op = Op.load t x) (hw : Region.wanted o (yielded ops a.tmps) = true)
    (g off n : Nat) (hx : a.eval x = .pointer (some ⟨g, off, none⟩)) (hA : ∀ w, (isAgg t).run P w = .ok true w) (hZ : ∀ w, (sizeOf t).run P w = .ok n w) {e : TypeId} {vs : List Value} (hb : Blk e w g vs)
    (us : List Value) (hu : us = (vs.drop off).take n) (hl : us.length = n) (h : wpList P ops Q rest (a.put o.dst (.agg us.toArray)) w) : wpList P ops Q (o :: rest) a w :=
  wpList_load_blk_guard hw x t ho g off n hx hA hZ hb us hu hl h

def Lb.same (l m : Lb) : Bool := l.t == m.t && (l.p.same m.p && decide (l.m = m.m))
theorem Lb.same_iff {l m : Lb} : l.same m = true ↔ l = m := by
  obtain ⟨t, p, x⟩ := l
  obtain ⟨t', p', x'⟩ := m
  simp [Lb.same, Pt.same_iff]
theorem Lb.same_self (l : Lb) : l.same l = true := Lb.same_iff.2 rfl

set_option maxHeartbeats 8000000 in
theorem same_run (l m : Lb) (hl : l.ok) (hm : m.ok) (a a' : Option Addr) (c c' : Nat) (w : World) (hB : Bs w a c l.m) (hB' : Bs w a' c' m.m) :
    Calls Tryd.prog 15 #[.agg (l.vs a c).toArray, .agg (m.vs a' c').toArray] w fun e w' => e = .returned (.bool (l.same m)) ∧ Below w.heap.size w w' := by
  obtain ⟨vs, hvs⟩ : ∃ vs, vs = l.vs a c := ⟨_, rfl⟩
  obtain ⟨us, hus⟩ : ∃ us, us = m.vs a' c' := ⟨_, rfl⟩
  have HR : Hid (l.p.vs = (vs.drop 1).take 35) := by show _ = _; rw [hvs]; exact Lb.vs_root hl.p a c
  have HM : Hid (vs[36]? = some (.slice a l.m.length c)) := by show _ = _; rw [hvs]; exact Lb.vs_map hl.p a c
  have HT : Hid (vs[0]? = some (.int .u32 (l.t : Int))) := by show _ = _; rw [hvs]; exact Lb.vs_txg l a c
  have HR' : Hid (m.p.vs = (us.drop 1).take 35) := by show _ = _; rw [hus]; exact Lb.vs_root hm.p a' c'
  have HM' : Hid (us[36]? = some (.slice a' m.m.length c')) := by show _ = _; rw [hus]; exact Lb.vs_map hm.p a' c'
  have HT' : Hid (us[0]? = some (.int .u32 (m.t : Int))) := by show _ = _; rw [hus]; exact Lb.vs_txg m a' c'
  have hpl := Pt.vs_len hl.p
  have hpl' := Pt.vs_len hm.p
  have heq : ∀ u, (Op.equalIn 10000 26 (.agg l.p.vs.toArray) (.agg m.p.vs.toArray)).run Tryd.prog u = .ok (l.p.same m.p) u := fun u => equal_ptr hl.p hm.p 9997 u
  have e3 : ((strOfNums l.m).toList == (strOfNums m.m).toList) = decide (l.m = m.m) := str_beq hl.m hm.m
  have e1 : ((l.t : Int) == (m.t : Int)) = (l.t == m.t) := natbeq l.t m.t
  rw [← hvs, ← hus]
  clear hvs hus
  unfold Lb.same
  obtain ⟨b1, hb1⟩ : ∃ b, b = (l.t == m.t) := ⟨_, rfl⟩
  obtain ⟨b2, hb2⟩ : ∃ b, b = l.p.same m.p := ⟨_, rfl⟩
  obtain ⟨b3, hb3⟩ : ∃ b, b = decide (l.m = m.m) := ⟨_, rfl⟩
  rw [← hb1] at e1 ⊢
  rw [← hb2] at heq ⊢
  rw [← hb3] at e3 ⊢
  clear hb1 hb2 hb3
  go_enter Tryd.func15, Tryd.ntmps15
  cases b1
  · go_wp2_with (first
      | ((with_reducible show wpList _ _ _ (Oper.mk _ (Op.box _ _) _ _ _ _ :: _) _ _); refine wpList_box0 (by rfl) 29 (.tmp 0) (by rfl) vs (by rfl) ?_; intro w1 hL1 hb1 hs1)
      | ((with_reducible show wpList _ _ _ (Oper.mk _ (Op.box _ _) _ _ _ _ :: _) _ _); refine wpList_box0 (by rfl) 29 (.tmp 1) (by rfl) us (by rfl) ?_; intro w2 hM2 hb2 hs2
         rw [hs1] at hM2
         have hL2 := hL1.stays hb2
         have c1 : w2.cell? ⟨w.heap.size, 0, none⟩ = some (.int .u32 (l.t : Int)) := (hL2.cell 0).trans HT.out
         have c2 : w2.cell? ⟨w.heap.size + 1, 0, none⟩ = some (.int .u32 (m.t : Int)) := (hM2.cell 0).trans HT'.out
         have c3 : w2.cell? ⟨w.heap.size, 36, none⟩ = some (.slice a l.m.length c) := (hL2.cell 36).trans HM.out
         have c4 : w2.cell? ⟨w.heap.size + 1, 36, none⟩ = some (.slice a' m.m.length c') := (hM2.cell 36).trans HM'.out
         have v1 : (convert 27 9 (.slice a l.m.length c)).run Tryd.prog w2 = .ok (.string (strOfNums l.m)) w2 := (hB.stays (below_then hb1 hb2)).conv (P := Tryd.prog) _ rfl 27 5 Tryd.underlying27 Tryd.underlying5 9 Tryd.underlying9
         have v2 : (convert 27 9 (.slice a' m.m.length c')).run Tryd.prog w2 = .ok (.string (strOfNums m.m)) w2 := (hB'.stays (below_then hb1 hb2)).conv (P := Tryd.prog) _ rfl 27 5 Tryd.underlying27 Tryd.underlying5 9 Tryd.underlying9))
    go_ret
    exact ⟨rfl, below_then hb1 hb2⟩
  · cases b2
    · go_wp2_with (first
        | ((with_reducible show wpList _ _ _ (Oper.mk _ (Op.box _ _) _ _ _ _ :: _) _ _); refine wpList_box0 (by rfl) 29 (.tmp 0) (by rfl) vs (by rfl) ?_; intro w1 hL1 hb1 hs1)
        | ((with_reducible show wpList _ _ _ (Oper.mk _ (Op.box _ _) _ _ _ _ :: _) _ _); refine wpList_box0 (by rfl) 29 (.tmp 1) (by rfl) us (by rfl) ?_; intro w2 hM2 hb2 hs2
           rw [hs1] at hM2
           have hL2 := hL1.stays hb2
           have c1 : w2.cell? ⟨w.heap.size, 0, none⟩ = some (.int .u32 (l.t : Int)) := (hL2.cell 0).trans HT.out
           have c2 : w2.cell? ⟨w.heap.size + 1, 0, none⟩ = some (.int .u32 (m.t : Int)) := (hM2.cell 0).trans HT'.out
           have c3 : w2.cell? ⟨w.heap.size, 36, none⟩ = some (.slice a l.m.length c) := (hL2.cell 36).trans HM.out
           have c4 : w2.cell? ⟨w.heap.size + 1, 36, none⟩ = some (.slice a' m.m.length c') := (hM2.cell 36).trans HM'.out
           have v1 : (convert 27 9 (.slice a l.m.length c)).run Tryd.prog w2 = .ok (.string (strOfNums l.m)) w2 := (hB.stays (below_then hb1 hb2)).conv (P := Tryd.prog) _ rfl 27 5 Tryd.underlying27 Tryd.underlying5 9 Tryd.underlying9
           have v2 : (convert 27 9 (.slice a' m.m.length c')).run Tryd.prog w2 = .ok (.string (strOfNums m.m)) w2 := (hB'.stays (below_then hb1 hb2)).conv (P := Tryd.prog) _ rfl 27 5 Tryd.underlying27 Tryd.underlying5 9 Tryd.underlying9)
        | ((with_reducible show wpList _ _ _ (Oper.mk _ (Op.load _ _) _ _ _ _ :: _) _ _); refine wpList_load_guard7 (.tmp 11) 26 (by rfl) (by kernel_rfl) _ 1 35 (by rfl) agg_ptr size_ptr hL2 _ HR.out hpl ?_)
        | ((with_reducible show wpList _ _ _ (Oper.mk _ (Op.load _ _) _ _ _ _ :: _) _ _); refine wpList_load_guard7 (.tmp 13) 26 (by rfl) (by kernel_rfl) _ 1 35 (by rfl) agg_ptr size_ptr hM2 _ HR'.out hpl' ?_))
      go_ret
      exact ⟨rfl, below_then hb1 hb2⟩
    · go_wp2_with (first
        | ((with_reducible show wpList _ _ _ (Oper.mk _ (Op.box _ _) _ _ _ _ :: _) _ _); refine wpList_box0 (by rfl) 29 (.tmp 0) (by rfl) vs (by rfl) ?_; intro w1 hL1 hb1 hs1)
        | ((with_reducible show wpList _ _ _ (Oper.mk _ (Op.box _ _) _ _ _ _ :: _) _ _); refine wpList_box0 (by rfl) 29 (.tmp 1) (by rfl) us (by rfl) ?_; intro w2 hM2 hb2 hs2
           rw [hs1] at hM2
           have hL2 := hL1.stays hb2
           have c1 : w2.cell? ⟨w.heap.size, 0, none⟩ = some (.int .u32 (l.t : Int)) := (hL2.cell 0).trans HT.out
           have c2 : w2.cell? ⟨w.heap.size + 1, 0, none⟩ = some (.int .u32 (m.t : Int)) := (hM2.cell 0).trans HT'.out
           have c3 : w2.cell? ⟨w.heap.size, 36, none⟩ = some (.slice a l.m.length c) := (hL2.cell 36).trans HM.out
           have c4 : w2.cell? ⟨w.heap.size + 1, 36, none⟩ = some (.slice a' m.m.length c') := (hM2.cell 36).trans HM'.out
           have v1 : (convert 27 9 (.slice a l.m.length c)).run Tryd.prog w2 = .ok (.string (strOfNums l.m)) w2 := (hB.stays (below_then hb1 hb2)).conv (P := Tryd.prog) _ rfl 27 5 Tryd.underlying27 Tryd.underlying5 9 Tryd.underlying9
           have v2 : (convert 27 9 (.slice a' m.m.length c')).run Tryd.prog w2 = .ok (.string (strOfNums m.m)) w2 := (hB'.stays (below_then hb1 hb2)).conv (P := Tryd.prog) _ rfl 27 5 Tryd.underlying27 Tryd.underlying5 9 Tryd.underlying9)
        | ((with_reducible show wpList _ _ _ (Oper.mk _ (Op.load _ _) _ _ _ _ :: _) _ _); refine wpList_load_guard7 (.tmp 11) 26 (by rfl) (by kernel_rfl) _ 1 35 (by rfl) agg_ptr size_ptr hL2 _ HR.out hpl ?_)
        | ((with_reducible show wpList _ _ _ (Oper.mk _ (Op.load _ _) _ _ _ _ :: _) _ _); refine wpList_load_guard7 (.tmp 13) 26 (by rfl) (by kernel_rfl) _ 1 35 (by rfl) agg_ptr size_ptr hM2 _ HR'.out hpl' ?_))
      go_ret
      exact ⟨rfl, below_then hb1 hb2⟩

end Go.Proofs.YthbcphalokoknaaDoor

/-
  The document's disk: lay, Crash.
-/

namespace Go.Proofs.YthbcphalokoknaaDoor
set_option linter.unusedSimpArgs false
set_option linter.unusedVariables false
open Go.RowKit

theorem str_take (xs : List Int) (n : Nat) (h : n ≤ xs.length) : (strOfNums xs).extract 0 n = strOfNums (xs.take n) := by
  apply ByteArray.ext
  simp [strOfNums, ByteArray.data_extract]

theorem str_drop (xs : List Int) (n : Nat) : (strOfNums xs).extract n xs.length = strOfNums (xs.drop n) := by
  apply ByteArray.ext
  simp [strOfNums, ByteArray.data_extract]
  rw [List.take_of_length_le (by simp)]

theorem str_append (xs ys : List Int) : strOfNums xs ++ strOfNums ys = strOfNums (xs ++ ys) := by
  apply ByteArray.ext
  simp [strOfNums, ByteArray.data_append]

set_option maxHeartbeats 600000 in
theorem rlay_run (s b : List Int) (m : Nat) (hs : s.length = 256) (hb : b.length = 256) (hm : m ≤ 256) (w : World) :
    Calls Tryd.prog 58 #[.string (strOfNums s), .string (strOfNums b), .int .i64 (m : Int)] w fun e w' => e = .returned (.string (strOfNums (b.take m ++ s.drop m))) ∧ Below w.heap.size w w' := by
  have h1 : (strOfNums s).size = 256 := by rw [strOfNums_size]; exact hs
  have h2 : (strOfNums b).size = 256 := by rw [strOfNums_size]; exact hb
  have hm' : (m : Int) ≤ 256 := by omega
  have e1 := str_take b m (by omega)
  have e2 := str_drop s m
  rw [hs] at e2
  have e3 := str_append (b.take m) (s.drop m)
  go_enter Tryd.func58, Tryd.ntmps58
  go_wp2
  have hsum : ¬ (9223372036854775807 < (strOfNums (b.take m)).size + (strOfNums (s.drop m)).size) := by rw [strOfNums_size, strOfNums_size]; simp; omega
  go_region
  all_goals (go_wp2; go_ret)
  all_goals exact ⟨rfl, (Below.refl _ _).drew⟩

theorem owns_stays6 {w w' : World} {base : Nat} {e : TypeId} {s : Nat} {v : Value} {n : Nat} {xs : List Value} (h : w.ownsRow base e s v n xs) (hb : Below w.heap.size w w') : w'.ownsRow base e s v n xs :=
  owns_keep h (fun k e => hb.block k (h.lt k e).2)

section
variable {G : Nat → Prop} {S : DS} {sa : Option Addr} {sc : Nat} {wa : Option Addr} {wc n : Nat}

set_option maxRecDepth 100000 in
set_option maxHeartbeats 2000000 in
theorem rcrash_go (ka : Option Addr) (kc : Nat) (ks : List Int) (sn wn : Nat) (HSN : Hid (sn = n)) (HWN : Hid (wn = S.ws.length)) (fused off : Bool) (left : Nat) (w : World) (hok : S.Ok n) (hs : SsAt w G sa (secStrs S.laid n)) (hW : WsAt w G wa wc S.ws) (hlen : S.ws.length ≤ 900000) (hK : Is w ka ks) (hkl : ks.length ≤ 900000) :
    Calls Tryd.prog 27 #[.agg #[.slice sa sn sc, .slice wa wn wc, .bool fused, .int .i64 (left : Int), .bool off], .slice ka ks.length kc] w fun e w' =>
      ∃ sa' sc', e = .returned (.agg #[.slice sa' sn sc', .slice none 0 0, .bool false, .int .i64 0, .bool false]) ∧ SsAt w' (fun k => w.heap.size ≤ k) sa' (secStrs (layW S.laid S.ws (fun k => ks.getD k 0) (min S.ws.length ks.length)) n) ∧ Below w.heap.size w w' := by
  obtain ⟨W, hWe⟩ : ∃ W, W = (w.alloc (.cells #[.slice sa sn sc, .slice wa wn wc, .bool fused, .int .i64 (left : Int), .bool off] 48)).alloc (.cells #[.slice none 0 0, .slice none 0 0, .bool false, .int .i64 0, .bool false] 48) := ⟨_, rfl⟩
  have hbW : Below w.heap.size w W := by rw [hWe]; exact ((Below.refl _ _).alloc (Nat.le_refl _) _).alloc (by simp) _
  have hX : Blk 48 W w.heap.size [.slice sa sn sc, .slice wa wn wc, .bool fused, .int .i64 (left : Int), .bool off] := by rw [hWe]; exact (Blk.newAt rfl rfl).alloc _
  have hY : Blk 48 W (w.heap.size + 1) [.slice none 0 0, .slice none 0 0, .bool false, .int .i64 0, .bool false] := by rw [hWe]; exact Blk.newAt (by simp) rfl
  have hsW : W.heap.size = w.heap.size + 2 := by rw [hWe]; simp
  have hown0 : (W.alloc (.cells #[] 9)).ownsRow (w.heap.size + 2) 9 1 (.slice (some ⟨w.heap.size + 2, 0, none⟩) 0 0) 0 [] := by
    rw [← hsW]
    exact World.ownsRow_made W #[] 0 (Nat.le_refl _) (by decide) rfl
  have hbA : Below (w.heap.size + 2) W (W.alloc (.cells #[] 9)) := by rw [← hsW]; exact (Below.refl _ _).alloc (Nat.le_refl _) _
  have hn16 := hok.lo
  have hn512 := hok.hi
  have HWE : Hid (W = _) := hWe
  clear hWe
  go_enter Tryd.func27, Tryd.ntmps27
  go_wp2_with (at_builtin; rw [← HWE.out]; go_must (refine wpList_append_ss (w0 := W) (by rfl) (.tmp 9) (.tmp 11) (by rfl) (w.heap.size + 2) _ (by rfl) hown0 G sa sn sc (secStrs S.laid n) (by rfl) (by rw [HSN.out, secStrs_length]) (hs.keep (G' := G) (by rw [secStrs_length]; omega) (fun k hg hl => ⟨(hbW.trans (hbA.mono (by omega))).block k hl, hg⟩)) (by rw [secStrs_length]; omega) (by simp [hsW]) hbA ?_); rw [secStrs_length]; intro v4 w4 hown4 hb4)
  obtain ⟨g, cg, hv4, hg4, _⟩ := ss_of_owns (xs := secStrs S.laid n) (by rw [secStrs_length]; exact hown4) (by rw [secStrs_length]; omega)
  rw [secStrs_length] at hv4
  subst hv4
  have hws : ∀ q ∈ S.ws, q.1 < n ∧ q.2.length = 256 := fun q hq => ⟨(hok.ws q hq).1, (hok.ws q hq).2.1⟩
  go_loopw [6] (fun x wr => ∃ k : Nat, x = .int .i64 k ∧ k ≤ S.ws.length ∧ k ≤ ks.length ∧ wr.ownsRow (w.heap.size + 2) 9 1 (.slice (some ⟨g, 0, none⟩) n cg) n ((secStrs (layW S.laid S.ws (fun k => ks.getD k 0) k) n).map Value.string) ∧ Below (w.heap.size + 2) W wr) (fun x _ => S.ws.length - (intOf x).toNat)
  case atStart => exact ⟨0, rfl, Nat.zero_le _, Nat.zero_le _, hown4, hb4⟩
  case round =>
    rename_i hrel
    clear hown4 hb4 hown0 hbA
    obtain ⟨k, rfl, hk, hkk, hown, hbr⟩ := hrel
    have hXr := hX.stays (hsW ▸ hbr)
    have hYr := hY.stays (hsW ▸ hbr)
    obtain ⟨z0, z1, z2, z3, z4⟩ := box_cells hXr
    have hb0r : Below w.heap.size w wr := hbW.trans (hbr.mono (by omega))
    by_cases hlt : k < S.ws.length ∧ k < ks.length
    · obtain ⟨hltw, hltk⟩ := hlt
      have hlt' : (k : Int) < (wn : Int) := by have := HWN.out; omega
      have hltk' : (k : Int) < (ks.length : Int) := by omega
      obtain ⟨b, o, rfl, hc0, hc1⟩ := (hW.keep (w' := wr) (G' := G) (fun k hg hl => ⟨hb0r.block k hl, hg⟩)).at hltw
      obtain ⟨kb, ko, rfl, hkc⟩ := (hK.stays hb0r).at hltk
      have hq : S.ws.getD k (0, []) ∈ S.ws := by simp [List.getD, hltw]
      obtain ⟨q1, q2⟩ := hws _ hq
      obtain ⟨s, hse⟩ : ∃ s, s = (S.ws.getD k (0, [])).1 := ⟨_, rfl⟩
      obtain ⟨y, hye⟩ : ∃ y, y = (S.ws.getD k (0, [])).2 := ⟨_, rfl⟩
      obtain ⟨kn, hkn⟩ : ∃ kn, kn = ks.getD k 0 := ⟨_, rfl⟩
      rw [← hse] at hc0 q1
      rw [← hye] at hc1 q2
      rw [← hkn] at hkc
      have hll := layW_length hok.len hws (fun k => ks.getD k 0) k (by omega)
      have hl := hok.len
      obtain ⟨L, hL⟩ : ∃ L, L = layW S.laid S.ws (fun k => ks.getD k 0) k := ⟨_, rfl⟩
      rw [← hL] at hown hll
      have hsl : (secOf L s).length = 256 := secOf_length (by omega)
      have HST : Hid (secStrs (layW S.laid S.ws (fun k => ks.getD k 0) (k + 1)) n = (secStrs L n).set s (strOfNums (y.take (clamp kn) ++ (secOf L s).drop (clamp kn)))) := by
        unfold Hid
        have hcl := clamp_le kn
        rw [layW_succ, ← hse, ← hye, ← hkn, ← hL, secStrs_lay (by omega) q1 (by simp; omega)]
        congr 4
        simp
        omega
      have e2 : o + 2 * k = o + k * 2 := by omega
      rw [e2] at hc0 hc1
      have hq1' : (s : Int) < (n : Int) := by omega
      have hcs : wr.cell? ⟨g, s, none⟩ = some (.string (strOfNums (secOf L s))) := by
        have h5 := hown.cellAt s (by omega)
        rw [List.getElem?_map] at h5
        rw [h5]
        simp [secStrs, q1]
      have hfz := hown.frozenAt s
      obtain ⟨Y, hYe⟩ : ∃ Y, Y = secOf L s := ⟨_, rfl⟩
      rw [← hYe] at hcs hsl HST
      have hcall := fun (m : Nat) (hm : m ≤ 256) (u : World) => rlay_run Y y m hsl q2 hm u
      clear hse hye hkn e2 hq hYe hL hll hl
      rcases (by omega : kn < 0 ∨ (0 ≤ kn ∧ kn ≤ 256) ∨ 256 < kn) with hn0 | ⟨hn1, hn2⟩ | hn3
      · have hcl : clamp kn = 0 := by unfold clamp; omega
        rw [hcl] at HST
        have hc := hcall 0 (by omega) wr.drew
        clear hcall hcl
        go_wp2
        go_region_law (refine step_call rfl 58 #[.string (strOfNums Y), .string (strOfNums y), .int .i64 0] (by go_simp) hc ?_; rintro e w6 ⟨rfl, hb6⟩; refine ⟨_, rfl, ?_⟩; have hcs6 : w6.cell? ⟨g, s, none⟩ = some (.string (strOfNums Y)) := (hb6.cell (World.block_lt_of_cell? wr _ hcs)).trans hcs; have hfz6 := (owns_stays6 hown.drew hb6).frozenAt s)
        all_goals go_wp2
        all_goals go_roundw
        all_goals first
          | exact ⟨k + 1, by go_num, by omega, by omega, by rw [HST.out, List.map_set]; exact ((owns_stays6 hown.drew hb6).stored s _).1, (hbr.drew.trans (hb6.mono (by have := hbr.size; simp; omega))).setCell (p := ⟨g, s, none⟩) hg4 _⟩
          | (simp [intOf]; omega)
      · obtain ⟨m, rfl⟩ : ∃ m : Nat, kn = (m : Int) := ⟨kn.toNat, by omega⟩
        have hcl : clamp (m : Int) = m := by unfold clamp; omega
        rw [hcl] at HST
        have hc := hcall m (by omega) wr.drew
        clear hcall hcl
        go_wp2
        go_region_law (refine step_call rfl 58 #[.string (strOfNums Y), .string (strOfNums y), .int .i64 (m : Int)] (by go_simp) hc ?_; rintro e w6 ⟨rfl, hb6⟩; refine ⟨_, rfl, ?_⟩; have hcs6 : w6.cell? ⟨g, s, none⟩ = some (.string (strOfNums Y)) := (hb6.cell (World.block_lt_of_cell? wr _ hcs)).trans hcs; have hfz6 := (owns_stays6 hown.drew hb6).frozenAt s)
        all_goals go_wp2
        all_goals go_roundw
        all_goals first
          | exact ⟨k + 1, by go_num, by omega, by omega, by rw [HST.out, List.map_set]; exact ((owns_stays6 hown.drew hb6).stored s _).1, (hbr.drew.trans (hb6.mono (by have := hbr.size; simp; omega))).setCell (p := ⟨g, s, none⟩) hg4 _⟩
          | (simp [intOf]; omega)
      · have hcl : clamp kn = 256 := by unfold clamp; omega
        rw [hcl] at HST
        have hc := hcall 256 (by omega) wr.drew
        clear hcall hcl
        go_wp2
        go_region_law (refine step_call rfl 58 #[.string (strOfNums Y), .string (strOfNums y), .int .i64 256] (by go_simp) hc ?_; rintro e w6 ⟨rfl, hb6⟩; refine ⟨_, rfl, ?_⟩; have hcs6 : w6.cell? ⟨g, s, none⟩ = some (.string (strOfNums Y)) := (hb6.cell (World.block_lt_of_cell? wr _ hcs)).trans hcs; have hfz6 := (owns_stays6 hown.drew hb6).frozenAt s)
        all_goals go_wp2
        all_goals go_roundw
        all_goals first
          | exact ⟨k + 1, by go_num, by omega, by omega, by rw [HST.out, List.map_set]; exact ((owns_stays6 hown.drew hb6).stored s _).1, (hbr.drew.trans (hb6.mono (by have := hbr.size; simp; omega))).setCell (p := ⟨g, s, none⟩) hg4 _⟩
          | (simp [intOf]; omega)
    · have hkk2 : k = min S.ws.length ks.length := by omega
      rw [hkk2] at hown
      obtain ⟨q0, q1, q2, q3, q4⟩ := box_cells hYr
      have gy := hYr.free
      have hend : ∀ u, But (w.heap.size + 1) wr u → SsAt u (fun k => w.heap.size ≤ k) (some ⟨g, 0, none⟩) (secStrs (layW S.laid S.ws (fun k => ks.getD k 0) (min S.ws.length ks.length)) n) ∧ Below w.heap.size w u := fun u hu => by
        obtain ⟨g', cg', hv, hg', hSS⟩ := ss_of_owns (xs := secStrs (layW S.laid S.ws (fun k => ks.getD k 0) (min S.ws.length ks.length)) n) (by rw [secStrs_length]; exact hown) (by rw [secStrs_length]; omega)
        simp only [secStrs_length, Value.slice.injEq, Option.some.injEq, Addr.mk.injEq, and_true, true_and] at hv
        obtain ⟨rfl, rfl⟩ := hv
        exact ⟨hSS.keep (by rw [secStrs_length]; omega) (fun k hg hl => ⟨hu.block k (by omega) hl, by omega⟩), hb0r.trans (hu.below (by omega) hb0r.size)⟩
      have hsn := HSN.out
      subst hsn
      clear hkk2
      by_cases hlw : k < S.ws.length
      · have h1 : (k : Int) < (wn : Int) := by have := HWN.out; omega
        have h2 : ¬ ((k : Int) < (ks.length : Int)) := by omega
        go_wp2
        refine bodyPost_ret (results_blk rfl _ _ _ rfl rAgg rSize (put5_same hYr (.slice (some ⟨g, 0, none⟩) sn cg) (.slice none 0 0) (.bool false) (.int .i64 0) (.bool false)) rfl) rfl ?_
        obtain ⟨e1, e2⟩ := hend _ (put5_but wr (w.heap.size + 1) (.slice (some ⟨g, 0, none⟩) sn cg) (.slice none 0 0) (.bool false) (.int .i64 0) (.bool false))
        exact ⟨_, ⟨_, rfl⟩, e1, e2⟩
      · have h1 : ¬ ((k : Int) < (wn : Int)) := by have := HWN.out; omega
        go_wp2
        refine bodyPost_ret (results_blk rfl _ _ _ rfl rAgg rSize (put5_same hYr (.slice (some ⟨g, 0, none⟩) sn cg) (.slice none 0 0) (.bool false) (.int .i64 0) (.bool false)) rfl) rfl ?_
        obtain ⟨e1, e2⟩ := hend _ (put5_but wr (w.heap.size + 1) (.slice (some ⟨g, 0, none⟩) sn cg) (.slice none 0 0) (.bool false) (.int .i64 0) (.bool false))
        exact ⟨_, ⟨_, rfl⟩, e1, e2⟩

theorem rcrash_run {w : World} {cs : List Value} (h : Rf w G cs S) (hl : S.ws.length ≤ 900000) (ka : Option Addr) (kc : Nat) (ks : List Int) (hK : Is w ka ks) (hkl : ks.length ≤ 900000) :
    Calls Tryd.prog 27 #[.agg cs.toArray, .slice ka ks.length kc] w fun e w' => ∃ cs', e = .returned (.agg cs'.toArray) ∧ RThen G w w' cs' (S.crash ks) := by
  obtain ⟨n, sa, sc, wa, wc, hok, rfl, hs, hw⟩ := h
  unfold rcells
  have hws : ∀ q ∈ S.ws, q.1 < n ∧ q.2.length = 256 := fun q hq => ⟨(hok.ws q hq).1, (hok.ws q hq).2.1⟩
  refine (rcrash_go (G := G) (S := S) (n := n) (sa := sa) (sc := sc) (wa := wa) (wc := wc) ka kc ks n S.ws.length rfl rfl S.fused S.off S.left w hok hs hw hl hK hkl).mono ?_
  rintro e w' ⟨sa', sc', rfl, hS', hb⟩
  refine ⟨[.slice sa' n sc', .slice none 0 0, .bool false, .int .i64 0, .bool false], rfl, ⟨n, sa', sc', none, 0, ⟨?_, hok.lo, hok.hi, layW_rng hok _ _ (by omega), (fun q hq => by cases hq), (show (0 : Nat) < 9223372036854775808 by decide)⟩, rfl, hS'.mono (fun k hk => .inr hk), .inl ⟨rfl, fun _ => rfl⟩⟩, hb⟩
  simp only [DS.crash]
  rw [layW_length hok.len hws _ _ (by omega)]
  exact hok.len

end
end Go.Proofs.YthbcphalokoknaaDoor

/-
  The document's disk: blank, New.
-/

namespace Go.Proofs.YthbcphalokoknaaDoor
set_option linter.unusedSimpArgs false
set_option linter.unusedVariables false
open Go.RowKit

def noughts : List Int := List.replicate 256 0

theorem noughts_length : noughts.length = 256 := List.length_replicate
theorem zeros_rng (n : Nat) : ∀ x ∈ List.replicate n (0 : Int), 0 ≤ x ∧ x ≤ 255 := by
  intro x hx
  obtain ⟨_, rfl⟩ := List.mem_replicate.1 hx
  omega
theorem noughts_rng : ∀ x ∈ noughts, 0 ≤ x ∧ x ≤ 255 := zeros_rng 256

theorem blank_run (w : World) : Calls Tryd.prog 48 #[] w fun e w' => e = .returned (.string (strOfNums noughts)) ∧ Below w.heap.size w w' := by
  have hi : (Tryd.prog.info? 5).map (fun i => (i.zero, i.size, i.bytes)) = some (some (.int .u8 0), 1, 1) := by kernel_rfl
  obtain ⟨i0, hi0, hz0, hz1, hz2⟩ := info_parts hi
  have HN : Hid (noughts = List.replicate 256 0) := rfl
  have hnl := noughts_length
  have hnr := noughts_rng
  generalize noughts = N at *
  go_enter Tryd.func48, Tryd.ntmps48
  go_wp2_with (first
    | (refine wpList_make_bytes (w0 := w) (by rfl) (.const (.int .i64 256)) (.const (.int .i64 256)) 27 (by rfl) w.heap.size 5 i0 Tryd.underlying27 hi0 hz0 hz1 hz2 .i64 .i64 256 256 256 (by rfl) (by rfl) (by omega) (by omega) (by omega) (Nat.le_refl _) (Below.refl _ _) ?_; intro w2 hrow2 hb2
       rw [← HN.out] at hrow2
       have hB := hrow2.bs hnr (by rw [hnl]; decide)
       have hcv := hB.conv (P := Tryd.prog) 256 hnl.symm 27 5 Tryd.underlying27 Tryd.underlying5 9 Tryd.underlying9
       rw [hnl] at hcv))
  go_ret
  exact ⟨rfl, hb2⟩

theorem rnew_arg (n : Int) (w : World) (hn : n < 16 ∨ 512 < n) :
    Calls Tryd.prog 17 #[.int .i64 n] w fun e w' => ∃ v, e = .returned (.tuple #[v, .int .i64 1]) ∧ (∃ x0 x1 x2 x3 x4, v = .agg #[x0, x1, x2, x3, x4]) ∧ Below w.heap.size w w' := by
  rcases hn with hn | hn
  · go_enter Tryd.func17, Tryd.ntmps17
    go_wp2
    refine bodyPost_ret (results_blk_tmp rfl _ _ _ rfl rAgg rSize (Blk.newAt (by simp) rfl) rfl) rfl ?_
    exact ⟨_, rfl, ⟨_, _, _, _, _, rfl⟩, (Below.refl _ _).alloc (Nat.le_refl _) _⟩
  · have hn' : ¬ n < 16 := by omega
    go_enter Tryd.func17, Tryd.ntmps17
    go_wp2
    refine bodyPost_ret (results_blk_tmp rfl _ _ _ rfl rAgg rSize (Blk.newAt (by simp) rfl) rfl) rfl ?_
    exact ⟨_, rfl, ⟨_, _, _, _, _, rfl⟩, (Below.refl _ _).alloc (Nat.le_refl _) _⟩

theorem new_ok (n : Nat) (h1 : 16 ≤ n) (h2 : n ≤ 512) : (DS.new n).Ok n :=
  ⟨List.length_replicate, h1, h2, zeros_rng _, (fun q hq => by cases hq), (show (0 : Nat) < 9223372036854775808 by decide)⟩

theorem sec_noughts {n s : Nat} (hs : s < n) : secOf (List.replicate (256 * n) 0) s = noughts := by
  apply List.ext_getElem?
  intro j
  rw [secOf_get]
  unfold noughts
  by_cases hj : j < 256
  · rw [if_pos hj, List.getElem?_replicate, List.getElem?_replicate, if_pos (by omega), if_pos hj]
  · rw [if_neg hj, List.getElem?_replicate, if_neg hj]

theorem sec_strs_new (n : Nat) : secStrs (DS.new n).laid n = List.replicate n (strOfNums noughts) := by
  apply List.ext_getElem?
  intro i
  unfold secStrs
  rw [List.getElem?_map, List.getElem?_replicate]
  by_cases hi : i < n
  · rw [List.getElem?_range hi, if_pos hi]
    simp only [Option.map_some, DS.new]
    rw [sec_noughts hi]
  · rw [if_neg hi, List.getElem?_eq_none (by simpa using hi)]
    rfl

set_option maxRecDepth 100000 in
set_option maxHeartbeats 600000 in
theorem rnew_run (n : Nat) (w : World) (hn1 : 16 ≤ n) (hn2 : n ≤ 512) :
    Calls Tryd.prog 17 #[.int .i64 (n : Int)] w fun e w' => ∃ cs, e = .returned (.tuple #[.agg cs.toArray, .int .i64 0]) ∧ Rf w' (fun k => w.heap.size ≤ k) cs (DS.new n) ∧ Below w.heap.size w w' := by
  have hi : (Tryd.prog.info? 9).map (fun i => (i.zero, i.size, i.bytes)) = some (some (.string .empty), 1, 16) := by kernel_rfl
  obtain ⟨i0, hi0, hz0, hz1, hz2⟩ := info_parts hi
  have h1 : ¬ ((n : Int) < 16) := by omega
  have h2 : ¬ ((512 : Int) < (n : Int)) := by omega
  obtain ⟨N, hN⟩ : ∃ N, N = strOfNums noughts := ⟨_, rfl⟩
  have hbl := blank_run
  rw [← hN] at hbl
  obtain ⟨W, hWe⟩ : ∃ W, W = w.alloc (.cells #[.slice none 0 0, .slice none 0 0, .bool false, .int .i64 0, .bool false] 48) := ⟨_, rfl⟩
  have hbW : Below w.heap.size w W := by rw [hWe]; exact (Below.refl _ _).alloc (Nat.le_refl _) _
  have hY : Blk 48 W w.heap.size [.slice none 0 0, .slice none 0 0, .bool false, .int .i64 0, .bool false] := by rw [hWe]; exact Blk.newAt rfl rfl
  have hsW : W.heap.size = w.heap.size + 1 := by rw [hWe]; simp
  have HWE : Hid (W = w.alloc (.cells #[.slice none 0 0, .slice none 0 0, .bool false, .int .i64 0, .bool false] 48)) := hWe
  have HN : Hid (N = strOfNums noughts) := hN
  clear hWe hN
  go_enter Tryd.func17, Tryd.ntmps17
  go_wp2_with (first
    | (rw [← HWE.out]; refine wpList_make_full W (by rfl) (.tmp 13) (.tmp 13) 45 (by rfl) (w.heap.size + 1) 9 i0 (.string .empty) 1 Tryd.underlying45 hi0 hz0 hz1 .i64 .i64 (n : Int) (n : Int) n (by rfl) (by rfl) rfl rfl (by rw [hz2]; omega) (by unfold maxLen; omega) (by omega) ?_; intro w2 hown2 hg2))
  have hb2 : Below (w.heap.size + 1) W w2 := (Below.refl _ _).grown hg2 (by omega) (by simp)
  have hmade : (madeCells (Value.string ByteArray.empty).cells (n * 1)).toList = (List.replicate 0 N ++ List.replicate (n - 0) ByteArray.empty).map Value.string := by
    have e2 : (Value.string ByteArray.empty).cells = #[.string .empty] := rfl
    rw [e2, Nat.mul_one, toList_madeCells_one]
    simp
  rw [hmade, hsW] at hown2
  clear hmade
  go_loopw [5] (fun x wr => ∃ k : Nat, x = .int .i64 k ∧ k ≤ n ∧ wr.ownsRow (w.heap.size + 1) 9 1 (.slice (some ⟨w.heap.size + 1, 0, none⟩) n n) n ((List.replicate k N ++ List.replicate (n - k) ByteArray.empty).map Value.string) ∧ Below (w.heap.size + 1) W wr) (fun x _ => n - (intOf x).toNat)
  case atStart => exact ⟨0, rfl, Nat.zero_le _, hown2, hb2⟩
  case round =>
    rename_i hrel
    clear hown2 hb2 hg2
    obtain ⟨k, rfl, hk, hown, hbr⟩ := hrel
    have hYr := hY.stays (hsW ▸ hbr)
    have hb0r : Below w.heap.size w wr := hbW.trans (hbr.mono (by omega))
    by_cases hlt : k < n
    · have hlt' : (k : Int) < (n : Int) := by omega
      have HST : Hid (List.replicate (k + 1) N ++ List.replicate (n - (k + 1)) ByteArray.empty = (List.replicate k N ++ List.replicate (n - k) ByteArray.empty).set k N) := by
        unfold Hid
        have e : n - k = (n - (k + 1)) + 1 := by omega
        rw [e, List.replicate_succ (a := ByteArray.empty), set_at _ _ _ _ _ (by simp), List.replicate_succ' (a := N)]
      have hcs : ∃ u, wr.cell? ⟨w.heap.size + 1, k, none⟩ = some u := by
        have h5 := hown.cellAt k (by omega)
        rw [List.getElem?_map, List.getElem?_eq_getElem (by simp; omega)] at h5
        exact ⟨_, h5⟩
      obtain ⟨u, hu⟩ := hcs
      go_wp2_with (go_at_call 48; refine (hbl _).mono ?_; rintro e w3 ⟨rfl, hb3⟩; have hu3 := (hb3.cell (World.block_lt_of_cell? _ _ hu)).trans hu; have hf3 := (owns_stays6 hown hb3).frozenAt k)
      go_roundw
      case rel => exact ⟨k + 1, by go_num, by omega, by rw [HST.out, List.map_set]; exact ((owns_stays6 hown hb3).stored k _).1, (hbr.trans (hb3.mono (by have := hbr.size; omega))).setCell (p := ⟨w.heap.size + 1, k, none⟩) (Nat.le_refl _) _⟩
      case measure => simp [intOf]; omega
    · have hlt' : ¬ ((k : Int) < (n : Int)) := by omega
      have hkn : k = n := by omega
      obtain ⟨q0, q1, q2, q3, q4⟩ := box_cells hYr
      have gy := hYr.free
      have hend : ∀ u, But w.heap.size wr u → SsAt u (fun k => w.heap.size ≤ k) (some ⟨w.heap.size + 1, 0, none⟩) (secStrs (DS.new n).laid n) ∧ Below w.heap.size w u := fun u hu => by
        rw [sec_strs_new, ← HN.out]
        rw [hkn, Nat.sub_self, List.replicate_zero, List.append_nil] at hown
        have hl : (List.replicate n N).length = n := List.length_replicate
        obtain ⟨g', cg', hv, hg', hSS⟩ := ss_of_owns (xs := List.replicate n N) (by rw [hl]; exact hown) (by rw [hl]; omega)
        simp only [hl, Value.slice.injEq, Option.some.injEq, Addr.mk.injEq, and_true, true_and] at hv
        obtain ⟨rfl, rfl⟩ := hv
        exact ⟨hSS.keep (by rw [hl]; omega) (fun k hg hl => ⟨hu.block k (by omega) hl, by omega⟩), hb0r.trans (hu.below (Nat.le_refl _) hb0r.size)⟩
      clear hkn
      go_wp2
      refine bodyPost_ret (results_blk_tmp rfl _ _ _ rfl rAgg rSize (put5_same hYr (.slice (some ⟨w.heap.size + 1, 0, none⟩) n n) (.slice none 0 0) (.bool false) (.int .i64 0) (.bool false)) rfl) rfl ?_
      obtain ⟨e1, e2⟩ := hend _ (put5_but wr w.heap.size (.slice (some ⟨w.heap.size + 1, 0, none⟩) n n) (.slice none 0 0) (.bool false) (.int .i64 0) (.bool false))
      exact ⟨[.slice (some ⟨w.heap.size + 1, 0, none⟩) n n, .slice none 0 0, .bool false, .int .i64 0, .bool false], rfl, ⟨n, _, _, none, 0, new_ok n hn1 hn2, rfl, e1, .inl ⟨rfl, fun _ => rfl⟩⟩, e2⟩

end Go.Proofs.YthbcphalokoknaaDoor
