/-
  Steps of a region that draws: a variable is made, a value of many cells is stored.
-/
import Derived.Test.YthbldjnpnligpaaDoorG52
import Derived.Test.YthbldjnpnligpaaDoorG21
import Derived.RegionTactic
namespace Go.Proofs.YthbldjnpnligpaaDoor
set_option linter.unusedSimpArgs false
set_option linter.unusedVariables false
set_option maxRecDepth 100000
open Go.RowKit

end Go.Proofs.YthbldjnpnligpaaDoor

/-
  The walk over sha.Tree.
-/

namespace Go.Proofs.YthbldjnpnligpaaDoor
set_option linter.unusedSimpArgs false
set_option linter.unusedVariables false
set_option maxRecDepth 100000
open Go.RowKit

def z32 : List Value := (List.replicate 32 (0 : Int)).map (Value.int .u8)
theorem z32_len : z32.length = 32 := rfl
theorem z32_one : ∀ v ∈ z32, v.oneCell' = true := int_oneCell _ _
theorem agg_32 (w : World) : (isAgg 39).run Tryd.prog w = .ok true w := isAgg_array Tryd.underlying39 w
theorem size_32 (w : World) : (sizeOf 39).run Tryd.prog w = .ok 32 w := sizeOf_run (by kernel_rfl) w
theorem alloc_32 (w : World) : (Instr.alloc 39 true (.tuple #[])).run Tryd.prog w = .ok (.pointer (some ⟨w.heap.size, 0, none⟩)) (w.alloc (.cells z32.toArray 39)) := by kernel_rfl
theorem build_32 (w : World) : (Instr.build 39 #[]).run Tryd.prog w = .ok (.agg z32.toArray) w := by kernel_rfl
theorem sizes32h : (Tryd.prog.info? 39).map (·.size) = some 32 := by kernel_rfl
theorem elems32 : Tryd.prog.elem 166 = 39 := by kernel_rfl

theorem tlen_run (x : Nat) (h : x < 40) (w : World) : Calls Tryd.prog 138 #[.int .u64 (x : Int)] w fun e w' => e = .returned (.int .i64 ((if x = 0 then 0 else Nat.log2 x + 1 : Nat) : Int)) ∧ w' = w := by
  have h6 := len64_run x h
  obtain ⟨L, hL⟩ : ∃ L : Nat, L = (if x = 0 then 0 else Nat.log2 x + 1 : Nat) := ⟨_, rfl⟩
  rw [← hL]
  have h7 : ∀ w, Calls Tryd.prog 164 #[.int .u64 (x : Int)] w fun e w' => e = .returned (.int .i64 (L : Int)) ∧ w' = w := by rw [hL]; exact h6
  clear hL h6
  go_enter Tryd.func138, Tryd.ntmps138
  go_wp2_with (go_at_call 164; go_must (refine (h7 _).mono ?_); rintro e w1 ⟨rfl, rfl⟩)
  go_ret
  exact ⟨rfl, rfl⟩

theorem Hs.first {w : World} {b off c : Nat} {hs : List (List Int)} (h : Hs w (some ⟨b, off, none⟩) c hs) (h1 : hs.length = 1) : ∀ j v, ((hs.getD 0 []).map (Value.int .u8))[j]? = some v → w.cell? ((⟨b, off, none⟩ : Addr).add j) = some v := by
  intro j v hj
  obtain ⟨b1, o1, he, hc⟩ := h.cell (by omega)
  cases he
  match hs, h1 with
  | [x], _ =>
    have hl := (h.ok x (by simp)).1
    simp only [List.getD_cons_zero] at hj hc
    have hjl : j < 32 := by
      rcases Nat.lt_or_ge j 32 with h | h
      · exact h
      · rw [List.getElem?_eq_none (by simp; omega)] at hj; cases hj
    have := hc 0 (by simp) j hjl
    simp only [List.getD_cons_zero, Nat.mul_zero, Nat.add_zero] at this
    have hadd : (⟨b, off, none⟩ : Addr).add j = ⟨b, off + j, none⟩ := by unfold Addr.add; split <;> simp_all
    rw [hadd, this]
    rw [List.getElem?_map] at hj
    simpa [List.getD, List.getElem?_eq_getElem (show j < x.length by omega)] using hj

set_option maxHeartbeats 1000000 in
set_option maxRecDepth 100000 in
theorem tree_small (a : Option Addr) (c n : Nat) (hs : List (List Int)) (w : World) (hn : n = hs.length) (h1 : n ≤ 1) (hH : Hs w a c hs) :
    Calls Tryd.prog 97 #[.slice a n c] w fun e w' => e = .returned (.agg ((treeOf hs).map (Value.int .u8)).toArray) ∧ Below w.heap.size w w' := by
  rcases (by omega : n = 0 ∨ n = 1) with rfl | rfl
  · have HT : Hid (((treeOf hs).map (Value.int .u8)) = z32) := by show _ = _; rw [treeOf_none hn.symm]; rfl
    clear hn hH
    go_enter Tryd.func97, Tryd.ntmps97
    go_wp2_with (first
      | (refine wpList_alloc0 (by rfl) 39 (by rfl) (some 2) (by rfl) z32 alloc_32 ?_; intro w1 hR1 hb1 hs1)
      | (refine wpList_build0 (by rfl) 39 (by rfl) _ build_32 ?_)
      | (refine wpList_store_blk (by rfl) (.tmp 2) (.tmp 10) 39 (by rfl) _ 0 32 (by rfl) _ (by rfl) size_32 hR1 z32_len (by rw [z32_len]; omega) z32_one _ (whole_store z32_len) ?_
         intro w2 hR2 hbut2 hs2))
    refine bodyPost_ret_blk rfl rfl (by rfl) agg_32 size_32 hR2 z32_len ⟨by rw [HT.out], hb1.trans (hbut2.below (Nat.le_refl _) (by omega))⟩
  · obtain ⟨b, off, rfl, _⟩ := hH.cell (by omega)
    have hl := (treeOf_ok hH.ok).1
    have ht : treeOf hs = hs.getD 0 [] := treeOf_one hn.symm
    have hf : ∀ u, Below w.heap.size w u → ∀ j v, ((treeOf hs).map (Value.int .u8))[j]? = some v → u.cell? ((⟨b, off, none⟩ : Addr).add j) = some v := fun u hu => by rw [ht]; exact (hH.stays hu).first hn.symm
    have hix : ∀ u : World, (Instr.indexAt 166 (.slice (some ⟨b, off, none⟩) 1 c) (.int .i64 0)).run Tryd.prog u = .ok (.pointer (some ⟨b, off, none⟩)) u := fun u => by
      have hz := size_32 u
      rw [run_indexAt_slice u 166 _ 1 c .i64 0 (by rw [elems32]; exact Tryd.underlying166), if_pos (by omega), elems32, hz]
      simp [Result.andThen, Addr.add]
    obtain ⟨us, hus⟩ : ∃ us, us = (treeOf hs).map (Value.int .u8) := ⟨_, rfl⟩
    have hul : us.length = 32 := by rw [hus]; simp [hl]
    have hu1 : ∀ v ∈ us, v.oneCell' = true := by rw [hus]; exact int_oneCell _ _
    rw [← hus] at hf ⊢
    clear hus ht hn hH
    go_enter Tryd.func97, Tryd.ntmps97
    go_wp2_with (first
      | (refine wpList_alloc0 (by rfl) 39 (by rfl) (some 2) (by rfl) z32 alloc_32 ?_; intro w1 hR1 hb1 hs1; have hf1 := hf w1 hb1)
      | (refine wpList_load_cellsA (by rfl) (.tmp 14) 39 (by rfl) _ 32 (by rfl) agg_32 size_32 us hf1 hul ?_)
      | (refine wpList_store_blk (by rfl) (.tmp 2) (.tmp 15) 39 (by rfl) _ 0 32 (by rfl) _ (by rfl) size_32 hR1 hul (by rw [z32_len]; omega) hu1 _ (whole_store z32_len) ?_
         intro w2 hR2 hbut2 hs2))
    refine bodyPost_ret_blk rfl rfl (by rfl) agg_32 size_32 hR2 hul ⟨rfl, hb1.trans (hbut2.below (Nat.le_refl _) (by omega))⟩
end Go.Proofs.YthbldjnpnligpaaDoor

/-
  The tree of two hashes or more.
-/

namespace Go.Proofs.YthbldjnpnligpaaDoor
set_option linter.unusedSimpArgs false
set_option linter.unusedVariables false
set_option maxRecDepth 100000
open Go.RowKit

/-- The value is this one. -/
def iv (x : Value) : Value → World → Prop := fun v _ => v = x
theorem iv_steady (x : Value) : UpT.Steady (iv x) := fun v w w' hb h => h
theorem calls_iv {P : Program} {f : FuncId} {args : Array Value} {w : World} {x : Value} (h : Calls P f args w fun e w' => e = .returned x ∧ Below w.heap.size w w') :
    Calls P f args w fun e w' => ∃ v, e = .returned v ∧ Below w.heap.size w w' ∧ iv x v w' := h.mono fun e w' ⟨h1, h2⟩ => ⟨_, h1, h2, rfl⟩
/-- The value is a block of its own, from B on. -/
def blkP (B : Nat) (vs : List Value) : Value → World → Prop := fun v w => ∃ g, v = .pointer (some ⟨g, 0, none⟩) ∧ B ≤ g ∧ Blk 39 w g vs
theorem blkP_steady (B : Nat) (vs : List Value) : UpT.Steady (blkP B vs) := fun v w w' hb ⟨g, h1, h2, h3⟩ => ⟨g, h1, h2, h3.stays hb⟩
/-- The value is a slice of two slices. -/
def parP (vs : List Value) : Value → World → Prop := fun v w => ∃ b, v = .slice (some ⟨b, 0, none⟩) 2 2 ∧ Blk 43 w b vs
theorem parP_steady (vs : List Value) : UpT.Steady (parP vs) := fun v w w' hb ⟨b, h1, h2⟩ => ⟨b, h1, h2.stays hb⟩
theorem exec_alloc9 {P : Program} {a : Act} {o : Oper} {w w' : World} {t : TypeId} {v : Value} (ho : o.op = Op.alloc t) (hr : (Instr.alloc t true (.tuple #[])).run P w = .ok v w') : (execOp a.eval o).run P w = .ok (.value v) w' := by
  unfold execOp
  simp only [ho, Sem.run_bind, Sem.run_pure, Result.andThen_ok, hr]

/-- The halves of a tree, and what is told of them. -/
def IH (n : Nat) (f : FuncId) : Prop := ∀ (a : Option Addr) (c m : Nat) (hs : List (List Int)) (w : World), m = hs.length → m < n → Hs w a c hs → Vars w → Calls Tryd.prog f #[.slice a m c] w fun e w' => e = .returned (.agg ((treeOf hs).map (Value.int .u8)).toArray) ∧ Below w.heap.size w w'

set_option maxHeartbeats 2000000 in
set_option maxRecDepth 100000 in
theorem tree_big (a : Option Addr) (c n : Nat) (hs : List (List Int)) (w : World) (hn : n = hs.length) (h2 : 2 ≤ n) (h40 : n ≤ 40) (ih : IH n 97) (hH : Hs w a c hs) (hV : Vars w) :
    Calls Tryd.prog 97 #[.slice a n c] w fun e w' => e = .returned (.agg ((treeOf hs).map (Value.int .u8)).toArray) ∧ Below w.heap.size w w' := by
  obtain ⟨x, hx⟩ : ∃ x, x = n - 1 := ⟨_, rfl⟩
  obtain ⟨l, hl⟩ : ∃ l, l = Nat.log2 x := ⟨_, rfl⟩
  obtain ⟨H, hHf⟩ : ∃ H, H = halfT n := ⟨_, rfl⟩
  have hH2 : H = 2 ^ l := by rw [hHf, hl, hx]; rfl
  have hHn : H < n := by rw [hHf]; exact halfT_lt h2
  have hH1 : 1 ≤ H := by rw [hHf]; exact halfT_pos n
  have hl5 : l < 6 := by
    rcases Nat.lt_or_ge l 6 with h | h
    · exact h
    · have := Nat.pow_le_pow_right (n := 2) (by decide) h
      omega
  have hlen : ∀ u, Calls Tryd.prog 138 #[.int .u64 (x : Int)] u fun e w' => e = .returned (.int .i64 ((l + 1 : Nat) : Int)) ∧ w' = u := fun u => by
    have := tlen_run x (by omega) u
    rw [if_neg (by omega), ← hl] at this
    exact this
  obtain ⟨hup, hU⟩ := hH.upto (P := Tryd.prog) 166 39 Tryd.underlying166 sizes32h elems32 H (by omega)
  obtain ⟨a2, hdn, hDn⟩ := hH.from (P := Tryd.prog) 166 39 Tryd.underlying166 sizes32h elems32 H (by omega)
  have hx' : (n : Int) - 1 = (x : Int) := by omega
  have hsh : (2 : Int) ^ l = (H : Int) := by rw [hH2]; simp
  have hn0 : ¬ ((n : Int) = 0) := by omega
  have hn1 : ¬ ((n : Int) = 1) := by omega
  have hnb0 : ((n : Int) == 0) = false := by simp; omega
  have hnb1 : ((n : Int) == 1) = false := by simp; omega
  have HLEN : Hid (∀ u, Calls Tryd.prog 138 #[.int .u64 (x : Int)] u fun e w' => e = .returned (.int .i64 ((l + 1 : Nat) : Int)) ∧ w' = u) := hlen
  rw [← hn] at hdn
  have HN : Hid (n = hs.length) := hn
  have HHF : Hid (H = halfT n) := hHf
  clear hl hx hHf hH2 hlen hn
  go_enter Tryd.func97, Tryd.ntmps97
  go_wp2_with (first
    | (refine wpList_alloc0 (by rfl) 39 (by rfl) (some 2) (by rfl) z32 alloc_32 ?_; intro w1 hR1 hb1 hs1)
    | (go_at_call 138; go_must (refine (HLEN.out _).mono ?_); rintro e w2 ⟨rfl, rfl⟩))
  have hX2 : Below w.heap.size w w2 := hb1
  have hT1 := treeOf_ok (hs := hs.take H) hU.ok
  have hT2 := treeOf_ok (hs := hs.drop H) (hDn w hH).ok
  obtain ⟨us1, hus1⟩ : ∃ us, us = (treeOf (hs.take H)).map (Value.int .u8) := ⟨_, rfl⟩
  obtain ⟨us2, hus2⟩ : ∃ us, us = (treeOf (hs.drop H)).map (Value.int .u8) := ⟨_, rfl⟩
  have hul1 : us1.length = 32 := by rw [hus1]; simp [hT1.1]
  have hul2 : us2.length = 32 := by rw [hus2]; simp [hT2.1]
  have huo1 : ∀ v ∈ us1, v.oneCell' = true := by rw [hus1]; exact int_oneCell _ _
  have huo2 : ∀ v ∈ us2, v.oneCell' = true := by rw [hus2]; exact int_oneCell _ _
  have HC1 : Hid (∀ u, Below w2.heap.size w2 u → Calls Tryd.prog 97 #[.slice a H c] u fun e w' => e = .returned (.agg us1.toArray) ∧ Below u.heap.size u w') := fun u hu => by
    have hwu : Below w.heap.size w u := hX2.trans (hu.mono hX2.size)
    rw [hus1]; exact ih a c H (hs.take H) u (by have := HN.out; simp; omega) hHn (hU.stays hwu) (hV.stays hwu)
  have HC2 : Hid (∀ u, Below w2.heap.size w2 u → Calls Tryd.prog 97 #[.slice a2 (n - H) (c - H)] u fun e w' => e = .returned (.agg us2.toArray) ∧ Below u.heap.size u w') := fun u hu => by
    have hwu : Below w.heap.size w u := hX2.trans (hu.mono hX2.size)
    rw [hus2]; exact ih a2 (c - H) (n - H) (hs.drop H) u (by have := HN.out; simp; omega) (by omega) (hDn u (hH.stays hwu)) (hV.stays hwu)
  have hzl := z32_len
  have hzl := z32_len
  have hR2 : Blk 39 w2 w.heap.size z32 := hR1
  have hRl := hR2.lt
  clear hR1 ih
  refine UpT.wp_region_tail 10 (UpT.tell [(3, iv (.agg us1.toArray)), (7, iv (.agg us2.toArray)), (8, blkP w2.heap.size z32), (9, blkP w2.heap.size z32)]) (fun k => k == 8 || k == 9) (by kernel_rfl) (by kernel_rfl) (UpT.tell_steady _ (by
    intro p hp
    simp only [List.mem_cons, List.not_mem_nil, or_false] at hp
    rcases hp with rfl | rfl | rfl | rfl <;> first | exact iv_steady _ | exact blkP_steady _ _)) ?_
  simp only [List.take_succ_cons, List.take_zero]
  apply UpT.wpUp_pure
  case hw => rfl
  case hψ => rfl
  case hv => (intro w1 hp; clear hp; go_simp; try (with_reducible rfl))
  simp only [Act.put, List.setIfInBounds_toArray, List.set_cons_zero, List.set_cons_succ]
  apply UpT.wpUp_pure
  case hw => rfl
  case hψ => rfl
  case hv => (intro w1 hp; clear hp; go_simp; try (with_reducible rfl))
  simp only [Act.put, List.setIfInBounds_toArray, List.set_cons_zero, List.set_cons_succ]
  apply UpT.wpUp_pure
  case hw => rfl
  case hψ => rfl
  case hv => (intro w1 hp; clear hp; go_simp; try (with_reducible rfl))
  simp only [Act.put, List.setIfInBounds_toArray, List.set_cons_zero, List.set_cons_succ]
  refine UpT.wpUp_call _ 97 #[.slice a H c] (by rfl) (by rfl) (by rfl) (fun w1 => by go_simp) (fun w1 hp => calls_iv (HC1.out w1 hp.1)) ?_
  rintro v ⟨u, _, hf⟩
  obtain rfl := hf.of 3 v _ rfl rfl
  clear hf
  simp only [Act.put, List.setIfInBounds_toArray, List.set_cons_zero, List.set_cons_succ]
  apply UpT.wpUp_pure
  case hw => rfl
  case hψ => rfl
  case hv => (intro w1 hp; clear hp; go_simp; try (with_reducible rfl))
  simp only [Act.put, List.setIfInBounds_toArray, List.set_cons_zero, List.set_cons_succ]
  apply UpT.wpUp_pure
  case hw => rfl
  case hψ => rfl
  case hv => (intro w1 hp; clear hp; go_simp; try (with_reducible rfl))
  simp only [Act.put, List.setIfInBounds_toArray, List.set_cons_zero, List.set_cons_succ]
  apply UpT.wpUp_pure
  case hw => rfl
  case hψ => rfl
  case hv => (intro w1 hp; clear hp; go_simp; try (with_reducible rfl))
  simp only [Act.put, List.setIfInBounds_toArray, List.set_cons_zero, List.set_cons_succ]
  refine UpT.wpUp_call _ 97 #[.slice a2 (n - H) (c - H)] (by rfl) (by rfl) (by rfl) (fun w1 => by go_simp) (fun w1 hp => calls_iv (HC2.out w1 hp.1)) ?_
  rintro v ⟨u, _, hf⟩
  obtain rfl := hf.of 7 v _ rfl rfl
  clear hf
  simp only [Act.put, List.setIfInBounds_toArray, List.set_cons_zero, List.set_cons_succ]
  refine UpT.wpUp_make (blkP w2.heap.size z32) (by rfl) (by rfl) (fun w1 hp => ⟨.pointer (some ⟨w1.heap.size, 0, none⟩), w1.alloc (.cells z32.toArray 39), exec_alloc9 (by rfl) (alloc_32 w1), (Below.refl _ _).alloc (Nat.le_refl _) _, ⟨_, rfl, hp.1.size, Blk.newAt rfl rfl⟩, fun _ => ⟨_, rfl, Nat.le_refl _, by simp⟩⟩) ?_
  rintro v ⟨u, _, hf⟩
  obtain ⟨g4, rfl, _, _⟩ := hf.of 8 v _ rfl rfl
  clear hf
  simp only [Act.put, List.setIfInBounds_toArray, List.set_cons_zero, List.set_cons_succ]
  refine UpT.wpUp_make (blkP w2.heap.size z32) (by rfl) (by rfl) (fun w1 hp => ⟨.pointer (some ⟨w1.heap.size, 0, none⟩), w1.alloc (.cells z32.toArray 39), exec_alloc9 (by rfl) (alloc_32 w1), (Below.refl _ _).alloc (Nat.le_refl _) _, ⟨_, rfl, hp.1.size, Blk.newAt rfl rfl⟩, fun _ => ⟨_, rfl, Nat.le_refl _, by simp⟩⟩) ?_
  rintro v ⟨u, _, hf⟩
  obtain ⟨g5, rfl, _, _⟩ := hf.of 9 v _ rfl rfl
  clear hf
  simp only [Act.put, List.setIfInBounds_toArray, List.set_cons_zero, List.set_cons_succ]
  refine UpT.wpUp_end ?_
  intro w4 hb4 hf
  obtain ⟨g4', h4e, hm4, hB4⟩ := hf.of 8 _ _ rfl rfl
  cases h4e
  obtain ⟨g5', h5e, hm5, hB5⟩ := hf.of 9 _ _ rfl rfl
  cases h5e
  have hne : g4 ≠ g5 := hf.ne 8 9 ⟨g4, 0, none⟩ ⟨g5, 0, none⟩ (by decide) rfl rfl rfl rfl
  clear hf
  simp only [List.drop_succ_cons, List.drop_zero]
  refine wpList_store_blk (by rfl) (.tmp 4) (.tmp 26) 39 (by rfl) g4 0 32 (by rfl) us1 (by rfl) size_32 hB4 hul1 (by rw [hzl]; omega) huo1 us1 (whole_store hzl) ?_
  intro w5 hS4 hbut5 hs5
  refine wpList_store_blk (by rfl) (.tmp 5) (.tmp 30) 39 (by rfl) g5 0 32 (by rfl) us2 (by rfl) size_32 (hB5.but hbut5 (Ne.symm hne)) hul2 (by rw [hzl]; omega) huo2 us2 (whole_store hzl) ?_
  intro w6 hS5 hbut6 hs6
  have hT4 := hS4.but hbut6 hne
  have hX6 : Below w2.heap.size w2 w6 := (hb4.trans (hbut5.below hm4 hb4.size)).trans (hbut6.below hm5 (by have := hb4.size; omega))
  have hR6 : Blk 39 w6 w.heap.size z32 := hR2.stays hX6
  simp only [Act.put, List.setIfInBounds_toArray, List.set_cons_zero, List.set_cons_succ]
  have hT1l : (treeOf (hs.take H)).length = 32 := hT1.1
  have hT2l : (treeOf (hs.drop H)).length = 32 := hT2.1
  obtain ⟨rs, hrs⟩ : ∃ rs, rs = (shaOf (treeOf (hs.take H) ++ treeOf (hs.drop H))).map (Value.int .u8) := ⟨_, rfl⟩
  have HALL : Hid (∀ u b, Below w6.heap.size w6 u → Blk 43 u b [.slice (some ⟨g4, 0, none⟩) 32 32, .slice (some ⟨g5, 0, none⟩) 32 32] → Calls Tryd.prog 137 #[.slice (some ⟨b, 0, none⟩) 2 2] u fun e w' => e = .returned (.agg rs.toArray) ∧ Below u.heap.size u w') := fun u b hu hb => by
    have hbs : ∀ g us (T : List Int), us = T.map (Value.int .u8) → T.length = 32 → (∀ y ∈ T, 0 ≤ y ∧ y ≤ 255) → Blk 39 u g us → Bs u (some ⟨g, 0, none⟩) 32 T := fun g us T h1 h2 h3 h4 => by
      have := Row.bs (e := 39) (w := u) (g := g) (cur := T) (by rw [h1] at h4; exact h4) h3 (by rw [h2]; decide)
      rwa [h2] at this
    have hp : Parts u (some ⟨b, 0, none⟩) [⟨some ⟨g4, 0, none⟩, 32, treeOf (hs.take H)⟩, ⟨some ⟨g5, 0, none⟩, 32, treeOf (hs.drop H)⟩] := by
      refine ⟨.inr ⟨b, 0, rfl, fun i p hi => ?_⟩, fun p hp => ?_⟩
      · rw [Nat.zero_add, hb.cell]
        match i, hi with
        | 0, hi => simp at hi; subst hi; simp [hT1l]
        | 1, hi => simp at hi; subst hi; simp [hT2l]
        | i + 2, hi => simp at hi
      · simp only [List.mem_cons, List.not_mem_nil, or_false] at hp
        rcases hp with rfl | rfl
        · exact hbs g4 us1 _ hus1 hT1l hT1.2 (hT4.stays hu)
        · exact hbs g5 us2 _ hus2 hT2l hT2.2 (hS5.stays hu)
    have := all_run (some ⟨b, 0, none⟩) 2 _ u hp (hV.stays ((hX2.trans (hX6.mono hX2.size)).trans (hu.mono (by have := hX2.size; have := hX6.size; omega)))) (by simp [joined, hT1l, hT2l]) (by simp)
    rw [hrs]
    simpa [joined] using this
  have HRS : Hid (rs = (treeOf hs).map (Value.int .u8)) := by
    show _ = _
    rw [hrs, treeOf_more (l := hs) (by have := HN.out; omega)]
    have e : halfT hs.length = H := by rw [← HN.out]; exact HHF.out.symm
    rw [e]
  have hrl : rs.length = 32 := by rw [HRS.out, List.length_map]; exact (treeOf_ok hH.ok).1
  have hro : ∀ v ∈ rs, v.oneCell' = true := by rw [hrs]; exact int_oneCell _ _
  clear hrs hT1 hT2 hT1l hT2l hus1 hus2 hul1 hul2 huo1 huo2 HC1 HC2 hB4 hB5 hS4 hbut5 hs5 hbut6 hs6 hU hDn hH hV
  go_wp2
  refine UpT.wp_region_tail 4 (UpT.tell [(2, parP [.slice (some ⟨g4, 0, none⟩) 32 32, .slice (some ⟨g5, 0, none⟩) 32 32]), (3, iv (.agg rs.toArray))]) (fun _ => false) (by kernel_rfl) (by kernel_rfl) (UpT.tell_steady _ (by
    intro p hp
    simp only [List.mem_cons, List.not_mem_nil, or_false] at hp
    rcases hp with rfl | rfl <;> first | exact iv_steady _ | exact parP_steady _)) ?_
  simp only [List.take_succ_cons, List.take_zero]
  apply UpT.wpUp_pure
  case hw => rfl
  case hψ => rfl
  case hv => (intro w1 hp; clear hp; go_simp; try (with_reducible rfl))
  simp only [Act.put, List.setIfInBounds_toArray, List.set_cons_zero, List.set_cons_succ]
  apply UpT.wpUp_pure
  case hw => rfl
  case hψ => rfl
  case hv => (intro w1 hp; clear hp; go_simp; try (with_reducible rfl))
  simp only [Act.put, List.setIfInBounds_toArray, List.set_cons_zero, List.set_cons_succ]
  refine UpT.wpUp_make (parP [.slice (some ⟨g4, 0, none⟩) 32 32, .slice (some ⟨g5, 0, none⟩) 32 32]) (by rfl) (by rfl) (fun w1 hp => ⟨.slice (some ⟨w1.heap.size, 0, none⟩) 2 2, w1.alloc (.cells #[.slice (some ⟨g4, 0, none⟩) 32 32, .slice (some ⟨g5, 0, none⟩) 32 32] 43), by go_simp, (Below.refl _ _).alloc (Nat.le_refl _) _, ⟨_, rfl, Blk.newAt rfl rfl⟩, fun h => by cases h⟩) ?_
  rintro v ⟨u, _, hf⟩
  obtain ⟨b7, rfl, _⟩ := hf.of 2 v _ rfl rfl
  clear hf
  simp only [Act.put, List.setIfInBounds_toArray, List.set_cons_zero, List.set_cons_succ]
  refine UpT.wpUp_call _ 137 #[.slice (some ⟨b7, 0, none⟩) 2 2] (by rfl) (by rfl) (by rfl) (fun w1 => by go_simp) (fun w1 hp => calls_iv (by
    obtain ⟨b', he, hb'⟩ := hp.2 2 _ _ rfl rfl rfl
    cases he
    exact HALL.out w1 b7 hp.1 hb')) ?_
  rintro v ⟨u, _, hf⟩
  obtain rfl := hf.of 3 v _ rfl rfl
  clear hf
  simp only [Act.put, List.setIfInBounds_toArray, List.set_cons_zero, List.set_cons_succ]
  refine UpT.wpUp_end ?_
  intro w8 hb8 hf
  clear hf
  simp only [List.drop_succ_cons, List.drop_zero]
  refine wpList_store_blk (by rfl) (.tmp 2) (.tmp 34) 39 (by rfl) w.heap.size 0 32 (by rfl) rs (by rfl) size_32 (hR6.stays hb8) hrl (by rw [hzl]; omega) hro rs (whole_store hzl) ?_
  intro w9 hR9 hbut9 hs9
  have hX8 : Below w.heap.size w w8 := (hX2.trans (hX6.mono hX2.size)).trans (hb8.mono (by have := hX2.size; have := hX6.size; omega))
  simp only [Act.put, List.setIfInBounds_toArray, List.set_cons_zero, List.set_cons_succ]
  go_wp2
  exact bodyPost_ret_blk rfl rfl (by rfl) agg_32 size_32 hR9 hrl ⟨by rw [HRS.out], hX8.trans (hbut9.below (Nat.le_refl _) hX8.size)⟩

/-- What Tree tells. -/
theorem tree_run (n : Nat) : ∀ (a : Option Addr) (c : Nat) (hs : List (List Int)) (w : World), n = hs.length → n ≤ 40 → Hs w a c hs → Vars w →
    Calls Tryd.prog 97 #[.slice a n c] w fun e w' => e = .returned (.agg ((treeOf hs).map (Value.int .u8)).toArray) ∧ Below w.heap.size w w' := by
  induction n using Nat.strongRecOn with
  | _ n ih =>
    intro a c hs w hn h40 hH hV
    by_cases h1 : n ≤ 1
    · exact tree_small a c n hs w hn h1 hH
    · exact tree_big a c n hs w hn (by omega) h40 (fun a' c' m hs' w' hm hlt hH' hV' => ih m hlt a' c' hs' w' hm (by omega) hH' hV') hH hV
end Go.Proofs.YthbldjnpnligpaaDoor
