/-
  The walk of the law LabelPlays.
-/
import Derived.Test.YthbcphalokoknaaDoorG31
import Derived.Test.YthbcphalokoknaaDoorG32
import Derived.Test.YthbcphalokoknaaDoorG27
import Derived.Test.YthbcphalokoknaaDoorG26
namespace Go.Proofs.YthbcphalokoknaaDoor
open Go.RowKit

theorem plays_walk (a : Option Addr) (c : Nat) (xs : List ActL) (f : Int) (hf1 : f ≤ 9223372036854775807) (w : World) (hacts : ActsL w a xs) (hxl : xs.length ≤ 9223372036854775807) (hV : Vars w) :
    Calls Tryd.prog 5 #[.slice a xs.length c, .int .i64 f] w fun e w' => e = .returned (.bool true) ∧ Below w.heap.size w w' := by
  by_cases hf0 : 0 < f
  · exact plays_fused a c xs f hf1 hf0 w hacts hxl hV
  · exact plays_plain a c xs f hf1 hf0 w hacts hxl hV

end Go.Proofs.YthbcphalokoknaaDoor

/-
  The walk of the law LabelBack.
-/

namespace Go.Proofs.YthbcphalokoknaaDoor
set_option linter.unusedSimpArgs false
set_option linter.unusedVariables false
set_option maxRecDepth 100000
open Go.RowKit

theorem and255 (n : Int) : bits .and .i64 n 255 = n % 256 := by
  have h31 : (BitVec.ofInt 64 255).toNat = 2 ^ 8 - 1 := by decide
  have key : (BitVec.ofInt 64 n &&& BitVec.ofInt 64 255).toNat = (n % ((2 ^ 64 : Nat) : Int)).toNat % 2 ^ 8 := by
    rw [BitVec.toNat_and, BitVec.toNat_ofInt, h31, Nat.and_two_pow_sub_one_eq_mod]
  show IntKind.i64.wrap ((BitVec.ofInt 64 n &&& BitVec.ofInt 64 255).toNat : Nat) = n % 256
  rw [key, IntKind.wrap_i64]
  omega

theorem xorB_all : ∀ x : Fin 256, ∀ y : Fin 256, (0 ≤ xorB (x.val : Int) (y.val : Int) ∧ xorB (x.val : Int) (y.val : Int) ≤ 255) ∧ (xorB (x.val : Int) (y.val : Int) = (x.val : Int) → y.val = 0) := by decide +kernel
theorem xorB_in {x y : Int} (hx : 0 ≤ x ∧ x ≤ 255) (hy : 0 ≤ y ∧ y ≤ 255) : 0 ≤ xorB x y ∧ xorB x y ≤ 255 := by
  have h := (xorB_all ⟨x.toNat, by omega⟩ ⟨y.toNat, by omega⟩).1
  simp only [show ((x.toNat : Nat) : Int) = x by omega, show ((y.toNat : Nat) : Int) = y by omega] at h
  exact h
theorem xorB_ne {x y : Int} (hx : 0 ≤ x ∧ x ≤ 255) (hy : 0 ≤ y ∧ y ≤ 255) (h0 : y ≠ 0) : xorB x y ≠ x := by
  have h := (xorB_all ⟨x.toNat, by omega⟩ ⟨y.toNat, by omega⟩).2
  simp only [show ((x.toNat : Nat) : Int) = x by omega, show ((y.toNat : Nat) : Int) = y by omega] at h
  intro he
  have := h he
  omega

/-- A byte of the hash another one: another sum. -/
theorem decL_turned {l : Lb} (hl : l.ok) (hm : l.may = true) {j : Nat} (hj : 224 ≤ j) (hj2 : j < 256) {y : Int} (hy : y ≠ l.bytes.getD j 0) : decL (l.bytes.set j y) = (Lb.zero, 14) := by
  obtain ⟨hpm, hm64⟩ := Lb.may_parts hm
  have hb := Lb.body_len hl.p hm64
  have hlen := Lb.bytes_len hl.p hm64
  have ht : (l.bytes.set j y).take 224 = l.body := by
    rw [List.take_set_of_le (by omega)]
    unfold Lb.bytes
    exact List.take_left' hb
  have hd : (l.bytes.set j y).drop 224 = (shaOf l.body).set (j - 224) y := by
    rw [List.drop_set, if_neg (by omega)]
    unfold Lb.bytes
    rw [List.drop_left' hb]
  have hs : sumL (l.bytes.set j y) = false := by
    unfold sumL
    rw [ht, hd]
    refine decide_eq_false (fun h => hy ?_)
    have h1 := congrArg (fun q => q.getD (j - 224) 0) h
    have hsl : (shaOf l.body).length = 32 := shaOf_length _
    simp only [List.getD_eq_getElem?_getD, List.getElem?_set, hsl] at h1
    simp only [if_true] at h1
    rw [if_pos (by omega)] at h1
    simp only [Option.getD_some] at h1
    rw [← h1]
    unfold Lb.bytes
    rw [List.getD_eq_getElem?_getD, List.getElem?_append_right (by omega), hb]
  unfold decL
  rw [if_neg (by rw [List.length_set]; omega), if_pos hs]

set_option maxHeartbeats 40000000 in
theorem back_bad (l : Lb) (hl : l.ok) (a : Option Addr) (c : Nat) (n : Int) (y : Int) (w : World) (hB : Bs w a c l.m) (hV : Vars w) (hm : l.may = false) :
    Calls Tryd.prog 6 #[.agg (l.vs a c).toArray, .int .i64 n, .int .u8 y] w fun e w' => e = .returned (.bool true) ∧ Below w.heap.size w w' := by
  have hvl := Lb.vs_len hl.p a c
  have henc : ∀ u, Calls Tryd.prog 9 #[.agg (l.vs a c).toArray] u fun e w' => e = .returned (.tuple #[.slice none 0 0, .int .i64 1]) ∧ Below u.heap.size u w' := fun u => lencode_bad l hl a c u (by have h1 := hB.cap; have h2 := hB.capm; unfold maxLen at h2; omega) hm
  obtain ⟨vs, hvs⟩ : ∃ vs, vs = l.vs a c := ⟨_, rfl⟩
  rw [← hvs] at hvl henc ⊢
  clear hvs
  go_enter Tryd.func6, Tryd.ntmps6
  go_wp2_with (first
    | ((with_reducible show wpList _ _ _ (Oper.mk _ (Op.box _ _) _ _ _ _ :: _) _ _); refine wpList_box0 (by rfl) 29 (.tmp 0) (by rfl) vs (by rfl) ?_; intro w1 hL1 hb1 hs1)
    | ((with_reducible show wpList _ _ _ (Oper.mk _ (Op.load _ _) _ _ _ _ :: _) _ _); refine wpList_load_blk (by rfl) (.tmp 3) 29 (by rfl) _ 0 37 (by rfl) agg_label size_label hL1 _ (whole_load hvl) hvl ?_)
    | (go_at_call 9; go_must (refine (henc _).mono ?_); rintro e w2 ⟨rfl, hb2⟩
       have hal := lalive_run w2 (hV.stays (below_then hb1 hb2)))
    | (go_at_call 8; go_must (refine hal.mono ?_); rintro e w3 ⟨rfl, hb3⟩))
  go_ret
  exact ⟨rfl, below_then (below_then hb1 hb2) hb3⟩

set_option maxHeartbeats 80000000 in
theorem back_ok (l : Lb) (hl : l.ok) (a : Option Addr) (c : Nat) (n : Int) (y : Int) (hy : 0 ≤ y ∧ y ≤ 255) (w : World) (hB : Bs w a c l.m) (hV : Vars w) (hm : l.may = true) :
    Calls Tryd.prog 6 #[.agg (l.vs a c).toArray, .int .i64 n, .int .u8 y] w fun e w' => e = .returned (.bool true) ∧ Below w.heap.size w w' := by
  have hvl : ∀ a c, (l.vs a c).length = 37 := fun a c => Lb.vs_len hl.p a c
  have HVO : Hid (∀ a c, ∀ v ∈ l.vs a c, v.oneCell' = true) := fun a c => Lb.vs_one _ _ _
  have h256 := Lb.bytes_len hl.p (Lb.may_parts hm).2
  have hbr := Lb.bytes_rng hl
  have henc : ∀ u, Below w.heap.size w u → Calls Tryd.prog 9 #[.agg (l.vs a c).toArray] u fun e w' => ∃ g, e = .returned (.tuple #[.slice (some ⟨g, 0, none⟩) 256 256, .int .i64 0]) ∧ u.heap.size ≤ g ∧ Row 5 w' g l.bytes ∧ Below u.heap.size u w' := fun u hu => lencode_ok l hl a c u (hB.stays hu) (hV.stays hu) hm
  have hdl := decL_bytes hl hm
  have hdec : ∀ (u : World) (g : Nat) (xs : List Int), xs.length = 256 → Bs u (some ⟨g, 0, none⟩) 256 xs → Vars u → Calls Tryd.prog 13 #[.slice (some ⟨g, 0, none⟩) 256 256] u fun e w' => ∃ a' c', e = .returned (.tuple #[.agg ((decL xs).1.vs a' c').toArray, .int .i64 ((decL xs).2 : Int)]) ∧ Bs w' a' c' (decL xs).1.m ∧ Below u.heap.size u w' := fun u g xs hx hb hv => by
    refine (ldecode_run (some ⟨g, 0, none⟩) 256 256 xs u hx.symm hb hv).mono ?_
    rintro e w' ⟨a', c', rfl, ho, hb'⟩
    exact ⟨a', c', rfl, (Out.bs ho (decL_ok hb.rng).m).2.1, hb'⟩
  have hdec1 : ∀ (u : World) (g : Nat), Bs u (some ⟨g, 0, none⟩) 256 l.bytes → Vars u → Calls Tryd.prog 13 #[.slice (some ⟨g, 0, none⟩) 256 256] u fun e w' => ∃ a' c', e = .returned (.tuple #[.agg (l.vs a' c').toArray, .int .i64 0]) ∧ Bs w' a' c' l.m ∧ Below u.heap.size u w' := fun u g hb hv => by
    have := hdec u g l.bytes h256 hb hv
    rw [hdl] at this
    exact this
  have hsame : ∀ (u : World) (a a' : Option Addr) (c c' : Nat), Bs u a c l.m → Bs u a' c' l.m → Calls Tryd.prog 15 #[.agg (l.vs a c).toArray, .agg (l.vs a' c').toArray] u fun e w' => e = .returned (.bool true) ∧ Below u.heap.size u w' := fun u a a' c c' h1 h2 => by
    have := same_run l l hl hl a a' c c' u h1 h2
    rwa [Lb.same_self] at this
  have hzl := zero_vs_len
  obtain ⟨zs, hzs⟩ : ∃ zs, zs = Lb.zero.vs none 0 := ⟨_, rfl⟩
  have HAL : Hid (∀ w : World, (Instr.alloc 29 true (.tuple #[])).run Tryd.prog w = .ok (.pointer (some ⟨w.heap.size, 0, none⟩)) (w.alloc (.cells zs.toArray 29))) := by rw [hzs]; exact alloc_label0
  rw [← hzs] at hzl
  obtain ⟨j, hj⟩ : ∃ j : Nat, (j : Int) = n % 256 := ⟨(n % 256).toNat, by omega⟩
  have hj2 : j < 256 := by omega
  have hand : bits .and .i64 n 255 = (j : Int) := by rw [and255, hj]
  obtain ⟨bs, hbs⟩ : ∃ bs, bs = l.bytes := ⟨_, rfl⟩
  obtain ⟨x, hx⟩ : ∃ x, x = bs.getD j 0 := ⟨_, rfl⟩
  have hxr : 0 ≤ x ∧ x ≤ 255 := by
    rw [hx, hbs, List.getD_eq_getElem?_getD, List.getElem?_eq_getElem (by omega)]
    exact hbr _ (List.getElem_mem _)
  obtain ⟨z, hz⟩ : ∃ z, z = xorB x y := ⟨_, rfl⟩
  have hzr := xorB_in hxr hy
  rw [← hz] at hzr
  have hxor : bits .xor .u8 x y = z := hz.symm
  obtain ⟨ys, hys⟩ : ∃ ys, ys = bs.set j z := ⟨_, rfl⟩
  have hyl : ys.length = 256 := by rw [hys, List.length_set, hbs]; exact h256
  have hyr : ∀ q ∈ ys, 0 ≤ q ∧ q ≤ 255 := by
    intro q hq
    rw [hys] at hq
    rcases List.mem_or_eq_of_mem_set hq with h1 | h1
    · exact hbr q (by rw [← hbs]; exact h1)
    · rw [h1]; exact hzr
  have hdy := decL_ok hyr
  have hdec2 : ∀ (u : World) (g : Nat), Bs u (some ⟨g, 0, none⟩) 256 ys → Vars u → _ := fun u g hb hv => hdec u g ys hyl hb hv
  have hrdec2 : ∀ (u : World) (g : Nat), Bs u (some ⟨g, 0, none⟩) 256 ys → _ := fun u g hb => lrdecode_run (some ⟨g, 0, none⟩) 256 256 ys u hyl.symm hb
  have hfin : y = 0 ∨ j < 224 ∨ (decL ys).2 = 14 := by
    by_cases h0 : y = 0
    · exact .inl h0
    · by_cases h1 : j < 224
      · exact .inr (.inl h1)
      · right; right
        rw [hys, hbs, decL_turned hl hm (by omega) hj2 (by rw [hz, hx, hbs]; rw [hx, hbs] at hxr; exact xorB_ne hxr hy h0)]
  obtain ⟨D, hD⟩ : ∃ D, D = (decL ys).1 := ⟨_, rfl⟩
  obtain ⟨E, hE⟩ : ∃ E, E = (decL ys).2 := ⟨_, rfl⟩
  rw [← hD] at hdy
  rw [← hE] at hfin
  rw [← hD, ← hE] at hdec2 hrdec2
  have hvD : ∀ a c, (D.vs a c).length = 37 := fun a c => Lb.vs_len hdy.p a c
  have HVD : Hid (∀ a c, ∀ v ∈ D.vs a c, v.oneCell' = true) := fun a c => Lb.vs_one _ _ _
  have HROW : Hid (∀ u g, Row 5 u g bs → u.cell? ⟨g, j, none⟩ = some (.int .u8 x)) := fun u g hR => by
    have := Blk.cell (e := 5) (w := u) (g := g) (vs := bs.map (Value.int .u8)) hR j
    rw [this, List.getElem?_map, hx, List.getD_eq_getElem?_getD, List.getElem?_eq_getElem (by rw [hbs]; omega)]
    rfl
  have HSET : Hid ((bs.map (Value.int .u8)).set j (.int .u8 z) = ys.map (Value.int .u8)) := by show _ = _; rw [hys, List.map_set]
  have hix : ∀ (u : World) (g : Nat), (Instr.indexAt 27 (.slice (some ⟨g, 0, none⟩) 256 256) (.int .i64 (j : Int))).run Tryd.prog u = .ok (.pointer (some ⟨g, j, none⟩)) u := fun u g => index_sl7 (P := Tryd.prog) (t := 27) (e := 5) Tryd.underlying27 sizes5 hj2 u
  rw [← hbs] at h256 hbr henc hdec1
  have hbl : (bs.map (Value.int .u8)).length = 256 := by rw [List.length_map]; exact h256
  clear hdec hdl hx hz hys hbs hzs hj hD hE hm hxr hzr
  rcases (show (y == 0) = true ∨ (y == 0) = false ∧ j < 224 ∨ (y == 0) = false ∧ ¬ j < 224 ∧ E = 14 by
    by_cases h0 : y = 0
    · exact .inl (by simp [h0])
    · have h0' : (y == 0) = false := by simpa using h0
      by_cases h1 : j < 224
      · exact .inr (.inl ⟨h0', h1⟩)
      · refine .inr (.inr ⟨h0', h1, ?_⟩)
        rcases hfin with h2 | h2 | h2
        · exact absurd h2 h0
        · exact absurd h2 h1
        · exact h2) with hc0 | ⟨hc0, hc1⟩ | ⟨hc0, hc1, hc2⟩
  · clear hfin
    go_enter Tryd.func6, Tryd.ntmps6
    go_wp2_with (first
      | ((with_reducible show wpList _ _ _ (Oper.mk _ (Op.box _ _) _ _ _ _ :: _) _ _); refine wpList_box0 (by rfl) 29 (.tmp 0) (by rfl) (l.vs a c) (by rfl) ?_; intro w1 hL1 hb1 hs1
         have he1 := henc w1 hb1)
      | ((with_reducible show wpList _ _ _ (Oper.mk _ (Op.load _ _) _ _ _ _ :: _) _ _); refine wpList_load_blk (by rfl) (.tmp 3) 29 (by rfl) _ 0 37 (by rfl) agg_label size_label hL1 _ (whole_load (hvl _ _)) (hvl _ _) ?_)
      | (go_at_call 9; go_must (refine he1.mono ?_); rintro e w2 ⟨g, rfl, hg, hR2, hb2⟩
         have hL2 := hL1.stays hb2
         have hb2' := below_then hb1 hb2
         have hB2 : Bs w2 (some ⟨g, 0, none⟩) 256 bs := by
           have := Row.bs (e := 5) (w := w2) (g := g) (cur := bs) hR2 hbr (by rw [h256]; decide)
           rwa [h256] at this
         have hd2 := hdec1 w2 g hB2 (hV.stays hb2'))
      | (go_at_call 13; (refine hd2.mono ?_); rintro e w3 ⟨a3, c3, rfl, hM3, hb3⟩
         have hL3 := hL2.stays hb3
         have hR3 : Row 5 w3 g bs := Blk.stays (e := 5) (w := w2) hR2 hb3)
      | ((with_reducible show wpList _ _ _ (Oper.mk _ (Op.alloc _) _ _ _ _ :: _) _ _); refine wpList_alloc0 (by rfl) 29 (by rfl) (some 9) (by rfl) _ HAL.out ?_; intro w4 hN4 hb4 hs4)
      | ((with_reducible show wpList _ _ _ (Oper.mk _ (Op.store _ _ _) _ _ _ _ :: _) _ _); refine wpList_store_blk (by rfl) (.tmp 9) (.tmp 41) 29 (by rfl) _ 0 37 (by rfl) (l.vs a3 c3) (by rfl) size_label hN4 (hvl _ _) (by omega) (HVO.out _ _) _ (whole_store hzl) ?_
         intro w5 hN5 hbut5 hs5
         have hb5 : Below w3.heap.size w3 w5 := hb4.trans (hbut5.below (Nat.le_refl _) hb4.size)
         have hL5 := hL3.stays hb5
         have hR5 : Row 5 w5 g bs := Blk.stays (e := 5) (w := w3) hR3 hb5
         have hb5' := below_then (below_then hb2' hb3) hb5
         have hsm := hsame w5 a a3 c c3 (hB.stays hb5') (hM3.stays hb5))
      | ((with_reducible show wpList _ _ _ (Oper.mk _ (Op.load _ _) _ _ _ _ :: _) _ _); refine wpList_load_guard7 (.tmp 3) 29 (by rfl) (by kernel_rfl) _ 0 37 (by rfl) agg_label size_label hL5 _ (whole_load (hvl _ _)) (hvl _ _) ?_)
      | ((with_reducible show wpList _ _ _ (Oper.mk _ (Op.load _ _) _ _ _ _ :: _) _ _); refine wpList_load_guard7 (.tmp 9) 29 (by rfl) (by kernel_rfl) _ 0 37 (by rfl) agg_label size_label hN5 _ (whole_load (hvl _ _)) (hvl _ _) ?_)
      | (go_at_call 15; go_must (refine hsm.mono ?_); rintro e w6 ⟨rfl, hb6⟩
         have hR6 : Row 5 w6 g bs := Blk.stays (e := 5) (w := w5) hR5 hb6
         have hcx := HROW.out w6 g hR6)
      | ((with_reducible show wpList _ _ _ (Oper.mk _ (Op.store _ _ _) _ _ _ _ :: _) _ _); refine wpList_store_int (by rfl) (.tmp 61) (.tmp 60) 5 (by rfl) g j (by rfl) .u8 z (by rfl) size_u8 (show Blk 5 w6 g (bs.map (Value.int .u8)) from hR6) (by omega) ?_
         intro w7 hR7 hbut7 hs7
         rw [HSET.out] at hR7
         have hb6' := below_then hb5' hb6
         have hb7 : Below w.heap.size w w7 := hb6'.trans (hbut7.below (B := w.heap.size) (by have := hb1.size; omega) hb6'.size)
         have hB7 : Bs w7 (some ⟨g, 0, none⟩) 256 ys := by
           have := Row.bs (e := 5) (w := w7) (g := g) (cur := ys) hR7 hyr (by rw [hyl]; decide)
           rwa [hyl] at this
         have hd7 := hdec2 w7 g hB7 (hV.stays hb7))
      | (go_at_call 13; go_must (refine hd7.mono ?_); rintro e w8 ⟨a8, c8, rfl, _, hb8⟩)
      | ((with_reducible show wpList _ _ _ (Oper.mk _ (Op.alloc _) _ _ _ _ :: _) _ _); refine wpList_alloc0 (by rfl) 29 (by rfl) (some 12) (by rfl) _ HAL.out ?_; intro w9 hP9 hb9 hs9)
      | ((with_reducible show wpList _ _ _ (Oper.mk _ (Op.store _ _ _) _ _ _ _ :: _) _ _); refine wpList_store_blk (by rfl) (.tmp 12) (.tmp 65) 29 (by rfl) _ 0 37 (by rfl) (D.vs a8 c8) (by rfl) size_label hP9 (hvD _ _) (by omega) (HVD.out _ _) _ (whole_store hzl) ?_
         intro wA hPA hbutA hsA
         have hbA : Below w8.heap.size w8 wA := hb9.trans (hbutA.below (Nat.le_refl _) hb9.size)
         have hrd := hrdec2 wA g (hB7.stays (below_then hb8 hbA)))
      | (go_at_call 14; go_must (refine hrd.mono ?_); rintro e wB ⟨aB, cB, rfl, _, hbB⟩)
      | ((with_reducible show wpList _ _ _ (Oper.mk _ (Op.alloc _) _ _ _ _ :: _) _ _); refine wpList_alloc0 (by rfl) 29 (by rfl) (some 14) (by rfl) _ HAL.out ?_; intro wC hQC hbC hsC)
      | ((with_reducible show wpList _ _ _ (Oper.mk _ (Op.store _ _ _) _ _ _ _ :: _) _ _); refine wpList_store_blk (by rfl) (.tmp 14) (.tmp 70) 29 (by rfl) _ 0 37 (by rfl) (D.vs aB cB) (by rfl) size_label hQC (hvD _ _) (by omega) (HVD.out _ _) _ (whole_store hzl) ?_
         intro wD hQD hbutD hsD
         have hbD : Below wB.heap.size wB wD := hbC.trans (hbutD.below (Nat.le_refl _) hbC.size)
         have hbD' := below_then (below_then (below_then (below_then hb7 hb8) hbA) hbB) hbD
         have hal := lalive_run wD (hV.stays hbD'))
      | (go_at_call 8; go_must (refine hal.mono ?_); rintro e wE ⟨rfl, hbE⟩))
    go_ret
    exact ⟨by simp, below_then hbD' hbE⟩
  · have hlt : decide ((j : Int) < 224) = true := by simp; omega
    clear hfin
    go_enter Tryd.func6, Tryd.ntmps6
    go_wp2_with (first
      | ((with_reducible show wpList _ _ _ (Oper.mk _ (Op.box _ _) _ _ _ _ :: _) _ _); refine wpList_box0 (by rfl) 29 (.tmp 0) (by rfl) (l.vs a c) (by rfl) ?_; intro w1 hL1 hb1 hs1
         have he1 := henc w1 hb1)
      | ((with_reducible show wpList _ _ _ (Oper.mk _ (Op.load _ _) _ _ _ _ :: _) _ _); refine wpList_load_blk (by rfl) (.tmp 3) 29 (by rfl) _ 0 37 (by rfl) agg_label size_label hL1 _ (whole_load (hvl _ _)) (hvl _ _) ?_)
      | (go_at_call 9; go_must (refine he1.mono ?_); rintro e w2 ⟨g, rfl, hg, hR2, hb2⟩
         have hL2 := hL1.stays hb2
         have hb2' := below_then hb1 hb2
         have hB2 : Bs w2 (some ⟨g, 0, none⟩) 256 bs := by
           have := Row.bs (e := 5) (w := w2) (g := g) (cur := bs) hR2 hbr (by rw [h256]; decide)
           rwa [h256] at this
         have hd2 := hdec1 w2 g hB2 (hV.stays hb2'))
      | (go_at_call 13; (refine hd2.mono ?_); rintro e w3 ⟨a3, c3, rfl, hM3, hb3⟩
         have hL3 := hL2.stays hb3
         have hR3 : Row 5 w3 g bs := Blk.stays (e := 5) (w := w2) hR2 hb3)
      | ((with_reducible show wpList _ _ _ (Oper.mk _ (Op.alloc _) _ _ _ _ :: _) _ _); refine wpList_alloc0 (by rfl) 29 (by rfl) (some 9) (by rfl) _ HAL.out ?_; intro w4 hN4 hb4 hs4)
      | ((with_reducible show wpList _ _ _ (Oper.mk _ (Op.store _ _ _) _ _ _ _ :: _) _ _); refine wpList_store_blk (by rfl) (.tmp 9) (.tmp 41) 29 (by rfl) _ 0 37 (by rfl) (l.vs a3 c3) (by rfl) size_label hN4 (hvl _ _) (by omega) (HVO.out _ _) _ (whole_store hzl) ?_
         intro w5 hN5 hbut5 hs5
         have hb5 : Below w3.heap.size w3 w5 := hb4.trans (hbut5.below (Nat.le_refl _) hb4.size)
         have hL5 := hL3.stays hb5
         have hR5 : Row 5 w5 g bs := Blk.stays (e := 5) (w := w3) hR3 hb5
         have hb5' := below_then (below_then hb2' hb3) hb5
         have hsm := hsame w5 a a3 c c3 (hB.stays hb5') (hM3.stays hb5))
      | ((with_reducible show wpList _ _ _ (Oper.mk _ (Op.load _ _) _ _ _ _ :: _) _ _); refine wpList_load_guard7 (.tmp 3) 29 (by rfl) (by kernel_rfl) _ 0 37 (by rfl) agg_label size_label hL5 _ (whole_load (hvl _ _)) (hvl _ _) ?_)
      | ((with_reducible show wpList _ _ _ (Oper.mk _ (Op.load _ _) _ _ _ _ :: _) _ _); refine wpList_load_guard7 (.tmp 9) 29 (by rfl) (by kernel_rfl) _ 0 37 (by rfl) agg_label size_label hN5 _ (whole_load (hvl _ _)) (hvl _ _) ?_)
      | (go_at_call 15; go_must (refine hsm.mono ?_); rintro e w6 ⟨rfl, hb6⟩
         have hR6 : Row 5 w6 g bs := Blk.stays (e := 5) (w := w5) hR5 hb6
         have hcx := HROW.out w6 g hR6)
      | ((with_reducible show wpList _ _ _ (Oper.mk _ (Op.store _ _ _) _ _ _ _ :: _) _ _); refine wpList_store_int (by rfl) (.tmp 61) (.tmp 60) 5 (by rfl) g j (by rfl) .u8 z (by rfl) size_u8 (show Blk 5 w6 g (bs.map (Value.int .u8)) from hR6) (by omega) ?_
         intro w7 hR7 hbut7 hs7
         rw [HSET.out] at hR7
         have hb6' := below_then hb5' hb6
         have hb7 : Below w.heap.size w w7 := hb6'.trans (hbut7.below (B := w.heap.size) (by have := hb1.size; omega) hb6'.size)
         have hB7 : Bs w7 (some ⟨g, 0, none⟩) 256 ys := by
           have := Row.bs (e := 5) (w := w7) (g := g) (cur := ys) hR7 hyr (by rw [hyl]; decide)
           rwa [hyl] at this
         have hd7 := hdec2 w7 g hB7 (hV.stays hb7))
      | (go_at_call 13; go_must (refine hd7.mono ?_); rintro e w8 ⟨a8, c8, rfl, _, hb8⟩)
      | ((with_reducible show wpList _ _ _ (Oper.mk _ (Op.alloc _) _ _ _ _ :: _) _ _); refine wpList_alloc0 (by rfl) 29 (by rfl) (some 12) (by rfl) _ HAL.out ?_; intro w9 hP9 hb9 hs9)
      | ((with_reducible show wpList _ _ _ (Oper.mk _ (Op.store _ _ _) _ _ _ _ :: _) _ _); refine wpList_store_blk (by rfl) (.tmp 12) (.tmp 65) 29 (by rfl) _ 0 37 (by rfl) (D.vs a8 c8) (by rfl) size_label hP9 (hvD _ _) (by omega) (HVD.out _ _) _ (whole_store hzl) ?_
         intro wA hPA hbutA hsA
         have hbA : Below w8.heap.size w8 wA := hb9.trans (hbutA.below (Nat.le_refl _) hb9.size)
         have hrd := hrdec2 wA g (hB7.stays (below_then hb8 hbA)))
      | (go_at_call 14; go_must (refine hrd.mono ?_); rintro e wB ⟨aB, cB, rfl, _, hbB⟩)
      | ((with_reducible show wpList _ _ _ (Oper.mk _ (Op.alloc _) _ _ _ _ :: _) _ _); refine wpList_alloc0 (by rfl) 29 (by rfl) (some 14) (by rfl) _ HAL.out ?_; intro wC hQC hbC hsC)
      | ((with_reducible show wpList _ _ _ (Oper.mk _ (Op.store _ _ _) _ _ _ _ :: _) _ _); refine wpList_store_blk (by rfl) (.tmp 14) (.tmp 70) 29 (by rfl) _ 0 37 (by rfl) (D.vs aB cB) (by rfl) size_label hQC (hvD _ _) (by omega) (HVD.out _ _) _ (whole_store hzl) ?_
         intro wD hQD hbutD hsD
         have hbD : Below wB.heap.size wB wD := hbC.trans (hbutD.below (Nat.le_refl _) hbC.size)
         have hbD' := below_then (below_then (below_then (below_then hb7 hb8) hbA) hbB) hbD
         have hal := lalive_run wD (hV.stays hbD'))
      | (go_at_call 8; go_must (refine hal.mono ?_); rintro e wE ⟨rfl, hbE⟩))
    go_ret
    exact ⟨by simp, below_then hbD' hbE⟩
  · have hlt : decide ((j : Int) < 224) = false := by simp; omega
    have hE14 : ((E : Int) == 14) = true := by rw [hc2]; rfl
    clear hfin hc2
    go_enter Tryd.func6, Tryd.ntmps6
    go_wp2_with (first
      | ((with_reducible show wpList _ _ _ (Oper.mk _ (Op.box _ _) _ _ _ _ :: _) _ _); refine wpList_box0 (by rfl) 29 (.tmp 0) (by rfl) (l.vs a c) (by rfl) ?_; intro w1 hL1 hb1 hs1
         have he1 := henc w1 hb1)
      | ((with_reducible show wpList _ _ _ (Oper.mk _ (Op.load _ _) _ _ _ _ :: _) _ _); refine wpList_load_blk (by rfl) (.tmp 3) 29 (by rfl) _ 0 37 (by rfl) agg_label size_label hL1 _ (whole_load (hvl _ _)) (hvl _ _) ?_)
      | (go_at_call 9; go_must (refine he1.mono ?_); rintro e w2 ⟨g, rfl, hg, hR2, hb2⟩
         have hL2 := hL1.stays hb2
         have hb2' := below_then hb1 hb2
         have hB2 : Bs w2 (some ⟨g, 0, none⟩) 256 bs := by
           have := Row.bs (e := 5) (w := w2) (g := g) (cur := bs) hR2 hbr (by rw [h256]; decide)
           rwa [h256] at this
         have hd2 := hdec1 w2 g hB2 (hV.stays hb2'))
      | (go_at_call 13; (refine hd2.mono ?_); rintro e w3 ⟨a3, c3, rfl, hM3, hb3⟩
         have hL3 := hL2.stays hb3
         have hR3 : Row 5 w3 g bs := Blk.stays (e := 5) (w := w2) hR2 hb3)
      | ((with_reducible show wpList _ _ _ (Oper.mk _ (Op.alloc _) _ _ _ _ :: _) _ _); refine wpList_alloc0 (by rfl) 29 (by rfl) (some 9) (by rfl) _ HAL.out ?_; intro w4 hN4 hb4 hs4)
      | ((with_reducible show wpList _ _ _ (Oper.mk _ (Op.store _ _ _) _ _ _ _ :: _) _ _); refine wpList_store_blk (by rfl) (.tmp 9) (.tmp 41) 29 (by rfl) _ 0 37 (by rfl) (l.vs a3 c3) (by rfl) size_label hN4 (hvl _ _) (by omega) (HVO.out _ _) _ (whole_store hzl) ?_
         intro w5 hN5 hbut5 hs5
         have hb5 : Below w3.heap.size w3 w5 := hb4.trans (hbut5.below (Nat.le_refl _) hb4.size)
         have hL5 := hL3.stays hb5
         have hR5 : Row 5 w5 g bs := Blk.stays (e := 5) (w := w3) hR3 hb5
         have hb5' := below_then (below_then hb2' hb3) hb5
         have hsm := hsame w5 a a3 c c3 (hB.stays hb5') (hM3.stays hb5))
      | ((with_reducible show wpList _ _ _ (Oper.mk _ (Op.load _ _) _ _ _ _ :: _) _ _); refine wpList_load_guard7 (.tmp 3) 29 (by rfl) (by kernel_rfl) _ 0 37 (by rfl) agg_label size_label hL5 _ (whole_load (hvl _ _)) (hvl _ _) ?_)
      | ((with_reducible show wpList _ _ _ (Oper.mk _ (Op.load _ _) _ _ _ _ :: _) _ _); refine wpList_load_guard7 (.tmp 9) 29 (by rfl) (by kernel_rfl) _ 0 37 (by rfl) agg_label size_label hN5 _ (whole_load (hvl _ _)) (hvl _ _) ?_)
      | (go_at_call 15; go_must (refine hsm.mono ?_); rintro e w6 ⟨rfl, hb6⟩
         have hR6 : Row 5 w6 g bs := Blk.stays (e := 5) (w := w5) hR5 hb6
         have hcx := HROW.out w6 g hR6)
      | ((with_reducible show wpList _ _ _ (Oper.mk _ (Op.store _ _ _) _ _ _ _ :: _) _ _); refine wpList_store_int (by rfl) (.tmp 61) (.tmp 60) 5 (by rfl) g j (by rfl) .u8 z (by rfl) size_u8 (show Blk 5 w6 g (bs.map (Value.int .u8)) from hR6) (by omega) ?_
         intro w7 hR7 hbut7 hs7
         rw [HSET.out] at hR7
         have hb6' := below_then hb5' hb6
         have hb7 : Below w.heap.size w w7 := hb6'.trans (hbut7.below (B := w.heap.size) (by have := hb1.size; omega) hb6'.size)
         have hB7 : Bs w7 (some ⟨g, 0, none⟩) 256 ys := by
           have := Row.bs (e := 5) (w := w7) (g := g) (cur := ys) hR7 hyr (by rw [hyl]; decide)
           rwa [hyl] at this
         have hd7 := hdec2 w7 g hB7 (hV.stays hb7))
      | (go_at_call 13; go_must (refine hd7.mono ?_); rintro e w8 ⟨a8, c8, rfl, _, hb8⟩)
      | ((with_reducible show wpList _ _ _ (Oper.mk _ (Op.alloc _) _ _ _ _ :: _) _ _); refine wpList_alloc0 (by rfl) 29 (by rfl) (some 12) (by rfl) _ HAL.out ?_; intro w9 hP9 hb9 hs9)
      | ((with_reducible show wpList _ _ _ (Oper.mk _ (Op.store _ _ _) _ _ _ _ :: _) _ _); refine wpList_store_blk (by rfl) (.tmp 12) (.tmp 65) 29 (by rfl) _ 0 37 (by rfl) (D.vs a8 c8) (by rfl) size_label hP9 (hvD _ _) (by omega) (HVD.out _ _) _ (whole_store hzl) ?_
         intro wA hPA hbutA hsA
         have hbA : Below w8.heap.size w8 wA := hb9.trans (hbutA.below (Nat.le_refl _) hb9.size)
         have hrd := hrdec2 wA g (hB7.stays (below_then hb8 hbA)))
      | (go_at_call 14; go_must (refine hrd.mono ?_); rintro e wB ⟨aB, cB, rfl, _, hbB⟩)
      | ((with_reducible show wpList _ _ _ (Oper.mk _ (Op.alloc _) _ _ _ _ :: _) _ _); refine wpList_alloc0 (by rfl) 29 (by rfl) (some 14) (by rfl) _ HAL.out ?_; intro wC hQC hbC hsC)
      | ((with_reducible show wpList _ _ _ (Oper.mk _ (Op.store _ _ _) _ _ _ _ :: _) _ _); refine wpList_store_blk (by rfl) (.tmp 14) (.tmp 70) 29 (by rfl) _ 0 37 (by rfl) (D.vs aB cB) (by rfl) size_label hQC (hvD _ _) (by omega) (HVD.out _ _) _ (whole_store hzl) ?_
         intro wD hQD hbutD hsD
         have hbD : Below wB.heap.size wB wD := hbC.trans (hbutD.below (Nat.le_refl _) hbC.size)
         have hbD' := below_then (below_then (below_then (below_then hb7 hb8) hbA) hbB) hbD
         have hal := lalive_run wD (hV.stays hbD'))
      | (go_at_call 8; go_must (refine hal.mono ?_); rintro e wE ⟨rfl, hbE⟩))
    go_ret
    exact ⟨by simp, below_then hbD' hbE⟩

theorem back_walk (l : Lb) (hl : l.ok) (a : Option Addr) (c : Nat) (n : Int) (y : Int) (hy : 0 ≤ y ∧ y ≤ 255) (w : World) (hB : Bs w a c l.m) (hV : Vars w) :
    Calls Tryd.prog 6 #[.agg (l.vs a c).toArray, .int .i64 n, .int .u8 y] w fun e w' => e = .returned (.bool true) ∧ Below w.heap.size w w' := by
  cases hm : l.may
  · exact back_bad l hl a c n y w hB hV hm
  · exact back_ok l hl a c n y hy w hB hV hm

end Go.Proofs.YthbcphalokoknaaDoor

/-
  What the law LabelNewest needs of lists alone.
-/

namespace Go.Proofs.YthbcphalokoknaaDoor
set_option linter.unusedSimpArgs false
set_option linter.unusedVariables false
set_option maxRecDepth 100000
open Go.RowKit

theorem Kept.rot {S : DS} {t : Nat} {xs : List Int} (h : Kept S t xs) (i : Int) (hi : i ≠ (t : Int)) (ms : List Int) : Kept (S.rot i ms).1 t xs := by
  unfold DS.rot
  split
  · exact h
  · rename_i hh
    have hh' : S.has i ∧ ms.length ≤ 256 := by simpa using hh
    have h0 := hh'.1.1
    refine ⟨h.off, h.fused, by simp only; rw [xorTo_length]; exact h.len, ?_, h.ne⟩
    simp only
    rw [secOf_xorTo _ _ _ _ _ hh'.2, if_neg (by omega)]
    exact h.sec

theorem Kept.lay {S : DS} {t : Nat} {xs : List Int} (h : Kept S t xs) (l : Lb) (h1 : plc l.t ≠ t) (h2 : plc l.t + 1 ≠ t) : Kept (layL S l).1 t xs := by
  unfold layL
  split
  · split
    · exact (h.write _ (by omega) _).write _ (by omega) _
    · exact h.write _ (by omega) _
  · exact h

theorem lay_flush {l : Lb} (hl : l.ok) (hm : l.may = true) : (layL (DS.new 16) l).2 = 0 ∧ (layL (DS.new 16) l).1.flush.2 = 0 ∧ Kept (layL (DS.new 16) l).1.flush.1 (plc l.t + 1) l.bytes ∧ (layL (DS.new 16) l).1.flush.1.ws = [] ∧ (layL (DS.new 16) l).1.ws.length = 2 := by
  have hp : plc l.t ≤ 2 := by unfold plc; omega
  have hx := Lb.bytes_len hl.p (Lb.may_parts hm).2
  rw [layL_on (S := DS.new 16) hl hm rfl rfl new16_len]
  have h2 : DS.flush { DS.new 16 with ws := (DS.new 16).ws ++ [(plc l.t, l.bytes)] ++ [(plc l.t + 1, l.bytes)], left := (DS.new 16).left } = ({ DS.new 16 with laid := layW (DS.new 16).laid [(plc l.t, l.bytes), (plc l.t + 1, l.bytes)] (fun _ => 256) 2, ws := [], left := 0 }, 0) := by
    unfold DS.flush
    rw [if_neg (by simp [DS.new]), if_pos (by rfl)]
    rfl
  rw [h2]
  have hw : ∀ q ∈ [(plc l.t, l.bytes), (plc l.t + 1, l.bytes)], q.1 < 16 ∧ q.2.length = 256 := by
    intro q hq
    simp at hq
    rcases hq with rfl | rfl
    · exact ⟨by simp only; omega, hx⟩
    · exact ⟨by simp only; omega, hx⟩
  have hlen := layW_length (n := 16) new16_len hw (fun _ => 256) 2 (Nat.le_refl _)
  refine ⟨rfl, rfl, ⟨rfl, rfl, ?_, ?_, fun q hq => by cases hq⟩, rfl, rfl⟩
  · simp only; rw [hlen]; exact new16_len
  · have hc : clamp 256 = 256 := by decide
    have hlen1 := layW_length (n := 16) new16_len hw (fun _ => 256) 1 (by simp)
    simp only
    rw [layW_succ]
    simp only [List.getD_cons_succ, List.getD_cons_zero, hc]
    rw [List.take_of_length_le (by omega), secOf_same (by rw [hlen1, new16_len]; omega) (by omega), List.drop_eq_nil_of_le (by rw [secOf_length (by rw [hlen1, new16_len]; omega)]; omega), List.append_nil]

def cnt (t : Nat) : Nat → Nat
  | 0 => 0
  | k + 1 => cnt t k + if plcd t k then 1 else 0
theorem cnt4 (t : Nat) : cnt t 4 = 2 := by
  have h : plc t = 0 ∨ plc t = 2 := by unfold plc; omega
  rcases h with h | h <;> simp [cnt, plcd, h]

theorem scan_count (S : DS) : ∀ k, (scanC S k).2 ≤ cnt (scanC S k).1.t k
  | 0 => Nat.le_refl _
  | k + 1 => by
    have ih := scan_count S k
    show (stepC k (readW S.laid S.ws k) (scanC S k)).2 ≤ cnt (stepC k (readW S.laid S.ws k) (scanC S k)).1.t k + (if plcd (stepC k (readW S.laid S.ws k) (scanC S k)).1.t k then 1 else 0)
    unfold stepC
    generalize decL (readW S.laid S.ws k) = d
    by_cases h1 : d.2 = 0
    · rw [if_neg (fun h => h h1)]
      cases h2 : plcd d.1.t k
      · rw [if_pos rfl]; omega
      · rw [if_neg (by decide)]
        by_cases h3 : (scanC S k).2 = 0
        · rw [if_pos h3]; simp only; rw [h2, if_pos rfl]; omega
        · rw [if_neg h3]
          by_cases h4 : (scanC S k).1.t < d.1.t
          · rw [if_pos h4]; simp only; rw [h2, if_pos rfl]; omega
          · rw [if_neg h4]
            by_cases h5 : d.1.t = (scanC S k).1.t
            · rw [if_pos h5]; simp only; rw [← h5, h2, if_pos rfl]; rw [h5]; omega
            · rw [if_neg h5]; omega
    · rw [if_pos h1]; omega

theorem scan_from (S : DS) : ∀ k, (scanC S k).2 ≠ 0 → ∃ i, i < k ∧ decL (readW S.laid S.ws i) = ((scanC S k).1, 0)
  | 0, h => absurd rfl h
  | k + 1, h => by
    have ih := scan_from S k
    have hstep : scanC S (k + 1) = stepC k (readW S.laid S.ws k) (scanC S k) := rfl
    have old : (scanC S k).2 ≠ 0 → (scanC S (k + 1)).1 = (scanC S k).1 → ∃ i, i < k + 1 ∧ decL (readW S.laid S.ws i) = ((scanC S (k + 1)).1, 0) := fun h1 h2 => by
      obtain ⟨i, hi, he⟩ := ih h1
      exact ⟨i, by omega, by rw [h2]; exact he⟩
    have new : (decL (readW S.laid S.ws k)).2 = 0 → (scanC S (k + 1)).1 = (decL (readW S.laid S.ws k)).1 → ∃ i, i < k + 1 ∧ decL (readW S.laid S.ws i) = ((scanC S (k + 1)).1, 0) := fun h1 h2 => ⟨k, by omega, by rw [h2, ← h1]⟩
    unfold stepC at hstep
    by_cases h1 : (decL (readW S.laid S.ws k)).2 = 0
    · rw [if_neg (fun h => h h1)] at hstep
      cases h2 : plcd (decL (readW S.laid S.ws k)).1.t k
      · rw [h2, if_pos rfl] at hstep
        rw [hstep] at h
        exact old h (by rw [hstep])
      · rw [h2, if_neg (by decide)] at hstep
        by_cases h3 : (scanC S k).2 = 0
        · rw [if_pos h3] at hstep; exact new h1 (by rw [hstep])
        · rw [if_neg h3] at hstep
          by_cases h4 : (scanC S k).1.t < (decL (readW S.laid S.ws k)).1.t
          · rw [if_pos h4] at hstep; exact new h1 (by rw [hstep])
          · rw [if_neg h4] at hstep
            by_cases h5 : (decL (readW S.laid S.ws k)).1.t = (scanC S k).1.t
            · rw [if_pos h5] at hstep; exact old h3 (by rw [hstep])
            · rw [if_neg h5] at hstep; exact old h3 (by rw [hstep])
    · rw [if_pos h1] at hstep
      rw [hstep] at h
      exact old h (by rw [hstep])

theorem stepC_pos {i : Nat} {xs : List Int} {s : Lb × Nat} (h : s.2 ≠ 0) : (stepC i xs s).2 ≠ 0 := by
  unfold stepC
  repeat' split
  all_goals first | exact h | (simp only; omega)
theorem stepC_new {i : Nat} {xs : List Int} {s : Lb × Nat} (h1 : (decL xs).2 = 0) (h2 : plcd (decL xs).1.t i = true) : (stepC i xs s).2 ≠ 0 := by
  unfold stepC
  rw [if_neg (fun h => h h1), if_neg (by rw [h2]; decide)]
  by_cases h3 : s.2 = 0
  · rw [if_pos h3]; simp
  · rw [if_neg h3]
    repeat' split
    all_goals first | exact h3 | (simp only; omega)
theorem scan_pos (S : DS) {i : Nat} (h1 : (decL (readW S.laid S.ws i)).2 = 0) (h2 : plcd (decL (readW S.laid S.ws i)).1.t i = true) : ∀ k, i < k → (scanC S k).2 ≠ 0
  | 0, h => absurd h (by omega)
  | k + 1, h => by
    by_cases hik : i = k
    · subst hik; exact stepC_new h1 h2
    · exact stepC_pos (scan_pos S h1 h2 k (by omega))

/-- What is chosen, if each label among the sectors is a, or has the number t. -/
theorem newest_pure {S : DS} {a : Lb} {t : Nat} (ha : a.ok) (hm : a.may = true) (hk : Kept S (plc a.t + 1) a.bytes)
    (hall : ∀ i, i < 4 → (decL (readW S.laid S.ws i)).2 = 0 → (decL (readW S.laid S.ws i)).1 = a ∨ (decL (readW S.laid S.ws i)).1.t = t) :
    ∃ x n, chooseL S = ((x, n), 0) ∧ 1 ≤ n ∧ n ≤ 2 ∧ (x = a ∨ x.t = t) := by
  have hp : plc a.t ≤ 2 := by unfold plc; omega
  have hr : readW S.laid S.ws (plc a.t + 1) = a.bytes := by rw [readW_none hk.ne, hk.sec]
  have hd := decL_bytes ha hm
  have hpos : (scanC S 4).2 ≠ 0 := scan_pos S (i := plc a.t + 1) (by rw [hr, hd]) (by rw [hr, hd]; unfold plcd; simp) 4 (by omega)
  have hcnt := scan_count S 4
  rw [cnt4] at hcnt
  obtain ⟨i, hi, he⟩ := scan_from S 4 hpos
  refine ⟨(scanC S 4).1, (scanC S 4).2, ?_, by omega, hcnt, ?_⟩
  · unfold chooseL
    rw [if_neg (by rw [hk.off]; decide), if_neg hpos]
  · have := hall i hi (by rw [he])
    rw [he] at this
    exact this

end Go.Proofs.YthbcphalokoknaaDoor
