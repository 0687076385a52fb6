/-
  Package label: bytes.Equal, noughts, Places, placed.
-/
import Derived.Test.YteocmmmnfbabaaaDoorLbBase
import Derived.Test.YteocmmmnfbabaaaDoorDisk2
import Derived.Test.YteocmmmnfbabaaaDoorRef4
namespace Go.Proofs.YteocmmmnfbabaaaDoor
set_option linter.unusedSimpArgs false
set_option linter.unusedVariables false
set_option maxRecDepth 100000
open Go.RowKit

theorem str_inj {xs ys : List Int} (hx : ∀ x ∈ xs, 0 ≤ x ∧ x ≤ 255) (hy : ∀ x ∈ ys, 0 ≤ x ∧ x ≤ 255) (h : strOfNums xs = strOfNums ys) : xs = ys := by
  have h1 := strCells_nums hx
  rw [h, strCells_nums hy] at h1
  exact ((List.map_inj_right (fun a b h => by injection h)).1 h1).symm

theorem str_beq {xs ys : List Int} (hx : ∀ x ∈ xs, 0 ≤ x ∧ x ≤ 255) (hy : ∀ x ∈ ys, 0 ≤ x ∧ x ≤ 255) : ((strOfNums xs).toList == (strOfNums ys).toList) = decide (xs = ys) := by
  by_cases h : xs = ys
  · subst h; simp
  · have h1 : (strOfNums xs).toList ≠ (strOfNums ys).toList := fun h' => h (str_inj hx hy (by rw [ByteArray.toList_eq, ByteArray.toList_eq] at h'; exact ByteArray.ext (Array.ext' h')))
    rw [decide_eq_false h]
    simpa using h1

theorem equal_run (a a' : Option Addr) (c c' n n' : Nat) (xs ys : List Int) (w : World) (hn : n = xs.length) (hn' : n' = ys.length) (hB : Bs w a c xs) (hB' : Bs w a' c' ys) :
    Calls Tryd.prog 41 #[.slice a n c, .slice a' n' c'] w fun e w' => e = .returned (.bool (decide (xs = ys))) ∧ w' = w := by
  subst hn hn'
  have h1 := hB.conv (P := Tryd.prog) xs.length rfl 27 5 Tryd.underlying27 Tryd.underlying5 9 Tryd.underlying9
  have h2 := hB'.conv (P := Tryd.prog) ys.length rfl 27 5 Tryd.underlying27 Tryd.underlying5 9 Tryd.underlying9
  go_enter Tryd.func41, Tryd.ntmps41
  go_wp2
  go_ret
  exact ⟨by rw [str_beq hB.rng hB'.rng]; rfl, rfl⟩

theorem noughts_run7 (a : Option Addr) (c n : Nat) (xs : List Int) (w : World) (hn : n = xs.length) (hm : n ≤ 1000000) (hB : Bs w a c xs) :
    Calls Tryd.prog 43 #[.slice a n c] w fun e w' => e = .returned (.bool (decide (xs = List.replicate n 0))) ∧ Below w.heap.size w w' := by
  obtain ⟨i0, hi, hz0, hz1, hz2⟩ := info_parts Tryd.info5
  have HN : Hid (n = xs.length) := hn
  have hrl : (List.replicate n (0 : Int)).length = n := List.length_replicate
  clear hn
  go_enter Tryd.func43, Tryd.ntmps43
  go_wp2_with (first
    | (refine wpList_make_bytes (w0 := w) (by rfl) (.tmp 5) (.tmp 5) 27 (by rfl) w.heap.size 5 i0 Tryd.underlying27 hi hz0 hz1 hz2 .i64 .i64 n n n (by rfl) (by rfl) (by rfl) (by rfl) (by omega) (Nat.le_refl _) (Below.refl _ _) ?_
       intro w1 hO1 hb1
       have hZ1 : Bs w1 (some ⟨w.heap.size, 0, none⟩) n (List.replicate n 0) := by
         have := hO1.bs (rng_zeros n) (by rw [hrl]; unfold maxLen; omega)
         rwa [hrl] at this
       have hE := equal_run a (some ⟨w.heap.size, 0, none⟩) c n n n xs (List.replicate n 0) w1 HN.out hrl.symm (hB.stays hb1) hZ1)
    | (go_at_call 41; go_must (refine hE.mono ?_); rintro e w1 ⟨rfl, rfl⟩))
  go_ret
  exact ⟨rfl, hb1⟩

/-- The places of a number. -/
def plc (t : Nat) : Nat := 2 * (t % 2)
def placesV (t : Nat) : List Value := [.int .i64 ((plc t : Nat) : Int), .int .i64 ((plc t + 1 : Nat) : Int)]
theorem alloc_two0 (w : World) : (Instr.alloc 34 true (.tuple #[])).run Tryd.prog w = .ok (.pointer (some ⟨w.heap.size, 0, none⟩)) (w.alloc (.cells [Value.int .i64 0, .int .i64 0].toArray 34)) := by kernel_rfl
theorem build_two (x y : Int) (w : World) : (Instr.build 34 [(0, Value.int .i64 x), (1, Value.int .i64 y)].toArray).run Tryd.prog w = .ok (.agg [Value.int .i64 x, .int .i64 y].toArray) w := by kernel_rfl

theorem places_run (t : Nat) (ht : t < 4294967296) (w : World) : Calls Tryd.prog 11 #[.int .u32 (t : Int)] w fun e w' => e = .returned (.agg (placesV t).toArray) ∧ Below w.heap.size w w' := by
  unfold placesV plc
  rcases Nat.mod_two_eq_zero_or_one t with h | h
  · have h2 : ((t : Int) % 2 == 0) = true := by simp; omega
    rw [h]
    go_enter Tryd.func11, Tryd.ntmps11
    go_wp2_with (first
      | (refine wpList_alloc0 (by rfl) 34 (by rfl) (some 2) (by rfl) _ alloc_two0 ?_; intro w1 hR1 hb1 hs1)
      | (refine wpList_store_blk (by rfl) (.tmp 2) (.tmp 6) 34 (by rfl) _ 0 2 (by rfl) [.int .i64 0, .int .i64 1] (by rfl) size_two hR1 (by rfl) (by decide) (by decide) _ (whole_store (by rfl)) ?_
         intro w2 hR2 hbut2 hs2))
    refine bodyPost_ret_blk rfl rfl (by rfl) agg_two size_two hR2 (by rfl) ⟨?_, ?_⟩
    · rfl
    · exact hb1.trans (hbut2.below (Nat.le_refl _) hb1.size)
  · have h2 : ((t : Int) % 2 == 0) = false := by simp; omega
    rw [h]
    go_enter Tryd.func11, Tryd.ntmps11
    go_wp2_with (first
      | (refine wpList_alloc0 (by rfl) 34 (by rfl) (some 2) (by rfl) _ alloc_two0 ?_; intro w1 hR1 hb1 hs1)
      | (refine wpList_store_blk (by rfl) (.tmp 2) (.tmp 7) 34 (by rfl) _ 0 2 (by rfl) [.int .i64 2, .int .i64 3] (by rfl) size_two hR1 (by rfl) (by decide) (by decide) _ (whole_store (by rfl)) ?_
         intro w2 hR2 hbut2 hs2))
    refine bodyPost_ret_blk rfl rfl (by rfl) agg_two size_two hR2 (by rfl) ⟨?_, ?_⟩
    · rfl
    · exact hb1.trans (hbut2.below (Nat.le_refl _) hb1.size)


theorem rplaces_run (t : Nat) (ht : t < 4294967296) (w : World) : Calls Tryd.prog 12 #[.int .u32 (t : Int)] w fun e w' => e = .returned (.agg (placesV t).toArray) ∧ Below w.heap.size w w' := by
  unfold placesV plc
  rcases Nat.mod_two_eq_zero_or_one t with h | h
  · have h2 : ((t : Int) % 2 == 0) = true := by simp; omega
    rw [h]
    go_enter Tryd.func12, Tryd.ntmps12
    go_wp2_with (first
      | (refine wpList_alloc0 (by rfl) 34 (by rfl) (some 2) (by rfl) _ alloc_two0 ?_; intro w1 hR1 hb1 hs1)
      | (refine wpList_store_blk (by rfl) (.tmp 2) (.tmp 6) 34 (by rfl) _ 0 2 (by rfl) [.int .i64 0, .int .i64 1] (by rfl) size_two hR1 (by rfl) (by decide) (by decide) _ (whole_store (by rfl)) ?_
         intro w2 hR2 hbut2 hs2))
    refine bodyPost_ret_blk rfl rfl (by rfl) agg_two size_two hR2 (by rfl) ⟨?_, ?_⟩
    · rfl
    · exact hb1.trans (hbut2.below (Nat.le_refl _) hb1.size)
  · have h2 : ((t : Int) % 2 == 0) = false := by simp; omega
    rw [h]
    go_enter Tryd.func12, Tryd.ntmps12
    go_wp2_with (first
      | (refine wpList_alloc0 (by rfl) 34 (by rfl) (some 2) (by rfl) _ alloc_two0 ?_; intro w1 hR1 hb1 hs1)
      | (refine wpList_store_blk (by rfl) (.tmp 2) (.tmp 7) 34 (by rfl) _ 0 2 (by rfl) [.int .i64 2, .int .i64 3] (by rfl) size_two hR1 (by rfl) (by decide) (by decide) _ (whole_store (by rfl)) ?_
         intro w2 hR2 hbut2 hs2))
    refine bodyPost_ret_blk rfl rfl (by rfl) agg_two size_two hR2 (by rfl) ⟨?_, ?_⟩
    · rfl
    · exact hb1.trans (hbut2.below (Nat.le_refl _) hb1.size)

def plcd (t i : Nat) : Bool := i == plc t || i == plc t + 1

theorem placed_run (l : Lb) (hl : l.ok) (a : Option Addr) (c i : Nat) (hi : i < 4) (w : World) :
    Calls Tryd.prog 59 #[.agg (l.vs a c).toArray, .int .i64 (i : Int)] w fun e w' => e = .returned (.bool (plcd l.t i)) ∧ Below w.heap.size w w' := by
  obtain ⟨vs, hvs⟩ : ∃ vs, vs = l.vs a c := ⟨_, rfl⟩
  have hvl : vs.length = 37 := by rw [hvs]; exact Lb.vs_len hl.p a c
  have HT : Hid (vs[0]? = some (.int .u32 (l.t : Int))) := by show _ = _; rw [hvs]; exact Lb.vs_txg l a c
  have hpl := places_run l.t hl.t
  obtain ⟨q, hq⟩ : ∃ q, q = plc l.t := ⟨_, rfl⟩
  have hq4 : q < 4 := by rw [hq]; unfold plc; omega
  unfold placesV at hpl
  unfold plcd
  rw [← hvs, ← hq]
  rw [← hq] at hpl
  clear hvs hq
  have e1 : ((i : Int) == (q : Int)) = (i == q) := natbeq i q
  have e2 : ((i : Int) == ((q + 1 : Nat) : Int)) = (i == q + 1) := natbeq i (q + 1)
  obtain ⟨q1, hq1⟩ : ∃ q1 : Nat, q1 = q + 1 := ⟨_, rfl⟩
  rw [← hq1] at hpl e2 ⊢
  clear hq1
  cases hb : (i == q) <;> rw [hb] at e1
  · go_enter Tryd.func59, Tryd.ntmps59
    go_wp2_with (first
      | (refine wpList_box0 (by rfl) 29 (.tmp 0) (by rfl) vs (by rfl) ?_; intro w1 hL1 hb1 hs1
         have hc0 : w1.cell? ⟨w.heap.size, 0, none⟩ = some (.int .u32 (l.t : Int)) := (hL1.cell 0).trans HT.out)
      | (go_at_call 11; go_must (refine (hpl _).mono ?_); rintro e w2 ⟨rfl, hb2⟩)
      | (refine wpList_alloc0 (by rfl) 34 (by rfl) (some 5) (by rfl) _ alloc_two0 ?_; intro w3 hR3 hb3 hs3)
      | (refine wpList_store_blk (by rfl) (.tmp 5) (.tmp 8) 34 (by rfl) _ 0 2 (by rfl) _ (by rfl) size_two hR3 (by rfl) (by decide) (by simp [Value.oneCell']) _ (whole_store (by rfl)) ?_
         intro w4 hR4 hbut4 hs4
         have hx0 := hR4.cell 0
         have hx1 := hR4.cell 1
         simp only [List.getElem?_cons_zero, List.getElem?_cons_succ] at hx0 hx1))
    go_ret
    exact ⟨by simp [e2], (below_then (below_then hb1 hb2) hb3).trans (hbut4.below (by have := hb1.size; have := hb2.size; omega) (below_then (below_then hb1 hb2) hb3).size)⟩
  · go_enter Tryd.func59, Tryd.ntmps59
    go_wp2_with (first
      | (refine wpList_box0 (by rfl) 29 (.tmp 0) (by rfl) vs (by rfl) ?_; intro w1 hL1 hb1 hs1
         have hc0 : w1.cell? ⟨w.heap.size, 0, none⟩ = some (.int .u32 (l.t : Int)) := (hL1.cell 0).trans HT.out)
      | (go_at_call 11; go_must (refine (hpl _).mono ?_); rintro e w2 ⟨rfl, hb2⟩)
      | (refine wpList_alloc0 (by rfl) 34 (by rfl) (some 5) (by rfl) _ alloc_two0 ?_; intro w3 hR3 hb3 hs3)
      | (refine wpList_store_blk (by rfl) (.tmp 5) (.tmp 8) 34 (by rfl) _ 0 2 (by rfl) _ (by rfl) size_two hR3 (by rfl) (by decide) (by simp [Value.oneCell']) _ (whole_store (by rfl)) ?_
         intro w4 hR4 hbut4 hs4
         have hx0 := hR4.cell 0
         have hx1 := hR4.cell 1
         simp only [List.getElem?_cons_zero, List.getElem?_cons_succ] at hx0 hx1))
    go_ret
    exact ⟨by simp, (below_then (below_then hb1 hb2) hb3).trans (hbut4.below (by have := hb1.size; have := hb2.size; omega) (below_then (below_then hb1 hb2) hb3).size)⟩

end Go.Proofs.YteocmmmnfbabaaaDoor
