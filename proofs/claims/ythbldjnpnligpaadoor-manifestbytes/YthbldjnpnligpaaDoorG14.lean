/-
  The document's Bytes.
-/
import Derived.Test.YthbldjnpnligpaaDoorG13
namespace Go.Proofs.YthbldjnpnligpaaDoor
set_option linter.unusedSimpArgs false
set_option linter.unusedVariables false
set_option maxRecDepth 100000
open Go.RowKit

section
variable {g c : Nat} {l : List Bool}

end
end Go.Proofs.YthbldjnpnligpaaDoor

/-
  The document's New, Give and Keep.
-/

namespace Go.Proofs.YthbldjnpnligpaaDoor
set_option linter.unusedSimpArgs false
set_option linter.unusedVariables false
set_option maxRecDepth 100000
open Go.RowKit

theorem agg_rmap (w : World) : (isAgg 33).run Tryd.prog w = .ok true w := by kernel_rfl
theorem size_rmap (w : World) : (sizeOf 33).run Tryd.prog w = .ok 1 w := sizeOf_run (by kernel_rfl) w
theorem alloc_rmap (w : World) : (Instr.alloc 33 true (.tuple #[])).run Tryd.prog w = .ok (.pointer (some ⟨w.heap.size, 0, none⟩)) (w.alloc (.cells [Value.slice none 0 0].toArray 33)) := by kernel_rfl
theorem build_rmap (a : Option Addr) (n c : Nat) (w : World) : (Instr.build 33 #[(0, .slice a n c)]).run Tryd.prog w = .ok (.agg [Value.slice a n c].toArray) w := by kernel_rfl
theorem boolInfo : ∃ i, Tryd.prog.info? 4 = some i ∧ i.zero = some (.bool false) ∧ i.size = 1 ∧ i.bytes = 1 := ⟨_, rfl, rfl, rfl, rfl⟩

/-- make([]bool, n). -/
theorem wpList_make_bools {w : World} {ops : Array Oper} {rest : List Oper} {o : Oper} {a : Act} {Q : Exit → Act → World → Prop}
    (hg : o.guard = none) (l c : Operand) (hop : o.op = Op.makeSlice 31 l c) (n : Nat) (hl : a.eval l = .int .i64 (n : Int)) (hc : a.eval c = .int .i64 (n : Int)) (hn : n ≤ 512)
    (hK : ∀ w', Tr w' w.heap.size n (lab n 0) → Below w.heap.size w w' → wpList Tryd.prog ops Q rest (a.put o.dst (.slice (some ⟨w.heap.size, 0, none⟩) n n)) w') :
    wpList Tryd.prog ops Q (o :: rest) a w := by
  obtain ⟨i, hi, hz, hs, hb⟩ := boolInfo
  refine wpList_make_full w hg l c 31 hop w.heap.size 4 i (.bool false) 1 Tryd.underlying31 hi hz hs .i64 .i64 _ _ n hl hc rfl rfl (by rw [hb]; omega) (by unfold maxLen; omega) (Nat.le_refl _) ?_
  intro w' hown hgr
  refine hK w' ?_ ((Below.refl _ w).grown hgr (Nat.le_refl _) (by simp))
  rcases hown.2 with ⟨h, _⟩ | ⟨g, cap, cur, hv, hg, hh, h1, h2, h3, h4⟩
  · simp at h
  · simp only [Value.slice.injEq, Option.some.injEq, Addr.mk.injEq, and_true, true_and] at hv
    obtain ⟨h5, h6⟩ := hv
    subst h5 h6
    refine ⟨[], ?_, by rw [lab_len]; simp, h2⟩
    unfold Blk
    rw [hh]
    congr 2
    have : cur.toList = List.replicate n (Value.bool false) := by
      have e1 : cur.toList.take (n * 1) = cur.toList := List.take_of_length_le (by simp [h3])
      rw [← e1, h4]
      have e2 : (Value.bool false).cells = #[.bool false] := rfl
      rw [e2, Nat.mul_one, toList_madeCells_one]
    have hl0 : (lab n 0).map Value.bool = List.replicate n (Value.bool false) := by
      refine List.ext_getElem (by simp [lab_len]) fun j h1 h2 => ?_
      simp [lab]
    rw [List.append_nil, hl0, ← this]

theorem one_slice (a : Option Addr) (n c : Nat) : ∀ v ∈ [Value.slice a n c], v.oneCell' = true := by simp; rfl

theorem srnew_run (n : Nat) (h16 : 16 ≤ n) (h512 : n ≤ 512) (w : World) : Calls Tryd.prog 49 #[.int .i64 (n : Int)] w fun e w' =>
    ∃ q c, e = .returned (.tuple #[.agg #[.slice (some ⟨q, 0, none⟩) n c], .int .i64 0]) ∧ Tr w' q c (lab n 4) ∧ w.heap.size ≤ q ∧ Below w.heap.size w w' := by
  have hz1 : [Value.slice none 0 0].length = 1 := rfl
  have hz2 : ∀ a n c, [Value.slice a n c].length = 1 := fun _ _ _ => rfl
  go_enter Tryd.func49, Tryd.ntmps49
  go_wp2_with (first
    | (refine wpList_alloc0 (by rfl) 33 (by rfl) (some 2) (by rfl) _ alloc_rmap ?_; intro w1 hP1 hb1 hs1)
    | (refine wpList_make_bools (by rfl) (.tmp 13) (.tmp 13) (by rfl) n (by rfl) (by rfl) h512 ?_; intro w2 hT2 hb2))
  have hP2 := hP1.stays hb2
  have hX2 : Below w.heap.size w w2 := hb1.trans (hb2.mono (by omega))
  rw [hs1] at hT2
  clear hP1 hb1 hb2 hs1
  go_loopw [5] (fun i wr => ∃ k : Nat, k ≤ 4 ∧ i = .int .i64 k ∧ Tr wr (w.heap.size + 1) n (lab n k) ∧ Blk 33 wr w.heap.size [.slice none 0 0] ∧ Below w.heap.size w wr) (fun i _ => 4 - (intOf i).toNat)
  case atStart => exact ⟨0, by omega, rfl, hT2, hP2, hX2⟩
  case round =>
    rename_i hrel
    obtain ⟨k, hk, rfl, hT, hP, hbr⟩ := hrel
    clear hT2 hP2 hX2
    have hsz := hbr.size
    by_cases hlt : k < 4
    · have hck := hT.cell k (by rw [lab_len]; omega)
      have hfr := hT.free k
      have hix := index_tr (w.heap.size + 1) n n k (by omega) .i64
      have hT3 := hT.set k (by rw [lab_len]; omega) true
      rw [lab_next n k (by omega)] at hT3
      have hP3 : Blk 33 (wr.setCell ⟨w.heap.size + 1, k, none⟩ (.bool true)) w.heap.size [.slice none 0 0] := hP.but ((But.refl _ wr).setCell k (.bool true)) (by omega)
      have hb3 : Below w.heap.size w (wr.setCell ⟨w.heap.size + 1, k, none⟩ (.bool true)) := hbr.setCell (by simp) _
      have HT3 : Hid _ := hT3
      have HP3 : Hid _ := hP3
      have HB3 : Hid _ := hb3
      clear hT hP hbr hT3 hP3 hb3
      go_wp2
      go_roundw
      case rel => exact ⟨k + 1, by omega, by go_num, HT3.out, HP3.out, HB3.out⟩
      case measure => simp [intOf]; omega
    · have hk4 : k = 4 := by omega
      subst hk4
      go_wp2_with (first
        | (refine wpList_build (by rfl) 33 [(0, .tmp 22)] (by rfl) [(0, .slice (some ⟨w.heap.size + 1, 0, none⟩) n n)] (by rfl) _ (build_rmap _ _ _) ?_)
        | (refine wpList_store_blk (by rfl) (.tmp 2) (.tmp 23) 33 (by rfl) w.heap.size 0 1 (by rfl) [.slice (some ⟨w.heap.size + 1, 0, none⟩) n n] (by rfl) size_rmap hP (hz2 _ _ _) (by simp) (one_slice _ _ _) _ (whole_store hz1) ?_; intro w3 hP3 hbut3 hs3))
      exact bodyPost_ret_blk2 rfl rfl (by rfl) (by rfl) agg_rmap size_rmap hP3 (hz2 _ _ _) ⟨_, n, rfl, hT.but hbut3 (by omega), by omega, hbr.trans (hbut3.below (Nat.le_refl _) hsz)⟩
end Go.Proofs.YthbldjnpnligpaaDoor

/-
  The document's Give and Keep.
-/

namespace Go.Proofs.YthbldjnpnligpaaDoor
set_option linter.unusedSimpArgs false
set_option linter.unusedVariables false
set_option maxRecDepth 100000
open Go.RowKit

section
variable {g c : Nat} {l : List Bool}

end
end Go.Proofs.YthbldjnpnligpaaDoor
