/-
  The document's answer for package sha: Text.
-/
import Derived.Test.YtolgbmljjikooaaDoorText
import Derived.Deep.QuietTactic
import Derived.BigQuiet
namespace Go.Proofs.YtolgbmljjikooaaDoor
set_option linter.unusedSimpArgs false
set_option linter.unusedVariables false
open Go.RowKit

theorem digit_cut {P : Program} {t : TypeId} (ht : P.underlying t = some .string) (k k1 : Nat) (hk : k < 16) (h1 : k1 = k + 1) (K : IntKind) (w : World) :
    (Instr.slice t (.string digitStr) (some (.int K (k : Int))) (some (.int K (k1 : Int))) none).run P w = .ok (.string (strOfNums [((hexd k : Nat) : Int)])) w := by
  subst h1
  have h0 : (0 : Int) ≤ (k : Int) ∧ (k : Int) ≤ ((k + 1 : Nat) : Int) := by omega
  have h2 : (0 : Int) ≤ ((k + 1 : Nat) : Int) ∧ ((k + 1 : Nat) : Int) ≤ ((16 : Nat) : Int) := by omega
  have hs : digitStr.size = 16 := rfl
  have he : digitStr.extract k (k + 1) = strOfNums [((hexd k : Nat) : Int)] := by
    have : k = 0 ∨ k = 1 ∨ k = 2 ∨ k = 3 ∨ k = 4 ∨ k = 5 ∨ k = 6 ∨ k = 7 ∨ k = 8 ∨ k = 9 ∨ k = 10 ∨ k = 11 ∨ k = 12 ∨ k = 13 ∨ k = 14 ∨ k = 15 := by omega
    rcases this with rfl | rfl | rfl | rfl | rfl | rfl | rfl | rfl | rfl | rfl | rfl | rfl | rfl | rfl | rfl | rfl <;> decide +kernel
  have hr := run_slice_string (P := P) w t digitStr K K (k : Int) ((k + 1 : Nat) : Int) ht (by omega) (by omega) (by rw [hs]; omega)
  rw [hr]
  have e1 : (k : Int).toNat = k := by omega
  have e2 : (((k + 1 : Nat) : Int)).toNat = k + 1 := by omega
  rw [e1, e2, he]

theorem str_append (xs ys : List Int) : strOfNums xs ++ strOfNums ys = strOfNums (xs ++ ys) := by
  apply ByteArray.ext
  simp [strOfNums, ByteArray.data_append]

set_option maxRecDepth 100000 in
set_option maxHeartbeats 1000000 in
theorem rtext_run (hs : List Int) (hl : hs.length = 32) (hb : ∀ x ∈ hs, 0 ≤ x ∧ x ≤ 255) (w : World) :
    Calls Tryd.prog 10 #[.agg (hs.map (Value.int .u8)).toArray] w fun e w' => e = .returned (.string (strOfNums (textOf hs))) ∧ Below w.heap.size w w' := by
  go_enter Tryd.func10, Tryd.ntmps10
  go_wp2
  go_loopw [4, 5] (fun v i wr => ∃ k : Nat, k ≤ 4 ∧ i = .int .i64 k ∧ v = .string (strOfNums ((hs.take k).flatMap hexs)) ∧ Arr .u8 23 wr w.heap.size hs ∧ Below w.heap.size w wr) (fun _ i _ => 4 - (intOf i).toNat)
  case atStart => exact ⟨0, by omega, rfl, rfl, Arr.new rfl, (Below.refl _ _).alloc (Nat.le_refl _) _⟩
  case round =>
    rename_i hrel
    obtain ⟨k, hk, rfl, rfl, hA, hbel⟩ := hrel
    by_cases hlt : k < 4
    · obtain ⟨x, hx⟩ : ∃ x : Nat, hs.getD k 0 = (x : Int) ∧ x < 256 := by
        have h1 : k < hs.length := by omega
        have h2 := hb (hs[k]) (List.getElem_mem h1)
        refine ⟨(hs[k]).toNat, ?_, by omega⟩
        simp [List.getD, h1]; omega
      obtain ⟨hx, lx⟩ := hx
      have hc : wr.cell? ⟨w.heap.size, k, none⟩ = some (.int .u8 (x : Int)) := by rw [hA.cell k (by omega), hx]
      obtain ⟨a1, ha1⟩ : ∃ y, y = x / 16 := ⟨_, rfl⟩
      obtain ⟨a2, ha2⟩ : ∃ y, y = x % 16 := ⟨_, rfl⟩
      obtain ⟨b1, hb1⟩ : ∃ y, y = a1 + 1 := ⟨_, rfl⟩
      obtain ⟨b2, hb2⟩ : ∃ y, y = a2 + 1 := ⟨_, rfl⟩
      have e1 : (x : Int).tdiv 16 = (a1 : Int) := by rw [Int.tdiv_eq_ediv_of_nonneg (by omega)]; omega
      have e1' : (x : Int) / 16 = (a1 : Int) := by omega
      have e2 : (x : Int).tmod 16 = (a2 : Int) := by rw [Int.tmod_eq_emod_of_nonneg (by omega)]; omega
      have e2' : (x : Int) % 16 = (a2 : Int) := by omega
      have e3 : IntKind.u8.wrap ((a1 : Int) + 1) = (b1 : Int) := by simp [IntKind.wrap, IntKind.bits, IntKind.signed]; omega
      have e4 : IntKind.u8.wrap ((a2 : Int) + 1) = (b2 : Int) := by simp [IntKind.wrap, IntKind.bits, IntKind.signed]; omega
      have e5 : IntKind.u8.wrap (a1 : Int) = (a1 : Int) := by simp [IntKind.wrap, IntKind.bits, IntKind.signed]; omega
      have e6 : IntKind.u8.wrap (a2 : Int) = (a2 : Int) := by simp [IntKind.wrap, IntKind.bits, IntKind.signed]; omega
      obtain ⟨s1, hs1⟩ : ∃ s, s = strOfNums [((hexd a1 : Nat) : Int)] := ⟨_, rfl⟩
      obtain ⟨s2, hs2⟩ : ∃ s, s = strOfNums [((hexd a2 : Nat) : Int)] := ⟨_, rfl⟩
      have i1 : ∀ w, (Instr.slice 9 (.string ⟨#[48, 49, 50, 51, 52, 53, 54, 55, 56, 57, 97, 98, 99, 100, 101, 102]⟩) (some (.int .u8 (a1 : Int))) (some (.int .u8 (b1 : Int))) none).run Tryd.prog w = .ok (.string s1) w := fun w => hs1 ▸ digit_cut Tryd.underlying9 a1 b1 (by omega) hb1 .u8 w
      have i2 : ∀ w, (Instr.slice 9 (.string ⟨#[48, 49, 50, 51, 52, 53, 54, 55, 56, 57, 97, 98, 99, 100, 101, 102]⟩) (some (.int .u8 (a2 : Int))) (some (.int .u8 (b2 : Int))) none).run Tryd.prog w = .ok (.string s2) w := fun w => hs2 ▸ digit_cut Tryd.underlying9 a2 b2 (by omega) hb2 .u8 w
      obtain ⟨S, hS⟩ : ∃ S, S = strOfNums ((hs.take k).flatMap hexs) := ⟨_, rfl⟩
      rw [← hS]
      have HX : Hid (strOfNums ((hs.take (k + 1)).flatMap hexs) = S ++ s1 ++ s2) := by
        unfold Hid
        have h1 : k < hs.length := by omega
        have h2 : hs[k] = (x : Int) := by simpa [List.getD, h1] using hx
        rw [hS, hs1, hs2, str_append, str_append, List.take_add_one, List.getElem?_eq_getElem h1, List.flatMap_append, h2, ha1, ha2]
        simp [hexs]
      have hSs : S.size ≤ 8 := by rw [hS, strOfNums_size, flat_hexs_len, List.length_take]; omega
      have h1s : s1.size = 1 := by rw [hs1]; rfl
      have h2s : s2.size = 1 := by rw [hs2]; rfl
      have z1 : ¬ (9223372036854775807 < S.size + s1.size) := by omega
      have z1' : (S.size + s1.size > 9223372036854775807) = False := eq_false (by omega)
      have hap : (S ++ s1).size = S.size + s1.size := ByteArray.size_append
      have z2 : ((S ++ s1).size + s2.size > 9223372036854775807) = False := eq_false (by omega)
      have z3 : (S.size + s1.size + s2.size > 9223372036854775807) = False := eq_false (by omega)
      have z4 : ¬ (9223372036854775807 < S.size + s1.size + s2.size) := by omega
      have z5 : ¬ (9223372036854775807 < (S ++ s1).size + s2.size) := by omega
      have z6 : ¬ (9223372036854775807 < S.size + 1) := by omega
      have z7 : ¬ (9223372036854775807 < S.size + 1 + 1) := by omega
      clear hap
      have bk : (k : Int) < 32 := by omega
      clear ha1 ha2 hb1 hb2 hs1 hs2 hS hx
      go_wp2
      go_quiet (fail)
      go_wp2
      go_roundw
      case rel => exact ⟨k + 1, by omega, by go_num, by rw [HX.out], hA, below_drewN hbel _⟩
      case measure => simp [intOf]; omega
    · have e4 : (hs.take k).flatMap hexs = textOf hs := by rw [show k = 4 by omega]; rfl
      rw [e4]
      go_wp2
      go_ret
      exact ⟨rfl, hbel⟩
end Go.Proofs.YtolgbmljjikooaaDoor
