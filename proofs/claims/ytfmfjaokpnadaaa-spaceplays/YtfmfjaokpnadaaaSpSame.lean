/-
  Like numbers are alike.
-/
import Derived.Test.YtfmfjaokpnadaaaSpTake
namespace Go.Proofs.Ytfmfjaokpnadaaa
set_option linter.unusedSimpArgs false
set_option linter.unusedVariables false
open Go.RowKit

set_option maxHeartbeats 2000000 in
theorem same_run (a1 a2 : Option Addr) (c1 c2 m : Nat) (xs : List Nat) (w : World) (h1 : Us w a1 xs) (h2 : Us w a2 xs) (hm : m = xs.length) (hl : m ≤ 1000) :
    Calls Try.prog 18 #[.slice a1 m c1, .slice a2 m c2] w fun e w' => e = .returned (.bool true) ∧ Below w.heap.size w w' := by
  have HU1 : Hid (∀ j u, j < m → Below w.heap.size w u → ∃ b off, a1 = some ⟨b, off, none⟩ ∧ u.cell? ⟨b, off + j, none⟩ = some (.int .u32 ((xs.getD j 0 : Nat) : Int))) := fun j u hj hu => by
    rcases (h1.stays hu).lay with h0 | ⟨b, off, h3, h4⟩
    · rw [h0] at hm; simp at hm; omega
    · exact ⟨b, off, h3, h4 j (by omega)⟩
  have HU2 : Hid (∀ j u, j < m → Below w.heap.size w u → ∃ b off, a2 = some ⟨b, off, none⟩ ∧ u.cell? ⟨b, off + j, none⟩ = some (.int .u32 ((xs.getD j 0 : Nat) : Int))) := fun j u hj hu => by
    rcases (h2.stays hu).lay with h0 | ⟨b, off, h3, h4⟩
    · rw [h0] at hm; simp at hm; omega
    · exact ⟨b, off, h3, h4 j (by omega)⟩
  have HRN : Hid (∀ j, j < m → xs.getD j 0 < 4294967296) := fun j hj => h1.rng _ (by simp [List.getD, show j < xs.length by omega])
  clear h1 h2 hm
  go_enter Try.func18, Try.ntmps18
  go_wp2
  go_loopw [5] (fun x wr => ∃ j : Nat, j ≤ m ∧ x = .int .i64 j ∧ Below w.heap.size w wr) (fun x _ => m - (intOf x).toNat)
  case atStart => exact ⟨0, by omega, rfl, Below.refl _ _⟩
  case round =>
    rename_i hrel
    obtain ⟨j, hj, rfl, hbr⟩ := hrel
    by_cases hlt : j < m
    · obtain ⟨b1, o1, ha1, hc1⟩ := HU1.out j wr hlt hbr
      obtain ⟨b2, o2, ha2, hc2⟩ := HU2.out j wr hlt hbr
      have hix1 : ∀ u : World, (Instr.indexAt 33 (.slice a1 m c1) (.int .i64 (j : Int))).run Try.prog u = .ok (.pointer (some ⟨b1, o1 + j, none⟩)) u := fun u => by
        rw [ha1]; exact index_run 33 32 Try.underlying33 sizes32 elem32 b1 o1 m c1 .i64 j hlt u
      have hix2 : ∀ u : World, (Instr.indexAt 33 (.slice a2 m c2) (.int .i64 (j : Int))).run Try.prog u = .ok (.pointer (some ⟨b2, o2 + j, none⟩)) u := fun u => by
        rw [ha2]; exact index_run 33 32 Try.underlying33 sizes32 elem32 b2 o2 m c2 .i64 j hlt u
      obtain ⟨x, hx⟩ : ∃ x, x = xs.getD j 0 := ⟨_, rfl⟩
      rw [← hx] at hc1 hc2
      clear hx ha1 ha2
      go_wp2
      go_quiet (fail)
      go_wp2
      go_roundw
      case rel => exact ⟨j + 1, by omega, by go_num, hbr.trans ((below_drewN _ _).mono hbr.size)⟩
      case measure => simp [intOf]; omega
    · have hjm : j = m := by omega
      subst hjm
      go_wp2
      go_ret
      exact ⟨rfl, hbr⟩
end Go.Proofs.Ytfmfjaokpnadaaa
