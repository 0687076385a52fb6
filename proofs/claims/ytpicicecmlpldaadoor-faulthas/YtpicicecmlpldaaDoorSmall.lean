/-
  The statements' own helpers: which operations are asked about, the fault that is made of them, and the live question.
-/
import Derived.Test.YtpicicecmlpldaaDoorText
import Derived.Test.YtpicicecmlpldaaDoorStrs
namespace Go.Proofs.YtpicicecmlpldaaDoor
set_option linter.unusedSimpArgs false
set_option linter.unusedVariables false
open Go.RowKit

/-- Such operations may be asked about, or not. -/
def SmallSaid (root : ByteArray) (xs : List ByteArray) (e : Ending) : Prop := ∃ r : Bool, e = .returned (.bool r) ∧ (r = true → xs.length ≤ 20 ∧ (∀ x ∈ xs, x.size ≤ 20) ∧ root.size ≤ 20)

theorem small_run (root : ByteArray) (a : Option Addr) (cap : Nat) (xs : List ByteArray) (w : World) (h : Ss w a xs) :
    Calls Tryd.prog 6 #[.string root, .slice a xs.length cap] w fun e w' => SmallSaid root xs e ∧ w' = w := by
  go_enter Tryd.func6, Tryd.ntmps6
  go_wp2
  go_loopw [5] (fun v wr => ∃ k : Nat, v = .int .i64 k ∧ k ≤ xs.length ∧ k ≤ 20 ∧ (∀ i, i < k → (xs.getD i .empty).size ≤ 20) ∧ wr = w) (fun v _ => xs.length - (intOf v).toNat)
  case atStart => exact ⟨0, rfl, by omega, by omega, fun i hi => by omega, rfl⟩
  case round =>
    rename_i hrel
    obtain ⟨k, rfl, hk, hk20, hs, rfl⟩ := hrel
    by_cases hlt : k < xs.length
    · obtain ⟨b, off, rfl, hc⟩ := h.at k hlt
      obtain ⟨s, hss⟩ : ∃ s, s = xs.getD k .empty := ⟨_, rfl⟩
      rw [← hss] at hc
      have HS : Hid (s = xs.getD k .empty) := hss
      have hlt' : (k : Int) < (xs.length : Int) := by omega
      clear hss hlt
      by_cases h20 : k = 20
      · subst h20
        go_wp2
        go_ret
        exact ⟨⟨false, rfl, by simp⟩, rfl⟩
      · have h20' : ((k : Int) == 20) = false := by simp; omega
        have h20'' : ((k : Int) = 20) = False := by simp; omega
        by_cases hz : 20 < s.size
        · have hz' : (20 : Int) < (s.size : Int) := by omega
          go_wp2
          go_ret
          exact ⟨⟨false, rfl, by simp⟩, rfl⟩
        · have hz' : ¬ ((20 : Int) < (s.size : Int)) := by omega
          go_wp2
          go_roundw
          case rel =>
            refine ⟨k + 1, by go_num, by omega, by omega, fun i hi => ?_, trivial⟩
            by_cases hik : i = k
            · rw [hik, ← HS.out]; omega
            · exact hs i (by omega)
          case measure => simp [intOf]; omega
    · have hlt' : ¬ ((k : Int) < (xs.length : Int)) := by omega
      go_wp2
      go_ret
      refine ⟨⟨_, rfl, fun hr => ?_⟩, rfl⟩
      have hk2 : k = xs.length := by omega
      refine ⟨by omega, fun x hx => ?_, by have := of_decide_eq_true hr; omega⟩
      obtain ⟨i, hi, rfl⟩ := List.getElem_of_mem hx
      have := hs i (by omega)
      rw [List.getD_eq_getElem?_getD, List.getElem?_eq_getElem hi] at this
      exact this
end Go.Proofs.YtpicicecmlpldaaDoor
