/-
  The walks over num.cut, num.TakeBytes.
-/
import Derived.Test.YtiofpkkbejnjcaaLead
namespace Go.Proofs.Ytiofpkkbejnjcaa
set_option linter.unusedSimpArgs false
set_option linter.unusedVariables false
open Go.RowKit

theorem fresh_at (a : Option Addr) (c n : Nat) (xs : List Int) (w : World) (hn : n = xs.length) (hB : Bs w a c xs) (hlen : xs.length ≤ 1000000) :
    Calls Try.prog 26 #[.slice a n c] w fun e w' => ∃ a' c', e = .returned (.slice a' xs.length c') ∧ Bs w' a' c' xs ∧ Below w.heap.size w w' := by
  subst hn; exact fresh_any a c xs w hB hlen

theorem cut_yes (a : Option Addr) (c : Nat) (xs : List Int) (n : Nat) (w : World) (hB : Bs w a c xs) (hlen : xs.length ≤ 1000000) (hn : n ≤ xs.length) :
    Calls Try.prog 27 #[.slice a xs.length c, .int .i64 n] w fun e w' => ∃ a1 c1 a2 c2, e = .returned (.tuple #[.slice a1 (xs.take n).length c1, .slice a2 (xs.drop n).length c2, .int .i64 0]) ∧ Bs w' a1 c1 (xs.take n) ∧ Bs w' a2 c2 (xs.drop n) ∧ Below w.heap.size w w' := by
  obtain ⟨hrun1, hB1⟩ := hB.upto (P := Try.prog) 22 5 Try.underlying22 Try.size5 Try.elem22 n hn
  obtain ⟨a', c', hrun2, hB2⟩ := hB.from (P := Try.prog) 22 5 Try.underlying22 Try.size5 Try.elem22 n hn
  have hs1 : ∀ w', (Instr.slice 22 (.slice a xs.length c) none (some (.int .i64 n)) none).run Try.prog w' = .ok (.slice a n c) w' := fun w' => hrun1 w' _ .i64 n rfl
  have hs2 : ∀ w', (Instr.slice 22 (.slice a xs.length c) (some (.int .i64 n)) none none).run Try.prog w' = .ok (.slice a' (xs.length - n) c') w' := fun w' => hrun2 w' _ .i64 n rfl rfl
  clear hrun1 hrun2
  go_enter Try.func27, Try.ntmps27
  go_wp2
  go_region_held3 (fun w' => Below w.heap.size w w') (first | exact (Below.refl _ _).drew | (refine below_then ?_ (by assumption); assumption))
    (first
      | (go_at_call 26; refine (fresh_at a c n (xs.take n) _ (by simp; omega) (hB1.stays (by assumption)) (by simp; omega)).mono ?_; rintro e w1 ⟨a1, c1, rfl, hF1, hb1⟩)
      | (go_at_call 26; refine (fresh_at a' c' (xs.length - n) (xs.drop n) _ (by simp) (hB2.stays (by assumption)) (by simp; omega)).mono ?_; rintro e w2 ⟨a2, c2, rfl, hF2, hb2⟩))
  go_wp2
  go_ret3
  refine ⟨a1, c1, a2, c2, ?_, hF1.stays hb2, hF2, ?_⟩
  · rw [List.length_take, List.length_drop, Nat.min_eq_left hn]; rfl
  · exact below_then (below_then (Below.refl _ _).drew hb1) hb2

theorem cut_no (a : Option Addr) (c : Nat) (xs : List Int) (n : Nat) (w : World) (hlen : xs.length ≤ 1000000) (hn : xs.length < n) :
    Calls Try.prog 27 #[.slice a xs.length c, .int .i64 n] w fun e w' => e = .returned (.tuple #[.slice none 0 0, .slice none 0 0, .int .i64 2]) ∧ w' = w := by
  go_enter Try.func27, Try.ntmps27
  go_wp2
  go_ret3
  exact ⟨rfl, rfl⟩

/-- What a call that parts bytes hands back: two slices and an error. -/
def Parts (w : World) (e : Ending) (w' : World) (r : List Int × List Int × Nat) : Prop :=
  ∃ a1 c1 a2 c2, e = .returned (.tuple #[.slice a1 r.1.length c1, .slice a2 r.2.1.length c2, .int .i64 r.2.2]) ∧ Bs w' a1 c1 r.1 ∧ Bs w' a2 c2 r.2.1 ∧ Below w.heap.size w w'

theorem Parts.nothing (w : World) (k : Nat) : Parts w (.returned (.tuple #[.slice none 0 0, .slice none 0 0, .int .i64 k])) w ([], [], k) :=
  ⟨none, 0, none, 0, rfl, Bs.empty _, Bs.empty _, Below.refl _ _⟩

theorem cut_any (a : Option Addr) (c m : Nat) (xs : List Int) (n : Nat) (w : World) (hm : m = xs.length) (hB : Bs w a c xs) (hlen : xs.length ≤ 1000000) :
    Calls Try.prog 27 #[.slice a m c, .int .i64 n] w fun e w' => Parts w e w' (cutL xs n) := by
  subst hm
  unfold cutL
  by_cases hn : n ≤ xs.length
  · rw [if_pos hn]
    exact (cut_yes a c xs n w hB hlen hn).mono fun e w' h => h
  · rw [if_neg hn]
    refine (cut_no a c xs n w hlen (by omega)).mono ?_
    rintro e w' ⟨rfl, rfl⟩
    exact Parts.nothing _ 2

theorem takeBytes_any (a : Option Addr) (c : Nat) (xs : List Int) (n : Int) (w : World) (hB : Bs w a c xs) (hlen : xs.length ≤ 1000000) :
    Calls Try.prog 19 #[.slice a xs.length c, .int .i64 n] w fun e w' => Parts w e w' (bytesL xs n) := by
  unfold bytesL
  by_cases hn : n < 0
  · rw [if_pos hn]
    go_enter Try.func19, Try.ntmps19
    go_wp2
    go_ret3
    exact Parts.nothing _ 1
  · rw [if_neg hn]
    obtain ⟨k, rfl⟩ : ∃ k : Nat, n = k := ⟨n.toNat, by omega⟩
    rw [Int.toNat_natCast]
    go_enter Try.func19, Try.ntmps19
    go_wp2_with (go_at_call 27; go_must (refine (cut_any a c xs.length xs k w rfl hB hlen).mono ?_); rintro e w1 ⟨a1, c1, a2, c2, rfl, h1, h2, h3⟩)
    go_ret3
    exact ⟨a1, c1, a2, c2, rfl, h1, h2, h3⟩
end Go.Proofs.Ytiofpkkbejnjcaa
