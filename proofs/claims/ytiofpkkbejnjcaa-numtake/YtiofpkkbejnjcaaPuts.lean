/-
  The walks over num.fresh, num.Put, num.Put32, num.PutString.
-/
import Derived.Test.YtiofpkkbejnjcaaBehind
namespace Go.Proofs.Ytiofpkkbejnjcaa
set_option linter.unusedSimpArgs false
set_option linter.unusedVariables false
open Go.RowKit

theorem below_then {w w1 w2 : World} (h1 : Below w.heap.size w w1) (h2 : Below w1.heap.size w1 w2) : Below w.heap.size w w2 := h1.trans (h2.mono h1.size)

theorem fresh_any (a : Option Addr) (c : Nat) (xs : List Int) (w : World) (hB : Bs w a c xs) (hlen : xs.length ≤ 1000000) :
    Calls Try.prog 26 #[.slice a xs.length c] w fun e w' => ∃ a' c', e = .returned (.slice a' xs.length c') ∧ Bs w' a' c' xs ∧ Below w.heap.size w w' := by
  have hb := behind_any a c xs none 0 [] w hB (Ps.empty w) (by simpa [flat] using hlen) (by simp)
  simp only [flat, List.append_nil, List.length_nil] at hb
  go_enter Try.func26, Try.ntmps26
  go_wp2_with (go_at_call 23; go_must (refine hb.mono ?_); rintro e w' ⟨a', c', rfl, hB', hb'⟩)
  go_ret
  exact ⟨a', c', rfl, hB', hb'⟩

/-- One part, laid in a block of its own. -/
theorem Ps.one {w : World} {a : Option Addr} {c : Nat} {xs : List Int} (h : Bs w a c xs) (t : TypeId) : Ps (w.alloc (.cells #[.slice a xs.length c] t)) (some ⟨w.heap.size, 0, none⟩) [⟨a, c, xs⟩] := by
  refine ⟨fun p hp => ?_, .inr ⟨_, _, rfl, fun i hi => ?_⟩⟩
  · rw [List.mem_singleton.1 hp]; exact h.stays ((Below.refl _ _).alloc (Nat.le_refl _) _)
  · have : i = 0 := by simpa using hi
    subst this
    simp [Part.val]

theorem Ps.two {w : World} {a a2 : Option Addr} {c c2 : Nat} {xs ys : List Int} (h : Bs w a c xs) (h2 : Bs w a2 c2 ys) (t : TypeId) :
    Ps (w.alloc (.cells #[.slice a xs.length c, .slice a2 ys.length c2] t)) (some ⟨w.heap.size, 0, none⟩) [⟨a, c, xs⟩, ⟨a2, c2, ys⟩] := by
  refine ⟨fun p hp => ?_, .inr ⟨_, _, rfl, fun i hi => ?_⟩⟩
  · have hb := (Below.refl w.heap.size w).alloc (Nat.le_refl _) (.cells #[.slice a xs.length c, .slice a2 ys.length c2] t)
    simp only [List.mem_cons, List.not_mem_nil, or_false] at hp
    rcases hp with rfl | rfl
    · exact h.stays hb
    · exact h2.stays hb
  · have : i = 0 ∨ i = 1 := by simp at hi; omega
    rcases this with rfl | rfl <;> simp [Part.val]

theorem put_any (a : Option Addr) (c : Nat) (xs : List Int) (n : Nat) (hn : n < 18446744073709551616) (w : World) (hB : Bs w a c xs) (hlen : xs.length ≤ 100000) :
    Calls Try.prog 9 #[.slice a xs.length c, .int .u64 n] w fun e w' => ∃ a' c', e = .returned (.slice a' (xs ++ leb n).length c') ∧ Bs w' a' c' (xs ++ leb n) ∧ Below w.heap.size w w' := by
  have hl := leb_len10 n hn
  go_enter Try.func9, Try.ntmps9
  go_wp2_with (first
    | (go_at_call 24; go_must (refine (short_any n hn _).mono ?_); rintro e w1 ⟨a1, c1, rfl, hB1, hb1⟩)
    | (go_at_call 23; go_must (refine (behind_any a c xs _ 1 [⟨a1, c1, leb n⟩] (w1.alloc (.cells #[.slice a1 (leb n).length c1] 22)) ((hB.stays hb1).stays ((Below.refl _ _).alloc (Nat.le_refl _) _)) (Ps.one hB1 22) (by simp [flat]; omega) (by simp)).mono ?_); rintro e w2 ⟨a2, c2, rfl, hB2, hb2⟩))
  simp only [flat, List.append_nil] at hB2
  go_ret
  exact ⟨a2, c2, ret_slice (by simp [flat]), hB2, below_then (hb1.alloc hb1.size _) hb2⟩

theorem putString_any (a : Option Addr) (c : Nat) (xs : List Int) (s : Option Addr) (d : Nat) (ys : List Int) (w : World) (hB : Bs w a c xs) (hS : Bs w s d ys) (hlen : xs.length ≤ 100000) (hys : ys.length ≤ 100000) :
    Calls Try.prog 11 #[.slice a xs.length c, .slice s ys.length d] w fun e w' => ∃ a' c', e = .returned (.slice a' (xs ++ (leb ys.length ++ ys)).length c') ∧ Bs w' a' c' (xs ++ (leb ys.length ++ ys)) ∧ Below w.heap.size w w' := by
  have hl := leb_len10 ys.length (by omega)
  go_enter Try.func11, Try.ntmps11
  go_wp2_with (first
    | (go_at_call 24; go_must (refine (short_any ys.length (by omega) _).mono ?_); rintro e w1 ⟨a1, c1, rfl, hB1, hb1⟩)
    | (go_at_call 23; go_must (refine (behind_any a c xs _ 2 [⟨a1, c1, leb ys.length⟩, ⟨s, d, ys⟩] (w1.alloc (.cells #[.slice a1 (leb ys.length).length c1, .slice s ys.length d] 22)) ((hB.stays hb1).stays ((Below.refl _ _).alloc (Nat.le_refl _) _)) (Ps.two hB1 (hS.stays hb1) 22) (by simp [flat]; omega) (by simp)).mono ?_); rintro e w2 ⟨a2, c2, rfl, hB2, hb2⟩))
  simp only [flat, List.append_nil] at hB2
  go_ret
  exact ⟨a2, c2, ret_slice (by simp [flat]), hB2, below_then (hb1.alloc hb1.size _) hb2⟩

end Go.Proofs.Ytiofpkkbejnjcaa
