/-
  The walk over the law NumString.
-/
import Derived.Test.YtiofpkkbejnjcaaRString
namespace Go.Proofs.Ytiofpkkbejnjcaa
set_option linter.unusedSimpArgs false
set_option linter.unusedVariables false
open Go.RowKit

theorem strlaw_great (a : Option Addr) (c l : Nat) (n : Int) (w : World) (h : 300 < l) : Calls Try.prog 5 #[.slice a l c, .int .i64 n] w fun e w' => e = .returned (.bool true) ∧ Below w.heap.size w w' := by
  go_enter Try.func5, Try.ntmps5
  go_wp2_with (go_at_call 8; go_must (refine (alive_any _).mono ?_); rintro e w' ⟨rfl, hb⟩)
  go_ret
  exact ⟨rfl, hb⟩

theorem strlaw_small (a : Option Addr) (c : Nat) (xs : List Int) (n : Int) (hn : n ≤ 9223372036854775807) (w : World) (hX : Bs w a c xs) (hx : xs.length ≤ 300) :
    Calls Try.prog 5 #[.slice a xs.length c, .int .i64 n] w fun e w' => e = .returned (.bool true) ∧ Below w.heap.size w w' := by
  obtain ⟨i0, hi, hz0, hz1, hz2⟩ := info_parts Try.info5
  have h1 := fun (b : Option Addr) d u hb => takeString_any b d xs n u hb (by omega) hn
  have h2 := fun u hb => rtakeString_any a c xs n u hb (by omega) hn
  obtain ⟨⟨s, rest, z⟩, hr⟩ : ∃ r, stringL xs n = r := ⟨_, rfl⟩
  rw [hr] at h1 h2
  have H1 : Hid (∀ (b : Option Addr) d u, Bs u b d xs → Calls Try.prog 21 #[.slice b xs.length d, .int .i64 n] u fun e w' => Parts u e w' (s, rest, z)) := h1
  have H2 : Hid (∀ u, Bs u a c xs → Calls Try.prog 22 #[.slice a xs.length c, .int .i64 n] u fun e w' => Parts u e w' (s, rest, z)) := h2
  have HRx : Hid (∀ y ∈ xs, 0 ≤ y ∧ y ≤ 255) := hX.rng
  clear h1 h2 hr
  go_enter Try.func5, Try.ntmps5
  go_wp2_with (first
    | (at_builtin; go_must (refine wpList_append_bytes (w0 := w) (by rfl) (.tmp 16) (.tmp 17) 22 (by rfl) w.heap.size 5 i0 Try.underlying22 hi hz0 hz1 hz2 _ [] (by rfl) (World.ownsRow_made w #[] 0 (Nat.le_refl _) (by decide) rfl) a xs.length c xs (by rfl) rfl (hX.stays ((Below.refl _ _).alloc (Nat.le_refl _) _)) (by simp; omega) (by simp) ((Below.refl _ _).alloc (Nat.le_refl _) _) ?_); rw [List.nil_append]; intro v1 w1 hown1 hb1; obtain ⟨a1, c1, hv1, hB1⟩ := Bs.of_owns hown1 HRx.out; rw [hv1])
    | (go_at_call 21; go_must (refine Calls.mono (H1.out a1 c1 w1 hB1) ?_); rintro e w2 ⟨a2, c2, a3, c3, rfl, hB2, hB3, hb2⟩)
    | (go_at_call 22; go_must (refine Calls.mono (H2.out w2 ((hX.stays hb1).stays hb2)) ?_); rintro e w3 ⟨a4, c4, a5, c5, rfl, hB4, hB5, hb3⟩)
    | (go_at_call 8; go_must (refine (alive_any _).mono ?_); rintro e w4 ⟨rfl, hb4⟩; have hall := below_then (below_then (below_then hb1 hb2) hb3) hb4; have q1 := conv9 ((hB2.stays hb3).stays hb4) _ rfl; have q2 := conv9 ((hB3.stays hb3).stays hb4) _ rfl; have q3 := conv9 (hB4.stays hb4) _ rfl; have q4 := conv9 (hB5.stays hb4) _ rfl; have q5 := conv9 (hX.stays hall) _ rfl; have q6 := conv9 (((hB1.stays hb2).stays hb3).stays hb4) _ rfl))
  go_ret
  exact ⟨rfl, hall⟩

theorem strlaw_walk (a : Option Addr) (c : Nat) (xs : List Int) (n : Int) (hn : n ≤ 9223372036854775807) (w : World) (hX : Bs w a c xs) :
    Calls Try.prog 5 #[.slice a xs.length c, .int .i64 n] w fun e w' => e = .returned (.bool true) ∧ Below w.heap.size w w' := by
  by_cases h : 300 < xs.length
  · exact strlaw_great a c _ n w h
  · exact strlaw_small a c xs n hn w hX (by omega)
end Go.Proofs.Ytiofpkkbejnjcaa
