/-
  The walks over the document's own TakeBytes, Take32.
-/
import Derived.Test.YtiofpkkbejnjcaaUpBs
import Derived.Test.YtiofpkkbejnjcaaRPuts
import Derived.Test.YtiofpkkbejnjcaaMath
namespace Go.Proofs.Ytiofpkkbejnjcaa
set_option linter.unusedSimpArgs false
set_option linter.unusedVariables false
open Go.RowKit

theorem rtakeBytes_any (a : Option Addr) (c : Nat) (xs : List Int) (n : Int) (w : World) (hB : Bs w a c xs) (hlen : xs.length ≤ 1000000) :
    Calls Try.prog 20 #[.slice a xs.length c, .int .i64 n] w fun e w' => Parts w e w' (bytesL xs n) := by
  unfold bytesL
  by_cases hn : n < 0
  · rw [if_pos hn]
    go_enter Try.func20, Try.ntmps20
    go_wp2
    go_ret3
    exact Parts.nothing _ 1
  · rw [if_neg hn]
    obtain ⟨k, rfl⟩ : ∃ k : Nat, n = k := ⟨n.toNat, by omega⟩
    rw [Int.toNat_natCast]
    unfold cutL
    by_cases hk : k ≤ xs.length
    · rw [if_pos hk]
      obtain ⟨hrun1, hB1⟩ := hB.upto (P := Try.prog) 22 5 Try.underlying22 Try.size5 Try.elem22 k hk
      obtain ⟨a', c', hrun2, hB2⟩ := hB.from (P := Try.prog) 22 5 Try.underlying22 Try.size5 Try.elem22 k hk
      have hs1 : ∀ w', (Instr.slice 22 (.slice a xs.length c) none (some (.int .i64 k)) none).run Try.prog w' = .ok (.slice a k c) w' := fun w' => hrun1 w' _ .i64 k rfl
      have hs2 : ∀ w', (Instr.slice 22 (.slice a xs.length c) (some (.int .i64 k)) none none).run Try.prog w' = .ok (.slice a' (xs.length - k) c') w' := fun w' => hrun2 w' _ .i64 k rfl rfl
      clear hrun1 hrun2
      go_enter Try.func20, Try.ntmps20
      go_wp2
      go_quiet (fail)
      go_wp2
      go_ret3
      refine ⟨a, c, a', c', ?_, hB1.stays (below_drewN (Below.refl _ _) _), hB2.stays (below_drewN (Below.refl _ _) _), below_drewN (Below.refl _ _) _⟩
      rw [List.length_take, List.length_drop, Nat.min_eq_left hk]; rfl
    · rw [if_neg hk]
      go_enter Try.func20, Try.ntmps20
      go_wp2
      go_ret3
      exact Parts.nothing _ 2

theorem rtake32_any (a : Option Addr) (c : Nat) (xs : List Int) (w : World) (hB : Bs w a c xs) (hlen : xs.length ≤ 1000000) :
    Calls Try.prog 18 #[.slice a xs.length c] w fun e w' => ∃ a1 c1, e = .returned (.tuple #[.int .u32 (take32L xs).1, .slice a1 (take32L xs).2.1.length c1, .int .i64 (take32L xs).2.2]) ∧ Bs w' a1 c1 (take32L xs).2.1 ∧ Below w.heap.size w w' := by
  have hcon := rtakeBytes_any a c xs 4 w hB hlen
  unfold take32L
  by_cases h4 : xs.length < 4
  · rw [if_pos h4]
    have : bytesL xs 4 = ([], [], 2) := by unfold bytesL cutL; rw [if_neg (by decide), if_neg (by simp; omega)]
    rw [this] at hcon
    go_enter Try.func18, Try.ntmps18
    go_wp2_with (go_at_call 20; go_must (refine hcon.mono ?_); rintro e w1 ⟨a1, c1, a2, c2, rfl, h1, h2, h3⟩)
    go_ret3
    exact ⟨none, 0, rfl, Bs.empty _, h3⟩
  rw [if_neg h4]
  have hbl : bytesL xs 4 = (xs.take 4, xs.drop 4, 0) := by unfold bytesL cutL; rw [if_neg (by decide), if_pos (by simp; omega)]; rfl
  rw [hbl] at hcon
  obtain ⟨x0, x1, x2, x3, ys, rfl⟩ : ∃ x0 x1 x2 x3 ys, xs = x0 :: x1 :: x2 :: x3 :: ys := by
    match xs, h4 with
    | x0 :: x1 :: x2 :: x3 :: ys, _ => exact ⟨_, _, _, _, _, rfl⟩
    | [], h => exact absurd (by simp) h
    | [_], h => exact absurd (by simp) h
    | [_, _], h => exact absurd (by simp) h
    | [_, _, _], h => exact absurd (by simp) h
  obtain ⟨p0, q0⟩ := hB.rng x0 (by simp)
  obtain ⟨p1, q1⟩ := hB.rng x1 (by simp)
  obtain ⟨p2, q2⟩ := hB.rng x2 (by simp)
  obtain ⟨p3, q3⟩ := hB.rng x3 (by simp)
  have ht4 : (x0 :: x1 :: x2 :: x3 :: ys).take 4 = [x0, x1, x2, x3] := rfl
  have hd4 : (x0 :: x1 :: x2 :: x3 :: ys).drop 4 = ys := rfl
  rw [ht4, hd4] at hcon
  rw [hd4]
  obtain ⟨N, hN⟩ : ∃ N, (x0 :: x1 :: x2 :: x3 :: ys).length = N := ⟨_, rfl⟩
  rw [hN] at hcon ⊢
  clear hbl ht4 hd4 hB h4 hN
  go_enter Try.func18, Try.ntmps18
  go_wp2_with (go_at_call 20; go_must (refine hcon.mono ?_); rintro e w1 ⟨a1, c1, a2, c2, rfl, h1, h2, h3⟩; obtain ⟨b, off, hab, hc⟩ := h1.cell (by simp); have k0 : w1.cell? ⟨b, off, none⟩ = some (.int .u8 x0) := hc 0 (by simp); have k1 : w1.cell? ⟨b, off + 1, none⟩ = some (.int .u8 x1) := hc 1 (by simp); have k2 : w1.cell? ⟨b, off + 2, none⟩ = some (.int .u8 x2) := hc 2 (by simp); have k3 : w1.cell? ⟨b, off + 3, none⟩ = some (.int .u8 x3) := hc 3 (by simp); rw [hab])
  go_quiet (fail)
  go_wp2
  go_ret3
  exact ⟨a2, c2, rfl, h2.stays (below_drewN (Below.refl _ _) _), below_then h3 (below_drewN (Below.refl _ _) _)⟩
end Go.Proofs.Ytiofpkkbejnjcaa
