/-
  Whole numbers: the walks over num.Put32 and num.Take32.
-/
import Derived.Test.YteocmmmnfbabaaaDoorNumBehind
import Derived.Deep.QuietTactic
import Derived.BigQuiet
import Derived.Laws.BitsLemmas
namespace Go.Proofs.YteocmmmnfbabaaaDoor
set_option linter.unusedSimpArgs false
set_option linter.unusedVariables false
open Go.RowKit

def b32 (n : Nat) : List Int := [(n : Int) % 256, (n : Int) / 256 % 256, (n : Int) / 65536 % 256, (n : Int) / 16777216]

theorem b32_rng (n : Nat) (hn : n < 4294967296) : ∀ x ∈ b32 n, 0 ≤ x ∧ x ≤ 255 := by
  intro x hx
  simp only [b32, List.mem_cons, List.not_mem_nil, or_false] at hx
  rcases hx with rfl | rfl | rfl | rfl <;> omega

theorem b32_bs (n : Nat) (hn : n < 4294967296) (w : World) : Bs (w.alloc (.cells #[.int .u8 ((n : Int) % 256), .int .u8 ((n : Int) / 256 % 256), .int .u8 ((n : Int) / 65536 % 256), .int .u8 ((n : Int) / 16777216)] 5)) (some ⟨w.heap.size, 0, none⟩) 4 (b32 n) := by
  refine ⟨b32_rng n hn, by simp [b32], by decide, by simp, .inr ⟨_, _, rfl, fun i hi => ?_⟩⟩
  have : i = 0 ∨ i = 1 ∨ i = 2 ∨ i = 3 := by simp [b32] at hi; omega
  rcases this with rfl | rfl | rfl | rfl <;> simp [b32]

theorem put32_any (a : Option Addr) (c : Nat) (xs : List Int) (n : Nat) (hn : n < 4294967296) (w : World) (hB : Bs w a c xs) (hlen : xs.length ≤ 100000) :
    Calls Tryd.prog 35 #[.slice a xs.length c, .int .u32 n] w fun e w' => ∃ a' c', e = .returned (.slice a' (xs ++ b32 n).length c') ∧ Bs w' a' c' (xs ++ b32 n) ∧ Below w.heap.size w w' := by
  have hb1 := (Below.refl w.heap.size w).alloc (Nat.le_refl _) (.cells #[.int .u8 ((n : Int) % 256), .int .u8 ((n : Int) / 256 % 256), .int .u8 ((n : Int) / 65536 % 256), .int .u8 ((n : Int) / 16777216)] 5)
  have hP := Ps.one (b32_bs n hn w) 27
  rw [World.size_alloc] at hP
  have hB1 := (hB.stays hb1).stays ((Below.refl _ _).alloc (Nat.le_refl _) (.cells #[.slice (some ⟨w.heap.size, 0, none⟩) (b32 n).length 4] 27))
  have hcon := behind_any a c xs (some ⟨w.heap.size + 1, 0, none⟩) 1 _ _ hB1 hP (by simp [flat, b32]; omega) (by simp)
  simp only [flat, List.append_nil] at hcon
  have hb2 := hb1.alloc (by simp) (.cells #[.slice (some ⟨w.heap.size, 0, none⟩) (b32 n).length 4] 27)
  have HB : Hid _ := hb2
  clear hb2 hP hB1 hb1
  go_enter Tryd.func35, Tryd.ntmps35
  go_wp2_with (go_at_call 62; go_must (refine hcon.mono ?_); rintro e w2 ⟨a2, c2, rfl, hB2, hb2⟩)
  go_ret
  exact ⟨a2, c2, ret_slice (by simp), hB2, below_then HB.out hb2⟩

theorem or_swap (k : IntKind) (x y : Int) : bits .or k x y = bits .or k y x := by
  simp only [bits, BitVec.or_comm]

theorem wraps_u32 (n : Int) (h0 : 0 ≤ n) (h1 : n < 2 ^ 32) : IntKind.u32.wrap n = n := by rw [IntKind.wrap_u32]; omega

theorem or32_8 (x y : Int) (h0 : 0 ≤ x) (h1 : x < 256) (h2 : 0 ≤ y) (h3 : y < 256) : bits .or .u32 x (y * 256) = x + y * 256 := by
  rw [or_swap, bits_join .u32 32 (by decide) wraps_u32 8 (y * 256) x (by omega) (by omega) (by omega) h0 (by omega) (by omega)]; omega

theorem or32_16 (x y : Int) (h0 : 0 ≤ x) (h1 : x < 65536) (h2 : 0 ≤ y) (h3 : y < 256) : bits .or .u32 x (y * 65536) = x + y * 65536 := by
  rw [or_swap, bits_join .u32 32 (by decide) wraps_u32 16 (y * 65536) x (by omega) (by omega) (by omega) h0 (by omega) (by omega)]; omega

theorem or32_24 (x y : Int) (h0 : 0 ≤ x) (h1 : x < 16777216) (h2 : 0 ≤ y) (h3 : y < 256) : bits .or .u32 x (y * 16777216) = x + y * 16777216 := by
  rw [or_swap, bits_join .u32 32 (by decide) wraps_u32 24 (y * 16777216) x (by omega) (by omega) (by omega) h0 (by omega) (by omega)]; omega

def take32L (xs : List Int) : Int × List Int × Nat :=
  if xs.length < 4 then (0, [], 2) else (xs.getD 0 0 + xs.getD 1 0 * 256 + xs.getD 2 0 * 65536 + xs.getD 3 0 * 16777216, xs.drop 4, 0)

theorem take32_new (a : Option Addr) (c : Nat) (xs : List Int) (w : World) (hB : Bs w a c xs) (hlen : xs.length ≤ 1000000) :
    Calls Tryd.prog 44 #[.slice a xs.length c] w fun e w' => ∃ a1 c1, e = .returned (.tuple #[.int .u32 (take32L xs).1, .slice a1 (take32L xs).2.1.length c1, .int .i64 (take32L xs).2.2]) ∧ Bs w' a1 c1 (take32L xs).2.1 ∧ Below w.heap.size w w' ∧ ∀ b, a1 = some b → w.heap.size ≤ b.block := by
  unfold take32L
  by_cases h4 : xs.length < 4
  · rw [if_pos h4]
    go_enter Tryd.func44, Tryd.ntmps44
    go_wp2
    go_ret3
    exact ⟨none, 0, rfl, Bs.empty _, Below.refl _ _, by simp⟩
  rw [if_neg h4]
  obtain ⟨b, off, rfl, hc⟩ := hB.cell (by omega)
  obtain ⟨x0, x1, x2, x3, ys, rfl⟩ : ∃ x0 x1 x2 x3 ys, xs = x0 :: x1 :: x2 :: x3 :: ys := by
    match xs, h4 with
    | x0 :: x1 :: x2 :: x3 :: ys, _ => exact ⟨_, _, _, _, _, rfl⟩
    | [], h => exact absurd (by simp) h
    | [_], h => exact absurd (by simp) h
    | [_, _], h => exact absurd (by simp) h
    | [_, _, _], h => exact absurd (by simp) h
  have c0 : w.cell? ⟨b, off, none⟩ = some (.int .u8 x0) := hc 0 (by simp)
  have c1 : w.cell? ⟨b, off + 1, none⟩ = some (.int .u8 x1) := hc 1 (by simp)
  have c2 : w.cell? ⟨b, off + 2, none⟩ = some (.int .u8 x2) := hc 2 (by simp)
  have c3 : w.cell? ⟨b, off + 3, none⟩ = some (.int .u8 x3) := hc 3 (by simp)
  obtain ⟨p0, q0⟩ := hB.rng x0 (by simp)
  obtain ⟨p1, q1⟩ := hB.rng x1 (by simp)
  obtain ⟨p2, q2⟩ := hB.rng x2 (by simp)
  obtain ⟨p3, q3⟩ := hB.rng x3 (by simp)
  clear hc h4
  obtain ⟨N, hN⟩ : ∃ N, (x0 :: x1 :: x2 :: x3 :: ys).length = N := ⟨_, rfl⟩
  obtain ⟨a', c', hrun2, hB2⟩ := hB.from (P := Tryd.prog) 27 5 Tryd.underlying27 Tryd.size5 Tryd.elem27 4 (by simp)
  rw [hN] at hlen hrun2 ⊢
  have hN4 : 4 ≤ N := by rw [← hN]; simp
  have hs2 : ∀ w', (Instr.slice 27 (.slice (some ⟨b, off, none⟩) N c) (some (.int .i64 4)) none none).run Tryd.prog w' = .ok (.slice a' (N - 4) c') w' := fun w' => hrun2 w' _ .i64 4 rfl rfl
  have hys : N - 4 = ys.length := by rw [← hN]; simp
  have hys2 : ys.length ≤ 1000000 := by omega
  have HY : Hid (N - 4 = ys.length) := hys
  have o1 := or32_8 x0 x1 p0 (by omega) p1 (by omega)
  have o2 := or32_16 (x0 + x1 * 256) x2 (by omega) (by omega) p2 (by omega)
  have o3 := or32_24 (x0 + x1 * 256 + x2 * 65536) x3 (by omega) (by omega) p3 (by omega)
  have hD : (x0 :: x1 :: x2 :: x3 :: ys).drop 4 = ys := rfl
  rw [hD] at hB2 ⊢
  clear hN hrun2 hys hD hB
  go_enter Tryd.func44, Tryd.ntmps44
  go_wp2
  go_quiet (fail)
  go_wp2_with (go_at_call 69; go_must (refine (fresh_new a' c' (N - 4) ys _ HY.out (hB2.stays (below_drewN (Below.refl _ _) _)) hys2).mono ?_); rintro e w2 ⟨a2, c2, rfl, hF2, hb2, hN2⟩)
  go_ret3
  exact ⟨a2, c2, rfl, hF2, below_then (below_drewN (Below.refl _ _) _) hb2, hN2⟩

theorem take32_any (a : Option Addr) (c : Nat) (xs : List Int) (w : World) (hB : Bs w a c xs) (hlen : xs.length ≤ 1000000) :
    Calls Tryd.prog 44 #[.slice a xs.length c] w fun e w' => ∃ a1 c1, e = .returned (.tuple #[.int .u32 (take32L xs).1, .slice a1 (take32L xs).2.1.length c1, .int .i64 (take32L xs).2.2]) ∧ Bs w' a1 c1 (take32L xs).2.1 ∧ Below w.heap.size w w' :=
  (take32_new a c xs w hB hlen).mono fun e w' ⟨a1, c1, h1, h2, h3, _⟩ => ⟨a1, c1, h1, h2, h3⟩

theorem take32_back (m : Nat) (hm : m < 4294967296) (rest : List Int) : take32L (b32 m ++ rest) = ((m : Int), rest, 0) := by
  unfold take32L b32
  rw [if_neg (by simp)]
  simp
  omega

theorem put32_at (a : Option Addr) (c : Nat) (xs : List Int) (n : Nat) (x : Int) (hx : x = n) (hn : n < 4294967296) (w : World) (hB : Bs w a c xs) (hlen : xs.length ≤ 100000) :
    Calls Tryd.prog 35 #[.slice a xs.length c, .int .u32 x] w fun e w' => ∃ a' c', e = .returned (.slice a' (xs ++ b32 n).length c') ∧ Bs w' a' c' (xs ++ b32 n) ∧ Below w.heap.size w w' := by
  subst hx; exact put32_any a c xs n hn w hB hlen

theorem put32_to (a : Option Addr) (c : Nat) (xs : List Int) (n : Nat) (x : Int) (hx : x = n) (hn : n < 4294967296) (w : World) (ys : List Int) (hy : xs ++ b32 n = ys) (hB : Bs w a c xs) (hlen : xs.length ≤ 100000) :
    Calls Tryd.prog 35 #[.slice a xs.length c, .int .u32 x] w fun e w' => ∃ a' c', e = .returned (.slice a' ys.length c') ∧ Bs w' a' c' ys ∧ Below w.heap.size w w' := by
  subst hx hy; exact put32_any a c xs n hn w hB hlen

theorem take32_to (a : Option Addr) (c : Nat) (xs : List Int) (w : World) (r : Int × List Int × Nat) (hr : take32L xs = r) (hB : Bs w a c xs) (hlen : xs.length ≤ 1000000) :
    Calls Tryd.prog 44 #[.slice a xs.length c] w fun e w' => ∃ a1 c1, e = .returned (.tuple #[.int .u32 r.1, .slice a1 r.2.1.length c1, .int .i64 r.2.2]) ∧ Bs w' a1 c1 r.2.1 ∧ Below w.heap.size w w' := by
  subst hr; exact take32_any a c xs w hB hlen

end Go.Proofs.YteocmmmnfbabaaaDoor
