/-
  Whole numbers: the walks over the document's Put32, TakeBytes and Take32.
-/
import Derived.Test.YteocmmmnfbabaaaDoorNumWhole
namespace Go.Proofs.YteocmmmnfbabaaaDoor
set_option linter.unusedSimpArgs false
set_option linter.unusedVariables false
open Go.RowKit

theorem rput32_bs (a : Option Addr) (c l : Nat) (xs : List Int) (n : Nat) (x : Int) (hx : x = n) (hn : n < 4294967296) (w : World) (ys : List Int) (hy : xs ++ b32 n = ys) (hl : l = xs.length) (hB : Bs w a c xs) (hlen : xs.length ≤ 100000) :
    Calls Tryd.prog 38 #[.slice a l c, .int .u32 x] w fun e w' => ∃ a' c', e = .returned (.slice a' ys.length c') ∧ Bs w' a' c' ys ∧ Below w.heap.size w w' := by
  subst hy hl hx
  obtain ⟨i0, hi, hz0, hz1, hz2⟩ := info_parts Tryd.info5
  have hrng : ∀ y ∈ xs ++ b32 n, 0 ≤ y ∧ y ≤ 255 := by
    intro y hy
    rcases List.mem_append.1 hy with hy | hy
    · exact hB.rng y hy
    · exact b32_rng n hn y hy
  have HR : Hid (∀ y ∈ xs ++ b32 n, 0 ≤ y ∧ y ≤ 255) := hrng
  clear hrng
  go_enter Tryd.func38, Tryd.ntmps38
  go_wp2_with (first
    | (at_builtin; refine wpList_append_bytes (w0 := w) (by rfl) (.tmp 6) (.tmp 7) 27 (by rfl) w.heap.size 5 i0 Tryd.underlying27 hi hz0 hz1 hz2 _ [] (by rfl) (World.ownsRow_made w #[] 0 (Nat.le_refl _) (by decide) rfl) a xs.length c xs (by rfl) rfl (hB.stays ((Below.refl _ _).alloc (Nat.le_refl _) _)) (by simp; omega) (by simp) ((Below.refl _ _).alloc (Nat.le_refl _) _) ?_; rw [List.nil_append]; intro v1 w1 hown1 hb1)
    | (at_builtin; refine wpList_append_bytes (w0 := w) (by rfl) (.tmp 9) (.tmp 21) 27 (by rfl) w.heap.size 5 i0 Tryd.underlying27 hi hz0 hz1 hz2 _ xs (by rfl) (hown1.alloc _) (some ⟨w1.heap.size, 0, none⟩) 4 4 (b32 n) (by rfl) (by rfl) (b32_bs n hn w1) (by simp [b32]; omega) (by have := hb1.size; simp; omega) (hb1.alloc hb1.size _) ?_; intro v2 w2 hown2 hb2))
  obtain ⟨a', c', rfl, hB'⟩ := Bs.of_owns hown2 HR.out
  go_ret
  exact ⟨a', c', rfl, hB', hb2⟩

def NParts (w : World) (e : Ending) (w' : World) (r : List Int × List Int × Nat) : Prop :=
  ∃ a1 c1 a2 c2, e = .returned (.tuple #[.slice a1 r.1.length c1, .slice a2 r.2.1.length c2, .int .i64 r.2.2]) ∧ Bs w' a1 c1 r.1 ∧ Bs w' a2 c2 r.2.1 ∧ Below w.heap.size w w'

theorem NParts.nothing (w : World) (k : Nat) : NParts w (.returned (.tuple #[.slice none 0 0, .slice none 0 0, .int .i64 k])) w ([], [], k) :=
  ⟨none, 0, none, 0, rfl, Bs.empty _, Bs.empty _, Below.refl _ _⟩

def cutL (xs : List Int) (n : Nat) : List Int × List Int × Nat := if n ≤ xs.length then (xs.take n, xs.drop n, 0) else ([], [], 2)

def bytesL (xs : List Int) (n : Int) : List Int × List Int × Nat := if n < 0 then ([], [], 1) else cutL xs n.toNat

theorem rtakeBytes_any (a : Option Addr) (c : Nat) (xs : List Int) (n : Int) (w : World) (hB : Bs w a c xs) (hlen : xs.length ≤ 1000000) :
    Calls Tryd.prog 70 #[.slice a xs.length c, .int .i64 n] w fun e w' => NParts w e w' (bytesL xs n) := by
  unfold bytesL
  by_cases hn : n < 0
  · rw [if_pos hn]
    go_enter Tryd.func70, Tryd.ntmps70
    go_wp2
    go_ret3
    exact NParts.nothing _ 1
  · rw [if_neg hn]
    obtain ⟨k, rfl⟩ : ∃ k : Nat, n = k := ⟨n.toNat, by omega⟩
    rw [Int.toNat_natCast]
    unfold cutL
    by_cases hk : k ≤ xs.length
    · rw [if_pos hk]
      obtain ⟨hrun1, hB1⟩ := hB.upto (P := Tryd.prog) 27 5 Tryd.underlying27 Tryd.size5 Tryd.elem27 k hk
      obtain ⟨a', c', hrun2, hB2⟩ := hB.from (P := Tryd.prog) 27 5 Tryd.underlying27 Tryd.size5 Tryd.elem27 k hk
      have hs1 : ∀ w', (Instr.slice 27 (.slice a xs.length c) none (some (.int .i64 k)) none).run Tryd.prog w' = .ok (.slice a k c) w' := fun w' => hrun1 w' _ .i64 k rfl
      have hs2 : ∀ w', (Instr.slice 27 (.slice a xs.length c) (some (.int .i64 k)) none none).run Tryd.prog w' = .ok (.slice a' (xs.length - k) c') w' := fun w' => hrun2 w' _ .i64 k rfl rfl
      clear hrun1 hrun2
      go_enter Tryd.func70, Tryd.ntmps70
      go_wp2
      go_quiet (fail)
      go_wp2
      go_ret3
      refine ⟨a, c, a', c', ?_, hB1.stays (below_drewN (Below.refl _ _) _), hB2.stays (below_drewN (Below.refl _ _) _), below_drewN (Below.refl _ _) _⟩
      rw [List.length_take, List.length_drop, Nat.min_eq_left hk]; rfl
    · rw [if_neg hk]
      go_enter Tryd.func70, Tryd.ntmps70
      go_wp2
      go_ret3
      exact NParts.nothing _ 2

theorem rtake32_any (a : Option Addr) (c : Nat) (xs : List Int) (w : World) (hB : Bs w a c xs) (hlen : xs.length ≤ 1000000) :
    Calls Tryd.prog 46 #[.slice a xs.length c] w fun e w' => ∃ a1 c1, e = .returned (.tuple #[.int .u32 (take32L xs).1, .slice a1 (take32L xs).2.1.length c1, .int .i64 (take32L xs).2.2]) ∧ Bs w' a1 c1 (take32L xs).2.1 ∧ Below w.heap.size w w' := by
  have hcon := rtakeBytes_any a c xs 4 w hB hlen
  unfold take32L
  by_cases h4 : xs.length < 4
  · rw [if_pos h4]
    have : bytesL xs 4 = ([], [], 2) := by unfold bytesL cutL; rw [if_neg (by decide), if_neg (by simp; omega)]
    rw [this] at hcon
    go_enter Tryd.func46, Tryd.ntmps46
    go_wp2_with (go_at_call 70; go_must (refine hcon.mono ?_); rintro e w1 ⟨a1, c1, a2, c2, rfl, h1, h2, h3⟩)
    go_ret3
    exact ⟨none, 0, rfl, Bs.empty _, h3⟩
  rw [if_neg h4]
  have hbl : bytesL xs 4 = (xs.take 4, xs.drop 4, 0) := by unfold bytesL cutL; rw [if_neg (by decide), if_pos (by simp; omega)]; rfl
  rw [hbl] at hcon
  obtain ⟨x0, x1, x2, x3, ys, rfl⟩ : ∃ x0 x1 x2 x3 ys, xs = x0 :: x1 :: x2 :: x3 :: ys := by
    match xs, h4 with
    | x0 :: x1 :: x2 :: x3 :: ys, _ => exact ⟨_, _, _, _, _, rfl⟩
    | [], h => exact absurd (by simp) h
    | [_], h => exact absurd (by simp) h
    | [_, _], h => exact absurd (by simp) h
    | [_, _, _], h => exact absurd (by simp) h
  obtain ⟨p0, q0⟩ := hB.rng x0 (by simp)
  obtain ⟨p1, q1⟩ := hB.rng x1 (by simp)
  obtain ⟨p2, q2⟩ := hB.rng x2 (by simp)
  obtain ⟨p3, q3⟩ := hB.rng x3 (by simp)
  have ht4 : (x0 :: x1 :: x2 :: x3 :: ys).take 4 = [x0, x1, x2, x3] := rfl
  have hd4 : (x0 :: x1 :: x2 :: x3 :: ys).drop 4 = ys := rfl
  rw [ht4, hd4] at hcon
  rw [hd4]
  obtain ⟨N, hN⟩ : ∃ N, (x0 :: x1 :: x2 :: x3 :: ys).length = N := ⟨_, rfl⟩
  rw [hN] at hcon ⊢
  clear hbl ht4 hd4 hB h4 hN
  go_enter Tryd.func46, Tryd.ntmps46
  go_wp2_with (go_at_call 70; go_must (refine hcon.mono ?_); rintro e w1 ⟨a1, c1, a2, c2, rfl, h1, h2, h3⟩; obtain ⟨b, off, hab, hc⟩ := h1.cell (by simp); have k0 : w1.cell? ⟨b, off, none⟩ = some (.int .u8 x0) := hc 0 (by simp); have k1 : w1.cell? ⟨b, off + 1, none⟩ = some (.int .u8 x1) := hc 1 (by simp); have k2 : w1.cell? ⟨b, off + 2, none⟩ = some (.int .u8 x2) := hc 2 (by simp); have k3 : w1.cell? ⟨b, off + 3, none⟩ = some (.int .u8 x3) := hc 3 (by simp); rw [hab])
  go_quiet (fail)
  go_wp2
  go_ret3
  exact ⟨a2, c2, rfl, h2.stays (below_drewN (Below.refl _ _) _), below_then h3 (below_drewN (Below.refl _ _) _)⟩

end Go.Proofs.YteocmmmnfbabaaaDoor
