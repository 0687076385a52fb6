/-
  Where the bytes that num.TakeBytes hands back lie: in new blocks, each its own.
-/
import Derived.Test.YtiofpkkbejnjcaaRString
namespace Go.Proofs.Ytiofpkkbejnjcaa
set_option linter.unusedSimpArgs false
set_option linter.unusedVariables false
open Go.RowKit

theorem fresh_row (a : Option Addr) (c n : Nat) (xs : List Int) (w : World) (hn : n = xs.length) (hB : Bs w a c xs) (hlen : xs.length ≤ 1000000) :
    Calls Try.prog 26 #[.slice a n c] w fun e w' => e = .returned (.slice (some ⟨w.heap.size, 0, none⟩) n n) ∧ Row 5 w' w.heap.size xs ∧ Below w.heap.size w w' := by
  subst hn
  have hb := behind_row a c xs none 0 [] w hB (Ps.empty w) (by simpa [flat] using hlen) (by simp)
  simp only [flat, List.append_nil, List.length_nil] at hb
  go_enter Try.func26, Try.ntmps26
  go_wp2_with (go_at_call 23; go_must (refine hb.mono ?_); rintro e w' ⟨rfl, hB', hb'⟩)
  go_ret
  exact ⟨rfl, hB', hb'⟩

theorem cut_row (a : Option Addr) (c : Nat) (xs : List Int) (n : Nat) (w : World) (hB : Bs w a c xs) (hlen : xs.length ≤ 1000000) (hn : n ≤ xs.length) :
    Calls Try.prog 27 #[.slice a xs.length c, .int .i64 n] w fun e w' => ∃ g, e = .returned (.tuple #[.slice (some ⟨w.heap.size, 0, none⟩) n n, .slice (some ⟨g, 0, none⟩) (xs.length - n) (xs.length - n), .int .i64 0]) ∧ w.heap.size < g ∧ Row 5 w' w.heap.size (xs.take n) ∧ Row 5 w' g (xs.drop n) ∧ Below w.heap.size w w' := by
  obtain ⟨hrun1, hB1⟩ := hB.upto (P := Try.prog) 22 5 Try.underlying22 Try.size5 Try.elem22 n hn
  obtain ⟨a', c', hrun2, hB2⟩ := hB.from (P := Try.prog) 22 5 Try.underlying22 Try.size5 Try.elem22 n hn
  have hs1 : ∀ w', (Instr.slice 22 (.slice a xs.length c) none (some (.int .i64 n)) none).run Try.prog w' = .ok (.slice a n c) w' := fun w' => hrun1 w' _ .i64 n rfl
  have hs2 : ∀ w', (Instr.slice 22 (.slice a xs.length c) (some (.int .i64 n)) none none).run Try.prog w' = .ok (.slice a' (xs.length - n) c') w' := fun w' => hrun2 w' _ .i64 n rfl rfl
  clear hrun1 hrun2
  go_enter Try.func27, Try.ntmps27
  go_wp2
  go_region_held3 (fun w' => Below w.heap.size w w') (first | exact (Below.refl _ _).drew | (refine below_then ?_ (by assumption); assumption))
    (first
      | (go_at_call 26; refine (fresh_row a c n (xs.take n) _ (by simp; omega) (hB1.stays (by assumption)) (by simp; omega)).mono ?_; rintro e w1 ⟨rfl, hF1, hb1⟩)
      | (go_at_call 26; refine (fresh_row a' c' (xs.length - n) (xs.drop n) _ (by simp) (hB2.stays (by assumption)) (by simp; omega)).mono ?_; rintro e w2 ⟨rfl, hF2, hb2⟩))
  go_wp2
  go_ret3
  have hlt : w.heap.size < w1.heap.size := hF1.lt
  exact ⟨w1.heap.size, rfl, hlt, hF1.stays hb2, hF2, below_then (below_then (Below.refl _ _).drew hb1) hb2⟩

theorem takeBytes_row (a : Option Addr) (c : Nat) (xs : List Int) (n : Nat) (w : World) (hB : Bs w a c xs) (hlen : xs.length ≤ 1000000) (hn : n ≤ xs.length) :
    Calls Try.prog 19 #[.slice a xs.length c, .int .i64 n] w fun e w' => ∃ g, e = .returned (.tuple #[.slice (some ⟨w.heap.size, 0, none⟩) n n, .slice (some ⟨g, 0, none⟩) (xs.length - n) (xs.length - n), .int .i64 0]) ∧ w.heap.size < g ∧ Row 5 w' w.heap.size (xs.take n) ∧ Row 5 w' g (xs.drop n) ∧ Below w.heap.size w w' := by
  go_enter Try.func19, Try.ntmps19
  go_wp2_with (go_at_call 27; go_must (refine (cut_row a c xs n w hB hlen hn).mono ?_); rintro e w1 ⟨g, rfl, h0, h1, h2, h3⟩)
  go_ret3
  exact ⟨g, rfl, h0, h1, h2, h3⟩

theorem rtakeBytes_sub (a : Option Addr) (c : Nat) (xs : List Int) (k : Nat) (w : World) (hk : k ≤ xs.length) (hB : Bs w a c xs) (hlen : xs.length ≤ 1000000) :
    Calls Try.prog 20 #[.slice a xs.length c, .int .i64 k] w fun e w' => ∃ a2 c2, e = .returned (.tuple #[.slice a k c, .slice a2 (xs.length - k) c2, .int .i64 0]) ∧ (∀ u, Bs u a c xs → Bs u a c (xs.take k) ∧ Bs u a2 c2 (xs.drop k)) ∧ Below w.heap.size w w' := by
  obtain ⟨hrun1, _⟩ := hB.upto (P := Try.prog) 22 5 Try.underlying22 Try.size5 Try.elem22 k hk
  obtain ⟨a', c', hrun2, hB2⟩ := Bs.fromAll (P := Try.prog) a c xs 22 5 Try.underlying22 Try.size5 Try.elem22 k hk
  have hs1 : ∀ w', (Instr.slice 22 (.slice a xs.length c) none (some (.int .i64 k)) none).run Try.prog w' = .ok (.slice a k c) w' := fun w' => hrun1 w' _ .i64 k rfl
  have hs2 : ∀ w', (Instr.slice 22 (.slice a xs.length c) (some (.int .i64 k)) none none).run Try.prog w' = .ok (.slice a' (xs.length - k) c') w' := fun w' => hrun2 w' .i64
  have HB : Hid (∀ u, Bs u a c xs → Bs u a c (xs.take k) ∧ Bs u a' c' (xs.drop k)) := fun u hu => ⟨(hu.upto (P := Try.prog) 22 5 Try.underlying22 Try.size5 Try.elem22 k hk).2, hB2 u hu⟩
  clear hrun1 hrun2 hB2
  go_enter Try.func20, Try.ntmps20
  go_wp2
  go_quiet (fail)
  go_wp2
  go_ret3
  exact ⟨a', c', rfl, HB.out, below_drewN (Below.refl _ _) _⟩

theorem xor255 (x : Int) (h0 : 0 ≤ x) (h1 : x ≤ 255) : bits .xor .u8 x 255 = 255 - x := by
  obtain ⟨n, rfl⟩ := Int.eq_ofNat_of_zero_le h0
  have hn : n < 256 := by omega
  have key : ∀ k : Fin 256, bits .xor .u8 ((k.val : Nat) : Int) 255 = 255 - ((k.val : Nat) : Int) := by decide +kernel
  exact key ⟨n, hn⟩
end Go.Proofs.Ytiofpkkbejnjcaa
