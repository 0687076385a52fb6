/-
  Package space: Give.
-/
import Derived.Test.YtfmfjaokpnadaaaSpKeep
namespace Go.Proofs.Ytfmfjaokpnadaaa
set_option linter.unusedSimpArgs false
set_option linter.unusedVariables false
open Go.RowKit

section
variable {g : Nat} {l : List Bool}

theorem give_nil (i : Nat) (hi : i < 4294967296) (w : World) : Calls Try.prog 14 #[.pointer none, .int .u32 (i : Int)] w fun e w' => e = .returned (.int .i64 1) ∧ w' = w := by
  go_enter Try.func14, Try.ntmps14
  go_wp2_with (go_at_call 30; refine (has_nil i hi _).mono ?_; rintro e w' ⟨rfl, rfl⟩)
  go_ret
  exact ⟨rfl, rfl⟩

theorem give_out (i : Nat) (hi : i < 4294967296) (w : World) (h : Mp w g l) (ho : l.length ≤ i) : Calls Try.prog 14 #[.pointer (some ⟨g, 0, none⟩), .int .u32 (i : Int)] w fun e w' => e = .returned (.int .i64 1) ∧ Below w.heap.size w w' := by
  have hd : decide (i < l.length) = false := decide_eq_false (by omega)
  have h1 := has_run i hi w h
  rw [hd] at h1
  have HH : Hid (Calls Try.prog 30 #[.pointer (some ⟨g, 0, none⟩), .int .u32 (i : Int)] w fun e w' => e = .returned (.bool false) ∧ w' = w) := h1
  clear h1 hd
  go_enter Try.func14, Try.ntmps14
  go_wp2_with (go_at_call 30; refine HH.out.mono ?_; rintro e w' ⟨rfl, rfl⟩)
  go_ret
  exact ⟨rfl, Below.refl _ _⟩

theorem give_lab (i : Nat) (hi : i < 4) (w : World) (h : Mp w g l) : Calls Try.prog 14 #[.pointer (some ⟨g, 0, none⟩), .int .u32 (i : Int)] w fun e w' => e = .returned (.int .i64 1) ∧ Below w.heap.size w w' := by
  have hlo := h.lo
  have hd : decide (i < l.length) = true := decide_eq_true (by omega)
  have hd2 : decide ((i : Int) < 4) = true := decide_eq_true (by omega)
  have h1 := has_run i (by omega) w h
  rw [hd] at h1
  have HH : Hid (Calls Try.prog 30 #[.pointer (some ⟨g, 0, none⟩), .int .u32 (i : Int)] w fun e w' => e = .returned (.bool true) ∧ w' = w) := h1
  have h2 := isLabel_run (i : Int) w
  rw [hd2] at h2
  have HL : Hid (Calls Try.prog 31 #[.int .i64 (i : Int)] w fun e w' => e = .returned (.bool true) ∧ w' = w) := h2
  clear h1 hd h2 hd2
  go_enter Try.func14, Try.ntmps14
  go_wp2_with (first
    | (go_at_call 30; refine HH.out.mono ?_; rintro e w' ⟨rfl, rfl⟩)
    | (go_at_call 31; refine HL.out.mono ?_; rintro e w' ⟨rfl, rfl⟩))
  go_ret
  exact ⟨rfl, Below.refl _ _⟩

theorem give_free (i : Nat) (h4 : 4 ≤ i) (hi : i < l.length) (hu : l.getD i false = false) (w : World) (h : Mp w g l) : Calls Try.prog 14 #[.pointer (some ⟨g, 0, none⟩), .int .u32 (i : Int)] w fun e w' => e = .returned (.int .i64 1) ∧ Below w.heap.size w w' := by
  have hhi := h.hi
  have hd : decide (i < l.length) = true := decide_eq_true (by omega)
  have hd2 : decide ((i : Int) < 4) = false := decide_eq_false (by omega)
  have h1 := has_run i (by omega) w h
  rw [hd] at h1
  have HH : Hid (Calls Try.prog 30 #[.pointer (some ⟨g, 0, none⟩), .int .u32 (i : Int)] w fun e w' => e = .returned (.bool true) ∧ w' = w) := h1
  have h2 := isLabel_run (i : Int) w
  rw [hd2] at h2
  have HL : Hid (Calls Try.prog 31 #[.int .i64 (i : Int)] w fun e w' => e = .returned (.bool false) ∧ w' = w) := h2
  have h3 := used_in i w h hi
  rw [hu] at h3
  have HU : Hid (Calls Try.prog 19 #[.pointer (some ⟨g, 0, none⟩), .int .i64 (i : Int)] w fun e w' => e = .returned (.bool false) ∧ Below w.heap.size w w') := h3
  clear h1 hd h2 hd2 h3 hu
  go_enter Try.func14, Try.ntmps14
  go_wp2_with (first
    | (go_at_call 30; refine HH.out.mono ?_; rintro e w' ⟨rfl, rfl⟩)
    | (go_at_call 31; refine HL.out.mono ?_; rintro e w' ⟨rfl, rfl⟩)
    | (go_at_call 19; refine HU.out.mono ?_; rintro e w1 ⟨rfl, hb1⟩))
  go_ret
  exact ⟨rfl, hb1⟩

theorem give_used (i : Nat) (h4 : 4 ≤ i) (hi : i < l.length) (hu : l.getD i false = true) (w : World) (h : Mp w g l) : Calls Try.prog 14 #[.pointer (some ⟨g, 0, none⟩), .int .u32 (i : Int)] w fun e w' => e = .returned (.int .i64 0) ∧ Mp w' g (l.set i false) ∧ But g w w' := by
  have hhi := h.hi
  have hd : decide (i < l.length) = true := decide_eq_true (by omega)
  have hd2 : decide ((i : Int) < 4) = false := decide_eq_false (by omega)
  have h1 := has_run i (by omega) w h
  rw [hd] at h1
  have HH : Hid (Calls Try.prog 30 #[.pointer (some ⟨g, 0, none⟩), .int .u32 (i : Int)] w fun e w' => e = .returned (.bool true) ∧ w' = w) := h1
  have h2 := isLabel_run (i : Int) w
  rw [hd2] at h2
  have HL : Hid (Calls Try.prog 31 #[.int .i64 (i : Int)] w fun e w' => e = .returned (.bool false) ∧ w' = w) := h2
  have h3 := used_in i w h hi
  rw [hu] at h3
  have HU : Hid (Calls Try.prog 19 #[.pointer (some ⟨g, 0, none⟩), .int .i64 (i : Int)] w fun e w' => e = .returned (.bool true) ∧ Below w.heap.size w w') := h3
  have HM : Hid (∀ u, Below w.heap.size w u → Mp u g l) := fun u hu => h.stays hu
  clear h1 hd h2 hd2 h3 hu h
  have hb := fun u => bit_run i (by omega) u
  have hlt := W_lt l (i / 64)
  have hcl := clr_word l i hi
  have hq0 : (0 : Int) ≤ (i : Int) / 64 := by omega
  have hq1 : (i : Int) / 64 < 8 := by omega
  have hq2 : ((i : Int) / 64).toNat = i / 64 := by omega
  have hwr : IntKind.u32.wrap ((i : Int) / 64) = (i : Int) / 64 := by simp [IntKind.wrap, IntKind.bits, IntKind.signed]; omega
  have hwr2 : IntKind.i64.wrap (i : Int) = (i : Int) := by simp [IntKind.wrap, IntKind.bits, IntKind.signed]; omega
  go_enter Try.func14, Try.ntmps14
  go_wp2_with (first
    | (go_at_call 30; refine HH.out.mono ?_; rintro e w' ⟨rfl, rfl⟩)
    | (go_at_call 31; refine HL.out.mono ?_; rintro e w' ⟨rfl, rfl⟩)
    | (go_at_call 19; refine HU.out.mono ?_; rintro e w1 ⟨rfl, hb1⟩))
  have hP1 := HM.out w1 hb1
  have hw := hP1.word (i / 64) (by omega)
  have hfr := hP1.blk.free (1 + i / 64)
  go_region_law (refine step_call rfl 32 #[.int .i64 (i : Int)] (by go_simp) (hb _) ?_; rintro e w' ⟨rfl, rfl⟩; refine ⟨_, rfl, ?_⟩)
  all_goals go_wp2
  all_goals go_ret
  all_goals exact ⟨rfl, ⟨(hP1.put i false hi).blk, (hP1.put i false hi).lo, (hP1.put i false hi).hi⟩, (But.of_below hb1).trans ((But.refl g w1).setCell _ _).drew⟩

theorem give_run (i : Nat) (hi : i < 4294967296) (w : World) (h : Mp w g l) : Calls Try.prog 14 #[.pointer (some ⟨g, 0, none⟩), .int .u32 (i : Int)] w fun e w' => e = .returned (.int .i64 ((giveL l i).2 : Int)) ∧ Mp w' g (giveL l i).1 ∧ But g w w' := by
  unfold giveL
  by_cases hc : i < l.length ∧ 4 ≤ i ∧ l.getD i false = true
  · rw [if_pos hc]
    exact give_used i hc.2.1 hc.1 hc.2.2 w h
  · rw [if_neg hc]
    have key : Calls Try.prog 14 #[.pointer (some ⟨g, 0, none⟩), .int .u32 (i : Int)] w fun e w' => e = .returned (.int .i64 1) ∧ Below w.heap.size w w' := by
      by_cases h1 : i < l.length
      · by_cases h2 : 4 ≤ i
        · exact give_free i h2 h1 (by cases hx : l.getD i false; rfl; exact absurd ⟨h1, h2, hx⟩ hc) w h
        · exact give_lab i (by omega) w h
      · exact give_out i hi w h (by omega)
    exact key.mono fun e w' ⟨h1, h2⟩ => ⟨h1, h.stays h2, But.of_below h2⟩
end
end Go.Proofs.Ytfmfjaokpnadaaa
