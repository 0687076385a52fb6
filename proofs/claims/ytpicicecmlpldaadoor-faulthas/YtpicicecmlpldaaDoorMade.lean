/-
  The statements' own helpers: the fault that is made of operations, and the live question.
-/
import Derived.Test.YtpicicecmlpldaaDoorSmall
import Derived.Deep.RegionWith
namespace Go.Proofs.YtpicicecmlpldaaDoor
set_option linter.unusedSimpArgs false
set_option linter.unusedVariables false
open Go.RowKit

/-- The operations of a fault that is made, from the outermost one on. -/
def madeOf (root : ByteArray) (xs : List ByteArray) : List ByteArray := xs.reverse ++ [root]

theorem madeOf_take (root : ByteArray) (xs : List ByteArray) (k : Nat) (hk : k < xs.length) : xs.getD k .empty :: madeOf root (xs.take k) = madeOf root (xs.take (k + 1)) := by
  unfold madeOf
  rw [List.take_add_one, List.getElem?_eq_getElem hk, List.getD_eq_getElem?_getD, List.getElem?_eq_getElem hk, List.reverse_append]
  rfl

theorem madeOf_cons (root : ByteArray) (xs : List ByteArray) : ∃ op ops, madeOf root xs = op :: ops := by
  unfold madeOf
  cases h : xs.reverse with
  | nil => exact ⟨_, _, rfl⟩
  | cons x r => exact ⟨_, _, rfl⟩

theorem made_run (root : ByteArray) (c : Int) (hc : c ≠ 0) (a : Option Addr) (cap : Nat) (xs : List ByteArray) (hx : xs.length ≤ 20) (w : World) (h : Ss w a xs) :
    Calls Tryd.prog 8 #[.string root, .slice a xs.length cap, .int .i64 c] w fun e w' => ∃ p, e = .returned (.pointer p) ∧ Ch w' c p (madeOf root xs) ∧ Below w.heap.size w w' := by
  have hof := of_run root c hc w
  clear hc
  go_enter Tryd.func8, Tryd.ntmps8
  go_wp2_with (go_at_call 19; go_must (refine hof.mono ?_); rintro e w1 ⟨p1, rfl, hC1, hb1⟩)
  go_loopw [7, 8] (fun v i wr => ∃ (p : Option Addr) (k : Nat), v = .pointer p ∧ i = .int .i64 k ∧ k ≤ xs.length ∧ Ch wr c p (madeOf root (xs.take k)) ∧ Below w.heap.size w wr) (fun _ i _ => xs.length - (intOf i).toNat)
  case atStart => exact ⟨p1, 0, rfl, rfl, by omega, hC1, hb1⟩
  case round =>
    clear hC1 hb1 hof
    rename_i hrel
    obtain ⟨p, k, rfl, rfl, hk, hC, hbel⟩ := hrel
    by_cases hlt : k < xs.length
    · obtain ⟨b, off, rfl, hcl⟩ := (h.stays hbel).at k hlt
      have ht := madeOf_take root xs k hlt
      obtain ⟨s, hss⟩ : ∃ s, s = xs.getD k .empty := ⟨_, rfl⟩
      rw [← hss] at hcl ht
      obtain ⟨op, ops, hoo⟩ := madeOf_cons root (xs.take k)
      rw [hoo] at hC ht
      have HS : Hid (s :: op :: ops = madeOf root (xs.take (k + 1))) := ht
      have hlt' : (k : Int) < (xs.length : Int) := by omega
      have hcall := wrap_run s c p op ops wr hC
      clear hss ht hoo
      go_wp2_with (go_at_call 18; go_must (refine hcall.mono ?_); rintro e w2 ⟨p2, rfl, hC2, hb2⟩)
      go_roundw
      case rel => exact ⟨p2, k + 1, rfl, by go_num, by omega, by rw [← HS.out]; exact hC2, hbel.trans (hb2.mono hbel.size)⟩
      case measure => simp [intOf]; omega
    · have hlt' : ¬ ((k : Int) < (xs.length : Int)) := by omega
      have hk2 : k = xs.length := by omega
      subst hk2
      rw [List.take_length] at hC
      go_wp2
      go_ret
      exact ⟨_, rfl, hC, hbel⟩

theorem made_none (root : ByteArray) (a : Option Addr) (cap : Nat) (xs : List ByteArray) (hx : xs.length ≤ 20) (w : World) (h : Ss w a xs) :
    Calls Tryd.prog 8 #[.string root, .slice a xs.length cap, .int .i64 0] w fun e w' => e = .returned (.pointer none) ∧ w' = w := by
  go_enter Tryd.func8, Tryd.ntmps8
  go_wp2_with (go_at_call 19; go_must (refine (of_none root w).mono ?_); rintro e w1 ⟨rfl, rfl⟩)
  go_loopw [7, 8] (fun v i wr => ∃ (k : Nat), v = .pointer none ∧ i = .int .i64 k ∧ k ≤ xs.length ∧ wr = w1) (fun _ i _ => xs.length - (intOf i).toNat)
  case atStart => exact ⟨0, rfl, rfl, by omega, rfl⟩
  case round =>
    rename_i hrel
    obtain ⟨k, rfl, rfl, hk, rfl⟩ := hrel
    by_cases hlt : k < xs.length
    · obtain ⟨b, off, rfl, hcl⟩ := h.at k hlt
      have hlt' : (k : Int) < (xs.length : Int) := by omega
      go_wp2_with (go_at_call 18; go_must (refine (wrap_none _ _).mono ?_); rintro e w2 ⟨rfl, rfl⟩)
      go_roundw
      case rel => exact ⟨k + 1, rfl, by go_num, by omega, trivial⟩
      case measure => simp [intOf]; omega
    · have hlt' : ¬ ((k : Int) < (xs.length : Int)) := by omega
      go_wp2
      go_ret
      exact ⟨rfl, rfl⟩

def aliveOps : List ByteArray := [⟨#[115, 99, 114, 117, 98]⟩, ⟨#[114, 101, 97, 100]⟩]
def aliveText : List UInt8 := [115, 99, 114, 117, 98, 58, 32, 114, 101, 97, 100, 58, 32, 100, 97, 109, 97, 103, 101, 100]
theorem aliveOps_text : textOf aliveOps 9 = aliveText := by decide +kernel
theorem aliveOps_len : (told aliveOps).length ≤ 1000000 := by decide +kernel

theorem alive_text (p : Option Addr) (w : World) (hE : ErrT w) (hN : NamesT w) (h : Ch w 9 p aliveOps) : Calls Tryd.prog 10 #[.pointer p] w fun e w' => e = .returned (.string ⟨aliveText.toArray⟩) ∧ Below w.heap.size w w' := by
  rw [← aliveOps_text]
  exact text_run 9 p _ _ aliveOps_len w hE hN h

set_option maxHeartbeats 2000000 in
set_option maxRecDepth 100000 in
theorem alive_run (w : World) (hE : ErrT w) (hN : NamesT w) : Calls Tryd.prog 7 #[] w fun e w' => e = .returned (.bool true) ∧ Below w.heap.size w w' := by
  go_enter Tryd.func7, Tryd.ntmps7
  go_wp2_with (first
    | (go_at_call_of 19 (Value.int .i64 9); go_must (refine (of_run ⟨#[114, 101, 97, 100]⟩ 9 (by decide) _).mono ?_); rintro e w1 ⟨p1, rfl, hC1, hb1⟩)
    | (go_at_call 18; go_must (refine (wrap_run ⟨#[115, 99, 114, 117, 98]⟩ 9 p1 ⟨#[114, 101, 97, 100]⟩ [] w1 hC1).mono ?_); rintro e w2 ⟨p2, rfl, hC2, hb2⟩
       have hb12 := hb1.trans (hb2.mono hb1.size)
       have hcall := alive_text p2 w2 (hE.stays hb12) (hN.stays hb12) hC2)
    | (go_at_call 10; go_must (refine hcall.mono ?_); rintro e w3 ⟨rfl, hb3⟩
       obtain ⟨b, q, hp, hB, hq⟩ := hC2.stays hb3
       subst hp)
    | (go_at_call 9; go_must (refine (code_run b q _ _ _ hB).mono ?_); rintro e w4 ⟨rfl, rfl⟩)
    | (go_at_call 19; go_must (refine (of_none _ _).mono ?_); rintro e w5 ⟨rfl, rfl⟩))
  go_ret
  exact ⟨rfl, hb12.trans (hb3.mono hb12.size)⟩
end Go.Proofs.YtpicicecmlpldaaDoor
