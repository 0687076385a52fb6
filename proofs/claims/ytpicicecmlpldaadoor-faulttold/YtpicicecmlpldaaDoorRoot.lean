/-
  Package fault: Root and Depth of a chain.
-/
import Derived.Test.YtpicicecmlpldaaDoorChain
namespace Go.Proofs.YtpicicecmlpldaaDoor
set_option linter.unusedSimpArgs false
set_option linter.unusedVariables false
open Go.RowKit

/-- How long a chain is, by a walk of so many steps. -/
def chLen (w : World) : Nat → Option Addr → Nat
  | 0, _ => 0
  | _ + 1, none => 0
  | k + 1, some a => match w.cell? ⟨a.block, 2, none⟩ with
    | some (Value.pointer q) => chLen w k q + 1
    | _ => 0

def ptrOf : Value → Option Addr
  | .pointer p => p
  | _ => none

theorem Ch.len {w : World} {c : Int} : ∀ (ops : List ByteArray) (p : Option Addr) (n : Nat), Ch w c p ops → ops.length ≤ n → chLen w n p = ops.length
  | [], p, n, h, _ => by
    obtain rfl : p = none := h
    cases n <;> rfl
  | op :: rest, p, n, ⟨b, q, hp, hb, hr⟩, hn => by
    cases n with
    | zero => simp at hn
    | succ n =>
      subst hp
      have ih := Ch.len rest q n hr (by simpa using hn)
      have h2 := hb.cell 2
      simp at h2
      simp [chLen, h2, ih]

theorem within_run (c : Int) (p : Option Addr) (op : ByteArray) (ops : List ByteArray) (w : World) (hE : ErrT w) (h : Ch w c p (op :: ops)) :
    Calls Tryd.prog 20 #[.pointer p] w fun e w' => ∃ p', e = .returned (.pointer p') ∧ Ch w' c p' ops ∧ Below w.heap.size w w' := by
  obtain ⟨b, q, rfl, hb, hq⟩ := h
  cases ops with
  | nil =>
    obtain rfl : q = none := hq
    refine (within_none b op c w hb).mono ?_
    rintro e w' ⟨rfl, h1⟩
    exact ⟨none, rfl, rfl, h1⟩
  | cons op' rest =>
    obtain ⟨k, q', rfl, hk, hr⟩ := hq
    refine (within_some b k op op' c c q' w hE hb hk).mono ?_
    rintro e w' ⟨g, rfl, h1, h2⟩
    exact ⟨_, rfl, ⟨g, q', rfl, h1, hr.stays h2⟩, h2⟩

/-- The innermost operation; behind one that was seen already. -/
def lastOf (s : ByteArray) : List ByteArray → ByteArray
  | [] => s
  | op :: rest => lastOf op rest

theorem root_run (c : Int) (p : Option Addr) (ops : List ByteArray) (w : World) (hE : ErrT w) (h : Ch w c p ops) :
    Calls Tryd.prog 11 #[.pointer p] w fun e w' => e = .returned (.string (lastOf .empty ops)) ∧ Below w.heap.size w w' := by
  go_enter Tryd.func11, Tryd.ntmps11
  go_wp2
  go_loopw [0, 3] (fun v s wr => ∃ (p' : Option Addr) (t : ByteArray) (rest : List ByteArray), v = .pointer p' ∧ s = .string t ∧ Ch wr c p' rest ∧ rest.length ≤ ops.length ∧ lastOf t rest = lastOf .empty ops ∧ Below w.heap.size w wr) (fun v _ wr => chLen wr ops.length (ptrOf v))
  case atStart => exact ⟨p, .empty, ops, rfl, rfl, h, Nat.le_refl _, rfl, Below.refl _ _⟩
  case round =>
    rename_i hrel
    obtain ⟨p', t, rest, rfl, rfl, hC, hl, hlast, hbel⟩ := hrel
    have hEr : ErrT wr := hE.stays hbel
    obtain ⟨L, hL⟩ : ∃ L, L = lastOf .empty ops := ⟨_, rfl⟩
    rw [← hL] at hlast
    have HL : Hid (L = lastOf .empty ops ∧ lastOf t rest = L) := ⟨hL, hlast⟩
    clear hL hlast
    cases rest with
    | nil =>
      obtain rfl : p' = none := hC
      go_wp2
      go_ret
      have := HL.out
      exact ⟨by rw [← this.1, ← this.2]; rfl, hbel⟩
    | cons op rest =>
      have hm := hC.len _ _ _ hl
      obtain ⟨b, q, hp, hb, hq⟩ := id hC
      subst hp
      obtain ⟨h0, h1, h2⟩ := fields wr b op c q hb
      have hcall := within_run c _ op rest wr hEr hC
      go_wp2_with (go_at_call 20; go_must (refine hcall.mono ?_); rintro e w1 ⟨p1, rfl, hC1, hb1⟩)
      have hm1 := hC1.len _ _ ops.length (by simp at hl; omega)
      go_roundw
      case rel => exact ⟨p1, op, rest, rfl, rfl, hC1, by simp at hl; omega, by have := HL.out; rw [← this.1, ← this.2]; rfl, hbel.trans (hb1.mono hbel.size)⟩
      case measure => simp [ptrOf, hm, hm1]

theorem depth_run (c : Int) (p : Option Addr) (ops : List ByteArray) (hN : ops.length ≤ 1000) (w : World) (hE : ErrT w) (h : Ch w c p ops) :
    Calls Tryd.prog 12 #[.pointer p] w fun e w' => e = .returned (.int .i64 (ops.length : Nat)) ∧ Below w.heap.size w w' := by
  go_enter Tryd.func12, Tryd.ntmps12
  go_wp2
  go_loopw [0, 3] (fun v s wr => ∃ (p' : Option Addr) (n : Nat) (rest : List ByteArray), v = .pointer p' ∧ s = .int .i64 n ∧ Ch wr c p' rest ∧ n + rest.length = ops.length ∧ Below w.heap.size w wr) (fun v _ wr => chLen wr ops.length (ptrOf v))
  case atStart => exact ⟨p, 0, ops, rfl, rfl, h, by omega, Below.refl _ _⟩
  case round =>
    rename_i hrel
    obtain ⟨p', n, rest, rfl, rfl, hC, hl, hbel⟩ := hrel
    have hEr : ErrT wr := hE.stays hbel
    cases rest with
    | nil =>
      obtain rfl : p' = none := hC
      obtain rfl : n = ops.length := by simpa using hl
      go_wp2
      go_ret
      exact ⟨rfl, hbel⟩
    | cons op rest =>
      have hl' : n + 1 + rest.length = ops.length := by simp at hl; omega
      have hm := hC.len _ _ ops.length (by omega)
      obtain ⟨b, q, hp, hb, hq⟩ := id hC
      subst hp
      have hcall := within_run c _ op rest wr hEr hC
      have hn : (n : Int) + 1 ≤ 1000 := by omega
      clear hl
      go_wp2_with (go_at_call 20; go_must (refine hcall.mono ?_); rintro e w1 ⟨p1, rfl, hC1, hb1⟩)
      have hm1 := hC1.len _ _ ops.length (by omega)
      go_roundw
      case rel => exact ⟨p1, n + 1, rest, rfl, by go_num, hC1, by omega, hbel.trans (hb1.mono hbel.size)⟩
      case measure => simp [ptrOf, hm, hm1]
end Go.Proofs.YtpicicecmlpldaaDoor
