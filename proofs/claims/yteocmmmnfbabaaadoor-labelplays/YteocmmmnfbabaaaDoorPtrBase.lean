/-
  Pointers as plain data: how they are written and read; no function here.
-/
import Derived.Test.YteocmmmnfbabaaaDoorNumWhole
namespace Go.Proofs.YteocmmmnfbabaaaDoor
set_option linter.unusedSimpArgs false
set_option linter.unusedVariables false
open Go.RowKit

/-- A pointer: its hash, its birth, its places. -/
structure Pt where
  h : List Int
  b : Nat
  x : Nat
  y : Nat

/-- The same pointer. -/
def Pt.same (p q : Pt) : Bool := p.h == q.h && (p.b == q.b && (p.x == q.x && p.y == q.y))
theorem Pt.same_iff {p q : Pt} : p.same q = true ↔ p = q := by
  obtain ⟨h, b, x, y⟩ := p
  obtain ⟨h', b', x', y'⟩ := q
  simp [Pt.same]
theorem Pt.same_self (p : Pt) : p.same p = true := Pt.same_iff.2 rfl
theorem Pt.same_not {p q : Pt} (h : p ≠ q) : p.same q = false := by
  cases hs : p.same q
  · rfl
  · exact absurd (Pt.same_iff.1 hs) h

structure Pt.ok (p : Pt) : Prop where
  len : p.h.length = 32
  rng : ∀ z ∈ p.h, 0 ≤ z ∧ z ≤ 255
  b : p.b < 4294967296
  x : p.x < 4294967296
  y : p.y < 4294967296

/-- Its cells. -/
def Pt.vs (p : Pt) : List Value := p.h.map (Value.int .u8) ++ [.int .u32 p.b, .int .u32 p.x, .int .u32 p.y]

def Pt.zero : Pt := ⟨List.replicate 32 0, 0, 0, 0⟩
theorem Pt.zero_ok : Pt.zero.ok := ⟨by decide, by decide, by decide, by decide, by decide⟩

def Pt.may (p : Pt) : Bool := if p.x = 0 then p.y == 0 else !(p.y == p.x)
def Pt.hole (p : Pt) : Bool := p.same Pt.zero
def Pt.absent (p : Pt) : Bool := p.may && !p.hole && p.x == 0
theorem Pt.zero_may : Pt.zero.may = true := rfl

theorem Pt.vs_len {p : Pt} (h : p.ok) : p.vs.length = 35 := by simp [Pt.vs, h.len]

/-- As it is written. -/
def Pt.enc (p : Pt) : List Int := p.h ++ (b32 p.b ++ (b32 p.x ++ b32 p.y))

theorem b32_len (n : Nat) : (b32 n).length = 4 := rfl
theorem Pt.enc_len {p : Pt} (h : p.ok) : p.enc.length = 44 := by simp [Pt.enc, h.len, b32_len]
theorem Pt.enc_rng {p : Pt} (h : p.ok) : ∀ z ∈ p.enc, 0 ≤ z ∧ z ≤ 255 := by
  intro z hz
  simp only [Pt.enc, List.mem_append] at hz
  rcases hz with hz | hz | hz | hz
  · exact h.rng z hz
  · exact b32_rng _ h.b z hz
  · exact b32_rng _ h.x z hz
  · exact b32_rng _ h.y z hz

/-- The whole number that the bytes begin with. -/
def n32 (xs : List Int) : Nat := (take32L xs).1.toNat

theorem take32_int {xs : List Int} (hr : ∀ x ∈ xs, 0 ≤ x ∧ x ≤ 255) : (take32L xs).1 = (n32 xs : Int) ∧ n32 xs < 4294967296 := by
  unfold n32 take32L
  by_cases h4 : xs.length < 4
  · rw [if_pos h4]; simp
  · rw [if_neg h4]
    have h0 := getD_rng hr 0 (by omega)
    have h1 := getD_rng hr 1 (by omega)
    have h2 := getD_rng hr 2 (by omega)
    have h3 := getD_rng hr 3 (by omega)
    simp only
    omega

theorem n32_b32 (n : Nat) (hn : n < 4294967296) (rest : List Int) : n32 (b32 n ++ rest) = n := by
  unfold n32; rw [take32_back n hn]; rfl

theorem b32_n32 {xs : List Int} (hr : ∀ x ∈ xs, 0 ≤ x ∧ x ≤ 255) (h4 : 4 ≤ xs.length) : b32 (n32 xs) = xs.take 4 := by
  match xs, h4 with
  | x0 :: x1 :: x2 :: x3 :: ys, _ =>
    have h0 := hr x0 (by simp)
    have h1 := hr x1 (by simp)
    have h2 := hr x2 (by simp)
    have h3 := hr x3 (by simp)
    have hi := (take32_int hr).1
    unfold take32L at hi
    rw [if_neg (by simp)] at hi
    simp only [List.getD_cons_zero, List.getD_cons_succ] at hi
    unfold b32
    rw [← hi]
    simp only [List.take_succ_cons, List.take_zero, List.cons.injEq, and_true]
    omega

/-- The pointer that 44 bytes are. -/
def decP (xs : List Int) : Pt := ⟨xs.take 32, n32 (xs.drop 32), n32 (xs.drop 36), n32 (xs.drop 40)⟩

theorem rng_drop {xs : List Int} (hr : ∀ x ∈ xs, 0 ≤ x ∧ x ≤ 255) (k : Nat) : ∀ x ∈ xs.drop k, 0 ≤ x ∧ x ≤ 255 := fun x hx => hr x (List.mem_of_mem_drop hx)
theorem rng_take {xs : List Int} (hr : ∀ x ∈ xs, 0 ≤ x ∧ x ≤ 255) (k : Nat) : ∀ x ∈ xs.take k, 0 ≤ x ∧ x ≤ 255 := fun x hx => hr x (List.mem_of_mem_take hx)

theorem decP_ok {xs : List Int} (hr : ∀ x ∈ xs, 0 ≤ x ∧ x ≤ 255) (hl : 32 ≤ xs.length) : (decP xs).ok :=
  ⟨by simp [decP]; omega, rng_take hr 32, (take32_int (rng_drop hr 32)).2, (take32_int (rng_drop hr 36)).2, (take32_int (rng_drop hr 40)).2⟩

theorem decP_enc {p : Pt} (h : p.ok) : decP p.enc = p := by
  obtain ⟨hs, b, x, y⟩ := p
  have hl := h.len
  simp only at hl
  unfold decP Pt.enc
  have e1 : (hs ++ (b32 b ++ (b32 x ++ b32 y))).take 32 = hs := by rw [← hl, List.take_left]
  have e2 : (hs ++ (b32 b ++ (b32 x ++ b32 y))).drop 32 = b32 b ++ (b32 x ++ b32 y) := by rw [← hl, List.drop_left]
  have e3 : (hs ++ (b32 b ++ (b32 x ++ b32 y))).drop 36 = b32 x ++ b32 y := by rw [show 36 = 32 + 4 from rfl, ← List.drop_drop, e2]; rfl
  have e4 : (hs ++ (b32 b ++ (b32 x ++ b32 y))).drop 40 = b32 y ++ [] := by rw [show 40 = 36 + 4 from rfl, ← List.drop_drop, e3]; rfl
  simp only
  rw [e1, e2, e3, e4, n32_b32 _ h.b, n32_b32 _ h.x, n32_b32 _ h.y]

theorem enc_decP {xs : List Int} (hr : ∀ x ∈ xs, 0 ≤ x ∧ x ≤ 255) (hl : xs.length = 44) : (decP xs).enc = xs := by
  unfold decP Pt.enc
  simp only
  rw [b32_n32 (rng_drop hr 32) (by simp; omega), b32_n32 (rng_drop hr 36) (by simp; omega), b32_n32 (rng_drop hr 40) (by simp; omega)]
  have h1 : xs = xs.take 32 ++ xs.drop 32 := (List.take_append_drop _ _).symm
  have h2 : xs.drop 32 = (xs.drop 32).take 4 ++ xs.drop 36 := by rw [show 36 = 32 + 4 from rfl, ← List.drop_drop]; exact (List.take_append_drop _ _).symm
  have h3 : xs.drop 36 = (xs.drop 36).take 4 ++ xs.drop 40 := by rw [show 40 = 36 + 4 from rfl, ← List.drop_drop]; exact (List.take_append_drop _ _).symm
  have h4 : (xs.drop 40).take 4 = xs.drop 40 := List.take_of_length_le (by simp; omega)
  rw [h4, ← h3, ← h2, ← h1]

/-- What Decode tells. -/
def decodeL (xs : List Int) : Pt × Nat :=
  if xs.length < 44 then (Pt.zero, 2) else if 44 < xs.length then (Pt.zero, 3) else if (decP xs).may then (decP xs, 0) else (Pt.zero, 3)

theorem decodeL_ok {xs : List Int} (hr : ∀ x ∈ xs, 0 ≤ x ∧ x ≤ 255) : (decodeL xs).1.ok := by
  unfold decodeL
  split
  · exact Pt.zero_ok
  · split
    · exact Pt.zero_ok
    · split
      · exact decP_ok hr (by omega)
      · exact Pt.zero_ok

theorem decodeL_enc {p : Pt} (h : p.ok) : decodeL p.enc = if p.may then (p, 0) else (Pt.zero, 3) := by
  unfold decodeL
  rw [Pt.enc_len h, if_neg (by omega), if_neg (by omega), decP_enc h]

theorem decodeL_at {xs : List Int} (hl : xs.length = 44) : decodeL xs = if (decP xs).may then (decP xs, 0) else (Pt.zero, 3) := by
  unfold decodeL
  rw [hl, if_neg (by omega), if_neg (by omega)]

end Go.Proofs.YteocmmmnfbabaaaDoor
