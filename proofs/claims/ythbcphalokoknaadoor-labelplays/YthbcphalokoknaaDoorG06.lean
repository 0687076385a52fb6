/-
  Whole numbers: the walks over num.Put32 and num.Take32.
-/
import Derived.Test.YthbcphalokoknaaDoorG05
import Derived.Test.YthbcphalokoknaaDoorG04
import Derived.Deep.QuietTactic
import Derived.BigQuiet
import Derived.Laws.BitsLemmas
import Derived.Laws.StructEq
namespace Go.Proofs.YthbcphalokoknaaDoor
set_option linter.unusedSimpArgs false
set_option linter.unusedVariables false
open Go.RowKit

def b32 (n : Nat) : List Int := [(n : Int) % 256, (n : Int) / 256 % 256, (n : Int) / 65536 % 256, (n : Int) / 16777216]

theorem b32_rng (n : Nat) (hn : n < 4294967296) : ∀ x ∈ b32 n, 0 ≤ x ∧ x ≤ 255 := by
  intro x hx
  simp only [b32, List.mem_cons, List.not_mem_nil, or_false] at hx
  rcases hx with rfl | rfl | rfl | rfl <;> omega

theorem b32_bs (n : Nat) (hn : n < 4294967296) (w : World) : Bs (w.alloc (.cells #[.int .u8 ((n : Int) % 256), .int .u8 ((n : Int) / 256 % 256), .int .u8 ((n : Int) / 65536 % 256), .int .u8 ((n : Int) / 16777216)] 5)) (some ⟨w.heap.size, 0, none⟩) 4 (b32 n) := by
  refine ⟨b32_rng n hn, by simp [b32], by decide, by simp, .inr ⟨_, _, rfl, fun i hi => ?_⟩⟩
  have : i = 0 ∨ i = 1 ∨ i = 2 ∨ i = 3 := by simp [b32] at hi; omega
  rcases this with rfl | rfl | rfl | rfl <;> simp [b32]

theorem put32_any (a : Option Addr) (c : Nat) (xs : List Int) (n : Nat) (hn : n < 4294967296) (w : World) (hB : Bs w a c xs) (hlen : xs.length ≤ 100000) :
    Calls Tryd.prog 35 #[.slice a xs.length c, .int .u32 n] w fun e w' => ∃ a' c', e = .returned (.slice a' (xs ++ b32 n).length c') ∧ Bs w' a' c' (xs ++ b32 n) ∧ Below w.heap.size w w' := by
  have hb1 := (Below.refl w.heap.size w).alloc (Nat.le_refl _) (.cells #[.int .u8 ((n : Int) % 256), .int .u8 ((n : Int) / 256 % 256), .int .u8 ((n : Int) / 65536 % 256), .int .u8 ((n : Int) / 16777216)] 5)
  have hP := Ps.one (b32_bs n hn w) 27
  rw [World.size_alloc] at hP
  have hB1 := (hB.stays hb1).stays ((Below.refl _ _).alloc (Nat.le_refl _) (.cells #[.slice (some ⟨w.heap.size, 0, none⟩) (b32 n).length 4] 27))
  have hcon := behind_any a c xs (some ⟨w.heap.size + 1, 0, none⟩) 1 _ _ hB1 hP (by simp [flat, b32]; omega) (by simp)
  simp only [flat, List.append_nil] at hcon
  have hb2 := hb1.alloc (by simp) (.cells #[.slice (some ⟨w.heap.size, 0, none⟩) (b32 n).length 4] 27)
  have HB : Hid _ := hb2
  clear hb2 hP hB1 hb1
  go_enter Tryd.func35, Tryd.ntmps35
  go_wp2_with (go_at_call 62; go_must (refine hcon.mono ?_); rintro e w2 ⟨a2, c2, rfl, hB2, hb2⟩)
  go_ret
  exact ⟨a2, c2, ret_slice (by simp), hB2, below_then HB.out hb2⟩

theorem or_swap (k : IntKind) (x y : Int) : bits .or k x y = bits .or k y x := by
  simp only [bits, BitVec.or_comm]

theorem wraps_u32 (n : Int) (h0 : 0 ≤ n) (h1 : n < 2 ^ 32) : IntKind.u32.wrap n = n := by rw [IntKind.wrap_u32]; omega

theorem or32_8 (x y : Int) (h0 : 0 ≤ x) (h1 : x < 256) (h2 : 0 ≤ y) (h3 : y < 256) : bits .or .u32 x (y * 256) = x + y * 256 := by
  rw [or_swap, bits_join .u32 32 (by decide) wraps_u32 8 (y * 256) x (by omega) (by omega) (by omega) h0 (by omega) (by omega)]; omega

theorem or32_16 (x y : Int) (h0 : 0 ≤ x) (h1 : x < 65536) (h2 : 0 ≤ y) (h3 : y < 256) : bits .or .u32 x (y * 65536) = x + y * 65536 := by
  rw [or_swap, bits_join .u32 32 (by decide) wraps_u32 16 (y * 65536) x (by omega) (by omega) (by omega) h0 (by omega) (by omega)]; omega

theorem or32_24 (x y : Int) (h0 : 0 ≤ x) (h1 : x < 16777216) (h2 : 0 ≤ y) (h3 : y < 256) : bits .or .u32 x (y * 16777216) = x + y * 16777216 := by
  rw [or_swap, bits_join .u32 32 (by decide) wraps_u32 24 (y * 16777216) x (by omega) (by omega) (by omega) h0 (by omega) (by omega)]; omega

def take32L (xs : List Int) : Int × List Int × Nat :=
  if xs.length < 4 then (0, [], 2) else (xs.getD 0 0 + xs.getD 1 0 * 256 + xs.getD 2 0 * 65536 + xs.getD 3 0 * 16777216, xs.drop 4, 0)

theorem take32_new (a : Option Addr) (c : Nat) (xs : List Int) (w : World) (hB : Bs w a c xs) (hlen : xs.length ≤ 1000000) :
    Calls Tryd.prog 44 #[.slice a xs.length c] w fun e w' => ∃ a1 c1, e = .returned (.tuple #[.int .u32 (take32L xs).1, .slice a1 (take32L xs).2.1.length c1, .int .i64 (take32L xs).2.2]) ∧ Bs w' a1 c1 (take32L xs).2.1 ∧ Below w.heap.size w w' ∧ ∀ b, a1 = some b → w.heap.size ≤ b.block := by
  unfold take32L
  by_cases h4 : xs.length < 4
  · rw [if_pos h4]
    go_enter Tryd.func44, Tryd.ntmps44
    go_wp2
    go_ret3
    exact ⟨none, 0, rfl, Bs.empty _, Below.refl _ _, by simp⟩
  rw [if_neg h4]
  obtain ⟨b, off, rfl, hc⟩ := hB.cell (by omega)
  obtain ⟨x0, x1, x2, x3, ys, rfl⟩ : ∃ x0 x1 x2 x3 ys, xs = x0 :: x1 :: x2 :: x3 :: ys := by
    match xs, h4 with
    | x0 :: x1 :: x2 :: x3 :: ys, _ => exact ⟨_, _, _, _, _, rfl⟩
    | [], h => exact absurd (by simp) h
    | [_], h => exact absurd (by simp) h
    | [_, _], h => exact absurd (by simp) h
    | [_, _, _], h => exact absurd (by simp) h
  have c0 : w.cell? ⟨b, off, none⟩ = some (.int .u8 x0) := hc 0 (by simp)
  have c1 : w.cell? ⟨b, off + 1, none⟩ = some (.int .u8 x1) := hc 1 (by simp)
  have c2 : w.cell? ⟨b, off + 2, none⟩ = some (.int .u8 x2) := hc 2 (by simp)
  have c3 : w.cell? ⟨b, off + 3, none⟩ = some (.int .u8 x3) := hc 3 (by simp)
  obtain ⟨p0, q0⟩ := hB.rng x0 (by simp)
  obtain ⟨p1, q1⟩ := hB.rng x1 (by simp)
  obtain ⟨p2, q2⟩ := hB.rng x2 (by simp)
  obtain ⟨p3, q3⟩ := hB.rng x3 (by simp)
  clear hc h4
  obtain ⟨N, hN⟩ : ∃ N, (x0 :: x1 :: x2 :: x3 :: ys).length = N := ⟨_, rfl⟩
  obtain ⟨a', c', hrun2, hB2⟩ := hB.from (P := Tryd.prog) 27 5 Tryd.underlying27 Tryd.size5 Tryd.elem27 4 (by simp)
  rw [hN] at hlen hrun2 ⊢
  have hN4 : 4 ≤ N := by rw [← hN]; simp
  have hs2 : ∀ w', (Instr.slice 27 (.slice (some ⟨b, off, none⟩) N c) (some (.int .i64 4)) none none).run Tryd.prog w' = .ok (.slice a' (N - 4) c') w' := fun w' => hrun2 w' _ .i64 4 rfl rfl
  have hys : N - 4 = ys.length := by rw [← hN]; simp
  have hys2 : ys.length ≤ 1000000 := by omega
  have HY : Hid (N - 4 = ys.length) := hys
  have o1 := or32_8 x0 x1 p0 (by omega) p1 (by omega)
  have o2 := or32_16 (x0 + x1 * 256) x2 (by omega) (by omega) p2 (by omega)
  have o3 := or32_24 (x0 + x1 * 256 + x2 * 65536) x3 (by omega) (by omega) p3 (by omega)
  have hD : (x0 :: x1 :: x2 :: x3 :: ys).drop 4 = ys := rfl
  rw [hD] at hB2 ⊢
  clear hN hrun2 hys hD hB
  go_enter Tryd.func44, Tryd.ntmps44
  go_wp2
  go_quiet (fail)
  go_wp2_with (go_at_call 69; go_must (refine (fresh_new a' c' (N - 4) ys _ HY.out (hB2.stays (below_drewN (Below.refl _ _) _)) hys2).mono ?_); rintro e w2 ⟨a2, c2, rfl, hF2, hb2, hN2⟩)
  go_ret3
  exact ⟨a2, c2, rfl, hF2, below_then (below_drewN (Below.refl _ _) _) hb2, hN2⟩

theorem take32_any (a : Option Addr) (c : Nat) (xs : List Int) (w : World) (hB : Bs w a c xs) (hlen : xs.length ≤ 1000000) :
    Calls Tryd.prog 44 #[.slice a xs.length c] w fun e w' => ∃ a1 c1, e = .returned (.tuple #[.int .u32 (take32L xs).1, .slice a1 (take32L xs).2.1.length c1, .int .i64 (take32L xs).2.2]) ∧ Bs w' a1 c1 (take32L xs).2.1 ∧ Below w.heap.size w w' :=
  (take32_new a c xs w hB hlen).mono fun e w' ⟨a1, c1, h1, h2, h3, _⟩ => ⟨a1, c1, h1, h2, h3⟩

theorem take32_back (m : Nat) (hm : m < 4294967296) (rest : List Int) : take32L (b32 m ++ rest) = ((m : Int), rest, 0) := by
  unfold take32L b32
  rw [if_neg (by simp)]
  simp
  omega

theorem put32_at (a : Option Addr) (c : Nat) (xs : List Int) (n : Nat) (x : Int) (hx : x = n) (hn : n < 4294967296) (w : World) (hB : Bs w a c xs) (hlen : xs.length ≤ 100000) :
    Calls Tryd.prog 35 #[.slice a xs.length c, .int .u32 x] w fun e w' => ∃ a' c', e = .returned (.slice a' (xs ++ b32 n).length c') ∧ Bs w' a' c' (xs ++ b32 n) ∧ Below w.heap.size w w' := by
  subst hx; exact put32_any a c xs n hn w hB hlen

theorem put32_to (a : Option Addr) (c : Nat) (xs : List Int) (n : Nat) (x : Int) (hx : x = n) (hn : n < 4294967296) (w : World) (ys : List Int) (hy : xs ++ b32 n = ys) (hB : Bs w a c xs) (hlen : xs.length ≤ 100000) :
    Calls Tryd.prog 35 #[.slice a xs.length c, .int .u32 x] w fun e w' => ∃ a' c', e = .returned (.slice a' ys.length c') ∧ Bs w' a' c' ys ∧ Below w.heap.size w w' := by
  subst hx hy; exact put32_any a c xs n hn w hB hlen

theorem take32_to (a : Option Addr) (c : Nat) (xs : List Int) (w : World) (r : Int × List Int × Nat) (hr : take32L xs = r) (hB : Bs w a c xs) (hlen : xs.length ≤ 1000000) :
    Calls Tryd.prog 44 #[.slice a xs.length c] w fun e w' => ∃ a1 c1, e = .returned (.tuple #[.int .u32 r.1, .slice a1 r.2.1.length c1, .int .i64 r.2.2]) ∧ Bs w' a1 c1 r.2.1 ∧ Below w.heap.size w w' := by
  subst hr; exact take32_any a c xs w hB hlen

end Go.Proofs.YthbcphalokoknaaDoor

/-
  Pointers as plain data: how they are written and read; no function here.
-/

namespace Go.Proofs.YthbcphalokoknaaDoor
set_option linter.unusedSimpArgs false
set_option linter.unusedVariables false
open Go.RowKit

/-- A pointer: its hash, its birth, its places. -/
structure Pt where
  h : List Int
  b : Nat
  x : Nat
  y : Nat

/-- The same pointer. -/
def Pt.same (p q : Pt) : Bool := p.h == q.h && (p.b == q.b && (p.x == q.x && p.y == q.y))
theorem Pt.same_iff {p q : Pt} : p.same q = true ↔ p = q := by
  obtain ⟨h, b, x, y⟩ := p
  obtain ⟨h', b', x', y'⟩ := q
  simp [Pt.same]
theorem Pt.same_self (p : Pt) : p.same p = true := Pt.same_iff.2 rfl
theorem Pt.same_not {p q : Pt} (h : p ≠ q) : p.same q = false := by
  cases hs : p.same q
  · rfl
  · exact absurd (Pt.same_iff.1 hs) h

structure Pt.ok (p : Pt) : Prop where
  len : p.h.length = 32
  rng : ∀ z ∈ p.h, 0 ≤ z ∧ z ≤ 255
  b : p.b < 4294967296
  x : p.x < 4294967296
  y : p.y < 4294967296

/-- Its cells. -/
def Pt.vs (p : Pt) : List Value := p.h.map (Value.int .u8) ++ [.int .u32 p.b, .int .u32 p.x, .int .u32 p.y]

def Pt.zero : Pt := ⟨List.replicate 32 0, 0, 0, 0⟩
theorem Pt.zero_ok : Pt.zero.ok := ⟨by decide, by decide, by decide, by decide, by decide⟩

def Pt.may (p : Pt) : Bool := if p.x = 0 then p.y == 0 else !(p.y == p.x)
def Pt.hole (p : Pt) : Bool := p.same Pt.zero
def Pt.absent (p : Pt) : Bool := p.may && !p.hole && p.x == 0
theorem Pt.zero_may : Pt.zero.may = true := rfl

theorem Pt.vs_len {p : Pt} (h : p.ok) : p.vs.length = 35 := by simp [Pt.vs, h.len]

/-- As it is written. -/
def Pt.enc (p : Pt) : List Int := p.h ++ (b32 p.b ++ (b32 p.x ++ b32 p.y))

theorem b32_len (n : Nat) : (b32 n).length = 4 := rfl
theorem Pt.enc_len {p : Pt} (h : p.ok) : p.enc.length = 44 := by simp [Pt.enc, h.len, b32_len]
theorem Pt.enc_rng {p : Pt} (h : p.ok) : ∀ z ∈ p.enc, 0 ≤ z ∧ z ≤ 255 := by
  intro z hz
  simp only [Pt.enc, List.mem_append] at hz
  rcases hz with hz | hz | hz | hz
  · exact h.rng z hz
  · exact b32_rng _ h.b z hz
  · exact b32_rng _ h.x z hz
  · exact b32_rng _ h.y z hz

/-- The whole number that the bytes begin with. -/
def n32 (xs : List Int) : Nat := (take32L xs).1.toNat

theorem take32_int {xs : List Int} (hr : ∀ x ∈ xs, 0 ≤ x ∧ x ≤ 255) : (take32L xs).1 = (n32 xs : Int) ∧ n32 xs < 4294967296 := by
  unfold n32 take32L
  by_cases h4 : xs.length < 4
  · rw [if_pos h4]; simp
  · rw [if_neg h4]
    have h0 := getD_rng hr 0 (by omega)
    have h1 := getD_rng hr 1 (by omega)
    have h2 := getD_rng hr 2 (by omega)
    have h3 := getD_rng hr 3 (by omega)
    simp only
    omega

theorem n32_b32 (n : Nat) (hn : n < 4294967296) (rest : List Int) : n32 (b32 n ++ rest) = n := by
  unfold n32; rw [take32_back n hn]; rfl

theorem b32_n32 {xs : List Int} (hr : ∀ x ∈ xs, 0 ≤ x ∧ x ≤ 255) (h4 : 4 ≤ xs.length) : b32 (n32 xs) = xs.take 4 := by
  match xs, h4 with
  | x0 :: x1 :: x2 :: x3 :: ys, _ =>
    have h0 := hr x0 (by simp)
    have h1 := hr x1 (by simp)
    have h2 := hr x2 (by simp)
    have h3 := hr x3 (by simp)
    have hi := (take32_int hr).1
    unfold take32L at hi
    rw [if_neg (by simp)] at hi
    simp only [List.getD_cons_zero, List.getD_cons_succ] at hi
    unfold b32
    rw [← hi]
    simp only [List.take_succ_cons, List.take_zero, List.cons.injEq, and_true]
    omega

/-- The pointer that 44 bytes are. -/
def decP (xs : List Int) : Pt := ⟨xs.take 32, n32 (xs.drop 32), n32 (xs.drop 36), n32 (xs.drop 40)⟩

theorem rng_drop {xs : List Int} (hr : ∀ x ∈ xs, 0 ≤ x ∧ x ≤ 255) (k : Nat) : ∀ x ∈ xs.drop k, 0 ≤ x ∧ x ≤ 255 := fun x hx => hr x (List.mem_of_mem_drop hx)
theorem rng_take {xs : List Int} (hr : ∀ x ∈ xs, 0 ≤ x ∧ x ≤ 255) (k : Nat) : ∀ x ∈ xs.take k, 0 ≤ x ∧ x ≤ 255 := fun x hx => hr x (List.mem_of_mem_take hx)

theorem decP_ok {xs : List Int} (hr : ∀ x ∈ xs, 0 ≤ x ∧ x ≤ 255) (hl : 32 ≤ xs.length) : (decP xs).ok :=
  ⟨by simp [decP]; omega, rng_take hr 32, (take32_int (rng_drop hr 32)).2, (take32_int (rng_drop hr 36)).2, (take32_int (rng_drop hr 40)).2⟩

theorem decP_enc {p : Pt} (h : p.ok) : decP p.enc = p := by
  obtain ⟨hs, b, x, y⟩ := p
  have hl := h.len
  simp only at hl
  unfold decP Pt.enc
  have e1 : (hs ++ (b32 b ++ (b32 x ++ b32 y))).take 32 = hs := by rw [← hl, List.take_left]
  have e2 : (hs ++ (b32 b ++ (b32 x ++ b32 y))).drop 32 = b32 b ++ (b32 x ++ b32 y) := by rw [← hl, List.drop_left]
  have e3 : (hs ++ (b32 b ++ (b32 x ++ b32 y))).drop 36 = b32 x ++ b32 y := by rw [show 36 = 32 + 4 from rfl, ← List.drop_drop, e2]; rfl
  have e4 : (hs ++ (b32 b ++ (b32 x ++ b32 y))).drop 40 = b32 y ++ [] := by rw [show 40 = 36 + 4 from rfl, ← List.drop_drop, e3]; rfl
  simp only
  rw [e1, e2, e3, e4, n32_b32 _ h.b, n32_b32 _ h.x, n32_b32 _ h.y]

theorem enc_decP {xs : List Int} (hr : ∀ x ∈ xs, 0 ≤ x ∧ x ≤ 255) (hl : xs.length = 44) : (decP xs).enc = xs := by
  unfold decP Pt.enc
  simp only
  rw [b32_n32 (rng_drop hr 32) (by simp; omega), b32_n32 (rng_drop hr 36) (by simp; omega), b32_n32 (rng_drop hr 40) (by simp; omega)]
  have h1 : xs = xs.take 32 ++ xs.drop 32 := (List.take_append_drop _ _).symm
  have h2 : xs.drop 32 = (xs.drop 32).take 4 ++ xs.drop 36 := by rw [show 36 = 32 + 4 from rfl, ← List.drop_drop]; exact (List.take_append_drop _ _).symm
  have h3 : xs.drop 36 = (xs.drop 36).take 4 ++ xs.drop 40 := by rw [show 40 = 36 + 4 from rfl, ← List.drop_drop]; exact (List.take_append_drop _ _).symm
  have h4 : (xs.drop 40).take 4 = xs.drop 40 := List.take_of_length_le (by simp; omega)
  rw [h4, ← h3, ← h2, ← h1]

/-- What Decode tells. -/
def decodeL (xs : List Int) : Pt × Nat :=
  if xs.length < 44 then (Pt.zero, 2) else if 44 < xs.length then (Pt.zero, 3) else if (decP xs).may then (decP xs, 0) else (Pt.zero, 3)

theorem decodeL_ok {xs : List Int} (hr : ∀ x ∈ xs, 0 ≤ x ∧ x ≤ 255) : (decodeL xs).1.ok := by
  unfold decodeL
  split
  · exact Pt.zero_ok
  · split
    · exact Pt.zero_ok
    · split
      · exact decP_ok hr (by omega)
      · exact Pt.zero_ok

theorem decodeL_enc {p : Pt} (h : p.ok) : decodeL p.enc = if p.may then (p, 0) else (Pt.zero, 3) := by
  unfold decodeL
  rw [Pt.enc_len h, if_neg (by omega), if_neg (by omega), decP_enc h]

theorem decodeL_at {xs : List Int} (hl : xs.length = 44) : decodeL xs = if (decP xs).may then (decP xs, 0) else (Pt.zero, 3) := by
  unfold decodeL
  rw [hl, if_neg (by omega), if_neg (by omega)]

end Go.Proofs.YthbcphalokoknaaDoor

/-
  Arrays of integers, compared.
-/

namespace Go.Proofs.YthbcphalokoknaaDoor
set_option linter.unusedSimpArgs false
set_option linter.unusedVariables false
open Go.RowKit

theorem all_range_ints : ∀ (xs ys : List Int), xs.length = ys.length → ((List.range xs.length).all fun i => xs.getD i 0 == ys.getD i 0) = (xs == ys)
  | [], [], _ => by simp
  | x :: xs, y :: ys, h => by
    have ih := all_range_ints xs ys (by simpa using h)
    rw [List.length_cons, List.range_succ_eq_map, List.all_cons, List.all_map]
    simp only [List.getD_cons_zero, Function.comp_def, List.getD_cons_succ]
    rw [ih]
    simp [List.cons_beq_cons]
  | [], _ :: _, h => by simp at h
  | _ :: _, [], h => by simp at h

theorem equal_ints {P : Program} {t e : TypeId} {n : Nat} {K : IntKind} (ht : P.underlying t = some (.array n e)) (he : P.underlying e = some (.int K)) (hs : (P.info? e).map (·.size) = some 1) (d : Nat)
    (xs ys : List Int) (hx : xs.length = n) (hy : ys.length = n) (w : World) :
    (Op.equalIn (d + 2) t (.agg (xs.map (Value.int K)).toArray) (.agg (ys.map (Value.int K)).toArray)).run P w = .ok (xs == ys) w := by
  have hsz := sizeOf_run hs
  rw [← all_range_ints xs ys (hx.trans hy.symm), hx, List.range_eq_range', Op.equalIn]
  simp only [Sem.run_bind, run_underlying ht, Result.andThen_ok, hsz, Std.Legacy.Range.forIn_eq_forIn_range', Std.Legacy.Range.size, Nat.sub_zero, Nat.add_sub_cancel, Nat.div_one]
  have hl : ∀ i ∈ List.range' 0 n 1, i < n := fun i hi => by simpa using (List.mem_range'_1.1 hi).2
  generalize List.range' 0 n 1 = l at hl ⊢
  induction l with
  | nil => simp
  | cons i l ih =>
    have hi : i < n := hl i (by simp)
    have px : (part e (xs.map (Value.int K)).toArray (i * 1)).run P w = .ok (.int K (xs.getD i 0)) w := by
      simp [part, isAgg, run_underlying he, List.getD, List.getElem?_eq_getElem (show i < xs.length by omega)]
    have py : (part e (ys.map (Value.int K)).toArray (i * 1)).run P w = .ok (.int K (ys.getD i 0)) w := by
      simp [part, isAgg, run_underlying he, List.getD, List.getElem?_eq_getElem (show i < ys.length by omega)]
    have pe : (Op.equalIn (d + 1) e (.int K (xs.getD i 0)) (.int K (ys.getD i 0))).run P w = .ok (xs.getD i 0 == ys.getD i 0) w := by
      rw [run_equalIn_int w d e K K _ _ he]
    simp only [List.forIn_cons, Sem.run_bind, px, py, pe, Result.andThen_ok, List.all_cons]
    cases hb : (xs.getD i 0 == ys.getD i 0)
    · simp
    · simp only [Bool.not_true, Bool.false_eq_true, if_false, Sem.run_pure, Result.andThen_ok, Bool.true_and]
      exact ih fun j hj => hl j (by simp [hj])

/-- The same integers. -/
theorem equal_same {P : Program} {t e : TypeId} {n : Nat} {K : IntKind} (ht : P.underlying t = some (.array n e)) (he : P.underlying e = some (.int K)) (hs : (P.info? e).map (·.size) = some 1) (xs : List Int) (hx : xs.length = n) (w : World) :
    (Op.equalIn 10000 t (.agg (xs.map (Value.int K)).toArray) (.agg (xs.map (Value.int K)).toArray)).run P w = .ok true w := by
  have h := equal_ints ht he hs 9998 xs xs hx hx w
  simpa using h
end Go.Proofs.YthbcphalokoknaaDoor
