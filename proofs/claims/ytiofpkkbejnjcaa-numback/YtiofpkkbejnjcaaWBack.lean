/-
  The walk over the law NumBack.
-/
import Derived.Test.YtiofpkkbejnjcaaAlive
import Derived.Test.YtiofpkkbejnjcaaMath
namespace Go.Proofs.Ytiofpkkbejnjcaa
set_option linter.unusedSimpArgs false
set_option linter.unusedVariables false
open Go.RowKit

theorem take32_back (m : Nat) (hm : m < 4294967296) (rest : List Int) : take32L (b32 m ++ rest) = ((m : Int), rest, 0) := by
  unfold take32L b32
  rw [if_neg (by simp)]
  simp
  omega

theorem put32_at (a : Option Addr) (c : Nat) (xs : List Int) (n : Nat) (x : Int) (hx : x = n) (hn : n < 4294967296) (w : World) (hB : Bs w a c xs) (hlen : xs.length ≤ 100000) :
    Calls Try.prog 10 #[.slice a xs.length c, .int .u32 x] w fun e w' => ∃ a' c', e = .returned (.slice a' (xs ++ b32 n).length c') ∧ Bs w' a' c' (xs ++ b32 n) ∧ Below w.heap.size w w' := by
  subst hx; exact put32_any a c xs n hn w hB hlen

theorem back_great (n : Int) (a : Option Addr) (c l : Nat) (b : Option Addr) (d k : Nat) (w : World) (h : 300 < l ∨ 300 < k) : Calls Try.prog 6 #[.int .u64 n, .slice a l c, .slice b k d] w fun e w' => e = .returned (.bool true) ∧ Below w.heap.size w w' := by
  by_cases hl : 300 < l
  · go_enter Try.func6, Try.ntmps6
    go_wp2_with (go_at_call 8; go_must (refine (alive_any _).mono ?_); rintro e w' ⟨rfl, hb⟩)
    go_ret
    exact ⟨rfl, hb⟩
  · have hk : 300 < k := by omega
    go_enter Try.func6, Try.ntmps6
    go_wp2_with (go_at_call 8; go_must (refine (alive_any _).mono ?_); rintro e w' ⟨rfl, hb⟩)
    go_ret
    exact ⟨rfl, hb⟩

theorem put_to (a : Option Addr) (c l : Nat) (xs : List Int) (n : Nat) (hn : n < 18446744073709551616) (w : World) (ys : List Int) (hy : xs ++ leb n = ys) (hl : l = xs.length) (hB : Bs w a c xs) (hlen : xs.length ≤ 100000) :
    Calls Try.prog 9 #[.slice a l c, .int .u64 n] w fun e w' => ∃ a' c', e = .returned (.slice a' ys.length c') ∧ Bs w' a' c' ys ∧ Below w.heap.size w w' := by
  subst hy hl; exact put_any a c xs n hn w hB hlen

theorem put32_to (a : Option Addr) (c : Nat) (xs : List Int) (n : Nat) (x : Int) (hx : x = n) (hn : n < 4294967296) (w : World) (ys : List Int) (hy : xs ++ b32 n = ys) (hB : Bs w a c xs) (hlen : xs.length ≤ 100000) :
    Calls Try.prog 10 #[.slice a xs.length c, .int .u32 x] w fun e w' => ∃ a' c', e = .returned (.slice a' ys.length c') ∧ Bs w' a' c' ys ∧ Below w.heap.size w w' := by
  subst hx hy; exact put32_any a c xs n hn w hB hlen

theorem putString_to (a : Option Addr) (c : Nat) (xs : List Int) (s : Option Addr) (d : Nat) (zs : List Int) (w : World) (ys : List Int) (hy : xs ++ (leb zs.length ++ zs) = ys) (hB : Bs w a c xs) (hS : Bs w s d zs) (hlen : xs.length ≤ 100000) (hzs : zs.length ≤ 100000) :
    Calls Try.prog 11 #[.slice a xs.length c, .slice s zs.length d] w fun e w' => ∃ a' c', e = .returned (.slice a' ys.length c') ∧ Bs w' a' c' ys ∧ Below w.heap.size w w' := by
  subst hy; exact putString_any a c xs s d zs w hB hS hlen hzs

theorem take_to (a : Option Addr) (c : Nat) (xs : List Int) (w : World) (r : Nat × List Int × Nat) (hr : takeL xs = r) (hB : Bs w a c xs) (hlen : xs.length ≤ 1000000) :
    Calls Try.prog 15 #[.slice a xs.length c] w fun e w' => ∃ a1 c1, e = .returned (.tuple #[.int .u64 r.1, .slice a1 r.2.1.length c1, .int .i64 r.2.2]) ∧ Bs w' a1 c1 r.2.1 ∧ Below w.heap.size w w' := by
  subst hr; exact take_any a c xs w hB hlen

theorem take32_to (a : Option Addr) (c : Nat) (xs : List Int) (w : World) (r : Int × List Int × Nat) (hr : take32L xs = r) (hB : Bs w a c xs) (hlen : xs.length ≤ 1000000) :
    Calls Try.prog 17 #[.slice a xs.length c] w fun e w' => ∃ a1 c1, e = .returned (.tuple #[.int .u32 r.1, .slice a1 r.2.1.length c1, .int .i64 r.2.2]) ∧ Bs w' a1 c1 r.2.1 ∧ Below w.heap.size w w' := by
  subst hr; exact take32_any a c xs w hB hlen

theorem takeString_to (a : Option Addr) (c : Nat) (xs : List Int) (most : Int) (w : World) (r : List Int × List Int × Nat) (hr : stringL xs most = r) (hB : Bs w a c xs) (hlen : xs.length ≤ 1000000) (hm : most ≤ 9223372036854775807) :
    Calls Try.prog 21 #[.slice a xs.length c, .int .i64 most] w fun e w' => Parts w e w' r := by
  subst hr; exact takeString_any a c xs most w hB hlen hm

theorem back_small (n : Nat) (hn : n < 18446744073709551616) (a : Option Addr) (c : Nat) (s : List Int) (b : Option Addr) (d : Nat) (t : List Int) (w : World) (hS : Bs w a c s) (hT : Bs w b d t) (hs : s.length ≤ 300) (ht : t.length ≤ 300) :
    Calls Try.prog 6 #[.int .u64 n, .slice a s.length c, .slice b t.length d] w fun e w' => e = .returned (.bool true) ∧ Below w.heap.size w w' := by
  obtain ⟨i0, hi, hz0, hz1, hz2⟩ := info_parts Try.info5
  have hl1 := leb_len10 n hn
  have hl2 := leb_len10 s.length (by omega)
  obtain ⟨m, hm⟩ : ∃ m, n % 4294967296 = m := ⟨_, rfl⟩
  have hmx : (n : Int) % 4294967296 = (m : Int) := by omega
  have hm2 : m < 4294967296 := by omega
  obtain ⟨L1, hL1⟩ : ∃ L, [] ++ leb n = L := ⟨_, rfl⟩
  obtain ⟨L2, hL2⟩ : ∃ L, L1 ++ b32 m = L := ⟨_, rfl⟩
  obtain ⟨L3, hL3⟩ : ∃ L, L2 ++ (leb s.length ++ s) = L := ⟨_, rfl⟩
  obtain ⟨L5, hL5⟩ : ∃ L, leb s.length ++ (s ++ t) = L := ⟨_, rfl⟩
  obtain ⟨L4, hL4⟩ : ∃ L, b32 m ++ L5 = L := ⟨_, rfl⟩
  obtain ⟨A, hA⟩ : ∃ A, L3 ++ t = A := ⟨_, rfl⟩
  have l1 : L1.length ≤ 10 := by rw [← hL1]; simpa using hl1
  have l2 : L2.length ≤ 14 := by rw [← hL2]; simp [b32]; omega
  have l3 : L3.length ≤ 324 := by rw [← hL3]; simp; omega
  have l4 : A.length ≤ 624 := by rw [← hA]; simp; omega
  have l6 : L4.length ≤ 620 := by rw [← hL4, ← hL5]; simp [b32]; omega
  have l5 : L5.length ≤ 620 := by rw [← hL5]; simp; omega
  have t1 : takeL A = (n, L4, 0) := by
    rw [← hA, ← hL3, ← hL2, ← hL1, ← hL4, ← hL5]
    have := take_back n (b32 m ++ (leb s.length ++ (s ++ t))) hn
    simpa using this
  have t2 : take32L L4 = ((m : Int), L5, 0) := by rw [← hL4]; exact take32_back m hm2 L5
  have t3 : stringL L5 300 = (s, t, 0) := by rw [← hL5]; exact string_back s t 300 (by omega) (by omega)
  have hrA : ∀ x ∈ A, 0 ≤ x ∧ x ≤ 255 := by
    rw [← hA, ← hL3, ← hL2, ← hL1]
    intro x hx
    simp only [List.mem_append, List.nil_append] at hx
    rcases hx with ((hx | hx) | hx | hx) | hx
    · exact leb_rng _ x hx
    · exact b32_rng m hm2 x hx
    · exact leb_rng _ x hx
    · exact hS.rng x hx
    · exact hT.rng x hx
  have HR : Hid (∀ x ∈ A, 0 ≤ x ∧ x ≤ 255) := hrA
  have H1 : Hid ([] ++ leb n = L1) := hL1
  have H2 : Hid (L1 ++ b32 m = L2) := hL2
  have H3 : Hid (L2 ++ (leb s.length ++ s) = L3) := hL3
  have HA : Hid (L3 ++ t = A) := hA
  have T1 : Hid (takeL A = (n, L4, 0)) := t1
  have T2 : Hid (take32L L4 = ((m : Int), L5, 0)) := t2
  have T3 : Hid (stringL L5 300 = (s, t, 0)) := t3
  clear hrA hL1 hL2 hL3 hL4 hL5 hA t1 t2 t3 hm hl1 hl2
  go_enter Try.func6, Try.ntmps6
  go_wp2_with (first
    | (go_at_call 9; go_must (refine (put_to none 0 0 [] n hn _ L1 H1.out rfl (Bs.empty _) (by simp)).mono ?_); rintro e w1 ⟨a1, c1, rfl, hB1, hb1⟩)
    | (go_at_call 10; go_must (refine (put32_to a1 c1 L1 m _ (by omega) hm2 _ L2 H2.out hB1 (by omega)).mono ?_); rintro e w2 ⟨a2, c2, rfl, hB2, hb2⟩)
    | (go_at_call 11; go_must (refine (putString_to a2 c2 L2 a c s _ L3 H3.out hB2 ((hS.stays hb1).stays hb2) (by omega) (by omega)).mono ?_); rintro e w3 ⟨a3, c3, rfl, hB3, hb3⟩)
    | (at_builtin; refine wpList_append_bytes (w0 := w3) (by rfl) (.tmp 32) (.tmp 33) 22 (by rfl) w3.heap.size 5 i0 Try.underlying22 hi hz0 hz1 hz2 _ [] (by rfl) (World.ownsRow_made w3 #[] 0 (Nat.le_refl _) (by decide) rfl) a3 L3.length c3 L3 (by rfl) rfl (hB3.stays ((Below.refl _ _).alloc (Nat.le_refl _) _)) (by simp; omega) (by simp) ((Below.refl _ _).alloc (Nat.le_refl _) _) ?_; rw [List.nil_append]; intro v4 w4 hown4 hb4)
    | (at_builtin; refine wpList_append_bytes (w0 := w3) (by rfl) (.tmp 35) (.tmp 36) 22 (by rfl) w3.heap.size 5 i0 Try.underlying22 hi hz0 hz1 hz2 _ L3 (by rfl) hown4 b t.length d t (by rfl) rfl ((((hT.stays hb1).stays hb2).stays hb3).stays hb4) (by omega) hb4.size hb4 ?_; rw [HA.out]; intro v5 w5 hown5 hb5; obtain ⟨a5, c5, hv5, hB5⟩ := Bs.of_owns hown5 HR.out; rw [hv5])
    | (go_at_call 15; go_must (refine (take_to a5 c5 A _ _ T1.out hB5 (by omega)).mono ?_); rintro e w6 ⟨a6, c6, rfl, hB6, hb6⟩)
    | (go_at_call 17; go_must (refine (take32_to a6 c6 L4 _ _ T2.out hB6 (by omega)).mono ?_); rintro e w7 ⟨a7, c7, rfl, hB7, hb7⟩)
    | (go_at_call 21; go_must (refine (takeString_to a7 c7 L5 300 _ _ T3.out hB7 (by omega) (by decide)).mono ?_); rintro e w8 ⟨a8, c8, a9, c9, rfl, hB8, hB9, hb8⟩)
    | (go_at_call 8; go_must (refine (alive_any _).mono ?_); rintro e w9 ⟨rfl, hb9⟩; have hall := below_then (below_then (below_then (below_then (below_then (below_then (below_then hb1 hb2) hb3) hb5) hb6) hb7) hb8) hb9; have q1 := conv9 (hB8.stays hb9) _ rfl; have q2 := conv9 (hB9.stays hb9) _ rfl; have q3 := conv9 (hS.stays hall) _ rfl; have q4 := conv9 (hT.stays hall) _ rfl))
  go_ret
  exact ⟨rfl, hall⟩

theorem back_walk (n : Nat) (hn : n < 18446744073709551616) (a : Option Addr) (c : Nat) (s : List Int) (b : Option Addr) (d : Nat) (t : List Int) (w : World) (hS : Bs w a c s) (hT : Bs w b d t) :
    Calls Try.prog 6 #[.int .u64 n, .slice a s.length c, .slice b t.length d] w fun e w' => e = .returned (.bool true) ∧ Below w.heap.size w w' := by
  by_cases h : 300 < s.length ∨ 300 < t.length
  · exact back_great n a c _ b d _ w h
  · exact back_small n hn a c s b d t w hS hT (by omega) (by omega)
end Go.Proofs.Ytiofpkkbejnjcaa
