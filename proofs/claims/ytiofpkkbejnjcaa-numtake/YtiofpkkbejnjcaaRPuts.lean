/-
  The walks over the document's own Put, Put32, PutString.
-/
import Derived.Test.YtiofpkkbejnjcaaWhole
namespace Go.Proofs.Ytiofpkkbejnjcaa
set_option linter.unusedSimpArgs false
set_option linter.unusedVariables false
open Go.RowKit

/-- A row of bytes of the call's own. -/
def Owns (w : World) (base : Nat) (v : Value) (xs : List Int) : Prop := w.ownsRow base 5 1 v xs.length (xs.map (Value.int .u8))

set_option maxRecDepth 100000 in
theorem rput_any (a : Option Addr) (c : Nat) (xs : List Int) (n : Nat) (hn : n < 18446744073709551616) (w : World) (hB : Bs w a c xs) (hlen : xs.length ≤ 100000) :
    Calls Try.prog 12 #[.slice a xs.length c, .int .u64 n] w fun e w' => ∃ v, e = .returned v ∧ Owns w' w.heap.size v (xs ++ leb n) ∧ Below w.heap.size w w' := by
  obtain ⟨i0, hi, hz0, hz1, hz2⟩ := info_parts Try.info5
  have hl10 := leb_len10 n hn
  go_enter Try.func12, Try.ntmps12
  go_wp2_with (at_builtin; go_must (refine wpList_append_bytes (w0 := w) (by rfl) (.tmp 6) (.tmp 7) 22 (by rfl) w.heap.size 5 i0 Try.underlying22 hi hz0 hz1 hz2 _ [] (by rfl) (World.ownsRow_made w #[] 0 (Nat.le_refl _) (by decide) rfl) a xs.length c xs (by rfl) rfl (hB.stays ((Below.refl _ _).alloc (Nat.le_refl _) _)) (by simp; omega) (by simp) ((Below.refl _ _).alloc (Nat.le_refl _) _) ?_); rw [List.nil_append]; intro v1 w1 hown1 hb1)
  go_loopw [1, 5] (fun m v wr => ∃ (k : Nat) (done : List Int), m = .int .u64 k ∧ k ≤ n ∧ Hid (xs ++ leb n = done ++ leb k) ∧ wr.ownsRow w.heap.size 5 1 v done.length (done.map (Value.int .u8)) ∧ Below w.heap.size w wr)
    (fun m _ _ => (intOf m).toNat)
  case atStart => exact ⟨n, xs, rfl, Nat.le_refl _, rfl, hown1, hb1⟩
  case round =>
    obtain ⟨k, done, rfl, hkn, hsp, hown, hb⟩ := hrel
    have hdl : done.length ≤ 100010 := by have := congrArg List.length hsp.out; simp at this; omega
    have hsz := hb.size
    clear hown1 hb1 hB
    by_cases hk : 128 ≤ k
    · go_wp2_with (at_builtin; go_must (refine wpList_append_bytes (w0 := w) (by rfl) _ _ 22 (by rfl) w.heap.size 5 i0 Try.underlying22 hi hz0 hz1 hz2 _ done (by rfl) (hown.alloc _) (some ⟨wr.heap.size, 0, none⟩) 1 1 [(k : Int) % 128 + 128] (by rfl) (by rfl) (Bs.one _ _ ⟨by omega, by omega⟩ _) (by simp; omega) (by simp; omega) (hb.alloc (by omega) _) ?_); intro v' w1 hown1 hb1)
      go_roundw
      case rel => exact ⟨k / 128, done ++ [(k : Int) % 128 + 128], by go_num, by omega, by have := hsp.out; rw [leb_great hk] at this; show _ = _; rw [this]; simp, hown1, hb1⟩
      case measure => simp [intOf]; omega
    · go_wp2_with (at_builtin; go_must (refine wpList_append_bytes (w0 := w) (by rfl) _ _ 22 (by rfl) w.heap.size 5 i0 Try.underlying22 hi hz0 hz1 hz2 _ done (by rfl) (hown.alloc _) (some ⟨wr.heap.size, 0, none⟩) 1 1 [(k : Int)] (by rfl) (by rfl) (Bs.one _ _ ⟨by omega, by omega⟩ _) (by simp; omega) (by simp; omega) (hb.alloc (by omega) _) ?_); intro v' w1 hown1 hb1)
      have hfin : xs ++ leb n = done ++ [(k : Int)] := by have := hsp.out; rwa [leb_small (n := k) (by omega)] at this
      rw [← hfin] at hown1
      go_ret
      exact ⟨v', rfl, hown1, hb1⟩

theorem rput_bs (a : Option Addr) (c l : Nat) (xs : List Int) (n : Nat) (hn : n < 18446744073709551616) (w : World) (ys : List Int) (hy : xs ++ leb n = ys) (hl : l = xs.length) (hB : Bs w a c xs) (hlen : xs.length ≤ 100000) :
    Calls Try.prog 12 #[.slice a l c, .int .u64 n] w fun e w' => ∃ a' c', e = .returned (.slice a' ys.length c') ∧ Bs w' a' c' ys ∧ Below w.heap.size w w' := by
  subst hy hl
  refine (rput_any a c xs n hn w hB hlen).mono ?_
  rintro e w' ⟨v, rfl, ho, hb⟩
  obtain ⟨a', c', rfl, hB'⟩ := Bs.of_owns ho (by
    intro x hx
    rcases List.mem_append.1 hx with hx | hx
    · exact hB.rng x hx
    · exact leb_rng n x hx)
  exact ⟨a', c', rfl, hB', hb⟩

set_option maxRecDepth 100000 in
theorem rput32_bs (a : Option Addr) (c l : Nat) (xs : List Int) (n : Nat) (x : Int) (hx : x = n) (hn : n < 4294967296) (w : World) (ys : List Int) (hy : xs ++ b32 n = ys) (hl : l = xs.length) (hB : Bs w a c xs) (hlen : xs.length ≤ 100000) :
    Calls Try.prog 13 #[.slice a l c, .int .u32 x] w fun e w' => ∃ a' c', e = .returned (.slice a' ys.length c') ∧ Bs w' a' c' ys ∧ Below w.heap.size w w' := by
  subst hy hl hx
  obtain ⟨i0, hi, hz0, hz1, hz2⟩ := info_parts Try.info5
  have hrng : ∀ y ∈ xs ++ b32 n, 0 ≤ y ∧ y ≤ 255 := by
    intro y hy
    rcases List.mem_append.1 hy with hy | hy
    · exact hB.rng y hy
    · exact b32_rng n hn y hy
  have HR : Hid (∀ y ∈ xs ++ b32 n, 0 ≤ y ∧ y ≤ 255) := hrng
  clear hrng
  go_enter Try.func13, Try.ntmps13
  go_wp2_with (first
    | (at_builtin; refine wpList_append_bytes (w0 := w) (by rfl) (.tmp 6) (.tmp 7) 22 (by rfl) w.heap.size 5 i0 Try.underlying22 hi hz0 hz1 hz2 _ [] (by rfl) (World.ownsRow_made w #[] 0 (Nat.le_refl _) (by decide) rfl) a xs.length c xs (by rfl) rfl (hB.stays ((Below.refl _ _).alloc (Nat.le_refl _) _)) (by simp; omega) (by simp) ((Below.refl _ _).alloc (Nat.le_refl _) _) ?_; rw [List.nil_append]; intro v1 w1 hown1 hb1)
    | (at_builtin; refine wpList_append_bytes (w0 := w) (by rfl) (.tmp 9) (.tmp 21) 22 (by rfl) w.heap.size 5 i0 Try.underlying22 hi hz0 hz1 hz2 _ xs (by rfl) (hown1.alloc _) (some ⟨w1.heap.size, 0, none⟩) 4 4 (b32 n) (by rfl) (by rfl) (b32_bs n hn w1) (by simp [b32]; omega) (by have := hb1.size; simp; omega) (hb1.alloc hb1.size _) ?_; intro v2 w2 hown2 hb2))
  obtain ⟨a', c', rfl, hB'⟩ := Bs.of_owns hown2 HR.out
  go_ret
  exact ⟨a', c', rfl, hB', hb2⟩

theorem rputString_bs (a : Option Addr) (c l : Nat) (xs : List Int) (s : Option Addr) (d k : Nat) (zs : List Int) (w : World) (ys : List Int) (hy : xs ++ (leb zs.length ++ zs) = ys) (hl : l = xs.length) (hk : k = zs.length) (hB : Bs w a c xs) (hS : Bs w s d zs) (hlen : xs.length ≤ 100000) (hzs : zs.length ≤ 100000) :
    Calls Try.prog 14 #[.slice a l c, .slice s k d] w fun e w' => ∃ a' c', e = .returned (.slice a' ys.length c') ∧ Bs w' a' c' ys ∧ Below w.heap.size w w' := by
  subst hy hl hk
  obtain ⟨i0, hi, hz0, hz1, hz2⟩ := info_parts Try.info5
  have hl10 := leb_len10 zs.length (by omega)
  have hrng : ∀ y ∈ (xs ++ leb zs.length) ++ zs, 0 ≤ y ∧ y ≤ 255 := by
    intro y hy
    simp only [List.mem_append] at hy
    rcases hy with (hy | hy) | hy
    · exact hB.rng y hy
    · exact leb_rng _ y hy
    · exact hS.rng y hy
  obtain ⟨L, hL⟩ : ∃ L, xs ++ leb zs.length = L := ⟨_, rfl⟩
  have hLl : L.length ≤ 100010 := by rw [← hL]; simp; omega
  have hrp := rput_any a c xs zs.length (by omega) w hB hlen
  rw [hL] at hrp hrng
  rw [← List.append_assoc, hL]
  have HR : Hid (∀ y ∈ L ++ zs, 0 ≤ y ∧ y ≤ 255) := hrng
  clear hrng hL
  go_enter Try.func14, Try.ntmps14
  go_wp2_with (first
    | (go_at_call 12; go_must (refine hrp.mono ?_); rintro e w1 ⟨v1, rfl, hown1, hb1⟩)
    | (at_builtin; go_must (refine wpList_append_bytes (w0 := w) (by rfl) (.tmp 11) (.tmp 12) 22 (by rfl) w.heap.size 5 i0 Try.underlying22 hi hz0 hz1 hz2 _ L (by rfl) hown1 s zs.length d zs (by rfl) rfl (hS.stays hb1) (by omega) hb1.size hb1 ?_); intro v2 w2 hown2 hb2))
  obtain ⟨a', c', rfl, hB'⟩ := Bs.of_owns hown2 HR.out
  go_ret
  exact ⟨a', c', rfl, hB', hb2⟩
end Go.Proofs.Ytiofpkkbejnjcaa
