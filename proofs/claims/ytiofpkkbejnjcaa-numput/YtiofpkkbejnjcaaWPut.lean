/-
  The walk over the law NumPut.
-/
import Derived.Test.YtiofpkkbejnjcaaUpBs
import Derived.Test.YtiofpkkbejnjcaaRPuts
import Derived.Test.YtiofpkkbejnjcaaWBack
namespace Go.Proofs.Ytiofpkkbejnjcaa
set_option linter.unusedSimpArgs false
set_option linter.unusedVariables false
open Go.RowKit

theorem putlaw_great (n : Int) (a : Option Addr) (c l : Nat) (b : Option Addr) (d k : Nat) (w : World) (h : 300 < l ∨ 300 < k) : Calls Try.prog 3 #[.slice a l c, .int .u64 n, .slice b k d] w fun e w' => e = .returned (.bool true) ∧ Below w.heap.size w w' := by
  by_cases hl : 300 < l
  · go_enter Try.func3, Try.ntmps3
    go_wp2_with (go_at_call 8; go_must (refine (alive_any _).mono ?_); rintro e w' ⟨rfl, hb⟩)
    go_ret
    exact ⟨rfl, hb⟩
  · have hk : 300 < k := by omega
    go_enter Try.func3, Try.ntmps3
    go_wp2_with (go_at_call 8; go_must (refine (alive_any _).mono ?_); rintro e w' ⟨rfl, hb⟩)
    go_ret
    exact ⟨rfl, hb⟩

theorem putlaw_small (n : Nat) (hn : n < 18446744073709551616) (a : Option Addr) (c : Nat) (xs : List Int) (b : Option Addr) (d : Nat) (zs : List Int) (w : World) (hX : Bs w a c xs) (hZ : Bs w b d zs) (hx : xs.length ≤ 300) (hz : zs.length ≤ 300) :
    Calls Try.prog 3 #[.slice a xs.length c, .int .u64 n, .slice b zs.length d] w fun e w' => e = .returned (.bool true) ∧ Below w.heap.size w w' := by
  obtain ⟨i0, hi, hz0, hz1, hz2⟩ := info_parts Try.info5
  obtain ⟨m, hm⟩ : ∃ m, n % 4294967296 = m := ⟨_, rfl⟩
  have hmx : (n : Int) % 4294967296 = (m : Int) := by omega
  have hm2 : m < 4294967296 := by omega
  obtain ⟨X1, hX1⟩ : ∃ L, xs ++ leb n = L := ⟨_, rfl⟩
  obtain ⟨X2, hX2⟩ : ∃ L, xs ++ b32 m = L := ⟨_, rfl⟩
  obtain ⟨X3, hX3⟩ : ∃ L, xs ++ (leb zs.length ++ zs) = L := ⟨_, rfl⟩
  have H1 : Hid (xs ++ leb n = X1) := hX1
  have H2 : Hid (xs ++ b32 m = X2) := hX2
  have H3 : Hid (xs ++ (leb zs.length ++ zs) = X3) := hX3
  have HRx : Hid (∀ y ∈ xs, 0 ≤ y ∧ y ≤ 255) := hX.rng
  clear hX1 hX2 hX3 hm
  go_enter Try.func3, Try.ntmps3
  go_wp2_with (first
    | (at_make; go_must (refine wpList_make_own _ (by rfl) _ _ 22 (by rfl) w.heap.size 5 i0 (.int .u8 0) 1 Try.underlying22 hi hz0 hz1 _ _ _ (xs.length + 12) (by rfl) (by rfl) (by omega) (by rw [hz2]; omega) (by unfold maxLen; omega) (Nat.le_refl _) ?_); intro w1 hown1 hg1; have hb1 := (Below.refl w.heap.size w).grown hg1 (Nat.le_refl _) (by simp))
    | (at_builtin; go_must (refine wpList_append_bytes (w0 := w) (by rfl) (.tmp 24) (.tmp 25) 22 (by rfl) w.heap.size 5 i0 Try.underlying22 hi hz0 hz1 hz2 _ [] (by rfl) hown1 a xs.length c xs (by rfl) rfl (hX.stays hb1) (by simp; omega) hb1.size hb1 ?_); rw [List.nil_append]; intro v2 w2 hown2 hb2; obtain ⟨a2, c2, hv2, hB2⟩ := Bs.of_owns hown2 HRx.out; rw [hv2])
    | (go_at_call 9; go_must (refine (put_to a2 c2 xs.length xs n hn _ X1 H1.out rfl hB2 (by omega)).mono ?_); rintro e w3 ⟨a3, c3, rfl, hB3, hb3⟩)
    | (go_at_call 10; go_must (refine (put32_to a2 c2 xs m _ (by omega) hm2 _ X2 H2.out (hB2.stays hb3) (by omega)).mono ?_); rintro e w4 ⟨a4, c4, rfl, hB4, hb4⟩)
    | (go_at_call 11; go_must (refine (putString_to a2 c2 xs b d zs _ X3 H3.out ((hB2.stays hb3).stays hb4) (((hZ.stays hb2).stays hb3).stays hb4) (by omega) (by omega)).mono ?_); rintro e w5 ⟨a5, c5, rfl, hB5, hb5⟩))
  have hall := below_then (below_then (below_then hb2 hb3) hb4) hb5
  have hX5 := hX.stays hall
  have hZ5 := hZ.stays hall
  have hO5 := ((hB2.stays hb3).stays hb4).stays hb5
  have h35 := (hB3.stays hb4).stays hb5
  have h45 := hB4.stays hb5
  have hS : Hid (∀ u : World, Below w5.heap.size w5 u → (convert 22 9 (.slice a3 X1.length c3)).run Try.prog u = .ok (.string (strOfNums X1)) u ∧ (convert 22 9 (.slice a4 X2.length c4)).run Try.prog u = .ok (.string (strOfNums X2)) u ∧
      (convert 22 9 (.slice a5 X3.length c5)).run Try.prog u = .ok (.string (strOfNums X3)) u ∧ (convert 22 9 (.slice a2 xs.length c2)).run Try.prog u = .ok (.string (strOfNums xs)) u ∧ (convert 22 9 (.slice a xs.length c)).run Try.prog u = .ok (.string (strOfNums xs)) u) :=
    fun u hu => ⟨conv9 (h35.stays hu) _ rfl, conv9 (h45.stays hu) _ rfl, conv9 (hB5.stays hu) _ rfl, conv9 (hO5.stays hu) _ rfl, conv9 (hX5.stays hu) _ rfl⟩
  have hc1 : Hid (∀ u : World, Below w5.heap.size w5 u → Calls Try.prog 12 #[.slice a xs.length c, .int .u64 n] u fun e w' => ∃ v, e = .returned v ∧ Below u.heap.size u w' ∧ slB X1 v w') :=
    fun u hu => calls_slB (rput_bs a c _ xs n hn u X1 H1.out rfl (hX5.stays hu) (by omega))
  have hc2 : Hid (∀ u : World, Below w5.heap.size w5 u → Calls Try.prog 13 #[.slice a xs.length c, .int .u32 m] u fun e w' => ∃ v, e = .returned v ∧ Below u.heap.size u w' ∧ slB X2 v w') :=
    fun u hu => calls_slB (rput32_bs a c _ xs m _ rfl hm2 u X2 H2.out rfl (hX5.stays hu) (by omega))
  have hc3 : Hid (∀ u : World, Below w5.heap.size w5 u → Calls Try.prog 14 #[.slice a xs.length c, .slice b zs.length d] u fun e w' => ∃ v, e = .returned v ∧ Below u.heap.size u w' ∧ slB X3 v w') :=
    fun u hu => calls_slB (rputString_bs a c _ xs b d _ zs u X3 H3.out rfl rfl (hX5.stays hu) (hZ5.stays hu) (by omega) (by omega))
  have HALL : Hid (Below w.heap.size w w5) := hall
  clear H1 H2 H3 HRx hX hZ hown1 hb1 hg1 hown2 hb2 hv2 hB2 hb3 hB3 hb4 hB4 hb5 hB5 hX5 hZ5 hO5 h35 h45 hall
  have hw32 : IntKind.u32.wrap (n : Int) = (m : Int) := by rw [IntKind.wrap_u32]; exact hmx
  refine Up.wp_region_up (Up.tell [(0, isV (.bool true)), (6, slB X1), (16, slB X2), (25, slB X3)]) (by kernel_rfl) (by kernel_rfl) (Up.tell_steady _ (by
    intro p hp
    simp only [List.mem_cons, List.not_mem_nil, or_false] at hp
    rcases hp with rfl | rfl | rfl | rfl
    · exact isV_steady _
    · exact slB_steady _
    · exact slB_steady _
    · exact slB_steady _)) ?_
  refine Up.wpUp_call _ 8 #[] (by rfl) (by rfl) (fun w1 => by go_simp) (fun w1 hp => alive_up w1) ?_
  rintro v ⟨u, _, hf⟩
  obtain rfl := hf 0 v _ rfl rfl
  clear hf
  simp only [Act.put, List.setIfInBounds_toArray, List.set_cons_zero, List.set_cons_succ]
  repeat (first
    | (apply Up.wpUp_pure
       case hw => rfl
       case hψ => rfl
       case hv => (intro w1 hp; have hS1 := hS.out w1 hp.1; clear hp; go_simp; try (with_reducible rfl))
       simp only [Act.put, List.setIfInBounds_toArray, List.set_cons_zero, List.set_cons_succ]))
  refine Up.wpUp_call _ 12 #[.slice a xs.length c, .int .u64 n] (by rfl) (by rfl) (fun w1 => by go_simp) (fun w1 hp => hc1.out w1 hp.1) ?_
  rintro v ⟨u, _, hf⟩
  obtain ⟨a6, c6, rfl, _⟩ := hf 6 v _ rfl rfl
  clear hf
  simp only [Act.put, List.setIfInBounds_toArray, List.set_cons_zero, List.set_cons_succ]
  repeat (first
    | (apply Up.wpUp_pure
       case hw => rfl
       case hψ => rfl
       case hv => (intro w1 hp; have hS1 := hS.out w1 hp.1; clear hp; go_simp; try (with_reducible rfl))
       simp only [Act.put, List.setIfInBounds_toArray, List.set_cons_zero, List.set_cons_succ])
    | (apply Up.wpUp_pure
       case hw => rfl
       case hψ => rfl
       case hv => (intro w1 hp; have hc := conv_of (hp.2 6 _ _ rfl rfl rfl); clear hp; go_simp; try (with_reducible rfl))
       simp only [Act.put, List.setIfInBounds_toArray, List.set_cons_zero, List.set_cons_succ]))
  refine Up.wpUp_call _ 13 #[.slice a xs.length c, .int .u32 m] (by rfl) (by rfl) (fun w1 => by go_simp) (fun w1 hp => hc2.out w1 hp.1) ?_
  rintro v ⟨u, _, hf⟩
  obtain ⟨a7, c7, rfl, _⟩ := hf 16 v _ rfl rfl
  clear hf
  simp only [Act.put, List.setIfInBounds_toArray, List.set_cons_zero, List.set_cons_succ]
  repeat (first
    | (apply Up.wpUp_pure
       case hw => rfl
       case hψ => rfl
       case hv => (intro w1 hp; have hS1 := hS.out w1 hp.1; clear hp; go_simp; try (with_reducible rfl))
       simp only [Act.put, List.setIfInBounds_toArray, List.set_cons_zero, List.set_cons_succ])
    | (apply Up.wpUp_pure
       case hw => rfl
       case hψ => rfl
       case hv => (intro w1 hp; have hc := conv_of (hp.2 16 _ _ rfl rfl rfl); clear hp; go_simp; try (with_reducible rfl))
       simp only [Act.put, List.setIfInBounds_toArray, List.set_cons_zero, List.set_cons_succ]))
  refine Up.wpUp_call _ 14 #[.slice a xs.length c, .slice b zs.length d] (by rfl) (by rfl) (fun w1 => by go_simp) (fun w1 hp => hc3.out w1 hp.1) ?_
  rintro v ⟨u, _, hf⟩
  obtain ⟨a8, c8, rfl, _⟩ := hf 25 v _ rfl rfl
  clear hf
  simp only [Act.put, List.setIfInBounds_toArray, List.set_cons_zero, List.set_cons_succ]
  repeat (first
    | (apply Up.wpUp_pure
       case hw => rfl
       case hψ => rfl
       case hv => (intro w1 hp; have hS1 := hS.out w1 hp.1; clear hp; go_simp; try (with_reducible rfl))
       simp only [Act.put, List.setIfInBounds_toArray, List.set_cons_zero, List.set_cons_succ])
    | (apply Up.wpUp_pure
       case hw => rfl
       case hψ => rfl
       case hv => (intro w1 hp; have hc := conv_of (hp.2 25 _ _ rfl rfl rfl); clear hp; go_simp; try (with_reducible rfl))
       simp only [Act.put, List.setIfInBounds_toArray, List.set_cons_zero, List.set_cons_succ]))
  refine Up.wpUp_end ?_
  intro w6 hb6 _
  go_wp2
  go_ret
  exact ⟨rfl, below_then HALL.out hb6⟩

theorem putlaw_walk (n : Nat) (hn : n < 18446744073709551616) (a : Option Addr) (c : Nat) (xs : List Int) (b : Option Addr) (d : Nat) (zs : List Int) (w : World) (hX : Bs w a c xs) (hZ : Bs w b d zs) :
    Calls Try.prog 3 #[.slice a xs.length c, .int .u64 n, .slice b zs.length d] w fun e w' => e = .returned (.bool true) ∧ Below w.heap.size w w' := by
  by_cases h : 300 < xs.length ∨ 300 < zs.length
  · exact putlaw_great n a c _ b d _ w h
  · exact putlaw_small n hn a c xs b d zs w hX hZ (by omega) (by omega)
end Go.Proofs.Ytiofpkkbejnjcaa
