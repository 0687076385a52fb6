/-
  manifest.Encode, and the document's.
-/
import Derived.Test.YthbldjnpnligpaaDoorG48
import Derived.Test.YthbldjnpnligpaaDoorG49
import Derived.Test.YthbldjnpnligpaaDoorG39
import Derived.Test.YthbldjnpnligpaaDoorG03
import Derived.Test.YthbldjnpnligpaaDoorRows
import Derived.Laws.BitsAllLaws
namespace Go.Proofs.YthbldjnpnligpaaDoor
set_option linter.unusedSimpArgs false
set_option linter.unusedVariables false
set_option maxRecDepth 100000
open Go.RowKit

theorem run_nob (w : World) : (Instr.buildSlice 43 0 #[]).run Tryd.prog w = .ok (.slice (some ⟨w.heap.size, 0, none⟩) 0 0) (w.alloc (.cells #[] 5)) := by kernel_rfl
theorem mtake_next {M : List Int} (i : Nat) : M.take ((i + 1) * 32) = M.take (i * 32) ++ hAt M i := by unfold hAt; rw [Nat.add_mul, Nat.one_mul, List.take_add]
set_option maxHeartbeats 8000000 in
theorem menc_run (M : List Int) (hM : M.length = 512) (hr : ∀ x ∈ M, 0 ≤ x ∧ x ≤ 255) (w : World) :
    Calls Tryd.prog 39 #[.agg (mV M).toArray] w fun e w' => ∃ a c, e = .returned (.slice a 512 c) ∧ NewB w.heap.size w' a c M ∧ Below w.heap.size w w' := by
  have hs := PI.start w
  have hzh := al_hsh
  obtain ⟨zh, hzhe⟩ : ∃ z, z = mV (List.replicate 32 0) := ⟨_, rfl⟩
  rw [← hzhe] at hzh
  have hvm := vals_mV hM
  have HIX : Hid (∀ i : Nat, i < 16 → ∀ u, (Instr.index 89 (.agg (mV M).toArray) (.int .i64 (i : Int))).run Tryd.prog u = .ok (.agg (mV (hAt M i)).toArray) u) := fun i hi u => ix_man_agg hi u
  have HPT : Hid (∀ i : Nat, i < 16 → mV (hAt M i) = ((mV M).drop (i * 32)).take 32) := fun i hi => mV_part
  obtain ⟨mv, hmv⟩ : ∃ mv, mv = mV M := ⟨_, rfl⟩
  rw [← hmv] at hvm HIX HPT ⊢
  have HM : Hid (M.length = 512 ∧ ∀ x ∈ M, 0 ≤ x ∧ x ≤ 255) := ⟨hM, hr⟩
  clear hzhe hmv hM hr
  go_enter Tryd.func39, Tryd.ntmps39
  go_wp2_with (first
    | (refine sep_box hs rfl rfl (by rfl) hvm ?_; clear hs; intro w1 gM hs)
    | (refine sep_make0 hs rfl (by rfl) (by rfl) (by rfl) (n := 512) (by omega) (by omega) ?_; clear hs; intro v0 w1 hs)
    | (refine sep_loadw hs rfl rfl (by rfl) (by repeat (first | exact List.Mem.head _ | apply List.Mem.tail)) ty_man ?_))
  have hst : Sep w.heap.size (Row1 w.heap.size (PI w) (rwB v0 (M.take (0 * 32)))) w1 [⟨gM, 89, 512, mv⟩] [] := rwB_cast hs _ (by rw [Nat.zero_mul]; rfl) (by rw [Nat.zero_mul]; rfl)
  go_loopw [3, 8] (fun v x wr => ∃ i : Nat, x = .int .i64 (i : Int) ∧ i ≤ 16 ∧ Sep w.heap.size (Row1 w.heap.size (PI w) (rwB v (M.take (i * 32)))) wr [⟨gM, 89, 512, mv⟩] []) (fun _ x _ => 16 - (intOf x).toNat)
  case atStart => exact ⟨0, rfl, by omega, hst⟩
  case round =>
    clear hs hst
    rename_i hrel
    obtain ⟨i, rfl, hi, hs⟩ := hrel
    by_cases hlt : i < 16
    · have hpt := HPT.out i hlt
      have hix := HIX.out i hlt
      have hsl := fun g u => sl_hsh g 0 u
      have hhv := vals_mV (hAt_len HM.out.1 hlt)
      obtain ⟨hv, hhe⟩ : ∃ hv, hv = mV (hAt M i) := ⟨_, rfl⟩
      have HHV : Hid (hv = mV (hAt M i)) := hhe
      rw [← hhe] at hhv hpt hix
      have HPU : Hid _ := hpt
      clear hpt
      have HLE : Hid ((M.take (i * 32)).length + 32 ≤ 1000000) := by show _ ≤ _; rw [List.length_take]; omega
      clear hhe
      go_wp2_with (first
        | (refine sep_alloc hs rfl rfl hzh ?_; clear hs; intro w1 gH hs)
        | (refine sep_storew hs rfl rfl (by rfl) (by rfl) (by repeat (first | exact Upd.head | apply Upd.tail)) ty_hsh hhv ?_; clear hs; intro w1 hs)
        | (refine sep_appendm hs (PI.frame w) rfl (by rfl) elem_byte rfl (r := 32) (us := hv) (by rfl) (by rw [Nat.mul_one]; exact hhv.1) (hs.lies (by repeat (first | exact List.Mem.head _ | apply List.Mem.tail)) (whole_load hhv.1)) hhv.2 (by omega) HLE.out ?_; clear hs; intro v1 w1 hs))
      rw [HHV.out] at hs
      replace hs := rwB_more (ys := hAt M i) hs (hAt_len HM.out.1 hlt).symm
      rw [← mtake_next] at hs
      go_roundw
      case rel => exact ⟨i + 1, by go_num, by omega, hs.drop⟩
      case measure => simp [intOf]; omega
    · obtain rfl : i = 16 := by omega
      have hs2 := hs
      rw [show 16 * 32 = 512 from rfl, List.take_of_length_le (by have := HM.out.1; omega)] at hs2
      obtain ⟨a, c, rfl, hu⟩ := hs2.unrow (PI.frame w) HM.out.2
      rw [HM.out.1]
      clear hs hs2
      go_wp2
      go_ret
      exact ⟨a, c, rfl, ⟨hu.bs List.mem_cons_self, fun x hx => ((hu.sl _ List.mem_cons_self).2 x hx).1⟩, hu.below⟩
set_option maxHeartbeats 8000000 in
theorem rmenc_run (M : List Int) (hM : M.length = 512) (hr : ∀ x ∈ M, 0 ≤ x ∧ x ≤ 255) (w : World) :
    Calls Tryd.prog 40 #[.agg (mV M).toArray] w fun e w' => ∃ a c, e = .returned (.slice a 512 c) ∧ NewB w.heap.size w' a c M ∧ Below w.heap.size w w' := by
  have hs := PI.start w
  have hzh := al_hsh
  obtain ⟨zh, hzhe⟩ : ∃ z, z = mV (List.replicate 32 0) := ⟨_, rfl⟩
  rw [← hzhe] at hzh
  have hvm := vals_mV hM
  have HIX : Hid (∀ i : Nat, i < 16 → ∀ u, (Instr.index 89 (.agg (mV M).toArray) (.int .i64 (i : Int))).run Tryd.prog u = .ok (.agg (mV (hAt M i)).toArray) u) := fun i hi u => ix_man_agg hi u
  have HPT : Hid (∀ i : Nat, i < 16 → mV (hAt M i) = ((mV M).drop (i * 32)).take 32) := fun i hi => mV_part
  obtain ⟨mv, hmv⟩ : ∃ mv, mv = mV M := ⟨_, rfl⟩
  rw [← hmv] at hvm HIX HPT ⊢
  have HM : Hid (M.length = 512 ∧ ∀ x ∈ M, 0 ≤ x ∧ x ≤ 255) := ⟨hM, hr⟩
  clear hzhe hmv hM hr
  go_enter Tryd.func40, Tryd.ntmps40
  go_wp2_with (first
    | (refine sep_box hs rfl rfl (by rfl) hvm ?_; clear hs; intro w1 gM hs)
    | (refine sep_empty hs rfl (by rfl) (t := 5) (n := 1) run_nob ?_; clear hs; intro v0 w1 hs)
    | (refine sep_loadw hs rfl rfl (by rfl) (by repeat (first | exact List.Mem.head _ | apply List.Mem.tail)) ty_man ?_))
  have hst : Sep w.heap.size (Row1 w.heap.size (PI w) (rwB v0 (M.take (0 * 32)))) w1 [⟨gM, 89, 512, mv⟩] [] := rwB_cast hs _ (by rw [Nat.zero_mul]; rfl) (by rw [Nat.zero_mul]; rfl)
  go_loopw [3, 4] (fun v x wr => ∃ i : Nat, x = .int .i64 (i : Int) ∧ i ≤ 16 ∧ Sep w.heap.size (Row1 w.heap.size (PI w) (rwB v (M.take (i * 32)))) wr [⟨gM, 89, 512, mv⟩] []) (fun _ x _ => 16 - (intOf x).toNat)
  case atStart => exact ⟨0, rfl, by omega, hst⟩
  case round =>
    clear hs hst
    rename_i hrel
    obtain ⟨i, rfl, hi, hs⟩ := hrel
    by_cases hlt : i < 16
    · have hpt := HPT.out i hlt
      have hix := fun u => ix_man gM hlt u
      have hsl := fun u => sl_hsh gM (i * 32) u
      have hhv := vals_mV (hAt_len HM.out.1 hlt)
      obtain ⟨hv, hhe⟩ : ∃ hv, hv = mV (hAt M i) := ⟨_, rfl⟩
      have HHV : Hid (hv = mV (hAt M i)) := hhe
      rw [← hhe] at hhv hpt
      have HPU : Hid _ := hpt
      clear hpt
      have HLE : Hid ((M.take (i * 32)).length + 32 ≤ 1000000) := by show _ ≤ _; rw [List.length_take]; omega
      clear hhe
      go_wp2_with (first
        | (refine sep_appendm hs (PI.frame w) rfl (by rfl) elem_byte rfl (r := 32) (us := hv) (by rfl) (by rw [Nat.mul_one]; exact hhv.1) (hs.lies (by repeat (first | exact List.Mem.head _ | apply List.Mem.tail)) HPU.out) hhv.2 (by omega) HLE.out ?_; clear hs; intro v1 w1 hs))
      rw [HHV.out] at hs
      replace hs := rwB_more (ys := hAt M i) hs (hAt_len HM.out.1 hlt).symm
      rw [← mtake_next] at hs
      go_roundw
      case rel => exact ⟨i + 1, by go_num, by omega, hs⟩
      case measure => simp [intOf]; omega
    · obtain rfl : i = 16 := by omega
      have hs2 := hs
      rw [show 16 * 32 = 512 from rfl, List.take_of_length_le (by have := HM.out.1; omega)] at hs2
      obtain ⟨a, c, rfl, hu⟩ := hs2.unrow (PI.frame w) HM.out.2
      rw [HM.out.1]
      clear hs hs2
      go_wp2
      go_ret
      exact ⟨a, c, rfl, ⟨hu.bs List.mem_cons_self, fun x hx => ((hu.sl _ List.mem_cons_self).2 x hx).1⟩, hu.below⟩
end Go.Proofs.YthbldjnpnligpaaDoor

/-
  ManifestBytes: the statement's walk.
-/

namespace Go.Proofs.YthbldjnpnligpaaDoor
set_option linter.unusedSimpArgs false
set_option linter.unusedVariables false
set_option maxRecDepth 100000
open Go.RowKit

set_option maxHeartbeats 40000000 in
theorem mb_walk (M : List Int) (hM : M.length = 512) (hr : ∀ x ∈ M, 0 ≤ x ∧ x ≤ 255) (a : Option Addr) (c : Nat) (xs : List Int) (w : World) (hV : Vars w) (hB : Bs w a c xs) :
    Calls Tryd.prog 8 #[.agg (mV M).toArray, .slice a xs.length c] w fun e w' => e = .returned (.bool true) ∧ Below w.heap.size w w' := by
  have hvm := vals_mV hM
  have hne : M ≠ [] := fun e => by rw [e] at hM; simp at hM
  have HNE : Hid (M ≠ []) := hne
  have heq := fun u => eq_man hM u
  have hen : ∀ u, Calls Tryd.prog 39 #[.agg (mV M).toArray] u fun e w' => ∃ a c, e = .returned (.slice a 512 c) ∧ NewB u.heap.size w' a c M ∧ Below u.heap.size u w' := fun u => menc_run M hM hr u
  have hren : ∀ u, Calls Tryd.prog 40 #[.agg (mV M).toArray] u fun e w' => ∃ a c, e = .returned (.slice a 512 c) ∧ NewB u.heap.size w' a c M ∧ Below u.heap.size u w' := fun u => rmenc_run M hM hr u
  have hdm : decM M = M ∧ decE M = 0 := ⟨if_pos hM, if_pos hM⟩
  have hdz : ∀ u a c, Bs u a c M → Calls Tryd.prog 37 #[.slice a 512 c] u fun e w' => e = .returned (.tuple #[.agg (mV M).toArray, .int .i64 0]) ∧ Below u.heap.size u w' := fun u a c h => by
    have := mdec_run a c 512 M u h hM.symm
    rw [hdm.1, hdm.2] at this
    exact this
  obtain ⟨mv, hmv⟩ : ∃ mv, mv = mV M := ⟨_, rfl⟩
  rw [← hmv] at hvm heq hen hren hdz ⊢
  obtain ⟨N, hN⟩ : ∃ N, N = xs.length := ⟨_, rfl⟩
  have HB : Hid (Bs w a c xs) := hB
  have HN : Hid (N = xs.length) := hN
  have hxl := decM_len xs
  have hxr := decM_rng hB.rng
  have heqx := fun u => eq_man hxl u
  have hxv := vals_mV hxl
  have hde : (N = 512 ∧ decM xs = xs ∧ decE xs = 0) ∨ (N ≠ 512 ∧ decE xs = 3) := by
    by_cases h : N = 512
    · exact .inl ⟨h, if_pos (by omega), if_pos (by omega)⟩
    · exact .inr ⟨h, if_neg (by omega)⟩
  have hd : ∀ u, Bs u a c xs → Calls Tryd.prog 37 #[.slice a N c] u fun e w' => e = .returned (.tuple #[.agg (mV (decM xs)).toArray, .int .i64 (decE xs)]) ∧ Below u.heap.size u w' := fun u h => mdec_run a c N xs u h hN
  have hrd : ∀ u, Bs u a c xs → Calls Tryd.prog 38 #[.slice a N c] u fun e w' => e = .returned (.tuple #[.agg (mV (decM xs)).toArray, .int .i64 (decE xs)]) ∧ Below u.heap.size u w' := fun u h => rmdec_run a c N xs u h hN
  have hex : ∀ u, Calls Tryd.prog 39 #[.agg (mV (decM xs)).toArray] u fun e w' => ∃ a c, e = .returned (.slice a 512 c) ∧ NewB u.heap.size w' a c (decM xs) ∧ Below u.heap.size u w' := fun u => menc_run (decM xs) hxl hxr u
  obtain ⟨X, hX⟩ : ∃ X, X = decM xs := ⟨_, rfl⟩
  obtain ⟨ec, hec⟩ : ∃ ec, ec = decE xs := ⟨_, rfl⟩
  rw [← hX] at hxl heqx hxv hde hd hrd hex
  rw [← hec] at hde hd hrd
  obtain ⟨xv, hxe⟩ : ∃ xv, xv = mV X := ⟨_, rfl⟩
  rw [← hxe] at heqx hxv hd hrd hex
  obtain ⟨S0, hS0⟩ : ∃ S0, S0 = strOfNums M := ⟨_, rfl⟩
  obtain ⟨S1, hS1⟩ : ∃ S1, S1 = strOfNums X := ⟨_, rfl⟩
  have HC0 : Hid (∀ u a c, Bs u a c M → (convert 43 9 (.slice a 512 c)).run Tryd.prog u = .ok (.string S0) u) := fun u a c h => by rw [hS0]; exact conv_str h hM.symm
  have HC1 : Hid (∀ u a c, Bs u a c X → (convert 43 9 (.slice a 512 c)).run Tryd.prog u = .ok (.string S1) u) := fun u a c h => by rw [hS1]; exact conv_str h hxl.symm
  have HC2 : Hid (X = xs → ∀ u, Below w.heap.size w u → (convert 43 9 (.slice a N c)).run Tryd.prog u = .ok (.string S1) u) := fun h u hu => by rw [hS1, h]; exact conv_str (hB.stays hu) hN
  have HME : Hid (∀ u, Calls Tryd.prog 39 #[.agg mv.toArray] u fun e w' => ∃ v, e = .returned v ∧ Below u.heap.size u w' ∧ slB 512 M v w') := fun u => calls_slB ((hen u).mono fun e w' ⟨a, c, h1, h2, h3⟩ => ⟨a, c, h1, h2.1, h3⟩)
  have HMR : Hid (∀ u, Calls Tryd.prog 40 #[.agg mv.toArray] u fun e w' => ∃ v, e = .returned v ∧ Below u.heap.size u w' ∧ slB 512 M v w') := fun u => calls_slB ((hren u).mono fun e w' ⟨a, c, h1, h2, h3⟩ => ⟨a, c, h1, h2.1, h3⟩)
  have HMX : Hid (∀ u, Calls Tryd.prog 39 #[.agg xv.toArray] u fun e w' => ∃ v, e = .returned v ∧ Below u.heap.size u w' ∧ slB 512 X v w') := fun u => calls_slB ((hex u).mono fun e w' ⟨a, c, h1, h2, h3⟩ => ⟨a, c, h1, h2.1, h3⟩)
  have HAL : Hid (∀ u, Below w.heap.size w u → Calls Tryd.prog 36 #[] u fun e w' => e = .returned (.bool true) ∧ Below u.heap.size u w') := fun u hu => alive11_run u (hV.stays hu)
  have hss0 : (S0.toList == S0.toList) = true := by simp
  have hss1 : (S1.toList == S1.toList) = true := by simp
  rw [← hN]
  have hs := PI.start w
  clear hM hr hne hren hex hdm hmv hN hB hxl hxr hX hec hxe hS0 hS1
  by_cases hbig : 600 < N
  · have hb1 : (600 : Int) < (N : Int) := by omega
    go_enter Tryd.func8, Tryd.ntmps8
    go_wp2_with (first
      | (refine sep_box hs rfl rfl (by rfl) hvm ?_; clear hs; intro w1 gM hs)
      | (go_at_call 36; go_must (refine (HAL.out _ hs.below).mono ?_); rintro e w1 ⟨rfl, hb1⟩; replace hs := hs.stays hb1; clear hb1))
    go_ret
    exact ⟨rfl, hs.below⟩
  · have hb1 : ¬ (600 : Int) < (N : Int) := by omega
    clear hbig
    go_enter Tryd.func8, Tryd.ntmps8
    go_wp2_with (first
      | (refine sep_box hs rfl rfl (by rfl) hvm ?_; clear hs; intro w1 gM hs)
      | (go_at_call_of 37 (Value.slice a N c); go_must (refine (hd _ (HB.out.stays hs.below)).mono ?_); rintro e w1 ⟨rfl, hb2⟩; replace hs := hs.stays hb2; clear hb2)
      | (go_at_call 38; go_must (refine (hrd _ (HB.out.stays hs.below)).mono ?_); rintro e w1 ⟨rfl, hb2⟩; replace hs := hs.stays hb2; clear hb2)
      | (go_at_call 39; go_must (refine (hen _).mono ?_); rintro e w1 ⟨a2, c2, rfl, hN2, hb2⟩; replace hs := hs.slice hb2 hN2.1 hN2.2 HNE.out; clear hN2 hb2)
      | (go_at_call_of 37 (Value.slice a2 512 c2); go_must (refine (hdz _ _ _ (hs.bs List.mem_cons_self)).mono ?_); rintro e w1 ⟨rfl, hb2⟩; replace hs := hs.stays hb2; clear hb2)
      | ((with_reducible show wpList _ _ _ (Oper.mk (some 5) (Op.alloc _) _ _ _ _ :: _) _ _); refine sep_alloc hs rfl rfl al_man ?_; clear hs; intro w1 gX hs)
      | ((with_reducible show wpList _ _ _ (Oper.mk (some 7) (Op.alloc _) _ _ _ _ :: _) _ _); refine sep_alloc hs rfl rfl al_man ?_; clear hs; intro w1 gY hs)
      | ((with_reducible show wpList _ _ _ (Oper.mk (some 9) (Op.alloc _) _ _ _ _ :: _) _ _); refine sep_alloc hs rfl rfl al_man ?_; clear hs; intro w1 gZ hs)
      | (refine sep_loadw hs rfl rfl (by rfl) (by repeat (first | exact List.Mem.head _ | apply List.Mem.tail)) ty_man ?_)
      | (refine sep_storew hs rfl rfl (by rfl) (by rfl) (by repeat (first | exact Upd.head | apply Upd.tail)) ty_man (by first | exact hvm | exact hxv) ?_; clear hs; intro w1 hs))
    clear hd hrd hdz hen
    rcases hde with ⟨rfl, hXx, rfl⟩ | ⟨h512, rfl⟩
    · refine UpT.wp_region_tail 41 (UpT.tell [(0, isV (.bool true)), (3, slB 512 M), (6, slB 512 M), (34, slB 512 X)]) (fun _ => false) (by kernel_rfl) (by kernel_rfl) (UpT.tell_steady _ (by
        intro p hp
        simp only [List.mem_cons, List.not_mem_nil, or_false] at hp
        rcases hp with rfl | rfl | rfl | rfl <;> first | exact isV_steady _ | exact slB_steady _ _)) ?_
      simp only [List.take_succ_cons, List.take_zero]
      refine UpT.wpUp_call _ 36 #[] (by rfl) (by rfl) (by rfl) (fun wz => by go_simp) (fun wz hp => calls_isV (HAL.out wz (below_then hs.below hp.1))) ?_
      rintro v ⟨u, _, hf⟩
      obtain rfl := hf.of 0 v _ rfl rfl
      clear hf
      simp only [Act.put, List.setIfInBounds_toArray, List.set_cons_zero, List.set_cons_succ]
      iterate 1 (apply UpT.wpUp_pure; (case hw => rfl); (case hψ => rfl); (case hv => (intro wz hp; clear hp; go_simp; try (with_reducible rfl))); simp only [Act.put, List.setIfInBounds_toArray, List.set_cons_zero, List.set_cons_succ])
      refine UpT.wpUp_pure (.agg mv.toArray) (by rfl) (by rfl) (fun wz hp => exec_load (by rfl) (by rfl) (hs.ld hp.1 ty_man (by repeat (first | exact List.Mem.head _ | apply List.Mem.tail)))) ?_
      simp only [Act.put, List.setIfInBounds_toArray, List.set_cons_zero, List.set_cons_succ]
      refine UpT.wpUp_call _ 39 #[.agg mv.toArray] (by rfl) (by rfl) (by rfl) (fun wz => by go_simp) (fun wz hp => HME.out wz) ?_
      rintro v ⟨u, _, hf⟩
      obtain ⟨pa, pc, rfl, _⟩ := hf.of 3 v _ rfl rfl
      clear hf
      simp only [Act.put, List.setIfInBounds_toArray, List.set_cons_zero, List.set_cons_succ]
      apply UpT.wpUp_pure
      case hw => rfl
      case hψ => rfl
      case hv => (intro wz hp; have hcc := HC0.out wz pa pc (slB.bs (hp.2 3 _ _ (by kernel_rfl) rfl rfl)); clear hp; go_simp; try (with_reducible rfl))
      simp only [Act.put, List.setIfInBounds_toArray, List.set_cons_zero, List.set_cons_succ]
      refine UpT.wpUp_pure (.agg mv.toArray) (by rfl) (by rfl) (fun wz hp => exec_load (by rfl) (by rfl) (hs.ld hp.1 ty_man (by repeat (first | exact List.Mem.head _ | apply List.Mem.tail)))) ?_
      simp only [Act.put, List.setIfInBounds_toArray, List.set_cons_zero, List.set_cons_succ]
      refine UpT.wpUp_call _ 40 #[.agg mv.toArray] (by rfl) (by rfl) (by rfl) (fun wz => by go_simp) (fun wz hp => HMR.out wz) ?_
      rintro v ⟨u, _, hf⟩
      obtain ⟨qa, qc, rfl, _⟩ := hf.of 6 v _ rfl rfl
      clear hf
      simp only [Act.put, List.setIfInBounds_toArray, List.set_cons_zero, List.set_cons_succ]
      apply UpT.wpUp_pure
      case hw => rfl
      case hψ => rfl
      case hv => (intro wz hp; have hcc := HC0.out wz qa qc (slB.bs (hp.2 6 _ _ (by kernel_rfl) rfl rfl)); clear hp; go_simp; try (with_reducible rfl))
      simp only [Act.put, List.setIfInBounds_toArray, List.set_cons_zero, List.set_cons_succ]
      iterate 3 (apply UpT.wpUp_pure; (case hw => rfl); (case hψ => rfl); (case hv => (intro wz hp; clear hp; go_simp; try (with_reducible rfl))); simp only [Act.put, List.setIfInBounds_toArray, List.set_cons_zero, List.set_cons_succ])
      refine UpT.wpUp_pure (.agg xv.toArray) (by rfl) (by rfl) (fun wz hp => exec_load (by rfl) (by rfl) (hs.ld hp.1 ty_man (by repeat (first | exact List.Mem.head _ | apply List.Mem.tail)))) ?_
      simp only [Act.put, List.setIfInBounds_toArray, List.set_cons_zero, List.set_cons_succ]
      refine UpT.wpUp_pure (.agg xv.toArray) (by rfl) (by rfl) (fun wz hp => exec_load (by rfl) (by rfl) (hs.ld hp.1 ty_man (by repeat (first | exact List.Mem.head _ | apply List.Mem.tail)))) ?_
      simp only [Act.put, List.setIfInBounds_toArray, List.set_cons_zero, List.set_cons_succ]
      iterate 3 (apply UpT.wpUp_pure; (case hw => rfl); (case hψ => rfl); (case hv => (intro wz hp; clear hp; go_simp; try (with_reducible rfl))); simp only [Act.put, List.setIfInBounds_toArray, List.set_cons_zero, List.set_cons_succ])
      iterate 5 (apply UpT.wpUp_pure; (case hw => rfl); (case hψ => rfl); (case hv => (intro wz hp; clear hp; go_simp; try (with_reducible rfl))); simp only [Act.put, List.setIfInBounds_toArray, List.set_cons_zero, List.set_cons_succ])
      iterate 4 (apply UpT.wpUp_pure; (case hw => rfl); (case hψ => rfl); (case hv => (intro wz hp; clear hp; go_simp; try (with_reducible rfl))); simp only [Act.put, List.setIfInBounds_toArray, List.set_cons_zero, List.set_cons_succ])
      refine UpT.wpUp_pure (.agg mv.toArray) (by rfl) (by rfl) (fun wz hp => exec_load (by rfl) (by rfl) (hs.ld hp.1 ty_man (by repeat (first | exact List.Mem.head _ | apply List.Mem.tail)))) ?_
      simp only [Act.put, List.setIfInBounds_toArray, List.set_cons_zero, List.set_cons_succ]
      refine UpT.wpUp_pure (.agg mv.toArray) (by rfl) (by rfl) (fun wz hp => exec_load (by rfl) (by rfl) (hs.ld hp.1 ty_man (by repeat (first | exact List.Mem.head _ | apply List.Mem.tail)))) ?_
      simp only [Act.put, List.setIfInBounds_toArray, List.set_cons_zero, List.set_cons_succ]
      iterate 3 (apply UpT.wpUp_pure; (case hw => rfl); (case hψ => rfl); (case hv => (intro wz hp; clear hp; go_simp; try (with_reducible rfl))); simp only [Act.put, List.setIfInBounds_toArray, List.set_cons_zero, List.set_cons_succ])
      iterate 3 (apply UpT.wpUp_pure; (case hw => rfl); (case hψ => rfl); (case hv => (intro wz hp; clear hp; go_simp; try (with_reducible rfl))); simp only [Act.put, List.setIfInBounds_toArray, List.set_cons_zero, List.set_cons_succ])
      refine UpT.wpUp_pure (.agg xv.toArray) (by rfl) (by rfl) (fun wz hp => exec_load (by rfl) (by rfl) (hs.ld hp.1 ty_man (by repeat (first | exact List.Mem.head _ | apply List.Mem.tail)))) ?_
      simp only [Act.put, List.setIfInBounds_toArray, List.set_cons_zero, List.set_cons_succ]
      refine UpT.wpUp_call _ 39 #[.agg xv.toArray] (by rfl) (by rfl) (by rfl) (fun wz => by go_simp) (fun wz hp => HMX.out wz) ?_
      rintro v ⟨u, _, hf⟩
      obtain ⟨ra, rc, rfl, _⟩ := hf.of 34 v _ rfl rfl
      clear hf
      simp only [Act.put, List.setIfInBounds_toArray, List.set_cons_zero, List.set_cons_succ]
      apply UpT.wpUp_pure
      case hw => rfl
      case hψ => rfl
      case hv => (intro wz hp; have hcc := HC1.out wz ra rc (slB.bs (hp.2 34 _ _ (by kernel_rfl) rfl rfl)); clear hp; go_simp; try (with_reducible rfl))
      simp only [Act.put, List.setIfInBounds_toArray, List.set_cons_zero, List.set_cons_succ]
      iterate 1 (apply UpT.wpUp_pure; (case hw => rfl); (case hψ => rfl); (case hv => (intro wz hp; clear hp; go_simp; try (with_reducible rfl))); simp only [Act.put, List.setIfInBounds_toArray, List.set_cons_zero, List.set_cons_succ])
      apply UpT.wpUp_pure
      case hw => rfl
      case hψ => rfl
      case hv => (intro wz hp; have hcc := HC2.out hXx wz (below_then hs.below hp.1); clear hp; go_simp; try (with_reducible rfl))
      simp only [Act.put, List.setIfInBounds_toArray, List.set_cons_zero, List.set_cons_succ]
      iterate 1 (apply UpT.wpUp_pure; (case hw => rfl); (case hψ => rfl); (case hv => (intro wz hp; clear hp; go_simp; try (with_reducible rfl))); simp only [Act.put, List.setIfInBounds_toArray, List.set_cons_zero, List.set_cons_succ])
      iterate 2 (apply UpT.wpUp_pure; (case hw => rfl); (case hψ => rfl); (case hv => (intro wz hp; clear hp; go_simp; try (with_reducible rfl))); simp only [Act.put, List.setIfInBounds_toArray, List.set_cons_zero, List.set_cons_succ])
      refine UpT.wpUp_end ?_
      intro w2 hb2 hf
      simp only [List.drop_succ_cons, List.drop_zero]
      replace hs := hs.stays hb2
      clear hf hb2
      go_wp2
      go_ret
      exact ⟨rfl, hs.below⟩
    · refine UpT.wp_region_tail 41 (UpT.tell [(0, isV (.bool true)), (3, slB 512 M), (6, slB 512 M)]) (fun _ => false) (by kernel_rfl) (by kernel_rfl) (UpT.tell_steady _ (by
        intro p hp
        simp only [List.mem_cons, List.not_mem_nil, or_false] at hp
        rcases hp with rfl | rfl | rfl <;> first | exact isV_steady _ | exact slB_steady _ _)) ?_
      simp only [List.take_succ_cons, List.take_zero]
      refine UpT.wpUp_call _ 36 #[] (by rfl) (by rfl) (by rfl) (fun wz => by go_simp) (fun wz hp => calls_isV (HAL.out wz (below_then hs.below hp.1))) ?_
      rintro v ⟨u, _, hf⟩
      obtain rfl := hf.of 0 v _ rfl rfl
      clear hf
      simp only [Act.put, List.setIfInBounds_toArray, List.set_cons_zero, List.set_cons_succ]
      iterate 1 (apply UpT.wpUp_pure; (case hw => rfl); (case hψ => rfl); (case hv => (intro wz hp; clear hp; go_simp; try (with_reducible rfl))); simp only [Act.put, List.setIfInBounds_toArray, List.set_cons_zero, List.set_cons_succ])
      refine UpT.wpUp_pure (.agg mv.toArray) (by rfl) (by rfl) (fun wz hp => exec_load (by rfl) (by rfl) (hs.ld hp.1 ty_man (by repeat (first | exact List.Mem.head _ | apply List.Mem.tail)))) ?_
      simp only [Act.put, List.setIfInBounds_toArray, List.set_cons_zero, List.set_cons_succ]
      refine UpT.wpUp_call _ 39 #[.agg mv.toArray] (by rfl) (by rfl) (by rfl) (fun wz => by go_simp) (fun wz hp => HME.out wz) ?_
      rintro v ⟨u, _, hf⟩
      obtain ⟨pa, pc, rfl, _⟩ := hf.of 3 v _ rfl rfl
      clear hf
      simp only [Act.put, List.setIfInBounds_toArray, List.set_cons_zero, List.set_cons_succ]
      apply UpT.wpUp_pure
      case hw => rfl
      case hψ => rfl
      case hv => (intro wz hp; have hcc := HC0.out wz pa pc (slB.bs (hp.2 3 _ _ (by kernel_rfl) rfl rfl)); clear hp; go_simp; try (with_reducible rfl))
      simp only [Act.put, List.setIfInBounds_toArray, List.set_cons_zero, List.set_cons_succ]
      refine UpT.wpUp_pure (.agg mv.toArray) (by rfl) (by rfl) (fun wz hp => exec_load (by rfl) (by rfl) (hs.ld hp.1 ty_man (by repeat (first | exact List.Mem.head _ | apply List.Mem.tail)))) ?_
      simp only [Act.put, List.setIfInBounds_toArray, List.set_cons_zero, List.set_cons_succ]
      refine UpT.wpUp_call _ 40 #[.agg mv.toArray] (by rfl) (by rfl) (by rfl) (fun wz => by go_simp) (fun wz hp => HMR.out wz) ?_
      rintro v ⟨u, _, hf⟩
      obtain ⟨qa, qc, rfl, _⟩ := hf.of 6 v _ rfl rfl
      clear hf
      simp only [Act.put, List.setIfInBounds_toArray, List.set_cons_zero, List.set_cons_succ]
      apply UpT.wpUp_pure
      case hw => rfl
      case hψ => rfl
      case hv => (intro wz hp; have hcc := HC0.out wz qa qc (slB.bs (hp.2 6 _ _ (by kernel_rfl) rfl rfl)); clear hp; go_simp; try (with_reducible rfl))
      simp only [Act.put, List.setIfInBounds_toArray, List.set_cons_zero, List.set_cons_succ]
      iterate 3 (apply UpT.wpUp_pure; (case hw => rfl); (case hψ => rfl); (case hv => (intro wz hp; clear hp; go_simp; try (with_reducible rfl))); simp only [Act.put, List.setIfInBounds_toArray, List.set_cons_zero, List.set_cons_succ])
      refine UpT.wpUp_pure (.agg xv.toArray) (by rfl) (by rfl) (fun wz hp => exec_load (by rfl) (by rfl) (hs.ld hp.1 ty_man (by repeat (first | exact List.Mem.head _ | apply List.Mem.tail)))) ?_
      simp only [Act.put, List.setIfInBounds_toArray, List.set_cons_zero, List.set_cons_succ]
      refine UpT.wpUp_pure (.agg xv.toArray) (by rfl) (by rfl) (fun wz hp => exec_load (by rfl) (by rfl) (hs.ld hp.1 ty_man (by repeat (first | exact List.Mem.head _ | apply List.Mem.tail)))) ?_
      simp only [Act.put, List.setIfInBounds_toArray, List.set_cons_zero, List.set_cons_succ]
      iterate 3 (apply UpT.wpUp_pure; (case hw => rfl); (case hψ => rfl); (case hv => (intro wz hp; clear hp; go_simp; try (with_reducible rfl))); simp only [Act.put, List.setIfInBounds_toArray, List.set_cons_zero, List.set_cons_succ])
      iterate 5 (apply UpT.wpUp_pure; (case hw => rfl); (case hψ => rfl); (case hv => (intro wz hp; clear hp; go_simp; try (with_reducible rfl))); simp only [Act.put, List.setIfInBounds_toArray, List.set_cons_zero, List.set_cons_succ])
      iterate 4 (apply UpT.wpUp_pure; (case hw => rfl); (case hψ => rfl); (case hv => (intro wz hp; clear hp; go_simp; try (with_reducible rfl))); simp only [Act.put, List.setIfInBounds_toArray, List.set_cons_zero, List.set_cons_succ])
      refine UpT.wpUp_pure (.agg mv.toArray) (by rfl) (by rfl) (fun wz hp => exec_load (by rfl) (by rfl) (hs.ld hp.1 ty_man (by repeat (first | exact List.Mem.head _ | apply List.Mem.tail)))) ?_
      simp only [Act.put, List.setIfInBounds_toArray, List.set_cons_zero, List.set_cons_succ]
      refine UpT.wpUp_pure (.agg mv.toArray) (by rfl) (by rfl) (fun wz hp => exec_load (by rfl) (by rfl) (hs.ld hp.1 ty_man (by repeat (first | exact List.Mem.head _ | apply List.Mem.tail)))) ?_
      simp only [Act.put, List.setIfInBounds_toArray, List.set_cons_zero, List.set_cons_succ]
      iterate 3 (apply UpT.wpUp_pure; (case hw => rfl); (case hψ => rfl); (case hv => (intro wz hp; clear hp; go_simp; try (with_reducible rfl))); simp only [Act.put, List.setIfInBounds_toArray, List.set_cons_zero, List.set_cons_succ])
      iterate 3 (apply UpT.wpUp_pure; (case hw => rfl); (case hψ => rfl); (case hv => (intro wz hp; clear hp; go_simp; try (with_reducible rfl))); simp only [Act.put, List.setIfInBounds_toArray, List.set_cons_zero, List.set_cons_succ])
      iterate 6 (refine UpT.wpUp_pass (by rfl) ?_; simp only [Act.put, List.setIfInBounds_toArray, List.set_cons_zero, List.set_cons_succ])
      iterate 2 (apply UpT.wpUp_pure; (case hw => rfl); (case hψ => rfl); (case hv => (intro wz hp; clear hp; go_simp; try (with_reducible rfl))); simp only [Act.put, List.setIfInBounds_toArray, List.set_cons_zero, List.set_cons_succ])
      refine UpT.wpUp_end ?_
      intro w2 hb2 hf
      simp only [List.drop_succ_cons, List.drop_zero]
      replace hs := hs.stays hb2
      clear hf hb2
      go_wp2
      go_ret
      exact ⟨rfl, hs.below⟩
end Go.Proofs.YthbldjnpnligpaaDoor

/-
  Package sha: Text.
-/

namespace Go.Proofs.YthbldjnpnligpaaDoor
set_option linter.unusedSimpArgs false
set_option linter.unusedVariables false
set_option maxRecDepth 100000
open Go.RowKit

end Go.Proofs.YthbldjnpnligpaaDoor
