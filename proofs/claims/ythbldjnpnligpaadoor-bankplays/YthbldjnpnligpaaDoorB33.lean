/-
 The laws' helpers: whole, fresh.
-/
import Derived.Test.YthbldjnpnligpaaDoorB32
import Derived.Test.YthbldjnpnligpaaDoorB29
namespace Go.Proofs.YthbldjnpnligpaaDoor
set_option linter.unusedSimpArgs false
set_option linter.unusedVariables false
set_option maxRecDepth 100000
open Go.RowKit
def wholeL (bs : List Int) : List Int := bs ++ List.replicate (256 - bs.length) ((bs.length : Int) % 256)
theorem wholeL_rng {bs : List Int} (h : ∀ x ∈ bs, 0 ≤ x ∧ x ≤ 255) (k : Nat) : ∀ x ∈ bs ++ List.replicate k ((bs.length : Int) % 256), 0 ≤ x ∧ x ≤ 255 := by
 intro x hx
 rcases List.mem_append.1 hx with h1 | h1
 · exact h x h1
 · rw [List.eq_of_mem_replicate h1]; omega
theorem wholeL_len {bs : List Int} (h : bs.length ≤ 256) : (wholeL bs).length = 256 := by unfold wholeL; simp; omega
theorem wholeL_most (bs : List Int) (h : bs.length ≤ 300) : (wholeL bs).length ≤ 300 := by unfold wholeL; simp; omega
def lenV8 : Value → Nat
 | .slice _ n _ => n
 | _ => 0
set_option maxHeartbeats 4000000 in
theorem whole_run (ba : Option Addr) (bc : Nat) (bs : List Int) (w : World) (hB : Bs w ba bc bs) (hl : bs.length ≤ 300) :
 Calls Tryd.prog 68 #[.slice ba bs.length bc] w fun e w' => ∃ a c, e = .returned (.slice a (wholeL bs).length c) ∧ NewB w.heap.size w' a c (wholeL bs) ∧ Below w.heap.size w w' := by
 have hi : (Tryd.prog.info? 5).map (fun i => (i.zero, i.size, i.bytes)) = some (some (.int .u8 0), 1, 1) := by kernel_rfl
 obtain ⟨i0, hi0, hz0, hz1, hz2⟩ := info_parts hi
 obtain ⟨nz, hnz⟩ : ∃ nz, nz = 256 - bs.length := ⟨_, rfl⟩
 have hpr := wholeL_rng hB.rng
 obtain ⟨C, hC⟩ : ∃ C, C = (bs.length : Int) % 256 := ⟨_, rfl⟩
 have hCr : 0 ≤ C ∧ C ≤ 255 := by omega
 rw [← hC] at hpr
 obtain ⟨R, hR⟩ : ∃ R, R = wholeL bs := ⟨_, rfl⟩
 have HR : Hid (R = bs ++ List.replicate nz C) := by show _ = _; rw [hR, hnz, hC]; rfl
 rw [← hR]
 obtain ⟨L, hL⟩ : ∃ L, L = bs.length := ⟨_, rfl⟩
 have HL : Hid (L = bs.length) := hL
 rw [← hL] at hnz hl hC
 have hwrap : IntKind.u8.wrap (L : Int) = C := by rw [hC]; simp [IntKind.wrap, IntKind.bits, IntKind.signed]
 rw [← hL]
 clear hR hC hL
 have hown0 : (w.alloc (.cells #[] 5)).ownsRow w.heap.size 5 1 (.slice (some ⟨w.heap.size, 0, none⟩) 0 0) ([] : List Int).length (([] : List Int).map (Value.int .u8)) :=
  World.ownsRow_made w #[] 0 (Nat.le_refl _) (by decide) rfl
 have hbA : Below w.heap.size w (w.alloc (.cells #[] 5)) := (Below.refl _ _).alloc (Nat.le_refl _) _
 go_enter Tryd.func68, Tryd.ntmps68
 go_wp2_with (at_builtin; go_must (refine wpList_append_bytes (w0 := w) (by rfl) (.tmp 4) (.tmp 5) 43 (by rfl) w.heap.size 5 i0 Tryd.underlying43 hi0 hz0 hz1 hz2 _ [] (by rfl) hown0 ba L bc bs (by rfl) HL.out (hB.stays ((Below.refl _ _).alloc (Nat.le_refl _) _)) (by have := HL.out; simp; omega) (by simp) hbA ?_); rw [List.nil_append]; intro v1 w1 hown1 hb1)
 clear hbA hown0
 go_loopw [3] (fun v wr => ∃ k : Nat, k ≤ nz ∧ wr.ownsRow w.heap.size 5 1 v (bs ++ List.replicate k C).length ((bs ++ List.replicate k C).map (Value.int .u8)) ∧ Below w.heap.size w wr) (fun v _ => L + nz - lenV8 v)
 case atStart => exact ⟨0, by omega, by simpa using hown1, hb1⟩
 case round =>
  clear hown1 hb1
  rename_i hrel
  obtain ⟨k, hk, hown, hbel⟩ := hrel
  obtain ⟨Z, hZ⟩ : ∃ Z, Z = bs ++ List.replicate k C := ⟨_, rfl⟩
  have hZr := hpr k
  have hZl : Z.length = L + k := by rw [hZ, HL.out]; simp
  rw [← hZ] at hown hZr
  obtain ⟨a3, c3, rfl, hB3⟩ := Bs.of_owns hown hZr
  obtain ⟨M, hM⟩ : ∃ M, M = Z.length := ⟨_, rfl⟩
  have HM : Hid (M = Z.length) := hM
  rw [← hM] at hZl ⊢
  have hsr := hbel.size
  by_cases hend : k = nz
  · have hfin : NewB w.heap.size wr a3 c3 R ∧ R.length = M := by
        have hZR : Z = R := by rw [HR.out, hZ, hend]
        rw [← hZR]
        exact ⟨⟨hB3, fun x hx => by subst hx; exact (World.ownsRow.lt hown x.block rfl).1⟩, hM.symm⟩
    have hge : ¬ ((M : Int) < 256) := by omega
    have hge' : decide ((M : Int) < 256) = false := by simp; omega
    clear hend hZ hZl hnz hM hown
    go_wp2
    go_ret
    exact ⟨a3, c3, rfl, hfin.1, hbel⟩
  · have HZ : Hid (bs ++ List.replicate (k + 1) C = Z ++ [C]) := by unfold Hid; rw [hZ, List.replicate_succ', List.append_assoc]
    have hlt : (M : Int) < 256 := by omega
    have hlt' : decide ((M : Int) < 256) = true := by simp; omega
    have hBC : ∀ u : World, Bs (u.alloc (.cells #[.int .u8 C] 5)) (some ⟨u.heap.size, 0, none⟩) 1 [C] := fun u => Bs.one u C hCr _
    have hkn : k < nz := by omega
    have HZl : Hid (M = L + k) := hZl
    have hown' : wr.ownsRow w.heap.size 5 1 (.slice a3 M c3) Z.length (Z.map (Value.int .u8)) := by rw [hM]; exact hown
    clear hown hZ hZl hnz hM hB3 hend
    go_wp2_with (at_builtin; go_must (refine wpList_append_bytes (w0 := w) (by rfl) (.tmp 10) (.tmp 14) 43 (by rfl) w.heap.size 5 i0 Tryd.underlying43 hi0 hz0 hz1 hz2 _ Z (by rfl) (hown'.alloc _) (some ⟨wr.heap.size, 0, none⟩) 1 1 [C] (by rfl) (by rfl) (hBC _) (by have := HM.out; simp; omega) (by simp; omega) (hbel.alloc (by omega) _) ?_); intro v4 w4 hown4 hb4)
    go_roundw
    case rel => exact ⟨k + 1, by omega, by rw [HZ.out]; exact hown4, hb4⟩
    case measure =>
        obtain ⟨a4, c4, rfl, _⟩ := Bs.of_owns hown4 (HZ.out ▸ hpr (k + 1))
        have := HZl.out
        have := HM.out
        simp [lenV8]
        omega
theorem build_bank (p g t : Nat) (w : World) : (Instr.build 133 [(0, Value.pointer (some ⟨p, 0, none⟩)), (1, .pointer (some ⟨g, 0, none⟩)), (2, .int .u32 (t : Int))].toArray).run Tryd.prog w = .ok (.agg (bankV p g t).toArray) w := by kernel_rfl
theorem over_run (p g t : Nat) (w : World) : Calls Tryd.prog 47 #[.pointer (some ⟨p, 0, none⟩), .pointer (some ⟨g, 0, none⟩), .int .u32 (t : Int)] w fun e w' => e = .returned (.pointer (some ⟨w.heap.size, 0, none⟩)) ∧ Blk 133 w' w.heap.size (bankV p g t) ∧ Below w.heap.size w w' := by
 have HBB : Hid (∀ u, (Instr.build 133 [(0, Value.pointer (some ⟨p, 0, none⟩)), (1, .pointer (some ⟨g, 0, none⟩)), (2, .int .u32 (t : Int))].toArray).run Tryd.prog u = .ok (.agg (bankV p g t).toArray) u) := fun u => build_bank p g t u
 obtain ⟨bv, hbv⟩ : ∃ bv, bv = bankV p g t := ⟨_, rfl⟩
 rw [← hbv] at HBB ⊢
 clear hbv
 go_enter Tryd.func47, Tryd.ntmps47
 go_wp2_with (first
  | ((with_reducible show wpList _ _ _ (Oper.mk _ (Op.build _ _) _ _ _ _ :: _) _ _); refine wpList_build (by rfl) 133 [(0, .tmp 7), (1, .tmp 8), (2, .tmp 9)] (by rfl) _ (by rfl) _ HBB.out ?_)
  | ((with_reducible show wpList _ _ _ (Oper.mk _ (Op.box _ _) _ _ _ _ :: _) _ _); refine wpList_box0 (by rfl) 133 (.tmp 10) (by rfl) bv (by rfl) ?_; intro w1 hL1 hb1 hs1; clear hs1))
 go_ret
 exact ⟨rfl, hL1, hb1⟩
set_option maxHeartbeats 4000000 in
theorem fresh_run (n : Nat) (w : World) (h16 : 16 ≤ n) (h512 : n ≤ 512) : Calls Tryd.prog 10 #[.int .i64 (n : Int)] w fun e w' => ∃ k p g F, e = .returned (.tuple #[.pointer (some ⟨k, 0, none⟩), .pointer (some ⟨p, 0, none⟩)]) ∧ Bk w.heap.size w' F k p g (DS.new n) (lab n 4) 7 ∧ Below w.heap.size w w' := by
 have hnew := dk_new n w h16 h512
 have hmap := fun u => snew_run n h16 h512 u
 have hov := fun p u => over_run p u 7
 obtain ⟨T, hT⟩ : ∃ T, T = DS.new n := ⟨_, rfl⟩
 obtain ⟨ml, hml⟩ : ∃ ml, ml = lab n 4 := ⟨_, rfl⟩
 have HTL : Hid (ml.length = T.laid.length / 256 ∧ Lab ml) := by
  refine ⟨?_, by rw [hml]; exact Lab.lab (by omega)⟩
  rw [hml, hT, lab_len]
  unfold DS.new
  simp
 rw [← hT] at hnew ⊢
 rw [← hml] at hmap ⊢
 clear hT hml
 go_enter Tryd.func10, Tryd.ntmps10
 go_wp2_with (first
  | (go_at_call 45; go_must (refine hnew.mono ?_); rintro e w1 ⟨p, rfl, hD1, hb1⟩)
  | (go_at_call 46; go_must (refine (hmap _).mono ?_); rintro e w2 ⟨rfl, hM2, hb2⟩)
  | (go_at_call 47; go_must (refine (hov p w1.heap.size w2).mono ?_); rintro e w3 ⟨rfl, hK3, hb3⟩))
 go_ret2
 have hb12 := below_then hb1 hb2
 refine ⟨w2.heap.size, p, w1.heap.size, fun j => w.heap.size ≤ j ∧ j < w1.heap.size, rfl, ⟨?_, hM2.stays hb3, hK3, ?_, ?_, ?_, hb1.size, hb12.size, HTL.out.1, HTL.out.2, by omega⟩, below_then hb12 hb3⟩
 · exact ((hD1.mono (fun j hj hl => ⟨hj, hl⟩)).stays hb2).stays hb3
 · intro j hj; have := hb2.size; have := hb3.size; exact ⟨hj.1, by omega⟩
 · intro hj; have := hj.2; omega
 · intro hj; have := hj.2; have := hb2.size; omega
end Go.Proofs.YthbldjnpnligpaaDoor

/-
 bank.Look.
-/

namespace Go.Proofs.YthbldjnpnligpaaDoor
set_option linter.unusedSimpArgs false
set_option linter.unusedVariables false
set_option maxRecDepth 100000
open Go.RowKit
section
variable {B : Nat} {w w' : World} {F : Nat → Prop} {k p g : Nat} {S S' : DS} {l l' : List Bool} {t : Nat}
set_option maxHeartbeats 4000000 in
theorem blook_err (h : Bk B w F k p g S l t) (hln : S.ws.length ≤ 900000) (q : Pt) (hq : q.ok) (hne : (okK S q != 0) = true) : Calls Tryd.prog 53 #[.pointer (some ⟨k, 0, none⟩), .agg q.vs.toArray] w fun e w' => e = .returned (.tuple #[.agg (twoB false false).toArray, .int .i64 (okK S q)]) ∧ Below w.heap.size w w' := by
 have hvl := Pt.vs_len hq
 have HX : Hid ([Value.int .u32 (q.x : Int), .int .u32 (q.y : Int)] = (q.vs.drop 33).take 2) := Pt.vs_at hq
 have HH : Hid (q.h.map (Value.int .u8) = (q.vs.drop 0).take 32) := Pt.vs_hash hq
 have hix0 : ∀ u : World, (Instr.index 40 (.agg #[.int .u32 (q.x : Int), .int .u32 (q.y : Int)]) (.int .i64 0)).run Tryd.prog u = .ok (.int .u32 (q.x : Int)) u := fun u => index_agg (j := 0) Tryd.underlying40 Tryd.underlying34 (by kernel_rfl) (by omega) rfl .i64 u
 have hix1 : ∀ u : World, (Instr.index 40 (.agg #[.int .u32 (q.x : Int), .int .u32 (q.y : Int)]) (.int .i64 1)).run Tryd.prog u = .ok (.int .u32 (q.y : Int)) u := fun u => index_agg (j := 1) Tryd.underlying40 Tryd.underlying34 (by kernel_rfl) (by omega) rfl .i64 u
 have hal : ∀ u, Below w.heap.size w u → Calls Tryd.prog 106 #[.pointer (some ⟨k, 0, none⟩), .agg q.vs.toArray] u fun e w' => e = .returned (.int .i64 (okK S q)) ∧ Below u.heap.size u w' := fun u hu => allows_run (h.stays hu) hln q hq
 have hho := isHole_run q hq
 obtain ⟨vs, hvs⟩ : ∃ vs, vs = q.vs := ⟨_, rfl⟩
 obtain ⟨hs, hhs⟩ : ∃ hs, hs = q.h.map (Value.int .u8) := ⟨_, rfl⟩
 have hhl : hs.length = 32 := by rw [hhs, List.length_map, hq.len]
 rw [← hvs] at hvl hal hho HX HH ⊢
 rw [← hhs] at HH
 have HHS : Hid (hs = q.h.map (Value.int .u8)) := hhs
 clear hvs hhs
 obtain ⟨E, hE⟩ : ∃ E, E = okK S q := ⟨_, rfl⟩
 rw [← hE] at hne hal ⊢
 clear hE
 have HAL : Hid (∀ w : World, (Instr.alloc 46 true (.tuple #[])).run Tryd.prog w = .ok (.pointer (some ⟨w.heap.size, 0, none⟩)) (w.alloc (.cells (twoB false false).toArray 46))) := alloc_bools
 obtain ⟨zs, hzs⟩ : ∃ zs, zs = twoB false false := ⟨_, rfl⟩
 have hzl : zs.length = 2 := by rw [hzs]; rfl
 have hzo : ∀ v ∈ zs, v.oneCell' = true := by rw [hzs]; exact twoB_one _ _
 rw [← hzs] at HAL ⊢
 clear hzs
 go_enter Tryd.func53, Tryd.ntmps53
 go_wp2_with (first
  | ((with_reducible show wpList _ _ _ (Oper.mk _ (Op.box _ _) _ _ _ _ :: _) _ _); refine wpList_box0 (by rfl) 42 (.tmp 1) (by rfl) vs (by rfl) ?_; intro w1 hL1 hb1 hs1; clear hs1)
  | ((with_reducible show wpList _ _ _ (Oper.mk _ (Op.alloc _) _ _ _ _ :: _) _ _); refine wpList_alloc0 (by rfl) 46 (by rfl) (some 4) (by rfl) _ HAL.out ?_; intro w2 hR2 hb2 hs2
     clear hs2
     have hL2 := hL1.stays hb2)
  | ((with_reducible show wpList _ _ _ (Oper.mk _ (Op.alloc _) _ _ _ _ :: _) _ _); refine wpList_alloc0 (by rfl) 46 (by rfl) (some 6) (by rfl) _ HAL.out ?_; intro w3 hG3 hb3 hs3
     clear hs3
     have hL3 := hL2.stays hb3
     have hR3 := hR2.stays hb3
     have hb3' := below_then (below_then hb1 hb2) hb3)
  | ((with_reducible show wpList _ _ _ (Oper.mk _ (Op.load 42 _) _ _ _ _ :: _) _ _); refine wpList_load_blk (by rfl) (.tmp 3) 42 (by rfl) _ 0 35 (by rfl) agg_ptr size_ptr hL3 _ (whole_load hvl) hvl ?_)
  | (go_at_call 106; go_must (refine (hal _ hb3').mono ?_); rintro e w4 ⟨rfl, hb4⟩
     have hG4 := hG3.stays hb4
     have hR4 := hR3.stays hb4)
  | ((with_reducible show wpList _ _ _ (Oper.mk _ (Op.load 46 _) _ _ _ _ :: _) _ _); refine wpList_load_blk (by rfl) (.tmp 6) 46 (by rfl) _ 0 2 (by rfl) agg_bools size_bools hG4 _ (whole_load hzl) hzl ?_)
  | ((with_reducible show wpList _ _ _ (Oper.mk _ (Op.store _ _ _) _ _ _ _ :: _) _ _); refine wpList_store_blk (by rfl) (.tmp 4) (.tmp 15) 46 (by rfl) _ 0 2 (by rfl) zs (by rfl) size_bools hR4 hzl (by omega) hzo _ (whole_store hzl) ?_
     intro w5 hR5 hbut5 hs5))
 have hb4' := below_then hb3' hb4
 exact bodyPost_ret_blk2 rfl rfl (by rfl) (by rfl) agg_bools size_bools hR5 hzl ⟨rfl, hb4'.trans (hbut5.below (B := w.heap.size) hb1.size hb4'.size)⟩
set_option maxHeartbeats 8000000 in
theorem blook_go (h : Bk B w F k p g S l t) (hln : S.ws.length ≤ 900000) (hV : Vars w) (q : Pt) (hq : q.ok) (hok0 : okK S q = 0) :
 Calls Tryd.prog 53 #[.pointer (some ⟨k, 0, none⟩), .agg q.vs.toArray] w fun e w' => e = .returned (.tuple #[.agg (twoB (rightL S q.x q.h) (rightL S q.y q.h)).toArray, .int .i64 0]) ∧ Below w.heap.size w w' := by
 have hoff := (okK_zero hok0).1
 have hrt : ∀ u (x : Nat), Below w.heap.size w u → x < 4294967296 → Calls Tryd.prog 107 #[.pointer (some ⟨k, 0, none⟩), .int .u32 (x : Int), .agg (q.h.map (Value.int .u8)).toArray] u fun e w' => ∃ v, e = .returned (.tuple #[v, .bool (rightL S x q.h)]) ∧ Below u.heap.size u w' := fun u x hu hx => by
  cases hr : rightL S x q.h
  · refine (right_bad (h.stays hu) hln (hV.stays hu) hoff x hx q.h hq.len hr).mono ?_
    rintro e w' ⟨rfl, hb⟩
    exact ⟨_, rfl, hb⟩
  · refine (right_good (h.stays hu) hln (hV.stays hu) hoff x hx q.h hq.len hr).mono ?_
    rintro e w' ⟨a, c, rfl, _, hb⟩
    exact ⟨_, rfl, hb⟩
 have hvl := Pt.vs_len hq
 have HX : Hid ([Value.int .u32 (q.x : Int), .int .u32 (q.y : Int)] = (q.vs.drop 33).take 2) := Pt.vs_at hq
 have HH : Hid (q.h.map (Value.int .u8) = (q.vs.drop 0).take 32) := Pt.vs_hash hq
 have hix0 : ∀ u : World, (Instr.index 40 (.agg #[.int .u32 (q.x : Int), .int .u32 (q.y : Int)]) (.int .i64 0)).run Tryd.prog u = .ok (.int .u32 (q.x : Int)) u := fun u => index_agg (j := 0) Tryd.underlying40 Tryd.underlying34 (by kernel_rfl) (by omega) rfl .i64 u
 have hix1 : ∀ u : World, (Instr.index 40 (.agg #[.int .u32 (q.x : Int), .int .u32 (q.y : Int)]) (.int .i64 1)).run Tryd.prog u = .ok (.int .u32 (q.y : Int)) u := fun u => index_agg (j := 1) Tryd.underlying40 Tryd.underlying34 (by kernel_rfl) (by omega) rfl .i64 u
 have hal : ∀ u, Below w.heap.size w u → Calls Tryd.prog 106 #[.pointer (some ⟨k, 0, none⟩), .agg q.vs.toArray] u fun e w' => e = .returned (.int .i64 (okK S q)) ∧ Below u.heap.size u w' := fun u hu => allows_run (h.stays hu) hln q hq
 have hho := isHole_run q hq
 obtain ⟨vs, hvs⟩ : ∃ vs, vs = q.vs := ⟨_, rfl⟩
 obtain ⟨hs, hhs⟩ : ∃ hs, hs = q.h.map (Value.int .u8) := ⟨_, rfl⟩
 have hhl : hs.length = 32 := by rw [hhs, List.length_map, hq.len]
 rw [← hvs] at hvl hal hho HX HH ⊢
 rw [← hhs] at HH
 have HHS : Hid (hs = q.h.map (Value.int .u8)) := hhs
 clear hvs hhs
 rw [← HHS.out] at hrt
 rw [hok0] at hal
 clear hok0 hoff
 have HAL : Hid (∀ w : World, (Instr.alloc 46 true (.tuple #[])).run Tryd.prog w = .ok (.pointer (some ⟨w.heap.size, 0, none⟩)) (w.alloc (.cells (twoB false false).toArray 46))) := alloc_bools
 have hib0 : ∀ (g' : Nat) (u : World), (Instr.indexAt 46 (.pointer (some ⟨g', 0, none⟩)) (.int .i64 0)).run Tryd.prog u = .ok (.pointer (some ⟨g', 0, none⟩)) u := fun g' u => index_bools g' 0 (by omega) u
 have hib1 : ∀ (g' : Nat) (u : World), (Instr.indexAt 46 (.pointer (some ⟨g', 0, none⟩)) (.int .i64 1)).run Tryd.prog u = .ok (.pointer (some ⟨g', 1, none⟩)) u := fun g' u => index_bools g' 1 (by omega) u
 obtain ⟨X, hX⟩ : ∃ X, X = rightL S q.x q.h := ⟨_, rfl⟩
 obtain ⟨Y, hY⟩ : ∃ Y, Y = rightL S q.y q.h := ⟨_, rfl⟩
 have hcx := fun u (hu : Below w.heap.size w u) => hrt u q.x hu hq.x
 have hcy := fun u (hu : Below w.heap.size w u) => hrt u q.y hu hq.y
 rw [← hX] at hcx ⊢
 rw [← hY] at hcy ⊢
 clear hX hY hrt
 go_enter Tryd.func53, Tryd.ntmps53
 go_wp2_with (first
  | ((with_reducible show wpList _ _ _ (Oper.mk _ (Op.box _ _) _ _ _ _ :: _) _ _); refine wpList_box0 (by rfl) 42 (.tmp 1) (by rfl) vs (by rfl) ?_; intro w1 hL1 hb1 hs1; clear hs1)
  | ((with_reducible show wpList _ _ _ (Oper.mk _ (Op.alloc _) _ _ _ _ :: _) _ _); refine wpList_alloc0 (by rfl) 46 (by rfl) (some 4) (by rfl) _ HAL.out ?_; intro w2 hR2 hb2 hs2
     clear hs2
     have hL2 := hL1.stays hb2
     have hb2' := below_then hb1 hb2)
  | ((with_reducible show wpList _ _ _ (Oper.mk _ (Op.alloc _) _ _ _ _ :: _) _ _); refine wpList_alloc0 (by rfl) 46 (by rfl) (some 6) (by rfl) _ HAL.out ?_; intro w3 hG3 hb3 hs3
     clear hs3
     have hL3 := hL2.stays hb3
     have hR3 := hR2.stays hb3
     have hb3' := below_then hb2' hb3)
  | ((with_reducible show wpList _ _ _ (Oper.mk _ (Op.load 42 _) _ _ _ _ :: _) _ _); refine wpList_load_blk (by rfl) (.tmp 3) 42 (by rfl) _ 0 35 (by rfl) agg_ptr size_ptr hL3 _ (whole_load hvl) hvl ?_)
  | (go_at_call 106; go_must (refine (hal _ hb3').mono ?_); rintro e w4 ⟨rfl, hb4⟩
     have hG4 := hG3.stays hb4
     have hR4 := hR3.stays hb4
     have hL4 := hL3.stays hb4
     have hb4' := below_then hb3' hb4)
  | ((with_reducible show wpList _ _ _ (Oper.mk _ (Op.load 40 _) _ _ _ _ :: _) _ _); refine wpList_load_blk (by rfl) (.tmp 17) 40 (by rfl) _ 33 2 (by rfl) agg_at size_at hL4 _ HX.out rfl ?_))
 have hL1l := hL1.lt
 have hR2l := hR2.lt
 clear hL1 hL2 hL3 hR2 hR3 hG3 hal
 have e1 : Hid (w2.heap.size ≠ w.heap.size ∧ w2.heap.size ≠ w1.heap.size ∧ w.heap.size ≤ w1.heap.size ∧ w.heap.size ≤ w2.heap.size) := by
  have h1 := hL1l
  have h2 := hR2l
  have h3 := hb1.size
  show _ ∧ _ ∧ _ ∧ _
  omega
 go_loopw [19] (fun i wr => Blk 42 wr w.heap.size vs ∧ Below w.heap.size w wr ∧ Blk 46 wr w1.heap.size (twoB false false) ∧ ((i = .int .i64 0 ∧ Blk 46 wr w2.heap.size (twoB false false)) ∨ (i = .int .i64 1 ∧ Blk 46 wr w2.heap.size (twoB X false)) ∨ (i = .int .i64 2 ∧ Blk 46 wr w2.heap.size (twoB X Y)))) (fun i _ => 2 - (intOf i).toNat)
 case atStart => exact ⟨hL4, hb4', hR4, .inl ⟨rfl, hG4⟩⟩
 case round =>
  rename_i wr hrel
  obtain ⟨hLr, hbr, hRr, ⟨rfl, hGr⟩ | ⟨rfl, hGr⟩ | ⟨rfl, hGr⟩⟩ := hrel
  · have hcl := hcx _ hbr
    go_wp2_with (first
        | ((with_reducible show wpList _ _ _ (Oper.mk _ (Op.load 39 _) _ _ _ _ :: _) _ _); refine wpList_load_blk (by rfl) (.tmp 27) 39 (by rfl) _ 0 32 (by rfl) agg_hsh size_hash hLr _ HH.out hhl ?_)
        | (go_at_call 107; go_must (refine hcl.mono ?_); rintro e w5 ⟨v5, rfl, hb5⟩
           have hG5 := hGr.stays hb5)
        | ((with_reducible show wpList _ _ _ (Oper.mk _ (Op.store _ _ _) _ _ _ _ :: _) _ _); refine wpList_store_one (by rfl) (.tmp 32) (.tmp 31) 4 (by rfl) _ 0 (by rfl) (.bool X) (by rfl) rfl rfl size_bool1 hG5 (by decide) ?_
           intro w6 hG6 hbut6 hs6))
    have hb5' := below_then hbr hb5
    exact ⟨⟨(hLr.stays hb5).but hbut6 (Ne.symm e1.out.1), hb5'.trans (hbut6.below (B := w.heap.size) e1.out.2.2.2 hb5'.size), (hRr.stays hb5).but hbut6 (Ne.symm e1.out.2.1), .inr (.inl ⟨rfl, hG6⟩)⟩, by decide⟩
  · have hcl := hcy _ hbr
    go_wp2_with (first
        | ((with_reducible show wpList _ _ _ (Oper.mk _ (Op.load 39 _) _ _ _ _ :: _) _ _); refine wpList_load_blk (by rfl) (.tmp 27) 39 (by rfl) _ 0 32 (by rfl) agg_hsh size_hash hLr _ HH.out hhl ?_)
        | (go_at_call 107; go_must (refine hcl.mono ?_); rintro e w5 ⟨v5, rfl, hb5⟩
           have hG5 := hGr.stays hb5)
        | ((with_reducible show wpList _ _ _ (Oper.mk _ (Op.store _ _ _) _ _ _ _ :: _) _ _); refine wpList_store_one (by rfl) (.tmp 32) (.tmp 31) 4 (by rfl) _ 1 (by rfl) (.bool Y) (by rfl) rfl rfl size_bool1 hG5 (Nat.lt_add_one 1) ?_
           intro w6 hG6 hbut6 hs6))
    have hb5' := below_then hbr hb5
    exact ⟨⟨(hLr.stays hb5).but hbut6 (Ne.symm e1.out.1), hb5'.trans (hbut6.below (B := w.heap.size) e1.out.2.2.2 hb5'.size), (hRr.stays hb5).but hbut6 (Ne.symm e1.out.2.1), .inr (.inr ⟨rfl, hG6⟩)⟩, by decide⟩
  · go_wp2_with (first
        | ((with_reducible show wpList _ _ _ (Oper.mk _ (Op.load 46 _) _ _ _ _ :: _) _ _); refine wpList_load_blk (by rfl) (.tmp 6) 46 (by rfl) _ 0 2 (by rfl) agg_bools size_bools hGr _ (whole_load rfl) rfl ?_)
        | ((with_reducible show wpList _ _ _ (Oper.mk _ (Op.store _ _ _) _ _ _ _ :: _) _ _); refine wpList_store_blk (by rfl) (.tmp 4) (.tmp 34) 46 (by rfl) _ 0 2 (by rfl) (twoB X Y) (by rfl) size_bools hRr rfl (by decide) (twoB_one _ _) (twoB X Y) (whole_store rfl) ?_
           intro w5 hR5 hbut5 hs5))
    exact bodyPost_ret_blk2 rfl rfl (by rfl) (by rfl) agg_bools size_bools hR5 rfl ⟨rfl, hbr.trans (hbut5.below (B := w.heap.size) e1.out.2.2.1 hbr.size)⟩
theorem blook_run (h : Bk B w F k p g S l t) (hln : S.ws.length ≤ 900000) (hV : Vars w) (q : Pt) (hq : q.ok) :
 Calls Tryd.prog 53 #[.pointer (some ⟨k, 0, none⟩), .agg q.vs.toArray] w fun e w' => e = .returned (.tuple #[.agg (twoB (lookK S q).1.1 (lookK S q).1.2).toArray, .int .i64 (lookK S q).2]) ∧ Below w.heap.size w w' := by
 unfold lookK
 by_cases h1 : okK S q = 0
 · rw [if_neg (by simp [h1])]
   exact blook_go h hln hV q hq h1
 · rw [if_pos h1]
   exact blook_err h hln q hq (by simpa using h1)
end
end Go.Proofs.YthbldjnpnligpaaDoor

/-
 A bank beside what else a law holds: each call's contract.
-/

namespace Go.Proofs.YthbldjnpnligpaaDoor
set_option linter.unusedSimpArgs false
set_option linter.unusedVariables false
set_option maxRecDepth 100000
open Go.RowKit
structure Stay (M : Nat → Prop) (w w' : World) : Prop where
 size : w.heap.size ≤ w'.heap.size
 block : ∀ j, M j → j < w.heap.size → w'.heap[j]? = w.heap[j]?
theorem Stay.of_below {M : Nat → Prop} {w w' : World} (h : Below w.heap.size w w') : Stay M w w' := ⟨h.size, fun j _ hl => h.block j hl⟩
theorem Stay.trans {M : Nat → Prop} {a b c : World} (h : Stay M a b) (k : Stay M b c) : Stay M a c := ⟨Nat.le_trans h.size k.size, fun j hj hl => (k.block j hj (Nat.lt_of_lt_of_le hl h.size)).trans (h.block j hj hl)⟩
theorem Stay.blk {M : Nat → Prop} {w w' : World} (h : Stay M w w') {t : TypeId} {m : Nat} {vs : List Value} (hb : Blk t w m vs) (hm : M m) : Blk t w' m vs := by
 have hl := hb.lt
 unfold Blk at *
 rw [h.block m hm hl]
 exact hb
theorem Stay.bs {M : Nat → Prop} {w w' : World} (h : Stay M w w') {a : Option Addr} {c : Nat} {xs : List Int} (hB : Bs w a c xs) (hn : ∀ x, a = some x → M x.block) : Bs w' a c xs := by
 refine ⟨hB.rng, hB.cap, hB.capm, hB.nul, ?_⟩
 rcases hB.lay with h0 | ⟨b, off, hbe, hcell⟩
 · exact .inl h0
 · refine .inr ⟨b, off, hbe, fun i hi => ?_⟩
   subst hbe
   rw [World.cell?_of_block (w := w) (h.block b (hn _ rfl) (World.block_lt_of_cell? w _ (hcell i hi)))]
   exact hcell i hi
def BS (w0 w : World) (M : Nat → Prop) (k p g : Nat) (S : DS) (l : List Bool) (t : Nat) : Prop :=
 ∃ F, Bk w0.heap.size w F k p g S l t ∧ Below w0.heap.size w0 w ∧ ∀ j, M j → ¬ F j ∧ j ≠ g ∧ j ≠ k ∧ j < w.heap.size
section
variable {w0 w w' : World} {M : Nat → Prop} {k p g : Nat} {S S' : DS} {l l' : List Bool} {t : Nat}
theorem BS.bel (h : BS w0 w M k p g S l t) : Below w0.heap.size w0 w := by obtain ⟨F, h1, h2, h3⟩ := h; exact h2
theorem BS.ok (h : BS w0 w M k p g S l t) : ∃ n, S.Ok n := by obtain ⟨F, h1, h2, h3⟩ := h; exact h1.dk.ok
theorem BS.lt (h : BS w0 w M k p g S l t) {j : Nat} (hj : M j) : j < w.heap.size := by obtain ⟨F, h1, h2, h3⟩ := h; exact (h3 j hj).2.2.2
theorem BS.mp (h : BS w0 w M k p g S l t) : Mp w g l := by obtain ⟨F, h1, h2, h3⟩ := h; exact h1.mp
theorem BS.bb (h : BS w0 w M k p g S l t) : Blk 133 w k (bankV p g t) := by obtain ⟨F, h1, h2, h3⟩ := h; exact h1.bb
theorem BS.lab (h : BS w0 w M k p g S l t) : Lab l := by obtain ⟨F, h1, h2, h3⟩ := h; exact h1.lab
theorem BS.sz (h : BS w0 w M k p g S l t) : l.length = S.laid.length / 256 := by obtain ⟨F, h1, h2, h3⟩ := h; exact h1.sz
theorem BS.dk (h : BS w0 w M k p g S l t) : ∃ F, Dk w F p S := by obtain ⟨F, h1, h2, h3⟩ := h; exact ⟨F, h1.dk⟩
theorem BS.vars (h : BS w0 w M k p g S l t) (hV : Vars w0) : Vars w := hV.below h.bel hV.size
theorem BS.stays (h : BS w0 w M k p g S l t) (hb : Below w.heap.size w w') : BS w0 w' M k p g S l t := by
 obtain ⟨F, h1, h2, h3⟩ := h
 exact ⟨F, h1.stays hb, below_then h2 hb, fun j hj => ⟨(h3 j hj).1, (h3 j hj).2.1, (h3 j hj).2.2.1, Nat.lt_of_lt_of_le (h3 j hj).2.2.2 hb.size⟩⟩
theorem BS.less (h : BS w0 w M k p g S l t) {N : Nat → Prop} (hn : ∀ j, N j → M j) : BS w0 w N k p g S l t := by
 obtain ⟨F, h1, h2, h3⟩ := h
 exact ⟨F, h1, h2, fun j hj => h3 j (hn j hj)⟩
theorem BS.new (h : BS w0 w M k p g S l t) (hb : Below w.heap.size w w') {N : Nat → Prop} (hN : ∀ j, N j → M j ∨ (w.heap.size ≤ j ∧ j < w'.heap.size)) : BS w0 w' N k p g S l t := by
 obtain ⟨F, h1, h2, h3⟩ := h
 refine ⟨F, h1.stays hb, below_then h2 hb, fun j hj => ?_⟩
 rcases hN j hj with h4 | h4
 · exact ⟨(h3 j h4).1, (h3 j h4).2.1, (h3 j h4).2.2.1, Nat.lt_of_lt_of_le (h3 j h4).2.2.2 hb.size⟩
 · refine ⟨fun hf => ?_, fun e => ?_, fun e => ?_, h4.2⟩
   · have := (h1.low j hf).2; omega
   · have := h1.mp.blk.lt; omega
   · have := h1.bb.lt; omega
theorem BS.set {m : Nat} (h : BS w0 w M k p g S l t) (hb : But m w w') (hm : M m) (h0 : w0.heap.size ≤ m) : BS w0 w' M k p g S l t := by
 obtain ⟨F, h1, h2, h3⟩ := h
 obtain ⟨n1, n2, n3, _⟩ := h3 m hm
 exact ⟨F, h1.but hb n1 n2 n3, h2.trans (hb.below h0 h2.size), fun j hj => ⟨(h3 j hj).1, (h3 j hj).2.1, (h3 j hj).2.2.1, Nat.lt_of_lt_of_le (h3 j hj).2.2.2 hb.size⟩⟩
theorem bs_then {F : Nat → Prop} (h1 : Bk w0.heap.size w F k p g S l t) (h2 : Below w0.heap.size w0 w) (h3 : ∀ j, M j → ¬ F j ∧ j ≠ g ∧ j ≠ k ∧ j < w.heap.size) (hT : BThen w0.heap.size F w w' k p g S' l' t) : BS w0 w' M k p g S' l' t ∧ Stay M w w' := by
 have hbl := hT.below h1.base (fun j hj => (h1.low j hj).1) h1.lg
 obtain ⟨F', q1, q2, q3⟩ := hT
 refine ⟨⟨F', q1, h2.trans hbl, fun j hj => ?_⟩, ⟨q2.size, fun j hj hl => q2.block j (fun e => ?_) hl⟩⟩
 · obtain ⟨n1, n2, n3, n4⟩ := h3 j hj
   refine ⟨fun hf => ?_, n2, n3, Nat.lt_of_lt_of_le n4 q2.size⟩
   rcases q3 j hf with e | e
   · exact n1 e
   · omega
 · obtain ⟨n1, n2, n3, n4⟩ := h3 j hj
   rcases e with e | e
   · exact n1 e
   · exact n2 e
theorem flush_laid {n : Nat} (hok : S.Ok n) : S.flush.1.laid.length = S.laid.length := by
 have hw : ∀ q ∈ S.ws, q.1 < n ∧ q.2.length = 256 := fun q hq => ⟨(hok.ws q hq).1, (hok.ws q hq).2.1⟩
 unfold DS.flush
 split
 · rfl
 · split
   · show (layW _ _ _ _).length = _
     rw [layW_length hok.len hw _ _ (Nat.le_refl _)]
   · rfl
theorem crash_laid {n : Nat} (hok : S.Ok n) (ks : List Int) : (S.crash ks).laid.length = S.laid.length := by
 have hw : ∀ q ∈ S.ws, q.1 < n ∧ q.2.length = 256 := fun q hq => ⟨(hok.ws q hq).1, (hok.ws q hq).2.1⟩
 show (layW _ _ _ _).length = _
 rw [layW_length hok.len hw _ _ (by omega)]
theorem rot_laid (i : Int) (ms : List Int) : (S.rot i ms).1.laid.length = S.laid.length := by
 unfold DS.rot
 split
 · rfl
 · exact xorTo_length _ _ _ _
theorem bs_put (h : BS w0 w M k p g S l t) (hV : Vars w0) (hln : S.ws.length ≤ 800000) (a : Option Addr) (c : Nat) (bs : List Int) (hB : Bs w a c bs) (hn : bs ≠ [] → ∀ x, a = some x → M x.block ∨ x.block < w0.heap.size) (cp : Int) :
 Calls Tryd.prog 50 #[.pointer (some ⟨k, 0, none⟩), .slice a bs.length c, .int .i64 cp] w fun e w' => e = .returned (.tuple #[.agg (putK S l t bs cp).2.1.vs.toArray, .int .i64 (putK S l t bs cp).2.2]) ∧ BS w0 w' M k p g (putK S l t bs cp).1.1 (putK S l t bs cp).1.2 t ∧ Stay M w w' := by
 have hVw := h.vars hV
 obtain ⟨F, h1, h2, h3⟩ := h
 refine (bput_run h1 hln hVw a c bs hB (fun h0 x hx hf => ?_) cp hV.size).mono fun e w' he => ⟨he.1, bs_then h1 h2 h3 he.2⟩
 rcases hn h0 x hx with h4 | h4
 · exact (h3 _ h4).1 hf
 · have := (h1.low _ hf).1; omega
theorem bs_fix (h : BS w0 w M k p g S l t) (hV : Vars w0) (hln : S.ws.length ≤ 800000) (q : Pt) (hq : q.ok) (a : Option Addr) (c : Nat) (bs : List Int) (hB : Bs w a c bs) (hn : bs ≠ [] → ∀ x, a = some x → M x.block ∨ x.block < w0.heap.size) :
 Calls Tryd.prog 55 #[.pointer (some ⟨k, 0, none⟩), .agg q.vs.toArray, .slice a bs.length c] w fun e w' => e = .returned (.tuple #[.int .i64 ((fixK S q bs).1.2 : Int), .int .i64 (fixK S q bs).2]) ∧ BS w0 w' M k p g (fixK S q bs).1.1 l t ∧ Stay M w w' := by
 have hVw := h.vars hV
 obtain ⟨F, h1, h2, h3⟩ := h
 refine (bfix_run h1 hln hVw hV.size q hq a c bs hB (fun h0 x hx hf => ?_)).mono fun e w' he => ⟨he.1, bs_then h1 h2 h3 he.2⟩
 rcases hn h0 x hx with h4 | h4
 · exact (h3 _ h4).1 hf
 · have := (h1.low _ hf).1; omega
theorem bs_heal (h : BS w0 w M k p g S l t) (hV : Vars w0) (hln : S.ws.length ≤ 800000) (q : Pt) (hq : q.ok) :
 Calls Tryd.prog 54 #[.pointer (some ⟨k, 0, none⟩), .agg q.vs.toArray] w fun e w' => e = .returned (.tuple #[.int .i64 ((healK S q).1.2 : Int), .int .i64 (healK S q).2]) ∧ BS w0 w' M k p g (healK S q).1.1 l t ∧ Stay M w w' := by
 have hVw := h.vars hV
 obtain ⟨F, h1, h2, h3⟩ := h
 exact (bheal_run h1 hln hVw hV.size q hq).mono fun e w' he => ⟨he.1, bs_then h1 h2 h3 he.2⟩
theorem bs_read (h : BS w0 w M k p g S l t) (hV : Vars w0) (hln : S.ws.length ≤ 800000) (q : Pt) (hq : q.ok) :
 Calls Tryd.prog 52 #[.pointer (some ⟨k, 0, none⟩), .agg q.vs.toArray] w fun e w' => ∃ a c, e = .returned (.tuple #[.slice a (readK S q).1.length c, .int .i64 (readK S q).2]) ∧ NewB w.heap.size w' a c (readK S q).1 ∧ Below w.heap.size w w' := by
 have hVw := h.vars hV
 obtain ⟨F, h1, h2, h3⟩ := h
 exact bread_run h1 (by omega) hVw q hq
theorem bs_flush (h : BS w0 w M k p g S l t) (hln : S.ws.length ≤ 800000) :
 Calls Tryd.prog 34 #[.pointer (some ⟨p, 0, none⟩)] w fun e w' => e = .returned (.int .i64 S.flush.2) ∧ BS w0 w' M k p g S.flush.1 l t ∧ Stay M w w' := by
 obtain ⟨F, h1, h2, h3⟩ := h
 obtain ⟨n, hok⟩ := h1.dk.ok
 exact (dk_flush h1.dk (by omega)).mono fun e w' he => ⟨he.1, bs_then h1 h2 h3 (bthen_dk h1 h1.base he.2 (flush_laid hok))⟩
theorem bs_rot (h : BS w0 w M k p g S l t) (i : Int) (a : Option Addr) (c : Nat) (ms : List Int) (hB : Bs w a c ms) (hm : ms.length ≤ 1000) (hn : ms ≠ [] → ∀ x, a = some x → M x.block ∨ x.block < w0.heap.size) :
 Calls Tryd.prog 35 #[.pointer (some ⟨p, 0, none⟩), .int .i64 i, .slice a ms.length c] w fun e w' => e = .returned (.int .i64 (S.rot i ms).2) ∧ BS w0 w' M k p g (S.rot i ms).1 l t ∧ Stay M w w' := by
 obtain ⟨F, h1, h2, h3⟩ := h
 refine (dk_rot h1.dk i a c ms hB (by omega) (fun h0 x hx hf => ?_)).mono fun e w' he => ⟨he.1, bs_then h1 h2 h3 (bthen_dk h1 h1.base he.2 (rot_laid i ms))⟩
 rcases hn h0 x hx with h4 | h4
 · exact (h3 _ h4).1 hf
 · have := (h1.low _ hf).1; omega
theorem bs_fuse (h : BS w0 w M k p g S l t) (f : Int) (hf : f ≤ 9223372036854775807) :
 Calls Tryd.prog 56 #[.pointer (some ⟨p, 0, none⟩), .int .i64 f] w fun e w' => (∃ v, e = .returned v) ∧ BS w0 w' M k p g (S.fuse f) l t ∧ Stay M w w' := by
 obtain ⟨F, h1, h2, h3⟩ := h
 exact (dk_fuse h1.dk f hf).mono fun e w' he => ⟨he.1, bs_then h1 h2 h3 (bthen_dk h1 h1.base he.2 rfl)⟩
theorem bs_crash (h : BS w0 w M k p g S l t) (hln : S.ws.length ≤ 800000) :
 Calls Tryd.prog 57 #[.pointer (some ⟨p, 0, none⟩), .slice none 0 0] w fun e w' => (∃ v, e = .returned v) ∧ BS w0 w' M k p g (S.crash []) l t ∧ Stay M w w' := by
 obtain ⟨F, h1, h2, h3⟩ := h
 obtain ⟨n, hok⟩ := h1.dk.ok
 exact (dk_crash h1.dk (by omega) none 0 [] (.inl rfl) (by simp) (fun h => absurd rfl h)).mono fun e w' he => ⟨he.1, bs_then h1 h2 h3 (bthen_dk h1 h1.base he.2 (crash_laid hok []))⟩
theorem bs_look (h : BS w0 w M k p g S l t) (hV : Vars w0) (hln : S.ws.length ≤ 800000) (q : Pt) (hq : q.ok) :
 Calls Tryd.prog 53 #[.pointer (some ⟨k, 0, none⟩), .agg q.vs.toArray] w fun e w' => e = .returned (.tuple #[.agg (twoB (lookK S q).1.1 (lookK S q).1.2).toArray, .int .i64 (lookK S q).2]) ∧ Below w.heap.size w w' := by
 have hVw := h.vars hV
 obtain ⟨F, h1, h2, h3⟩ := h
 exact blook_run h1 (by omega) hVw q hq
theorem map_run (hk : Blk 133 w k (bankV p g t)) : Calls Tryd.prog 17 #[.pointer (some ⟨k, 0, none⟩)] w fun e w' => e = .returned (.pointer (some ⟨g, 0, none⟩)) ∧ w' = w := by
 have hc1 : w.cell? ⟨k, 1, none⟩ = some (.pointer (some ⟨g, 0, none⟩)) := hk.cell 1
 go_enter Tryd.func17, Tryd.ntmps17
 go_wp2
 go_ret
 exact ⟨rfl, rfl⟩
theorem txg_run (hk : Blk 133 w k (bankV p g t)) : Calls Tryd.prog 20 #[.pointer (some ⟨k, 0, none⟩)] w fun e w' => e = .returned (.int .u32 (t : Int)) ∧ w' = w := by
 have hc1 : w.cell? ⟨k, 2, none⟩ = some (.int .u32 (t : Int)) := hk.cell 2
 go_enter Tryd.func20, Tryd.ntmps20
 go_wp2
 go_ret
 exact ⟨rfl, rfl⟩
theorem bs_fresh (n : Nat) (w : World) (h16 : 16 ≤ n) (h512 : n ≤ 512) : Calls Tryd.prog 10 #[.int .i64 (n : Int)] w fun e w' => ∃ k p g, e = .returned (.tuple #[.pointer (some ⟨k, 0, none⟩), .pointer (some ⟨p, 0, none⟩)]) ∧ BS w w' (fun _ => False) k p g (DS.new n) (lab n 4) 7 := by
 refine (fresh_run n w h16 h512).mono ?_
 rintro e w' ⟨k, p, g, F, rfl, hK, hb⟩
 exact ⟨k, p, g, rfl, F, hK, hb, fun j hj => hj.elim⟩
end
end Go.Proofs.YthbldjnpnligpaaDoor
