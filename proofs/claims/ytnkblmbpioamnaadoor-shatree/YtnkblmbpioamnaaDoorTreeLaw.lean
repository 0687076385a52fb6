/-
  ShaTree: a tree of any hashes is as the document says; they stay: the statement's walk.
-/
import Derived.Test.YtnkblmbpioamnaaDoorRTree
import Derived.Test.YtnkblmbpioamnaaDoorTreeOpen
import Derived.Test.YtnkblmbpioamnaaDoorArrEq
import Derived.Test.YtnkblmbpioamnaaDoorUp
namespace Go.Proofs.YtnkblmbpioamnaaDoor
set_option linter.unusedSimpArgs false
set_option linter.unusedVariables false
open Go.RowKit

theorem exec_load9 {P : Program} {a : Act} {o : Oper} {w : World} {t : TypeId} {x : Operand} {p : Addr} {v : Value} (ho : o.op = Op.load t x) (hx : a.eval x = .pointer (some p)) (hr : (Instr.loadAt t (.pointer (some p))).run P w = .ok v w) :
    (execOp a.eval o).run P w = .ok (.value v) w := by
  unfold execOp
  simp only [ho, hx, Sem.run_bind, Sem.run_pure, Result.andThen_ok, hr]

def isV9 (x : Value) : Value → World → Prop := fun v _ => v = x
theorem isV9_steady (x : Value) : Up.Steady (isV9 x) := fun v w w' hb h => h
theorem calls_isV9 {f : FuncId} {args : Array Value} {w : World} {x : Value} (h : Calls Tryd.prog f args w fun e w' => e = .returned x ∧ Below w.heap.size w w') :
    Calls Tryd.prog f args w fun e w' => ∃ v, e = .returned v ∧ Below w.heap.size w w' ∧ isV9 x v w' := h.mono fun e w' ⟨h1, h2⟩ => ⟨_, h1, h2, rfl⟩

theorem index_hash (b off n c k : Nat) (hk : k < n) (u : World) : (Instr.indexAt 22 (.slice (some ⟨b, off, none⟩) n c) (.int .i64 (k : Int))).run Tryd.prog u = .ok (.pointer (some ⟨b, off + 32 * k, none⟩)) u := by
  have hz := size_32 u
  have hb : (0 : Int) ≤ (k : Int) ∧ (k : Int) < (n : Int) := by omega
  have hadd : (⟨b, off, none⟩ : Addr).add (k * 32) = ⟨b, off + 32 * k, none⟩ := by rw [Nat.mul_comm]; unfold Addr.add; split <;> simp_all
  rw [run_indexAt_slice u 22 _ n c .i64 k (by rw [elems32]; exact Tryd.underlying22), if_pos (by omega), elems32, hz]
  simp [Result.andThen, hadd]

theorem Hs.load {w : World} {b off c : Nat} {hs : List (List Int)} (h : Hs w (some ⟨b, off, none⟩) c hs) (k : Nat) (hk : k < hs.length) : (Instr.loadAt 24 (.pointer (some ⟨b, off + 32 * k, none⟩))).run Tryd.prog w = .ok (.agg ((hs.getD k []).map (Value.int .u8)).toArray) w := by
  have h32 : (hs.getD k []).length = 32 := (h.ok _ (by simp [List.getD, hk])).1
  have hcells : ∀ j, j < 32 → w.cell? ⟨b, off + 32 * k + j, none⟩ = some (.int .u8 ((hs.getD k []).getD j 0)) := fun j hj => by
    rcases h.lay with h0 | ⟨b', off', he, hc⟩
    · rw [h0] at hk; simp at hk
    · simp only [Option.some.injEq, Addr.mk.injEq] at he
      obtain ⟨rfl, rfl, _⟩ := he
      exact hc k hk j hj
  generalize hs.getD k [] = y at h32 hcells
  refine run_load_cells agg_32 size_32 (fun j v hj => ?_) (by simpa using h32)
  have hjl : j < 32 := by
    rcases Nat.lt_or_ge j 32 with h1 | h1
    · exact h1
    · rw [List.getElem?_eq_none (by rw [List.length_map]; omega)] at hj; cases hj
  have hadd : (⟨b, off + 32 * k, none⟩ : Addr).add j = ⟨b, off + 32 * k + j, none⟩ := by unfold Addr.add; split <;> simp_all
  rw [hadd, hcells j hjl]
  have hjy : j < y.length := by omega
  simp [hjy] at hj
  subst hj
  simp [List.getD, hjy]

set_option maxHeartbeats 4000000 in
set_option maxRecDepth 100000 in
theorem treelaw_walk (a : Option Addr) (c : Nat) (hs : List (List Int)) (w : World) (hH : Hs w a c hs) (hn : hs.length ≤ 9223372036854775807 ∧ (a = none → c = 0)) (hV : Vars w) :
    Calls Tryd.prog 3 #[.slice a hs.length c] w fun e w' => e = .returned (.bool true) ∧ Below w.heap.size w w' := by
  obtain ⟨m, hm⟩ : ∃ m, m = hs.length := ⟨_, rfl⟩
  have HM : Hid (m = hs.length) := hm
  have hmm : m ≤ 9223372036854775807 := by rw [hm]; exact hn.1
  have HAL : Hid (∀ u, Below w.heap.size w u → Calls Tryd.prog 4 #[] u fun e w' => e = .returned (.bool true) ∧ Below u.heap.size u w') := fun u hu => alive_run u (hV.stays hu)
  rw [← hm]
  by_cases h40 : m ≤ 40
  · have HHS : Hid (∀ u, Below w.heap.size w u → Hs u a c hs) := fun u hu => hH.stays hu
    have hT := treeOf_ok hH.ok
    obtain ⟨S0, hS0⟩ : ∃ S, S = (treeOf hs).map (Value.int .u8) := ⟨_, rfl⟩
    have hSl : S0.length = 32 := by rw [hS0]; simp [hT.1]
    have hSo : ∀ v ∈ S0, v.oneCell' = true := by rw [hS0]; exact int_oneCell _ _
    have HT : Hid (∀ u a1 c1, Below w.heap.size w u → Hs u a1 c1 hs → Calls Tryd.prog 5 #[.slice a1 m c1] u fun e w' => e = .returned (.agg S0.toArray) ∧ Below u.heap.size u w') := fun u a1 c1 hu h1 => by
      rw [hS0]; exact tree_run m a1 c1 hs u hm h40 h1 (hV.stays hu)
    have HRT : Hid (∀ u, Below w.heap.size w u → Calls Tryd.prog 6 #[.slice a m c] u fun e w' => e = .returned (.agg S0.toArray) ∧ Below u.heap.size u w') := fun u hu => by
      rw [hS0]; exact rtree_run m a c hs u hm h40 (HHS.out u hu)
    have heq0 : ∀ u : World, (Op.equalIn 10000 24 (.agg S0.toArray) (.agg S0.toArray)).run Tryd.prog u = .ok true u := by rw [hS0]; exact equal_same Tryd.underlying24 Tryd.underlying5 (by kernel_rfl) (treeOf hs) hT.1
    have HEQ : Hid (∀ k, k < m → ∀ u : World, (Op.equalIn 10000 24 (.agg ((hs.getD k []).map (Value.int .u8)).toArray) (.agg ((hs.getD k []).map (Value.int .u8)).toArray)).run Tryd.prog u = .ok true u) := fun k hk =>
      equal_same Tryd.underlying24 Tryd.underlying5 (by kernel_rfl) (hs.getD k []) (hH.ok _ (by simp [List.getD, show k < hs.length by omega])).1
    have HNUL : Hid (a = none → c = 0) := hn.2
    have HOW : Hid ((w.alloc (.cells #[] 24)).ownsRow w.heap.size 24 32 (.slice (some ⟨w.heap.size, 0, none⟩) 0 0) 0 []) :=
      ⟨rfl, .inr ⟨w.heap.size, 0, #[], rfl, Nat.le_refl _, (Blk.newAt (e := 24) (vs := []) rfl rfl : _), Nat.le_refl _, by decide, rfl, rfl⟩⟩
    have HBA : Hid (Below w.heap.size w (w.alloc (.cells #[] 24))) := (Below.refl _ _).alloc (Nat.le_refl _) _
    have HBW : Hid (w.heap.size ≤ (w.alloc (.cells #[] 24)).heap.size) := by show _ ≤ _; simp
    have HOO : Hid (∀ u v, u.ownsRow w.heap.size 24 32 v hs.length (hcells hs) → ∃ a1 c1, v = .slice a1 m c1 ∧ Hs u a1 c1 hs) := fun u v hu => by rw [hm]; exact Hs.of_owns hu hH.ok
    have HL40 : Hid (hs.length ≤ 1000) := by show hs.length ≤ 1000; omega
    have hzl := z32_len
    clear hm hn hS0 hT hV hH
    go_enter Tryd.func3, Tryd.ntmps3
    go_wp2_with (first
      | (at_builtin; refine wpList_append_hashes (by rfl) (.tmp 10) (.tmp 11) (by rfl) w.heap.size _ (by rfl) HOW.out a m c hs (by rfl) HM.out (HHS.out _ HBA.out) HNUL.out HL40.out HBW.out ?_
         intro v1 w1 hO1 hb1; obtain ⟨a1, c1, hv1, hH1⟩ := HOO.out _ _ hO1; rw [hv1]; clear hv1 hO1; have hX1 := HBA.out.trans hb1; clear hb1)
      | (go_at_call 5; refine (HT.out _ _ _ hX1 hH1).mono ?_; rintro e w2 ⟨rfl, hb2⟩; have hH2 := hH1.stays hb2; have hX2 := hX1.trans (hb2.mono hX1.size))
      | (refine wpList_alloc0 (by rfl) 24 (by rfl) (some 4) (by rfl) z32 alloc_32 ?_; intro w3 hR3 hb3 hs3; have hH3 := hH2.stays hb3)
      | (refine wpList_store_blk (by rfl) (.tmp 4) (.tmp 14) 24 (by rfl) w2.heap.size 0 32 (by rfl) S0 (by rfl) size_32 hR3 hSl (by rw [hzl]; omega) hSo S0 (whole_store hzl) ?_; intro w4 hR4 hbut4 hs4))
    have hb24 : Below w2.heap.size w2 w4 := hb3.trans (hbut4.below (Nat.le_refl _) (by omega))
    have hH4 : Hs w4 a1 c1 hs := hH2.stays hb24
    have hX4 : Below w.heap.size w w4 := hX2.trans (hb24.mono hX2.size)
    clear hH1 hX1 hb2 hH2 hX2 hR3 hb3 hs3 hH3 hbut4 hs4 hb24
    go_loopw [5] (fun x wr => ∃ k : Nat, k ≤ m ∧ x = .int .i64 k ∧ Hs wr a1 c1 hs ∧ Blk 24 wr w2.heap.size S0 ∧ Below w.heap.size w wr) (fun x _ => m - (intOf x).toNat)
    case atStart => exact ⟨0, by omega, rfl, hH4, hR4, hX4⟩
    case round =>
      rename_i hrel
      obtain ⟨k, hk, rfl, hO, hR, hbr⟩ := hrel
      clear hH4 hR4 hX4
      by_cases hlt : k < m
      · have hkh : k < hs.length := by have := HM.out; omega
        obtain ⟨b, off, ha, _⟩ := (HHS.out wr hbr).cell (by omega)
        obtain ⟨b1, off1, ha1, _⟩ := hO.cell (by omega)
        have hix : ∀ u : World, (Instr.indexAt 22 (.slice a m c) (.int .i64 (k : Int))).run Tryd.prog u = .ok (.pointer (some ⟨b, off + 32 * k, none⟩)) u := fun u => by rw [ha]; exact index_hash b off m c k hlt u
        have hix1 : ∀ u : World, (Instr.indexAt 22 (.slice a1 m c1) (.int .i64 (k : Int))).run Tryd.prog u = .ok (.pointer (some ⟨b1, off1 + 32 * k, none⟩)) u := fun u => by rw [ha1]; exact index_hash b1 off1 m c1 k hlt u
        obtain ⟨S, hS⟩ : ∃ S, S = (hs.getD k []).map (Value.int .u8) := ⟨_, rfl⟩
        have HL1 : Hid (∀ u, Below wr.heap.size wr u → (Instr.loadAt 24 (.pointer (some ⟨b1, off1 + 32 * k, none⟩))).run Tryd.prog u = .ok (.agg S.toArray) u) := fun u hu => by
          rw [hS]; exact Hs.load (by rw [← ha1]; exact hO.stays hu) k hkh
        have HL2 : Hid (∀ u, Below wr.heap.size wr u → (Instr.loadAt 24 (.pointer (some ⟨b, off + 32 * k, none⟩))).run Tryd.prog u = .ok (.agg S.toArray) u) := fun u hu => by
          rw [hS]; exact Hs.load (by rw [← ha]; exact HHS.out u (hbr.trans (hu.mono hbr.size))) k hkh
        have heq : ∀ u : World, (Op.equalIn 10000 24 (.agg S.toArray) (.agg S.toArray)).run Tryd.prog u = .ok true u := by rw [hS]; exact HEQ.out k hlt
        clear hS ha ha1 hkh
        go_wp2
        refine Up.wp_region_up (Up.tell []) (by kernel_rfl) (by kernel_rfl) (Up.tell_steady _ (by simp)) ?_
        repeat (first
          | (refine Up.wpUp_pass (by rfl) ?_; simp only [Act.put, List.setIfInBounds_toArray, List.set_cons_zero, List.set_cons_succ])
          | (refine Up.wpUp_pure (.agg S.toArray) (by rfl) (by rfl) (fun w1 hp => exec_load9 (t := 24) (x := .tmp 23) (p := ⟨b1, off1 + 32 * k, none⟩) (by rfl) (by rfl) (HL1.out w1 hp.1)) ?_; simp only [Act.put, List.setIfInBounds_toArray, List.set_cons_zero, List.set_cons_succ])
          | (refine Up.wpUp_pure (.agg S.toArray) (by rfl) (by rfl) (fun w1 hp => exec_load9 (t := 24) (x := .tmp 27) (p := ⟨b, off + 32 * k, none⟩) (by rfl) (by rfl) (HL2.out w1 hp.1)) ?_; simp only [Act.put, List.setIfInBounds_toArray, List.set_cons_zero, List.set_cons_succ])
          | (apply Up.wpUp_pure
             case hw => rfl
             case hψ => rfl
             case hv => (intro w1 hp; clear hp; go_simp; try (with_reducible rfl))
             simp only [Act.put, List.setIfInBounds_toArray, List.set_cons_zero, List.set_cons_succ]))
        refine Up.wpUp_end ?_
        intro w6 hb6 _
        go_wp2
        go_roundw
        case rel => exact ⟨k + 1, by omega, by go_num, hO.stays hb6, hR.stays hb6, hbr.trans (hb6.mono hbr.size)⟩
        case measure => simp [intOf]; omega
      · have hkm : k = m := by omega
        subst hkm
        obtain ⟨S, hS⟩ : ∃ S, S = S0 := ⟨_, rfl⟩
        have HL1 : Hid (∀ u, Below wr.heap.size wr u → (Instr.loadAt 24 (.pointer (some ⟨w2.heap.size, 0, none⟩))).run Tryd.prog u = .ok (.agg S.toArray) u) := fun u hu => by
          rw [hS]; exact run_load_blk agg_32 size_32 (hR.stays hu) (whole_load hSl) hSl
        have HR2 : Hid (∀ u, Below w.heap.size w u → Calls Tryd.prog 6 #[.slice a k c] u fun e w' => e = .returned (.agg S.toArray) ∧ Below u.heap.size u w') := by rw [hS]; exact HRT.out
        rw [← hS] at heq0
        clear hS HRT
        go_wp2
        refine Up.wp_region_up (Up.tell [(0, isV9 (.bool true)), (4, isV9 (.agg S.toArray))]) (by kernel_rfl) (by kernel_rfl) (Up.tell_steady _ (by
          intro p hp
          simp only [List.mem_cons, List.not_mem_nil, or_false] at hp
          rcases hp with rfl | rfl <;> exact isV9_steady _)) ?_
        refine Up.wpUp_call _ 4 #[] (by rfl) (by rfl) (fun wz => by go_simp) (fun wz hp => calls_isV9 (HAL.out wz (hbr.trans (hp.1.mono hbr.size)))) ?_
        rintro v ⟨u, _, hf⟩
        obtain rfl := hf 0 v _ rfl rfl
        clear hf
        simp only [Act.put, List.setIfInBounds_toArray, List.set_cons_zero, List.set_cons_succ]
        repeat (first
          | (refine Up.wpUp_pass (by rfl) ?_; simp only [Act.put, List.setIfInBounds_toArray, List.set_cons_zero, List.set_cons_succ])
          | (refine Up.wpUp_pure (.agg S.toArray) (by rfl) (by rfl) (fun w1 hp => exec_load9 (t := 24) (x := .tmp 4) (p := ⟨w2.heap.size, 0, none⟩) (by rfl) (by rfl) (HL1.out w1 hp.1)) ?_; simp only [Act.put, List.setIfInBounds_toArray, List.set_cons_zero, List.set_cons_succ])
          | (apply Up.wpUp_pure
             case hw => rfl
             case hψ => rfl
             case hv => (intro w1 hp; clear hp; go_simp; try (with_reducible rfl))
             simp only [Act.put, List.setIfInBounds_toArray, List.set_cons_zero, List.set_cons_succ]))
        refine Up.wpUp_call _ 6 #[.slice a k c] (by rfl) (by rfl) (fun wz => by go_simp) (fun wz hp => calls_isV9 (HR2.out wz (hbr.trans (hp.1.mono hbr.size)))) ?_
        rintro v ⟨u, _, hf⟩
        obtain rfl := hf 4 v _ rfl rfl
        clear hf
        simp only [Act.put, List.setIfInBounds_toArray, List.set_cons_zero, List.set_cons_succ]
        repeat (first
          | (refine Up.wpUp_pass (by rfl) ?_; simp only [Act.put, List.setIfInBounds_toArray, List.set_cons_zero, List.set_cons_succ])
          | (apply Up.wpUp_pure
             case hw => rfl
             case hψ => rfl
             case hv => (intro w1 hp; clear hp; go_simp; try (with_reducible rfl))
             simp only [Act.put, List.setIfInBounds_toArray, List.set_cons_zero, List.set_cons_succ]))
        refine Up.wpUp_end ?_
        intro w6 hb6 _
        go_wp2
        go_ret
        exact ⟨rfl, hbr.trans (hb6.mono hbr.size)⟩
  · have h40' : 40 < m := by omega
    clear hm hn hV hH
    go_enter Tryd.func3, Tryd.ntmps3
    go_wp2_with (go_at_call 4; refine (HAL.out _ (Below.refl _ _)).mono ?_; rintro e w1 ⟨rfl, hb1⟩)
    go_ret
    exact ⟨rfl, hb1⟩
end Go.Proofs.YtnkblmbpioamnaaDoor
