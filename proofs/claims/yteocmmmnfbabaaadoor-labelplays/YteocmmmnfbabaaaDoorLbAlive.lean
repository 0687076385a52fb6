/-
  The live question of package label's laws.
-/
import Derived.Test.YteocmmmnfbabaaaDoorLbLay
import Derived.Test.YteocmmmnfbabaaaDoorRef6
namespace Go.Proofs.YteocmmmnfbabaaaDoor
set_option linter.unusedSimpArgs false
set_option linter.unusedVariables false
set_option maxRecDepth 100000
open Go.RowKit

theorem decL_zeros : ¬ (decL noughts).2 = 0 := by
  have hl : noughts.length = 256 := noughts_length
  have ho : okL noughts = false := by
    unfold okL
    rw [show decide (noughts.take 4 = magicL) = false by decide]
    simp
  unfold decL
  rw [if_neg (by omega), ho]
  split <;> simp

theorem stepC_skip {i : Nat} {xs : List Int} {s : Lb × Nat} (h : ¬ (decL xs).2 = 0) : stepC i xs s = s := by unfold stepC; rw [if_pos h]
theorem stepC_take {i : Nat} {xs : List Int} {s : Lb × Nat} {l : Lb} (h : decL xs = (l, 0)) (hp : plcd l.t i = true) (hs : s.2 = 0) : stepC i xs s = (l, 1) := by
  unfold stepC; rw [h, if_neg (by simp), if_neg (by simp [hp]), if_pos hs]
theorem stepC_more {i : Nat} {xs : List Int} {s : Lb × Nat} {l : Lb} (h : decL xs = (l, 0)) (hp : plcd l.t i = true) (hs : s.1.t = l.t) (h0 : s.2 ≠ 0) : stepC i xs s = (s.1, s.2 + 1) := by
  unfold stepC; rw [h, if_neg (by simp), if_neg (by simp [hp]), if_neg h0, if_neg (by simp only; omega), if_pos (by simp only; omega)]

theorem Vars.stays' {w w' : World} {B : Nat} (h : Vars w) (hb : Below B w w') (hB : 2 ≤ B) : Vars w' :=
  ⟨fun i hi => by rw [← h.steps i hi]; unfold World.cell?; rw [hb.block _ (by simp only; omega)], fun i hi => by rw [← h.firsts i hi]; unfold World.cell?; rw [hb.block _ (by simp only; omega)]⟩

def alvL : Lb := ⟨5, Pt.zero, List.replicate 64 0⟩
theorem alvL_ok : alvL.ok := ⟨by decide, Pt.zero_ok, rng_zeros 64⟩
theorem alvL_may : alvL.may = true := by unfold Lb.may alvL; simp [Pt.zero_may]

theorem new16_len : (DS.new 16).laid.length = 4096 := List.length_replicate
theorem write_on {S : DS} {i : Nat} {xs : List Int} (hoff : S.off = false) (hf : S.fused = false) (hl : S.laid.length = 4096) (hi : i < 16) (hx : xs.length = 256) :
    S.write (i : Int) xs = ({ S with ws := S.ws ++ [(i, xs)], left := S.left }, 0) := by
  have hh : S.has (i : Int) := by unfold DS.has; rw [hl]; omega
  unfold DS.write
  rw [hoff, if_neg (by decide), if_neg (by simpa using ⟨hh, hx⟩), hf]
  simp [may, DS.left', hf]

theorem layL_on {S : DS} {l : Lb} (hl' : l.ok) (hm : l.may = true) (hoff : S.off = false) (hf : S.fused = false) (hl : S.laid.length = 4096) :
    layL S l = ({ S with ws := S.ws ++ [(plc l.t, l.bytes)] ++ [(plc l.t + 1, l.bytes)], left := S.left }, 0) := by
  have hp : plc l.t ≤ 2 := by unfold plc; omega
  have hx := Lb.bytes_len hl'.p (Lb.may_parts hm).2
  unfold layL
  rw [hm, if_pos rfl, write_on hoff hf hl (by omega) hx, if_pos rfl, write_on (S := { S with ws := S.ws ++ [(plc l.t, l.bytes)], left := S.left }) hoff hf hl (by omega) hx]

theorem alive_lay : ∃ S1, layL (DS.new 16) alvL = (S1, 0) ∧ S1.ws.length ≤ 2 ∧ chooseL S1 = ((alvL, 2), 0) := by
  have h := layL_on (S := DS.new 16) alvL_ok alvL_may rfl rfl new16_len
  refine ⟨_, h, by simp [DS.new], ?_⟩
  have hd := decL_bytes alvL_ok alvL_may
  have hz : ∀ k, k < 16 → secOf (DS.new 16).laid k = noughts := fun k hk => sec_noughts hk
  have hp : plc alvL.t = 2 := rfl
  unfold chooseL
  rw [if_neg (by simp [DS.new])]
  have hs : scanC { DS.new 16 with ws := (DS.new 16).ws ++ [(plc alvL.t, alvL.bytes)] ++ [(plc alvL.t + 1, alvL.bytes)], left := (DS.new 16).left } 4 = (alvL, 2) := by
    rw [hp]
    generalize hbs : alvL.bytes = bs at *
    have r0 : readW (DS.new 16).laid ((DS.new 16).ws ++ [(2, bs)] ++ [(2 + 1, bs)]) 0 = noughts := by simp [readW, DS.new, hz]; exact hz 0 (by omega)
    have r1 : readW (DS.new 16).laid ((DS.new 16).ws ++ [(2, bs)] ++ [(2 + 1, bs)]) 1 = noughts := by simp [readW, DS.new, hz]; exact hz 1 (by omega)
    have r2 : readW (DS.new 16).laid ((DS.new 16).ws ++ [(2, bs)] ++ [(2 + 1, bs)]) 2 = bs := by simp [readW, DS.new]
    have r3 : readW (DS.new 16).laid ((DS.new 16).ws ++ [(2, bs)] ++ [(2 + 1, bs)]) 3 = bs := by simp [readW, DS.new]
    simp only [scanC, r0, r1, r2, r3]
    rw [stepC_skip (i := 0) decL_zeros, stepC_skip (i := 1) decL_zeros, stepC_take (i := 2) hd (by decide) rfl, stepC_more (i := 3) hd (by decide) rfl (by decide)]
  rw [hs]
  rfl

theorem build_alv (a : Option Addr) (c : Nat) (w : World) : (Instr.build 29 [(0, Value.int .u32 5), (2, .slice a 64 c)].toArray).run Tryd.prog w = .ok (.agg (alvL.vs a c).toArray) w := by kernel_rfl

set_option maxHeartbeats 20000000 in
theorem lalive_run (w : World) (hV : Vars w) : Calls Tryd.prog 8 #[] w fun e w' => e = .returned (.bool true) ∧ Below w.heap.size w w' := by
  obtain ⟨i0, hi, hz0, hz1, hz2⟩ := info_parts Tryd.info5
  obtain ⟨S1, hlay, hws, hch⟩ := alive_lay
  have hnew := dk_new 16 w (by omega) (by omega)
  have hzl := zero_vs_len
  obtain ⟨zs, hzs⟩ : ∃ zs, zs = Lb.zero.vs none 0 := ⟨_, rfl⟩
  have HBU : Hid (∀ w : World, (Instr.build 29 #[]).run Tryd.prog w = .ok (.agg zs.toArray) w) := by rw [hzs]; exact build_label0
  have HAL : Hid (∀ w : World, (Instr.alloc 29 true (.tuple #[])).run Tryd.prog w = .ok (.pointer (some ⟨w.heap.size, 0, none⟩)) (w.alloc (.cells zs.toArray 29))) := by rw [hzs]; exact alloc_label0
  have hbad : ∀ u, Calls Tryd.prog 9 #[.agg zs.toArray] u fun e w' => e = .returned (.tuple #[.slice none 0 0, .int .i64 1]) ∧ Below u.heap.size u w' := fun u => by
    rw [hzs]; exact lencode_bad Lb.zero Lb.zero_ok none 0 u (by decide) (by decide)
  rw [← hzs] at hzl
  have hpl : ∀ u, Calls Tryd.prog 11 #[.int .u32 5] u fun e w' => e = .returned (.agg #[.int .i64 2, .int .i64 3]) ∧ Below u.heap.size u w' := fun u => places_run 5 (by decide) u
  have heq2 : ∀ u, (Op.equalIn 10000 34 (.agg #[.int .i64 2, .int .i64 3]) (.agg #[.int .i64 2, .int .i64 3])).run Tryd.prog u = .ok true u := fun u => by kernel_rfl
  have hlayR : ∀ (u : World) (p : Nat) (F : Nat → Prop), Dk u F p (DS.new 16) → (∀ k, F k → k < u.heap.size) → Vars u → ∀ a c, Bs u a c alvL.m → Calls Tryd.prog 20 #[.pointer (some ⟨p, 0, none⟩), .agg (alvL.vs a c).toArray] u fun e w' => e = .returned (.int .i64 0) ∧ Then F u w' p S1 := fun u p F h hF hv a c hB => by
    have := labLay_run h hF alvL alvL_ok a c hB hv (by simp [DS.new])
    rw [hlay] at this
    exact this
  have hchR : ∀ (u : World) (p : Nat) (F : Nat → Prop), Dk u F p S1 → Vars u → Calls Tryd.prog 28 #[.pointer (some ⟨p, 0, none⟩)] u fun e w' => ∃ a c, e = .returned (.tuple #[.agg (alvL.vs a c).toArray, .int .i64 2, .int .i64 0]) ∧ Below u.heap.size u w' := fun u p F h hv => by
    have hoff : S1.off = false := by
      cases ho : S1.off
      · rfl
      · unfold chooseL at hch; rw [ho, if_pos rfl] at hch; cases hch
    refine (choose_on h (by omega) hoff hv).mono ?_
    rintro e w' ⟨a, c, rfl, _, hb⟩
    rw [hch]
    exact ⟨a, c, rfl, hb⟩
  have hvl : ∀ a c, (alvL.vs a c).length = 37 := fun a c => Lb.vs_len alvL_ok.p a c
  have hbl := build_alv
  have HT : Hid (∀ a c, (alvL.vs a c)[0]? = some (.int .u32 5)) := fun a c => rfl
  have HVO : Hid (∀ a c, ∀ v ∈ alvL.vs a c, v.oneCell' = true) := fun a c => Lb.vs_one _ _ _
  have hal : alvL.m = List.replicate 64 0 := rfl
  rw [hal] at hlayR
  generalize hvv : alvL.vs = av at *
  clear hzs hlay hch hws hal hvv
  have hVn : ¬ (w.heap.size ≤ 1) ∧ ¬ (w.heap.size ≤ 0) := by have := hV.size; omega
  go_enter Tryd.func8, Tryd.ntmps8
  go_wp2_with (first
    | (go_at_call 16; go_must (refine hnew.mono ?_); rintro e w1 ⟨p, rfl, hD1, hb1⟩)
    | ((with_reducible show wpList _ _ _ (Oper.mk _ (Op.makeSlice _ _ _) _ _ _ _ :: _) _ _); refine wpList_make_bytes (w0 := w1) (by rfl) (.const (.int .i64 64)) (.const (.int .i64 64)) 27 (by rfl) w1.heap.size 5 i0 Tryd.underlying27 hi hz0 hz1 hz2 .i64 .i64 64 64 64 (by rfl) (by rfl) (by rfl) (by rfl) (by decide) (Nat.le_refl _) (Below.refl _ _) ?_
       intro w2 hO2 hb2
       have hB2 : Bs w2 (some ⟨w1.heap.size, 0, none⟩) 64 (List.replicate 64 0) := Row.bs (e := 5) (w := w2) (g := w1.heap.size) (cur := List.replicate 64 0) hO2 (rng_zeros 64) (by decide))
    | ((with_reducible show wpList _ _ _ (Oper.mk _ (Op.build _ _) _ _ _ _ :: _) _ _); refine wpList_buildL (by rfl) 29 [(0, .const (.int .u32 5)), (2, .tmp 20)] (by rfl) _ (by rfl) _ (hbl _ _) ?_)
    | ((with_reducible show wpList _ _ _ (Oper.mk _ (Op.alloc _) _ _ _ _ :: _) _ _); refine wpList_alloc0 (by rfl) 29 (by rfl) (some 3) (by rfl) _ HAL.out ?_; intro w3 hL3 hb3 hs3)
    | ((with_reducible show wpList _ _ _ (Oper.mk _ (Op.store _ _ _) _ _ _ _ :: _) _ _); refine wpList_store_blk (by rfl) (.tmp 3) (.tmp 21) 29 (by rfl) _ 0 37 (by rfl) _ (by rfl) size_label hL3 (hvl _ _) (by omega) (HVO.out _ _) _ (whole_store hzl) ?_
       intro w4 hL4 hbut4 hs4
       have hb4 : Below w1.heap.size w1 w4 := (below_then hb2 hb3).trans (hbut4.below (B := w1.heap.size) hb2.size (below_then hb2 hb3).size)
       have hD4 := (hD1.mono (G := fun k => w.heap.size ≤ k ∧ k < w1.heap.size) (fun k hk hl => ⟨hk, hl⟩)).stays hb4
       have hB4 := (hB2.stays hb3).but hbut4 (fun h0 b hb => by cases hb; simp only; have := Blk.lt (e := 5) hO2; omega)
       have hV4 := hV.stays (below_then hb1 hb4)
       have hly := hlayR w4 p _ hD4 (fun k hk => by have := hb4.size; omega) hV4 _ _ hB4)
    | ((with_reducible show wpList _ _ _ (Oper.mk _ (Op.load _ _) _ _ _ _ :: _) _ _); refine wpList_load_blk (by rfl) (.tmp 3) 29 (by rfl) _ 0 37 (by rfl) agg_label size_label hL4 _ (whole_load (hvl _ _)) (hvl _ _) ?_)
    | (go_at_call 20; go_must (refine hly.mono ?_); rintro e w5 ⟨rfl, ht5⟩
       have hb5 : Below w.heap.size w4 w5 := ht5.2.below (by have := hb1.size; have := hb4.size; omega) (fun k hk => hk.1)
       have hV5 : Vars w5 := hV4.stays' hb5 hV.size
       have hcc := hchR w5 p _ ht5.1 hV5)
    | (go_at_call 28; go_must (refine hcc.mono ?_); rintro e w6 ⟨a6, c6, rfl, hb6⟩)
    | ((with_reducible show wpList _ _ _ (Oper.mk _ (Op.alloc _) _ _ _ _ :: _) _ _); refine wpList_alloc0 (by rfl) 29 (by rfl) (some 5) (by rfl) _ HAL.out ?_; intro w7 hM7 hb7 hs7)
    | ((with_reducible show wpList _ _ _ (Oper.mk _ (Op.store _ _ _) _ _ _ _ :: _) _ _); refine wpList_store_blk (by rfl) (.tmp 5) (.tmp 28) 29 (by rfl) _ 0 37 (by rfl) _ (by rfl) size_label hM7 (hvl _ _) (by omega) (HVO.out _ _) _ (whole_store hzl) ?_
       intro w8 hM8 hbut8 hs8)
    | ((with_reducible show wpList _ _ _ (Oper.mk _ (Op.build _ _) _ _ _ _ :: _) _ _); refine wpList_build0 (by rfl) 29 (by rfl) _ HBU.out ?_)
    | (go_at_call 9; go_must (refine (hbad _).mono ?_); rintro e w9 ⟨rfl, hb9⟩
       have hM9 := hM8.stays hb9
       have hc0 : w9.cell? ⟨w6.heap.size, 0, none⟩ = some (.int .u32 5) := (hM9.cell 0).trans (HT.out _ _))
    | (go_at_call 11; go_must (refine (hpl _).mono ?_); rintro e wA ⟨rfl, hbA⟩))
  go_ret
  refine ⟨rfl, ?_⟩
  have h4 := (below_then hb1 hb4)
  have h5 := h4.trans hb5
  have h7 := below_then (below_then h5 hb6) hb7
  exact below_then (below_then (h7.trans (hbut8.below (B := w.heap.size) (by have := (below_then h5 hb6).size; omega) h7.size)) hb9) hbA

end Go.Proofs.YteocmmmnfbabaaaDoor
