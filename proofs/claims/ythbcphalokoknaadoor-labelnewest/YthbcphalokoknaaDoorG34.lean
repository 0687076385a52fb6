/-
  The walk of the law LabelNewest.
-/
import Derived.Test.YthbcphalokoknaaDoorG33
import Derived.Test.YthbcphalokoknaaDoorG27
namespace Go.Proofs.YthbcphalokoknaaDoor
set_option linter.unusedSimpArgs false
set_option linter.unusedVariables false
set_option linter.unusedSectionVars false
set_option maxRecDepth 100000
open Go.RowKit

theorem Blk.belowB {e : TypeId} {w w' : World} {g B : Nat} {vs : List Value} (h : Blk e w g vs) (hb : Below B w w') (hg : g < B) : Blk e w' g vs := by
  unfold Blk at *
  rw [hb.block g hg]; exact h

/-- The label with another number. -/
def Lb.num (l : Lb) (n : Nat) : Lb := ⟨n, l.p, l.m⟩
theorem Lb.vs_num (l : Lb) (a : Option Addr) (c n : Nat) : (l.vs a c).set 0 (.int .u32 (n : Int)) = (l.num n).vs a c := rfl

section
variable {B p : Nat} {u : World} {S : DS}

theorem dkf_lay (h : DkF B u p S) (hB : B ≤ u.heap.size) (l : Lb) (hl : l.ok) (a : Option Addr) (c : Nat) (hm : Bs u a c l.m) (hV : Vars u) (hlen : S.ws.length ≤ 900000) :
    Calls Tryd.prog 20 #[.pointer (some ⟨p, 0, none⟩), .agg (l.vs a c).toArray] u fun e w' => e = .returned (.int .i64 (layL S l).2) ∧ DkF B w' p (layL S l).1 ∧ Below B u w' := by
  refine (labLay_run h (fun k hk => hk.2) l hl a c hm hV hlen).mono ?_
  rintro e w' ⟨rfl, ht⟩
  exact ⟨rfl, DkF.next ht hB (Nat.le_refl _)⟩
theorem dkf_flush (h : DkF B u p S) (hB : B ≤ u.heap.size) (hlen : S.ws.length ≤ 900000) :
    Calls Tryd.prog 22 #[.pointer (some ⟨p, 0, none⟩)] u fun e w' => e = .returned (.int .i64 S.flush.2) ∧ DkF B w' p S.flush.1 ∧ Below B u w' := by
  refine (dk_flush h (by omega)).mono ?_
  rintro e w' ⟨rfl, ht⟩
  exact ⟨rfl, DkF.next ht hB (Nat.le_refl _)⟩
theorem dkf_rot (h : DkF B u p S) (hB : B ≤ u.heap.size) (i : Int) (a : Option Addr) (c : Nat) (ms : List Int) (hm : Bs u a c ms) (hl : ms.length ≤ 1000000) (hne : ms ≠ [] → ∀ x, a = some x → x.block < B) :
    Calls Tryd.prog 24 #[.pointer (some ⟨p, 0, none⟩), .int .i64 i, .slice a ms.length c] u fun e w' => (∃ v, e = .returned v) ∧ DkF B w' p (S.rot i ms).1 ∧ Below B u w' := by
  refine (dk_rot h i a c ms hm (by omega) (fun h0 x hx hf => by have := hne h0 x hx; have := hf.1; omega)).mono ?_
  rintro e w' ⟨rfl, ht⟩
  exact ⟨⟨_, rfl⟩, DkF.next ht hB (Nat.le_refl _)⟩
theorem dkf_crash (h : DkF B u p S) (hB : B ≤ u.heap.size) (hlen : S.ws.length ≤ 900000) {u' : World} (hu : Below u.heap.size u u') (a : Option Addr) (c : Nat) (ks : List Int) (hk : Is u' a ks) (hkl : ks.length ≤ 1000000) (hne : ks ≠ [] → ∀ x, a = some x → x.block < B ∨ u.heap.size ≤ x.block) :
    Calls Tryd.prog 26 #[.pointer (some ⟨p, 0, none⟩), .slice a ks.length c] u' fun e w' => (∃ v, e = .returned v) ∧ DkF B w' p (S.crash ks) ∧ Below B u' w' := by
  refine (dk_crash (Dk.stays h hu) (by omega) a c ks hk (by omega) (fun h0 x hx hf => by have := hne h0 x hx; have := hf.1; have := hf.2; omega)).mono ?_
  rintro e w' ⟨he, ht⟩
  exact ⟨he, DkF.next ht hB hu.size⟩
theorem dkf_read (h : DkF B u p S) {n k : Nat} (hok : S.Ok n) (hoff : S.off = false) (hk : k < n) (hlen : S.ws.length ≤ 900000) :
    Calls Tryd.prog 32 #[.pointer (some ⟨p, 0, none⟩), .int .i64 (k : Int)] u fun e w' => ∃ a c, e = .returned (.tuple #[.slice a 256 c, .int .i64 0]) ∧ Bs w' a c (readW S.laid S.ws k) ∧ Below u.heap.size u w' := by
  refine (dk_read h (by omega) k).mono ?_
  rintro e w' ⟨a, c, rfl, ho, hb⟩
  rw [DS.read_at hok hoff hk] at ho ⊢
  obtain ⟨h1, h2⟩ := readW_ok hok hk
  simp only at ho ⊢
  rw [h1] at ho ⊢
  exact ⟨a, c, rfl, (Out.bs ho h2).2.1, hb⟩
end

theorem lay_code {S : DS} {l : Lb} (hl : l.ok) (hoff : S.off = false) (hf : S.fused = false) (hlen : S.laid.length = 4096) : (layL S l).2 = ((encL l).2 : Int) ∧ (layL S l).1.ws.length ≤ S.ws.length + 2 := by
  cases hm : l.may
  · unfold layL encL
    rw [hm]
    exact ⟨rfl, by simp⟩
  · rw [layL_on hl hm hoff hf hlen]
    unfold encL
    rw [hm]
    exact ⟨rfl, by simp⟩

theorem is_two (w : World) : Is (w.alloc (.cells #[.int .i64 223, .int .i64 0] 3)) (some ⟨w.heap.size, 0, none⟩) [223, 0] := by
  have hh := World.alloc_heap_new w (.cells #[.int .i64 223, .int .i64 0] 3)
  refine .inr ⟨_, 0, rfl, fun i hi => ?_⟩
  have hi2 : i < 2 := hi
  unfold World.cell?
  simp only [hh]
  rcases (by omega : i = 0 ∨ i = 1) with rfl | rfl <;> rfl

section
variable (X : Lb) (hX : X.ok) (aX : Option Addr) (cX : Nat) (Y : Lb) (hY : Y.ok) (aY : Option Addr) (cY : Nat) (am : Option Addr) (cm : Nat) (ms : List Int) (w : World) (hBX : Bs w aX cX X.m) (hBY : Bs w aY cY Y.m) (hBm : Bs w am cm ms) (hV : Vars w)
include hX hY hBX hBY hBm hV

set_option maxHeartbeats 20000000 in
theorem new_early (h : ¬ (X.m.length = 64 ∧ ms.length ≤ 200 ∧ X.t ≤ 2147483648)) :
    Calls Tryd.prog 7 #[.agg (X.vs aX cX).toArray, .agg (Y.vs aY cY).toArray, .slice am ms.length cm] w fun e w' => e = .returned (.bool true) ∧ Below w.heap.size w w' := by
  obtain ⟨N, hN⟩ : ∃ N, N = X.m.length := ⟨_, rfl⟩
  obtain ⟨K, hK⟩ : ∃ K, K = ms.length := ⟨_, rfl⟩
  have HM : Hid ((X.vs aX cX)[36]? = some (.slice aX N cX)) := by show _ = _; rw [hN]; exact Lb.vs_map hX.p aX cX
  have HT : Hid ((X.vs aX cX)[0]? = some (.int .u32 (X.t : Int))) := Lb.vs_txg X aX cX
  have hNl : N ≤ 9223372036854775807 := by have h1 := hBX.cap; have h2 := hBX.capm; unfold maxLen at h2; omega
  have hKl : K ≤ 9223372036854775807 := by have h1 := hBm.cap; have h2 := hBm.capm; unfold maxLen at h2; omega
  rw [← hN, ← hK] at h
  rw [← hK]
  clear hN hK
  have htl := hX.t
  by_cases h64 : N = 64
  · have hn : ((N : Int) != 64) = false := by rw [h64]; rfl
    by_cases h200 : K ≤ 200
    · have hg : ¬ (200 < K) := by omega
      have ht : 2147483648 < X.t := by omega
      clear h64 h200 h
      go_enter Tryd.func7, Tryd.ntmps7
      go_wp2_with (first
          | ((with_reducible show wpList _ _ _ (Oper.mk _ (Op.box 29 (.tmp 0)) _ _ _ _ :: _) _ _); refine wpList_box0 (by rfl) 29 (.tmp 0) (by rfl) (X.vs aX cX) (by rfl) ?_; intro w1 hL1 hb1 hs1)
          | ((with_reducible show wpList _ _ _ (Oper.mk _ (Op.box 29 (.tmp 1)) _ _ _ _ :: _) _ _); refine wpList_box0 (by rfl) 29 (.tmp 1) (by rfl) (Y.vs aY cY) (by rfl) ?_; intro w2 hM2 hb2 hs2
             have hL2 := hL1.stays hb2
             rw [hs1] at hM2 hs2
             have hb2' := below_then hb1 hb2
             have hnw := dk_new 16 w2 (by omega) (by omega))
          | (go_at_call 16; go_must (refine hnw.mono ?_); rintro e w3 ⟨p, rfl, hD3, hb3⟩
             have hL3 := hL2.stays hb3
             have hM3 := hM2.stays hb3
             have hb3' := below_then hb2' hb3
             have hc36 : w3.cell? ⟨w.heap.size, 36, none⟩ = some (.slice aX N cX) := (hL3.cell 36).trans HM.out
             have hc0 : w3.cell? ⟨w.heap.size, 0, none⟩ = some (.int .u32 (X.t : Int)) := (hL3.cell 0).trans HT.out
             have hal := lalive_run w3 (hV.stays hb3'))
          | (go_at_call 8; go_must (refine hal.mono ?_); rintro e w4 ⟨rfl, hb4⟩))
      go_ret
      exact ⟨rfl, below_then hb3' hb4⟩
    · have hg : 200 < K := by omega
      clear h64 h200 h
      go_enter Tryd.func7, Tryd.ntmps7
      go_wp2_with (first
          | ((with_reducible show wpList _ _ _ (Oper.mk _ (Op.box 29 (.tmp 0)) _ _ _ _ :: _) _ _); refine wpList_box0 (by rfl) 29 (.tmp 0) (by rfl) (X.vs aX cX) (by rfl) ?_; intro w1 hL1 hb1 hs1)
          | ((with_reducible show wpList _ _ _ (Oper.mk _ (Op.box 29 (.tmp 1)) _ _ _ _ :: _) _ _); refine wpList_box0 (by rfl) 29 (.tmp 1) (by rfl) (Y.vs aY cY) (by rfl) ?_; intro w2 hM2 hb2 hs2
             have hL2 := hL1.stays hb2
             rw [hs1] at hM2 hs2
             have hb2' := below_then hb1 hb2
             have hnw := dk_new 16 w2 (by omega) (by omega))
          | (go_at_call 16; go_must (refine hnw.mono ?_); rintro e w3 ⟨p, rfl, hD3, hb3⟩
             have hL3 := hL2.stays hb3
             have hM3 := hM2.stays hb3
             have hb3' := below_then hb2' hb3
             have hc36 : w3.cell? ⟨w.heap.size, 36, none⟩ = some (.slice aX N cX) := (hL3.cell 36).trans HM.out
             have hc0 : w3.cell? ⟨w.heap.size, 0, none⟩ = some (.int .u32 (X.t : Int)) := (hL3.cell 0).trans HT.out
             have hal := lalive_run w3 (hV.stays hb3'))
          | (go_at_call 8; go_must (refine hal.mono ?_); rintro e w4 ⟨rfl, hb4⟩))
      go_ret
      exact ⟨rfl, below_then hb3' hb4⟩
  · have hn : ((N : Int) != 64) = true := by simp; omega
    clear h64 h
    go_enter Tryd.func7, Tryd.ntmps7
    go_wp2_with (first
        | ((with_reducible show wpList _ _ _ (Oper.mk _ (Op.box 29 (.tmp 0)) _ _ _ _ :: _) _ _); refine wpList_box0 (by rfl) 29 (.tmp 0) (by rfl) (X.vs aX cX) (by rfl) ?_; intro w1 hL1 hb1 hs1)
        | ((with_reducible show wpList _ _ _ (Oper.mk _ (Op.box 29 (.tmp 1)) _ _ _ _ :: _) _ _); refine wpList_box0 (by rfl) 29 (.tmp 1) (by rfl) (Y.vs aY cY) (by rfl) ?_; intro w2 hM2 hb2 hs2
           have hL2 := hL1.stays hb2
           rw [hs1] at hM2 hs2
           have hb2' := below_then hb1 hb2
           have hnw := dk_new 16 w2 (by omega) (by omega))
        | (go_at_call 16; go_must (refine hnw.mono ?_); rintro e w3 ⟨p, rfl, hD3, hb3⟩
           have hL3 := hL2.stays hb3
           have hM3 := hM2.stays hb3
           have hb3' := below_then hb2' hb3
           have hc36 : w3.cell? ⟨w.heap.size, 36, none⟩ = some (.slice aX N cX) := (hL3.cell 36).trans HM.out
           have hc0 : w3.cell? ⟨w.heap.size, 0, none⟩ = some (.int .u32 (X.t : Int)) := (hL3.cell 0).trans HT.out
           have hal := lalive_run w3 (hV.stays hb3'))
        | (go_at_call 8; go_must (refine hal.mono ?_); rintro e w4 ⟨rfl, hb4⟩))
    go_ret
    exact ⟨rfl, below_then hb3' hb4⟩

set_option maxHeartbeats 20000000 in
theorem new_bad (h64 : X.m.length = 64) (h200 : ms.length ≤ 200) (ht : X.t ≤ 2147483648) (hm : X.may = false) :
    Calls Tryd.prog 7 #[.agg (X.vs aX cX).toArray, .agg (Y.vs aY cY).toArray, .slice am ms.length cm] w fun e w' => e = .returned (.bool true) ∧ Below w.heap.size w w' := by
  have hvX : (X.vs aX cX).length = 37 := Lb.vs_len hX.p aX cX
  have hvY0 : (Y.vs aY cY).length = 37 := Lb.vs_len hY.p aY cY
  have HM : Hid ((X.vs aX cX)[36]? = some (.slice aX 64 cX)) := by show _ = _; rw [← h64]; exact Lb.vs_map hX.p aX cX
  have HT : Hid ((X.vs aX cX)[0]? = some (.int .u32 (X.t : Int))) := Lb.vs_txg X aX cX
  obtain ⟨K, hK⟩ : ∃ K, K = ms.length := ⟨_, rfl⟩
  have HK : Hid (K = ms.length) := hK
  have hg : ¬ (200 < K) := by omega
  rw [← hK]
  obtain ⟨N1, hN1⟩ : ∃ N1, N1 = X.t + 1 := ⟨_, rfl⟩
  have hw1 : IntKind.u32.wrap ((X.t : Int) + 1) = (N1 : Int) := by rw [hN1]; first | go_num | (rw [IntKind.wrap_u32]; omega)
  have ht2 : ¬ (2147483648 < X.t) := by omega
  have HN1 : Hid (N1 = X.t + 1) := hN1
  have hY' : (Y.num N1).ok := ⟨by show N1 < _; omega, hY.p, hY.m⟩
  have hvY : ((Y.num N1).vs aY cY).length = 37 := Lb.vs_len hY'.p aY cY
  have HSET : Hid ((Y.vs aY cY).set 0 (.int .u32 (N1 : Int)) = (Y.num N1).vs aY cY) := Lb.vs_num Y aY cY N1
  have htl := hX.t
  have hn : (((64 : Nat) : Int) != 64) = false := rfl
  clear hK hN1
  have hl1 : layL (DS.new 16) X = (DS.new 16, 1) := by unfold layL; rw [hm, if_neg (by decide)]
  have hf1 : (layL (DS.new 16) X).1.flush.2 = 0 := by rw [hl1]; rfl
  have hwl : (layL (DS.new 16) X).1.ws.length ≤ 900000 := by rw [hl1]; simp [DS.new]
  have hl2 : (layL (DS.new 16) X).2 = 1 := by rw [hl1]
  have henc : ∀ u, Calls Tryd.prog 9 #[.agg (X.vs aX cX).toArray] u fun e w' => e = .returned (.tuple #[.slice none 0 0, .int .i64 1]) ∧ Below u.heap.size u w' := fun u => lencode_bad X hX aX cX u (by omega) hm
  clear hl1 hm
  go_enter Tryd.func7, Tryd.ntmps7
  go_wp2_with (first
    | ((with_reducible show wpList _ _ _ (Oper.mk _ (Op.box 29 (.tmp 0)) _ _ _ _ :: _) _ _); refine wpList_box0 (by rfl) 29 (.tmp 0) (by rfl) (X.vs aX cX) (by rfl) ?_; intro w1 hL1 hb1 hs1)
    | ((with_reducible show wpList _ _ _ (Oper.mk _ (Op.box 29 (.tmp 1)) _ _ _ _ :: _) _ _); refine wpList_box0 (by rfl) 29 (.tmp 1) (by rfl) (Y.vs aY cY) (by rfl) ?_; intro w2 hM2 hb2 hs2
       have hL2 := hL1.stays hb2
       rw [hs1] at hM2 hs2
       have hb2' := below_then hb1 hb2
       have hnw := dk_new 16 w2 (by omega) (by omega))
    | (go_at_call 16; go_must (refine hnw.mono ?_); rintro e w3 ⟨p, rfl, hD3, hb3⟩
       have hL3 := hL2.stays hb3
       have hM3 := hM2.stays hb3
       have hb3' := below_then hb2' hb3
       have hc36 : w3.cell? ⟨w.heap.size, 36, none⟩ = some (.slice aX 64 cX) := (hL3.cell 36).trans HM.out
       have hc0 : w3.cell? ⟨w.heap.size, 0, none⟩ = some (.int .u32 (X.t : Int)) := (hL3.cell 0).trans HT.out)
    | ((with_reducible show wpList _ _ _ (Oper.mk _ (Op.store 22 (.tmp 53) (.tmp 52)) _ _ _ _ :: _) _ _); refine wpList_store_int (by rfl) (.tmp 53) (.tmp 52) 22 (by rfl) _ 0 (by rfl) .u32 (N1 : Int) (by rfl) size_u32 hM3 (by rw [hvY0]; omega) ?_
       intro w4 hM4 hbut4 hs4
       rw [HSET.out] at hM4
       have hL4 := hL3.but hbut4 (by omega)
       have hb4 : Below w.heap.size w w4 := hb3'.trans (hbut4.below (by omega) hb3'.size)
       have hD4 : DkF w2.heap.size w4 p (DS.new 16) := (hD3.mono (G := Fresh w2.heap.size w3) (fun k hk hl => ⟨hk, hl⟩)).keep (fun k hk hl => hbut4.block k (by have := hk.1; omega) hl) |>.mono (fun k hk hl => ⟨hk.1, hl⟩)
       have hB4 : w2.heap.size ≤ w4.heap.size := by have := hb3.size; omega
       have hly := dkf_lay hD4 hB4 X hX aX cX (hBX.stays hb4) (hV.stays hb4) (by simp [DS.new]))
    | ((with_reducible show wpList _ _ _ (Oper.mk _ (Op.load 29 (.tmp 3)) _ _ _ _ :: _) _ _); refine wpList_load_blk (by rfl) (.tmp 3) 29 (by rfl) _ 0 37 (by rfl) agg_label size_label hL4 _ (whole_load hvX) hvX ?_)
    | (go_at_call_of 20 (Value.agg (X.vs aX cX).toArray); (refine hly.mono ?_); rintro e w5 ⟨rfl, hD5, hbB5⟩
       rw [hl2]
       have hL5 := hL4.belowB hbB5 (by omega)
       have hM5 := hM4.belowB hbB5 (by omega)
       have hb5 : Below w.heap.size w w5 := hb4.trans (hbB5.mono (by omega))
       have hB5 : w2.heap.size ≤ w5.heap.size := by have := hbB5.size; omega
       have hfl := dkf_flush hD5 hB5 (by exact hwl))
    | (go_at_call 22; go_must (refine hfl.mono ?_); rintro e w6 ⟨rfl, hD6, hbB6⟩
       rw [hf1]
       have hL6 := hL5.belowB hbB6 (by omega)
       have hM6 := hM5.belowB hbB6 (by omega)
       have hb6 : Below w.heap.size w w6 := hb5.trans (hbB6.mono (by omega))
       have hB6 : w2.heap.size ≤ w6.heap.size := by have := hbB6.size; omega
       have hen := henc w6)
    | ((with_reducible show wpList _ _ _ (Oper.mk _ (Op.load 29 (.tmp 3)) _ _ _ _ :: _) _ _); refine wpList_load_blk (by rfl) (.tmp 3) 29 (by rfl) _ 0 37 (by rfl) agg_label size_label hL6 _ (whole_load hvX) hvX ?_)

    | (go_at_call 9; go_must (refine hen.mono ?_); rintro e w7 ⟨rfl, hb7⟩
       have hal := lalive_run w7 (hV.stays (below_then hb6 hb7)))
    | (go_at_call 8; go_must (refine hal.mono ?_); rintro e w8 ⟨rfl, hb8⟩))
  go_ret
  exact ⟨rfl, below_then (below_then hb6 hb7) hb8⟩

set_option maxHeartbeats 100000000 in
theorem new_main (h64 : X.m.length = 64) (h200 : ms.length ≤ 200) (ht : X.t ≤ 2147483648) (hm : X.may = true) :
    Calls Tryd.prog 7 #[.agg (X.vs aX cX).toArray, .agg (Y.vs aY cY).toArray, .slice am ms.length cm] w fun e w' => e = .returned (.bool true) ∧ Below w.heap.size w w' := by
  have hvX : (X.vs aX cX).length = 37 := Lb.vs_len hX.p aX cX
  have hvY0 : (Y.vs aY cY).length = 37 := Lb.vs_len hY.p aY cY
  have HM : Hid ((X.vs aX cX)[36]? = some (.slice aX 64 cX)) := by show _ = _; rw [← h64]; exact Lb.vs_map hX.p aX cX
  have HT : Hid ((X.vs aX cX)[0]? = some (.int .u32 (X.t : Int))) := Lb.vs_txg X aX cX
  obtain ⟨K, hK⟩ : ∃ K, K = ms.length := ⟨_, rfl⟩
  have HK : Hid (K = ms.length) := hK
  have hg : ¬ (200 < K) := by omega
  rw [← hK]
  obtain ⟨N1, hN1⟩ : ∃ N1, N1 = X.t + 1 := ⟨_, rfl⟩
  have hw1 : IntKind.u32.wrap ((X.t : Int) + 1) = (N1 : Int) := by rw [hN1]; first | go_num | (rw [IntKind.wrap_u32]; omega)
  have ht2 : ¬ (2147483648 < X.t) := by omega
  have HN1 : Hid (N1 = X.t + 1) := hN1
  have hY' : (Y.num N1).ok := ⟨by show N1 < _; omega, hY.p, hY.m⟩
  have hvY : ((Y.num N1).vs aY cY).length = 37 := Lb.vs_len hY'.p aY cY
  have HSET : Hid ((Y.vs aY cY).set 0 (.int .u32 (N1 : Int)) = (Y.num N1).vs aY cY) := Lb.vs_num Y aY cY N1
  have htl := hX.t
  have hn : (((64 : Nat) : Int) != 64) = false := rfl
  clear hK hN1
  obtain ⟨hl2, hf1, hK2, hws2, hws1⟩ := lay_flush hX hm
  have hwl : (layL (DS.new 16) X).1.ws.length ≤ 900000 := by rw [hws1]; omega
  have henc : ∀ u, Below w.heap.size w u → Calls Tryd.prog 9 #[.agg (X.vs aX cX).toArray] u fun e w' => ∃ g, e = .returned (.tuple #[.slice (some ⟨g, 0, none⟩) 256 256, .int .i64 0]) ∧ Below u.heap.size u w' := fun u hu => by
    refine (lencode_ok X hX aX cX u (hBX.stays hu) (hV.stays hu) hm).mono ?_
    rintro e w' ⟨g, rfl, _, _, hb⟩
    exact ⟨g, rfl, hb⟩
  have hpl := places_run X.t hX.t
  unfold placesV at hpl
  obtain ⟨q, hq⟩ : ∃ q, q = plc X.t := ⟨_, rfl⟩
  have hq3 : q ≤ 2 := by rw [hq]; unfold plc; omega
  have hpy : plc (Y.num N1).t ≠ q + 1 ∧ plc (Y.num N1).t + 1 ≠ q + 1 := by
    rw [hq]
    show plc N1 ≠ _ ∧ plc N1 + 1 ≠ _
    rw [HN1.out]
    unfold plc
    omega
  have hK3 := hK2.rot (q : Int) (by rw [← hq]; omega) ms
  rw [← hq] at hpl hK3
  obtain ⟨q1, hq1⟩ : ∃ q1 : Nat, q1 = q + 1 := ⟨_, rfl⟩
  rw [← hq1] at hpl
  have hK4 := hK3.lay (Y.num N1) hpy.1 hpy.2
  obtain ⟨hc4, hwl4⟩ := lay_code (S := ((layL (DS.new 16) X).1.flush.1.rot (q : Int) ms).1) hY' hK3.off hK3.fused hK3.len
  have hws3 : ((layL (DS.new 16) X).1.flush.1.rot (q : Int) ms).1.ws.length = 0 := by
    unfold DS.rot
    split <;> (simp only; rw [hws2]; rfl)
  have hwl4' : (layL ((layL (DS.new 16) X).1.flush.1.rot (q : Int) ms).1 (Y.num N1)).1.ws.length ≤ 900000 := by omega
  have hency : ∀ u, Below w.heap.size w u → Calls Tryd.prog 9 #[.agg ((Y.num N1).vs aY cY).toArray] u fun e w' => ∃ a' c', e = .returned (.tuple #[.slice a' (encL (Y.num N1)).1.length c', .int .i64 ((encL (Y.num N1)).2 : Int)]) ∧ Below u.heap.size u w' := fun u hu => by
    refine (lencode_run (Y.num N1) hY' aY cY u (hBY.stays hu) (hV.stays hu)).mono ?_
    rintro e w' ⟨a', c', rfl, _, hb⟩
    exact ⟨a', c', rfl, hb⟩
  have HTY : Hid (((Y.num N1).vs aY cY)[0]? = some (.int .u32 (N1 : Int))) := Lb.vs_txg (Y.num N1) aY cY
  have HYM : Hid (∀ u, Below w.heap.size w u → Bs u aY cY (Y.num N1).m) := fun u hu => hBY.stays hu
  have hmne : ms ≠ [] → ∀ x, am = some x → x.block < w.heap.size := fun h0 x hx => hBm.lt h0 hx
  have hzl := zero_vs_len
  obtain ⟨zs, hzs⟩ : ∃ zs, zs = Lb.zero.vs none 0 := ⟨_, rfl⟩
  have HAL : Hid (∀ w : World, (Instr.alloc 29 true (.tuple #[])).run Tryd.prog w = .ok (.pointer (some ⟨w.heap.size, 0, none⟩)) (w.alloc (.cells zs.toArray 29))) := by rw [hzs]; exact alloc_label0
  rw [← hzs] at hzl
  obtain ⟨YN, hYN⟩ : ∃ YN, YN = Y.num N1 := ⟨_, rfl⟩
  have hYt : YN.t = N1 := by rw [hYN]; rfl
  rw [← hYN] at hY' hvY HSET hK4 hc4 hwl4 hwl4' hency HTY HYM
  have hcrash := fun n (hok : (layL ((layL (DS.new 16) X).1.flush.1.rot (q : Int) ms).1 YN).1.Ok n) => hK4.crash hok [223, 0]
  obtain ⟨R1, hR1⟩ : ∃ R, R = layL (DS.new 16) X := ⟨_, rfl⟩
  rw [← hR1] at hl2 hf1 hwl hK2 hK3 hK4 hc4 hwl4 hwl4' hws3 hcrash
  obtain ⟨R2, hR2⟩ : ∃ R, R = R1.1.flush := ⟨_, rfl⟩
  rw [← hR2] at hf1 hK2 hK3 hK4 hc4 hwl4 hwl4' hws3 hcrash
  obtain ⟨R3, hR3⟩ : ∃ R, R = R2.1.rot (q : Int) ms := ⟨_, rfl⟩
  rw [← hR3] at hK3 hK4 hc4 hwl4 hwl4' hws3 hcrash
  obtain ⟨R4, hR4⟩ : ∃ R, R = layL R3.1 YN := ⟨_, rfl⟩
  rw [← hR4] at hK4 hc4 hwl4 hwl4' hcrash
  have HR : Hid (R1 = layL (DS.new 16) X ∧ R2 = R1.1.flush ∧ R3 = R2.1.rot (q : Int) ms ∧ R4 = layL R3.1 YN) := ⟨hR1, hR2, hR3, hR4⟩
  have HQ : Hid (q = plc X.t) := hq
  clear hR1 hR2 hR3 hR4 hq hq1 hzs hYN hK2 hK3 hK4 hws1 hws2 hpy
  go_enter Tryd.func7, Tryd.ntmps7
  go_wp2_with (first
    | ((with_reducible show wpList _ _ _ (Oper.mk _ (Op.box 29 (.tmp 0)) _ _ _ _ :: _) _ _); refine wpList_box0 (by rfl) 29 (.tmp 0) (by rfl) (X.vs aX cX) (by rfl) ?_; intro w1 hL1 hb1 hs1)
    | ((with_reducible show wpList _ _ _ (Oper.mk _ (Op.box 29 (.tmp 1)) _ _ _ _ :: _) _ _); refine wpList_box0 (by rfl) 29 (.tmp 1) (by rfl) (Y.vs aY cY) (by rfl) ?_; intro w2 hM2 hb2 hs2
       have hL2 := hL1.stays hb2
       rw [hs1] at hM2 hs2
       have hb2' := below_then hb1 hb2
       have hnw := dk_new 16 w2 (by omega) (by omega))
    | (go_at_call 16; go_must (refine hnw.mono ?_); rintro e w3 ⟨p, rfl, hD3, hb3⟩
       have hL3 := hL2.stays hb3
       have hM3 := hM2.stays hb3
       have hb3' := below_then hb2' hb3
       have hc36 : w3.cell? ⟨w.heap.size, 36, none⟩ = some (.slice aX 64 cX) := (hL3.cell 36).trans HM.out
       have hc0 : w3.cell? ⟨w.heap.size, 0, none⟩ = some (.int .u32 (X.t : Int)) := (hL3.cell 0).trans HT.out)
    | ((with_reducible show wpList _ _ _ (Oper.mk _ (Op.store 22 (.tmp 53) (.tmp 52)) _ _ _ _ :: _) _ _); refine wpList_store_int (by rfl) (.tmp 53) (.tmp 52) 22 (by rfl) _ 0 (by rfl) .u32 (N1 : Int) (by rfl) size_u32 hM3 (by rw [hvY0]; omega) ?_
       intro w4 hM4 hbut4 hs4
       rw [HSET.out] at hM4
       have hL4 := hL3.but hbut4 (by omega)
       have hb4 : Below w.heap.size w w4 := hb3'.trans (hbut4.below (by omega) hb3'.size)
       have hD4 : DkF w2.heap.size w4 p (DS.new 16) := (hD3.mono (G := Fresh w2.heap.size w3) (fun k hk hl => ⟨hk, hl⟩)).keep (fun k hk hl => hbut4.block k (by have := hk.1; omega) hl) |>.mono (fun k hk hl => ⟨hk.1, hl⟩)
       have hB4 : w2.heap.size ≤ w4.heap.size := by have := hb3.size; omega
       have hly := dkf_lay hD4 hB4 X hX aX cX (hBX.stays hb4) (hV.stays hb4) (by simp [DS.new]))
    | ((with_reducible show wpList _ _ _ (Oper.mk _ (Op.load 29 (.tmp 3)) _ _ _ _ :: _) _ _); refine wpList_load_blk (by rfl) (.tmp 3) 29 (by rfl) _ 0 37 (by rfl) agg_label size_label hL4 _ (whole_load hvX) hvX ?_)
    | (go_at_call_of 20 (Value.agg (X.vs aX cX).toArray); (refine hly.mono ?_); rintro e w5 ⟨rfl, hD5, hbB5⟩
       rw [← HR.out.1] at hD5 ⊢
       rw [hl2]
       have hL5 := hL4.belowB hbB5 (by omega)
       have hM5 := hM4.belowB hbB5 (by omega)
       have hb5 : Below w.heap.size w w5 := hb4.trans (hbB5.mono (by omega))
       have hB5 : w2.heap.size ≤ w5.heap.size := by have := hbB5.size; omega
       have hfl := dkf_flush hD5 hB5 (by exact hwl))
    | (go_at_call 22; go_must (refine hfl.mono ?_); rintro e w6 ⟨rfl, hD6, hbB6⟩
       rw [← HR.out.2.1] at hD6 ⊢
       rw [hf1]
       have hL6 := hL5.belowB hbB6 (by omega)
       have hM6 := hM5.belowB hbB6 (by omega)
       have hb6 : Below w.heap.size w w6 := hb5.trans (hbB6.mono (by omega))
       have hB6 : w2.heap.size ≤ w6.heap.size := by have := hbB6.size; omega
       have hen := henc w6 hb6)
    | ((with_reducible show wpList _ _ _ (Oper.mk _ (Op.load 29 (.tmp 3)) _ _ _ _ :: _) _ _); refine wpList_load_blk (by rfl) (.tmp 3) 29 (by rfl) _ 0 37 (by rfl) agg_label size_label hL6 _ (whole_load hvX) hvX ?_)

    | (go_at_call 9; (refine hen.mono ?_); rintro e w7 ⟨g7, rfl, hb7⟩
       have hL7 := hL6.stays hb7
       have hM7 := hM6.stays hb7
       have hb7' := below_then hb6 hb7
       have hD7 := hD6.stays hb7
       have hc07 : w7.cell? ⟨w.heap.size, 0, none⟩ = some (.int .u32 (X.t : Int)) := (hL7.cell 0).trans HT.out)
    | (go_at_call 11; go_must (refine (hpl _).mono ?_); rintro e w8 ⟨rfl, hb8⟩)
    | ((with_reducible show wpList _ _ _ (Oper.mk (some 13) (Op.alloc 34) _ _ _ _ :: _) _ _); refine wpList_alloc0 (by rfl) 34 (by rfl) (some 13) (by rfl) _ alloc_two0 ?_; intro w9 hP9 hb9 hs9)
    | ((with_reducible show wpList _ _ _ (Oper.mk _ (Op.store 34 (.tmp 13) (.tmp 78)) _ _ _ _ :: _) _ _); refine wpList_store_blk (by rfl) (.tmp 13) (.tmp 78) 34 (by rfl) _ 0 2 (by rfl) _ (by rfl) size_two hP9 (by rfl) (by decide) (by simp [Value.oneCell']) _ (whole_store (by rfl)) ?_
       intro wA hPA hbutA hsA
       have hx0 := hPA.cell 0
       simp only [List.getElem?_cons_zero] at hx0
       have hbA : Below w7.heap.size w7 wA := (below_then hb8 hb9).trans (hbutA.below (B := w7.heap.size) hb8.size (below_then hb8 hb9).size)
       have hLA := hL7.stays hbA
       have hMA := hM7.stays hbA
       have hbA' := below_then hb7' hbA
       have hDA := hD7.stays hbA
       have hBA : w2.heap.size ≤ wA.heap.size := by have := hb7.size; have := hbA.size; omega
       have hrt := dkf_rot hDA hBA (q : Int) am cm ms (hBm.stays hbA') (by have := HK.out; omega) (fun h0 x hx => by have := hmne h0 x hx; have := hb2'.size; omega)
       rw [← HK.out] at hrt)
    | (go_at_call 24; go_must (refine hrt.mono ?_); rintro e wB ⟨⟨vB, rfl⟩, hDB, hbBB⟩
       rw [← HR.out.2.2.1] at hDB
       have hLB := hLA.belowB hbBB (by omega)
       have hMB := hMA.belowB hbBB (by omega)
       have hbB : Below w.heap.size w wB := hbA'.trans (hbBB.mono (by omega))
       have hBB : w2.heap.size ≤ wB.heap.size := by have := hbBB.size; omega
       have hly2 := dkf_lay hDB hBB YN hY' aY cY (HYM.out _ hbB) (hV.stays hbB) (by omega))
    | ((with_reducible show wpList _ _ _ (Oper.mk _ (Op.load 29 (.tmp 4)) _ _ _ _ :: _) _ _); refine wpList_load_blk (by rfl) (.tmp 4) 29 (by rfl) _ 0 37 (by rfl) agg_label size_label hMB _ (whole_load hvY) hvY ?_)
    | (go_at_call_of 20 (Value.agg (YN.vs aY cY).toArray); go_must (refine hly2.mono ?_); rintro e wC ⟨rfl, hDC, hbBC⟩
       rw [← HR.out.2.2.2] at hDC ⊢
       rw [hc4]
       have hLC := hLB.belowB hbBC (by omega)
       have hMC := hMB.belowB hbBC (by omega)
       have hbC : Below w.heap.size w wC := hbB.trans (hbBC.mono (by omega))
       have hBC : w2.heap.size ≤ wC.heap.size := by have := hbBC.size; omega
       have hcr := dkf_crash hDC hBC hwl4' (u' := wC.alloc (.cells #[.int .i64 223, .int .i64 0] 3)) ((Below.refl _ _).alloc (Nat.le_refl _) _) (some ⟨wC.heap.size, 0, none⟩) 2 [223, 0] (is_two wC) (by simp) (fun _ x hx => by cases hx; exact .inr (Nat.le_refl _)))
    | (go_at_call 26; go_must (refine hcr.mono ?_); rintro e wD ⟨⟨vD, rfl⟩, hDD, hbBD⟩))
  have hLD := (hLC.alloc (.cells #[.int .i64 223, .int .i64 0] 3)).belowB hbBD (by omega)
  have hMD := (hMC.alloc (.cells #[.int .i64 223, .int .i64 0] 3)).belowB hbBD (by omega)
  have hbD : Below w.heap.size w wD := (hbC.alloc hbC.size _).trans (hbBD.mono (by omega))
  have hBD : w2.heap.size ≤ wD.heap.size := by have := hbBD.size; simp at this; omega
  obtain ⟨n4, hok4⟩ := Dk.ok hDC
  have hK5 := hcrash n4 hok4
  obtain ⟨n5, hok5⟩ := Dk.ok hDD
  have hws5 : (R4.1.crash [223, 0]).ws.length ≤ 900000 := by simp [DS.crash]
  generalize R4.1.crash [223, 0] = S5 at *
  have hoff5 := hK5.off
  have hLEFT : Hid (w.heap.size + 1 < w2.heap.size) := by show _ < _; omega
  obtain ⟨KK, hKK⟩ : ∃ KK : Nat, KK = (encL YN).2 := ⟨_, rfl⟩
  rw [← hKK]
  rw [← hKK] at hency
  clear hL1 hL2 hL3 hL4 hL5 hL6 hL7 hLA hLB hLC hM2 hM3 hM4 hM5 hM6 hM7 hMA hMB hMC hc36 hc0 hc07 hx0 hPA hP9 hDC hDB hDA hD7 hD6 hD5 hD4 hD3 hly hly2 hfl hen hrt hcr hnw hcrash hok4 henc hpl hKK hbutA hs9 hsA hbut4 hs4
  go_loopw [15] (fun i wr => ∃ k : Nat, k ≤ 4 ∧ i = .int .i64 k ∧ DkF w2.heap.size wr p S5 ∧ Blk 29 wr w.heap.size (X.vs aX cX) ∧ Blk 29 wr (w.heap.size + 1) (YN.vs aY cY) ∧ Below w.heap.size w wr ∧ ∀ i, i < k → (decL (readW S5.laid S5.ws i)).2 = 0 → (decL (readW S5.laid S5.ws i)).1 = X ∨ (decL (readW S5.laid S5.ws i)).1.t = N1) (fun i _ => 4 - (intOf i).toNat)
  case atStart => exact ⟨0, by omega, rfl, hDD, hLD, hMD, hbD, fun i hi => absurd hi (by omega)⟩
  case round =>
    rename_i hrel
    obtain ⟨k, hk, rfl, hDr, hLr, hMr, hbr, hall⟩ := hrel
    clear hDD hLD hMD
    by_cases hlt : k < 4
    · have hd4 : decide ((k : Int) < 4) = true := by simp; omega
      have hkn : k < n5 := by have := hok5.lo; omega
      have hrd := dkf_read hDr hok5 hoff5 hkn hws5
      obtain ⟨hT3, hTr⟩ := readW_ok hok5 hkn
      obtain ⟨T, hT⟩ : ∃ T, T = readW S5.laid S5.ws k := ⟨_, rfl⟩
      rw [← hT] at hrd hT3 hTr
      have hDok := decL_ok hTr
      obtain ⟨D, hD⟩ : ∃ D, D = (decL T).1 := ⟨_, rfl⟩
      obtain ⟨E, hE⟩ : ∃ E, E = (decL T).2 := ⟨_, rfl⟩
      rw [← hD] at hDok
      have hdec : ∀ u a c, Bs u a c T → Calls Tryd.prog 14 #[.slice a 256 c] u fun e w' => ∃ a' c', e = .returned (.tuple #[.agg (D.vs a' c').toArray, .int .i64 (E : Int)]) ∧ Bs w' a' c' D.m ∧ Below u.heap.size u w' := fun u a c hb => by
        rw [hD, hE]; exact lrdecode_run a c 256 T u hT3.symm hb
      have hvD : ∀ a c, (D.vs a c).length = 37 := fun a c => Lb.vs_len hDok.p a c
      have HVD : Hid (∀ a c, ∀ v ∈ D.vs a c, v.oneCell' = true) := fun a c => Lb.vs_one _ _ _
      have hsame : ∀ (u : World) (a : Option Addr) (c : Nat), Bs u a c D.m → Bs u aX cX X.m → Calls Tryd.prog 15 #[.agg (D.vs a c).toArray, .agg (X.vs aX cX).toArray] u fun e w' => e = .returned (.bool (D.same X)) ∧ Below u.heap.size u w' := fun u a c h1 h2 => same_run D X hDok hX a aX c cX u h1 h2
      have hnext : ∀ (h : E = 0 → D = X ∨ D.t = N1), ∀ i, i < k + 1 → (decL (readW S5.laid S5.ws i)).2 = 0 → (decL (readW S5.laid S5.ws i)).1 = X ∨ (decL (readW S5.laid S5.ws i)).1.t = N1 := fun h i hi => by
        by_cases hik : i = k
        · subst hik; rw [← hT, ← hD, ← hE]; exact h
        · exact hall i (by omega)
      clear hT hD hE hall
      by_cases hE0 : E = 0
      · have heE : ((E : Int) == 0) = true := by rw [hE0]; rfl
        cases hsm : D.same X
        · rw [hsm] at hsame
          by_cases htt : D.t = N1
          · have hnx := hnext (fun _ => .inr htt)
            have hne : ((D.t : Int) != (N1 : Int)) = false := by rw [htt]; simp
            clear hE0 htt hnext
            go_wp2_with (first
              | (go_at_call 32; go_must (refine hrd.mono ?_); rintro e w4 ⟨a4, c4, rfl, hB4, hb4⟩
                 have hdc := hdec w4 a4 c4 hB4)
              | (go_at_call 14; go_must (refine hdc.mono ?_); rintro e w5 ⟨a5, c5, rfl, hB5, hb5⟩)
              | ((with_reducible show wpList _ _ _ (Oper.mk (some 18) (Op.alloc 29) _ _ _ _ :: _) _ _); refine wpList_alloc0 (by rfl) 29 (by rfl) (some 18) (by rfl) _ HAL.out ?_; intro w6 hN6 hb6 hs6)
              | ((with_reducible show wpList _ _ _ (Oper.mk _ (Op.store 29 (.tmp 18) (.tmp 111)) _ _ _ _ :: _) _ _); refine wpList_store_blk (by rfl) (.tmp 18) (.tmp 111) 29 (by rfl) _ 0 37 (by rfl) (D.vs a5 c5) (by rfl) size_label hN6 (hvD _ _) (by omega) (HVD.out _ _) _ (whole_store hzl) ?_
                 intro w7 hN7 hbut7 hs7
                 have hb7 : Below w5.heap.size w5 w7 := hb6.trans (hbut7.below (Nat.le_refl _) hb6.size)
                 have hb47 := below_then (below_then hb4 hb5) hb7
                 have hL7 := hLr.stays hb47
                 have hM7 := hMr.stays hb47
                 have hD7 := hDr.stays hb47
                 have hb7' := below_then hbr hb47
                 have hsa := hsame w7 a5 c5 (hB5.stays hb7) (hBX.stays hb7'))
              | ((with_reducible show wpList _ _ _ (Oper.mk _ (Op.load 29 (.tmp 18)) _ _ _ _ :: _) _ _); refine wpList_load_guard7 (.tmp 18) 29 (by rfl) (by kernel_rfl) _ 0 37 (by rfl) agg_label size_label hN7 _ (whole_load (hvD _ _)) (hvD _ _) ?_)
              | ((with_reducible show wpList _ _ _ (Oper.mk _ (Op.load 29 (.tmp 3)) _ _ _ _ :: _) _ _); refine wpList_load_guard7 (.tmp 3) 29 (by rfl) (by kernel_rfl) _ 0 37 (by rfl) agg_label size_label hL7 _ (whole_load hvX) hvX ?_)
              | (go_at_call 15; go_must (refine hsa.mono ?_); rintro e w8 ⟨rfl, hb8⟩
                 have hL8 := hL7.stays hb8
                 have hM8 := hM7.stays hb8
                 have hD8 := hD7.stays hb8
                 have hb8' := below_then hb7' hb8
                 have hn8 : w8.cell? ⟨w5.heap.size, 0, none⟩ = some (.int .u32 (D.t : Int)) := (hN7.stays hb8).cell 0
                 have hm8 : w8.cell? ⟨w.heap.size + 1, 0, none⟩ = some (.int .u32 (N1 : Int)) := (hM8.cell 0).trans HTY.out))
            exact ⟨⟨k + 1, by omega, by go_num, hD8, hL8, hM8, hb8', hnx⟩, by simp [intOf]; omega⟩
          · have hne : ((D.t : Int) != (N1 : Int)) = true := by simp; omega
            clear hE0 htt hnext
            go_wp2_with (first
              | (go_at_call 32; go_must (refine hrd.mono ?_); rintro e w4 ⟨a4, c4, rfl, hB4, hb4⟩
                 have hdc := hdec w4 a4 c4 hB4)
              | (go_at_call 14; go_must (refine hdc.mono ?_); rintro e w5 ⟨a5, c5, rfl, hB5, hb5⟩)
              | ((with_reducible show wpList _ _ _ (Oper.mk (some 18) (Op.alloc 29) _ _ _ _ :: _) _ _); refine wpList_alloc0 (by rfl) 29 (by rfl) (some 18) (by rfl) _ HAL.out ?_; intro w6 hN6 hb6 hs6)
              | ((with_reducible show wpList _ _ _ (Oper.mk _ (Op.store 29 (.tmp 18) (.tmp 111)) _ _ _ _ :: _) _ _); refine wpList_store_blk (by rfl) (.tmp 18) (.tmp 111) 29 (by rfl) _ 0 37 (by rfl) (D.vs a5 c5) (by rfl) size_label hN6 (hvD _ _) (by omega) (HVD.out _ _) _ (whole_store hzl) ?_
                 intro w7 hN7 hbut7 hs7
                 have hb7 : Below w5.heap.size w5 w7 := hb6.trans (hbut7.below (Nat.le_refl _) hb6.size)
                 have hb47 := below_then (below_then hb4 hb5) hb7
                 have hL7 := hLr.stays hb47
                 have hM7 := hMr.stays hb47
                 have hD7 := hDr.stays hb47
                 have hb7' := below_then hbr hb47
                 have hsa := hsame w7 a5 c5 (hB5.stays hb7) (hBX.stays hb7'))
              | ((with_reducible show wpList _ _ _ (Oper.mk _ (Op.load 29 (.tmp 18)) _ _ _ _ :: _) _ _); refine wpList_load_guard7 (.tmp 18) 29 (by rfl) (by kernel_rfl) _ 0 37 (by rfl) agg_label size_label hN7 _ (whole_load (hvD _ _)) (hvD _ _) ?_)
              | ((with_reducible show wpList _ _ _ (Oper.mk _ (Op.load 29 (.tmp 3)) _ _ _ _ :: _) _ _); refine wpList_load_guard7 (.tmp 3) 29 (by rfl) (by kernel_rfl) _ 0 37 (by rfl) agg_label size_label hL7 _ (whole_load hvX) hvX ?_)
              | (go_at_call 15; go_must (refine hsa.mono ?_); rintro e w8 ⟨rfl, hb8⟩
                 have hL8 := hL7.stays hb8
                 have hM8 := hM7.stays hb8
                 have hD8 := hD7.stays hb8
                 have hb8' := below_then hb7' hb8
                 have hn8 : w8.cell? ⟨w5.heap.size, 0, none⟩ = some (.int .u32 (D.t : Int)) := (hN7.stays hb8).cell 0
                 have hm8 : w8.cell? ⟨w.heap.size + 1, 0, none⟩ = some (.int .u32 (N1 : Int)) := (hM8.cell 0).trans HTY.out
                 have hal := lalive_run w8 (hV.stays hb8'))
              | (go_at_call 8; go_must (refine hal.mono ?_); rintro e w9 ⟨rfl, hb9⟩))
            go_ret
            exact ⟨rfl, below_then hb8' hb9⟩
        · rw [hsm] at hsame
          have hnx := hnext (fun _ => .inl (Lb.same_iff.1 hsm))
          clear hE0 hnext
          go_wp2_with (first
            | (go_at_call 32; go_must (refine hrd.mono ?_); rintro e w4 ⟨a4, c4, rfl, hB4, hb4⟩
               have hdc := hdec w4 a4 c4 hB4)
            | (go_at_call 14; go_must (refine hdc.mono ?_); rintro e w5 ⟨a5, c5, rfl, hB5, hb5⟩)
            | ((with_reducible show wpList _ _ _ (Oper.mk (some 18) (Op.alloc 29) _ _ _ _ :: _) _ _); refine wpList_alloc0 (by rfl) 29 (by rfl) (some 18) (by rfl) _ HAL.out ?_; intro w6 hN6 hb6 hs6)
            | ((with_reducible show wpList _ _ _ (Oper.mk _ (Op.store 29 (.tmp 18) (.tmp 111)) _ _ _ _ :: _) _ _); refine wpList_store_blk (by rfl) (.tmp 18) (.tmp 111) 29 (by rfl) _ 0 37 (by rfl) (D.vs a5 c5) (by rfl) size_label hN6 (hvD _ _) (by omega) (HVD.out _ _) _ (whole_store hzl) ?_
               intro w7 hN7 hbut7 hs7
               have hb7 : Below w5.heap.size w5 w7 := hb6.trans (hbut7.below (Nat.le_refl _) hb6.size)
               have hb47 := below_then (below_then hb4 hb5) hb7
               have hL7 := hLr.stays hb47
               have hM7 := hMr.stays hb47
               have hD7 := hDr.stays hb47
               have hb7' := below_then hbr hb47
               have hsa := hsame w7 a5 c5 (hB5.stays hb7) (hBX.stays hb7'))
            | ((with_reducible show wpList _ _ _ (Oper.mk _ (Op.load 29 (.tmp 18)) _ _ _ _ :: _) _ _); refine wpList_load_guard7 (.tmp 18) 29 (by rfl) (by kernel_rfl) _ 0 37 (by rfl) agg_label size_label hN7 _ (whole_load (hvD _ _)) (hvD _ _) ?_)
            | ((with_reducible show wpList _ _ _ (Oper.mk _ (Op.load 29 (.tmp 3)) _ _ _ _ :: _) _ _); refine wpList_load_guard7 (.tmp 3) 29 (by rfl) (by kernel_rfl) _ 0 37 (by rfl) agg_label size_label hL7 _ (whole_load hvX) hvX ?_)
            | (go_at_call 15; go_must (refine hsa.mono ?_); rintro e w8 ⟨rfl, hb8⟩
               have hL8 := hL7.stays hb8
               have hM8 := hM7.stays hb8
               have hD8 := hD7.stays hb8
               have hb8' := below_then hb7' hb8
               have hn8 : w8.cell? ⟨w5.heap.size, 0, none⟩ = some (.int .u32 (D.t : Int)) := (hN7.stays hb8).cell 0
               have hm8 : w8.cell? ⟨w.heap.size + 1, 0, none⟩ = some (.int .u32 (N1 : Int)) := (hM8.cell 0).trans HTY.out))
          exact ⟨⟨k + 1, by omega, by go_num, hD8, hL8, hM8, hb8', hnx⟩, by simp [intOf]; omega⟩
      · have heE : ((E : Int) == 0) = false := by simp; omega
        have hnx := hnext (fun h => absurd h hE0)
        clear hE0 hnext
        go_wp2_with (first
          | (go_at_call 32; go_must (refine hrd.mono ?_); rintro e w4 ⟨a4, c4, rfl, hB4, hb4⟩
             have hdc := hdec w4 a4 c4 hB4)
          | (go_at_call 14; go_must (refine hdc.mono ?_); rintro e w5 ⟨a5, c5, rfl, hB5, hb5⟩)
          | ((with_reducible show wpList _ _ _ (Oper.mk (some 18) (Op.alloc 29) _ _ _ _ :: _) _ _); refine wpList_alloc0 (by rfl) 29 (by rfl) (some 18) (by rfl) _ HAL.out ?_; intro w6 hN6 hb6 hs6)
          | ((with_reducible show wpList _ _ _ (Oper.mk _ (Op.store 29 (.tmp 18) (.tmp 111)) _ _ _ _ :: _) _ _); refine wpList_store_blk (by rfl) (.tmp 18) (.tmp 111) 29 (by rfl) _ 0 37 (by rfl) (D.vs a5 c5) (by rfl) size_label hN6 (hvD _ _) (by omega) (HVD.out _ _) _ (whole_store hzl) ?_
             intro w7 hN7 hbut7 hs7
             have hb7 : Below w5.heap.size w5 w7 := hb6.trans (hbut7.below (Nat.le_refl _) hb6.size)
             have hb47 := below_then (below_then hb4 hb5) hb7
             have hL7 := hLr.stays hb47
             have hM7 := hMr.stays hb47
             have hD7 := hDr.stays hb47
             have hb7' := below_then hbr hb47))
        exact ⟨⟨k + 1, by omega, by go_num, hD7, hL7, hM7, hb7', hnx⟩, by simp [intOf]; omega⟩
    · have hk4 : k = 4 := by omega
      subst hk4
      have hd4 : decide (((4 : Nat) : Int) < 4) = false := rfl
      obtain ⟨x, nn, hch, hn1, hn2, hxx⟩ := newest_pure (t := N1) hX hm (by rw [← HQ.out]; exact hK5) hall
      have hxok : x.ok := by
        have := chooseL_ok hok5
        rw [hch] at this
        exact this
      have hcc := choose_on hDr (by omega) hoff5 (hV.stays hbr)
      rw [hch] at hcc
      simp only at hcc
      have hvx : ∀ a c, (x.vs a c).length = 37 := fun a c => Lb.vs_len hxok.p a c
      have HVX : Hid (∀ a c, ∀ v ∈ x.vs a c, v.oneCell' = true) := fun a c => Lb.vs_one _ _ _
      have hg1 : decide ((nn : Int) < 1) = false := by simp; omega
      have hg2 : ¬ (2 < nn) := by omega
      have hsame : ∀ (u : World) (a : Option Addr) (c : Nat), Bs u a c x.m → Bs u aX cX X.m → Calls Tryd.prog 15 #[.agg (x.vs a c).toArray, .agg (X.vs aX cX).toArray] u fun e w' => e = .returned (.bool (x.same X)) ∧ Below u.heap.size u w' := fun u a c h1 h2 => same_run x X hxok hX a aX c cX u h1 h2
      clear hall hch
      cases hsm : x.same X
      · rw [hsm] at hsame
        have hxt : x.t = N1 := by
          rcases hxx with h1 | h1
          · rw [Lb.same_iff.2 h1] at hsm; cases hsm
          · exact h1
        have het : ((x.t : Int) == (N1 : Int)) = true := by rw [hxt]; simp
        clear hxx hxt hn1 hn2
        go_wp2_with (first
          | (go_at_call 28; go_must (refine hcc.mono ?_); rintro e w4 ⟨a4, c4, rfl, hB4, hb4⟩)
          | ((with_reducible show wpList _ _ _ (Oper.mk (some 20) (Op.alloc 29) _ _ _ _ :: _) _ _); refine wpList_alloc0 (by rfl) 29 (by rfl) (some 20) (by rfl) _ HAL.out ?_; intro w5 hN5 hb5 hs5)
          | ((with_reducible show wpList _ _ _ (Oper.mk _ (Op.store 29 (.tmp 20) (.tmp 132)) _ _ _ _ :: _) _ _); refine wpList_store_blk (by rfl) (.tmp 20) (.tmp 132) 29 (by rfl) _ 0 37 (by rfl) (x.vs a4 c4) (by rfl) size_label hN5 (hvx _ _) (by omega) (HVX.out _ _) _ (whole_store hzl) ?_
             intro w6 hN6 hbut6 hs6
             have hb6 : Below w4.heap.size w4 w6 := hb5.trans (hbut6.below (Nat.le_refl _) hb5.size)
             have hb46 := below_then hb4 hb6
             have hL6 := hLr.stays hb46
             have hM6 := hMr.stays hb46
             have hb6' := below_then hbr hb46
             have hey := hency w6 hb6')
          | ((with_reducible show wpList _ _ _ (Oper.mk _ (Op.load 29 (.tmp 4)) _ _ _ _ :: _) _ _); refine wpList_load_blk (by rfl) (.tmp 4) 29 (by rfl) _ 0 37 (by rfl) agg_label size_label hM6 _ (whole_load hvY) hvY ?_)
          | (go_at_call 9; go_must (refine hey.mono ?_); rintro e w7 ⟨a7, c7, rfl, hb7⟩
             have hal := lalive_run w7 (hV.stays (below_then hb6' hb7)))
          | (go_at_call 8; go_must (refine hal.mono ?_); rintro e w8 ⟨rfl, hb8⟩
             have hb68 := below_then hb7 hb8
             have hL8 := hL6.stays hb68
             have hM8 := hM6.stays hb68
             have hN8 := hN6.stays hb68
             have hb8' := below_then hb6' hb68
             have hsa := hsame w8 a4 c4 ((hB4.stays hb6).stays hb68) (hBX.stays hb8'))
          | ((with_reducible show wpList _ _ _ (Oper.mk _ (Op.load 29 (.tmp 20)) _ _ _ _ :: _) _ _); refine wpList_load_guard7 (.tmp 20) 29 (by rfl) (by kernel_rfl) _ 0 37 (by rfl) agg_label size_label hN8 _ (whole_load (hvx _ _)) (hvx _ _) ?_)
          | ((with_reducible show wpList _ _ _ (Oper.mk _ (Op.load 29 (.tmp 3)) _ _ _ _ :: _) _ _); refine wpList_load_guard7 (.tmp 3) 29 (by rfl) (by kernel_rfl) _ 0 37 (by rfl) agg_label size_label hL8 _ (whole_load hvX) hvX ?_)
          | (go_at_call 15; go_must (refine hsa.mono ?_); rintro e w9 ⟨rfl, hb9⟩
             have hn9 : w9.cell? ⟨w4.heap.size, 0, none⟩ = some (.int .u32 (x.t : Int)) := (hN8.stays hb9).cell 0
             have hm9 : w9.cell? ⟨w.heap.size + 1, 0, none⟩ = some (.int .u32 (N1 : Int)) := ((hM8.stays hb9).cell 0).trans HTY.out))
        go_ret
        exact ⟨by simp, below_then hb8' hb9⟩
      · rw [hsm] at hsame
        clear hxx hn1 hn2
        go_wp2_with (first
          | (go_at_call 28; go_must (refine hcc.mono ?_); rintro e w4 ⟨a4, c4, rfl, hB4, hb4⟩)
          | ((with_reducible show wpList _ _ _ (Oper.mk (some 20) (Op.alloc 29) _ _ _ _ :: _) _ _); refine wpList_alloc0 (by rfl) 29 (by rfl) (some 20) (by rfl) _ HAL.out ?_; intro w5 hN5 hb5 hs5)
          | ((with_reducible show wpList _ _ _ (Oper.mk _ (Op.store 29 (.tmp 20) (.tmp 132)) _ _ _ _ :: _) _ _); refine wpList_store_blk (by rfl) (.tmp 20) (.tmp 132) 29 (by rfl) _ 0 37 (by rfl) (x.vs a4 c4) (by rfl) size_label hN5 (hvx _ _) (by omega) (HVX.out _ _) _ (whole_store hzl) ?_
             intro w6 hN6 hbut6 hs6
             have hb6 : Below w4.heap.size w4 w6 := hb5.trans (hbut6.below (Nat.le_refl _) hb5.size)
             have hb46 := below_then hb4 hb6
             have hL6 := hLr.stays hb46
             have hM6 := hMr.stays hb46
             have hb6' := below_then hbr hb46
             have hey := hency w6 hb6')
          | ((with_reducible show wpList _ _ _ (Oper.mk _ (Op.load 29 (.tmp 4)) _ _ _ _ :: _) _ _); refine wpList_load_blk (by rfl) (.tmp 4) 29 (by rfl) _ 0 37 (by rfl) agg_label size_label hM6 _ (whole_load hvY) hvY ?_)
          | (go_at_call 9; go_must (refine hey.mono ?_); rintro e w7 ⟨a7, c7, rfl, hb7⟩
             have hal := lalive_run w7 (hV.stays (below_then hb6' hb7)))
          | (go_at_call 8; go_must (refine hal.mono ?_); rintro e w8 ⟨rfl, hb8⟩
             have hb68 := below_then hb7 hb8
             have hL8 := hL6.stays hb68
             have hM8 := hM6.stays hb68
             have hN8 := hN6.stays hb68
             have hb8' := below_then hb6' hb68
             have hsa := hsame w8 a4 c4 ((hB4.stays hb6).stays hb68) (hBX.stays hb8'))
          | ((with_reducible show wpList _ _ _ (Oper.mk _ (Op.load 29 (.tmp 20)) _ _ _ _ :: _) _ _); refine wpList_load_guard7 (.tmp 20) 29 (by rfl) (by kernel_rfl) _ 0 37 (by rfl) agg_label size_label hN8 _ (whole_load (hvx _ _)) (hvx _ _) ?_)
          | ((with_reducible show wpList _ _ _ (Oper.mk _ (Op.load 29 (.tmp 3)) _ _ _ _ :: _) _ _); refine wpList_load_guard7 (.tmp 3) 29 (by rfl) (by kernel_rfl) _ 0 37 (by rfl) agg_label size_label hL8 _ (whole_load hvX) hvX ?_)
          | (go_at_call 15; go_must (refine hsa.mono ?_); rintro e w9 ⟨rfl, hb9⟩
             have hn9 : w9.cell? ⟨w4.heap.size, 0, none⟩ = some (.int .u32 (x.t : Int)) := (hN8.stays hb9).cell 0
             have hm9 : w9.cell? ⟨w.heap.size + 1, 0, none⟩ = some (.int .u32 (N1 : Int)) := ((hM8.stays hb9).cell 0).trans HTY.out))
        go_ret
        exact ⟨by simp, below_then hb8' hb9⟩

theorem new_walk : Calls Tryd.prog 7 #[.agg (X.vs aX cX).toArray, .agg (Y.vs aY cY).toArray, .slice am ms.length cm] w fun e w' => e = .returned (.bool true) ∧ Below w.heap.size w w' := by
  by_cases h : X.m.length = 64 ∧ ms.length ≤ 200 ∧ X.t ≤ 2147483648
  · cases hm : X.may
    · exact new_bad X hX aX cX Y hY aY cY am cm ms w hBX hBY hBm hV h.1 h.2.1 h.2.2 hm
    · exact new_main X hX aX cX Y hY aY cY am cm ms w hBX hBY hBm hV h.1 h.2.1 h.2.2 hm
  · exact new_early X hX aX cX Y hY aY cY am cm ms w hBX hBY hBm hV h

end

end Go.Proofs.YthbcphalokoknaaDoor
