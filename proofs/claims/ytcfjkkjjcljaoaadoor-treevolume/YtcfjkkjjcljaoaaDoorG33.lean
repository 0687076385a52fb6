/-
  bank.Look.
-/
import Derived.Test.YtcfjkkjjcljaoaaDoorG28
import Derived.Test.YtcfjkkjjcljaoaaDoorG32
import Derived.Test.YtcfjkkjjcljaoaaDoorG21
import Derived.Test.YtcfjkkjjcljaoaaDoorG10
import Derived.Deep.QuietTactic
namespace Go.Proofs.YtcfjkkjjcljaoaaDoor
set_option linter.unusedSimpArgs false
set_option linter.unusedVariables false
set_option maxRecDepth 100000
open Go.RowKit

section
variable {B : Nat} {w w' : World} {F : Nat → Prop} {k p g : Nat} {S S' : DS} {l l' : List Bool} {t : Nat}

set_option maxHeartbeats 4000000 in
theorem blook_err (h : Bk B w F k p g S l t) (hln : S.ws.length ≤ 900000) (q : Pt) (hq : q.ok) (hne : (okK S q != 0) = true) : Calls Tryd.prog 33 #[.pointer (some ⟨k, 0, none⟩), .agg q.vs.toArray] w fun e w' => e = .returned (.tuple #[.agg (twoB false false).toArray, .int .i64 (okK S q)]) ∧ Below w.heap.size w w' := by
  have hvl := Pt.vs_len hq
  have HX : Hid ([Value.int .u32 (q.x : Int), .int .u32 (q.y : Int)] = (q.vs.drop 33).take 2) := Pt.vs_at hq
  have HH : Hid (q.h.map (Value.int .u8) = (q.vs.drop 0).take 32) := Pt.vs_hash hq
  have hix0 : ∀ u : World, (Instr.index 40 (.agg #[.int .u32 (q.x : Int), .int .u32 (q.y : Int)]) (.int .i64 0)).run Tryd.prog u = .ok (.int .u32 (q.x : Int)) u := fun u => index_agg (j := 0) Tryd.underlying40 Tryd.underlying34 (by kernel_rfl) (by omega) rfl .i64 u
  have hix1 : ∀ u : World, (Instr.index 40 (.agg #[.int .u32 (q.x : Int), .int .u32 (q.y : Int)]) (.int .i64 1)).run Tryd.prog u = .ok (.int .u32 (q.y : Int)) u := fun u => index_agg (j := 1) Tryd.underlying40 Tryd.underlying34 (by kernel_rfl) (by omega) rfl .i64 u
  have hal : ∀ u, Below w.heap.size w u → Calls Tryd.prog 67 #[.pointer (some ⟨k, 0, none⟩), .agg q.vs.toArray] u fun e w' => e = .returned (.int .i64 (okK S q)) ∧ Below u.heap.size u w' := fun u hu => allows_run (h.stays hu) hln q hq
  have hho := isHole_run q hq
  obtain ⟨vs, hvs⟩ : ∃ vs, vs = q.vs := ⟨_, rfl⟩
  obtain ⟨hs, hhs⟩ : ∃ hs, hs = q.h.map (Value.int .u8) := ⟨_, rfl⟩
  have hhl : hs.length = 32 := by rw [hhs, List.length_map, hq.len]
  rw [← hvs] at hvl hal hho HX HH ⊢
  rw [← hhs] at HH
  have HHS : Hid (hs = q.h.map (Value.int .u8)) := hhs
  clear hvs hhs
  obtain ⟨E, hE⟩ : ∃ E, E = okK S q := ⟨_, rfl⟩
  rw [← hE] at hne hal ⊢
  clear hE
  have HAL : Hid (∀ w : World, (Instr.alloc 46 true (.tuple #[])).run Tryd.prog w = .ok (.pointer (some ⟨w.heap.size, 0, none⟩)) (w.alloc (.cells (twoB false false).toArray 46))) := alloc_bools
  obtain ⟨zs, hzs⟩ : ∃ zs, zs = twoB false false := ⟨_, rfl⟩
  have hzl : zs.length = 2 := by rw [hzs]; rfl
  have hzo : ∀ v ∈ zs, v.oneCell' = true := by rw [hzs]; exact twoB_one _ _
  rw [← hzs] at HAL ⊢
  clear hzs
  go_enter Tryd.func33, Tryd.ntmps33
  go_wp2_with (first
    | ((with_reducible show wpList _ _ _ (Oper.mk _ (Op.box _ _) _ _ _ _ :: _) _ _); refine wpList_box0 (by rfl) 42 (.tmp 1) (by rfl) vs (by rfl) ?_; intro w1 hL1 hb1 hs1; clear hs1)
    | ((with_reducible show wpList _ _ _ (Oper.mk _ (Op.alloc _) _ _ _ _ :: _) _ _); refine wpList_alloc0 (by rfl) 46 (by rfl) (some 4) (by rfl) _ HAL.out ?_; intro w2 hR2 hb2 hs2
       clear hs2
       have hL2 := hL1.stays hb2)
    | ((with_reducible show wpList _ _ _ (Oper.mk _ (Op.alloc _) _ _ _ _ :: _) _ _); refine wpList_alloc0 (by rfl) 46 (by rfl) (some 6) (by rfl) _ HAL.out ?_; intro w3 hG3 hb3 hs3
       clear hs3
       have hL3 := hL2.stays hb3
       have hR3 := hR2.stays hb3
       have hb3' := below_then (below_then hb1 hb2) hb3)
    | ((with_reducible show wpList _ _ _ (Oper.mk _ (Op.load 42 _) _ _ _ _ :: _) _ _); refine wpList_load_blk (by rfl) (.tmp 3) 42 (by rfl) _ 0 35 (by rfl) agg_ptr size_ptr hL3 _ (whole_load hvl) hvl ?_)
    | (go_at_call 67; go_must (refine (hal _ hb3').mono ?_); rintro e w4 ⟨rfl, hb4⟩
       have hG4 := hG3.stays hb4
       have hR4 := hR3.stays hb4)
    | ((with_reducible show wpList _ _ _ (Oper.mk _ (Op.load 46 _) _ _ _ _ :: _) _ _); refine wpList_load_blk (by rfl) (.tmp 6) 46 (by rfl) _ 0 2 (by rfl) agg_bools size_bools hG4 _ (whole_load hzl) hzl ?_)
    | ((with_reducible show wpList _ _ _ (Oper.mk _ (Op.store _ _ _) _ _ _ _ :: _) _ _); refine wpList_store_blk (by rfl) (.tmp 4) (.tmp 15) 46 (by rfl) _ 0 2 (by rfl) zs (by rfl) size_bools hR4 hzl (by omega) hzo _ (whole_store hzl) ?_
       intro w5 hR5 hbut5 hs5))
  have hb4' := below_then hb3' hb4
  exact bodyPost_ret_blk2 rfl rfl (by rfl) (by rfl) agg_bools size_bools hR5 hzl ⟨rfl, hb4'.trans (hbut5.below (B := w.heap.size) hb1.size hb4'.size)⟩

set_option maxHeartbeats 8000000 in
theorem blook_go (h : Bk B w F k p g S l t) (hln : S.ws.length ≤ 900000) (hV : Vars w) (q : Pt) (hq : q.ok) (hok0 : okK S q = 0) :
    Calls Tryd.prog 33 #[.pointer (some ⟨k, 0, none⟩), .agg q.vs.toArray] w fun e w' => e = .returned (.tuple #[.agg (twoB (rightL S q.x q.h) (rightL S q.y q.h)).toArray, .int .i64 0]) ∧ Below w.heap.size w w' := by
  have hoff := (okK_zero hok0).1
  have hrt : ∀ u (x : Nat), Below w.heap.size w u → x < 4294967296 → Calls Tryd.prog 68 #[.pointer (some ⟨k, 0, none⟩), .int .u32 (x : Int), .agg (q.h.map (Value.int .u8)).toArray] u fun e w' => ∃ v, e = .returned (.tuple #[v, .bool (rightL S x q.h)]) ∧ Below u.heap.size u w' := fun u x hu hx => by
    cases hr : rightL S x q.h
    · refine (right_bad (h.stays hu) hln (hV.stays hu) hoff x hx q.h hq.len hr).mono ?_
      rintro e w' ⟨rfl, hb⟩
      exact ⟨_, rfl, hb⟩
    · refine (right_good (h.stays hu) hln (hV.stays hu) hoff x hx q.h hq.len hr).mono ?_
      rintro e w' ⟨a, c, rfl, _, hb⟩
      exact ⟨_, rfl, hb⟩
  have hvl := Pt.vs_len hq
  have HX : Hid ([Value.int .u32 (q.x : Int), .int .u32 (q.y : Int)] = (q.vs.drop 33).take 2) := Pt.vs_at hq
  have HH : Hid (q.h.map (Value.int .u8) = (q.vs.drop 0).take 32) := Pt.vs_hash hq
  have hix0 : ∀ u : World, (Instr.index 40 (.agg #[.int .u32 (q.x : Int), .int .u32 (q.y : Int)]) (.int .i64 0)).run Tryd.prog u = .ok (.int .u32 (q.x : Int)) u := fun u => index_agg (j := 0) Tryd.underlying40 Tryd.underlying34 (by kernel_rfl) (by omega) rfl .i64 u
  have hix1 : ∀ u : World, (Instr.index 40 (.agg #[.int .u32 (q.x : Int), .int .u32 (q.y : Int)]) (.int .i64 1)).run Tryd.prog u = .ok (.int .u32 (q.y : Int)) u := fun u => index_agg (j := 1) Tryd.underlying40 Tryd.underlying34 (by kernel_rfl) (by omega) rfl .i64 u
  have hal : ∀ u, Below w.heap.size w u → Calls Tryd.prog 67 #[.pointer (some ⟨k, 0, none⟩), .agg q.vs.toArray] u fun e w' => e = .returned (.int .i64 (okK S q)) ∧ Below u.heap.size u w' := fun u hu => allows_run (h.stays hu) hln q hq
  have hho := isHole_run q hq
  obtain ⟨vs, hvs⟩ : ∃ vs, vs = q.vs := ⟨_, rfl⟩
  obtain ⟨hs, hhs⟩ : ∃ hs, hs = q.h.map (Value.int .u8) := ⟨_, rfl⟩
  have hhl : hs.length = 32 := by rw [hhs, List.length_map, hq.len]
  rw [← hvs] at hvl hal hho HX HH ⊢
  rw [← hhs] at HH
  have HHS : Hid (hs = q.h.map (Value.int .u8)) := hhs
  clear hvs hhs
  rw [← HHS.out] at hrt
  rw [hok0] at hal
  clear hok0 hoff
  have HAL : Hid (∀ w : World, (Instr.alloc 46 true (.tuple #[])).run Tryd.prog w = .ok (.pointer (some ⟨w.heap.size, 0, none⟩)) (w.alloc (.cells (twoB false false).toArray 46))) := alloc_bools
  have hib0 : ∀ (g' : Nat) (u : World), (Instr.indexAt 46 (.pointer (some ⟨g', 0, none⟩)) (.int .i64 0)).run Tryd.prog u = .ok (.pointer (some ⟨g', 0, none⟩)) u := fun g' u => index_bools g' 0 (by omega) u
  have hib1 : ∀ (g' : Nat) (u : World), (Instr.indexAt 46 (.pointer (some ⟨g', 0, none⟩)) (.int .i64 1)).run Tryd.prog u = .ok (.pointer (some ⟨g', 1, none⟩)) u := fun g' u => index_bools g' 1 (by omega) u
  obtain ⟨X, hX⟩ : ∃ X, X = rightL S q.x q.h := ⟨_, rfl⟩
  obtain ⟨Y, hY⟩ : ∃ Y, Y = rightL S q.y q.h := ⟨_, rfl⟩
  have hcx := fun u (hu : Below w.heap.size w u) => hrt u q.x hu hq.x
  have hcy := fun u (hu : Below w.heap.size w u) => hrt u q.y hu hq.y
  rw [← hX] at hcx ⊢
  rw [← hY] at hcy ⊢
  clear hX hY hrt
  go_enter Tryd.func33, Tryd.ntmps33
  go_wp2_with (first
    | ((with_reducible show wpList _ _ _ (Oper.mk _ (Op.box _ _) _ _ _ _ :: _) _ _); refine wpList_box0 (by rfl) 42 (.tmp 1) (by rfl) vs (by rfl) ?_; intro w1 hL1 hb1 hs1; clear hs1)
    | ((with_reducible show wpList _ _ _ (Oper.mk _ (Op.alloc _) _ _ _ _ :: _) _ _); refine wpList_alloc0 (by rfl) 46 (by rfl) (some 4) (by rfl) _ HAL.out ?_; intro w2 hR2 hb2 hs2
       clear hs2
       have hL2 := hL1.stays hb2
       have hb2' := below_then hb1 hb2)
    | ((with_reducible show wpList _ _ _ (Oper.mk _ (Op.alloc _) _ _ _ _ :: _) _ _); refine wpList_alloc0 (by rfl) 46 (by rfl) (some 6) (by rfl) _ HAL.out ?_; intro w3 hG3 hb3 hs3
       clear hs3
       have hL3 := hL2.stays hb3
       have hR3 := hR2.stays hb3
       have hb3' := below_then hb2' hb3)
    | ((with_reducible show wpList _ _ _ (Oper.mk _ (Op.load 42 _) _ _ _ _ :: _) _ _); refine wpList_load_blk (by rfl) (.tmp 3) 42 (by rfl) _ 0 35 (by rfl) agg_ptr size_ptr hL3 _ (whole_load hvl) hvl ?_)
    | (go_at_call 67; go_must (refine (hal _ hb3').mono ?_); rintro e w4 ⟨rfl, hb4⟩
       have hG4 := hG3.stays hb4
       have hR4 := hR3.stays hb4
       have hL4 := hL3.stays hb4
       have hb4' := below_then hb3' hb4)
    | ((with_reducible show wpList _ _ _ (Oper.mk _ (Op.load 40 _) _ _ _ _ :: _) _ _); refine wpList_load_blk (by rfl) (.tmp 17) 40 (by rfl) _ 33 2 (by rfl) agg_at size_at hL4 _ HX.out rfl ?_))
  have hL1l := hL1.lt
  have hR2l := hR2.lt
  clear hL1 hL2 hL3 hR2 hR3 hG3 hal
  have e1 : Hid (w2.heap.size ≠ w.heap.size ∧ w2.heap.size ≠ w1.heap.size ∧ w.heap.size ≤ w1.heap.size ∧ w.heap.size ≤ w2.heap.size) := by
    have h1 := hL1l
    have h2 := hR2l
    have h3 := hb1.size
    show _ ∧ _ ∧ _ ∧ _
    omega
  go_loopw [19] (fun i wr => Blk 42 wr w.heap.size vs ∧ Below w.heap.size w wr ∧ Blk 46 wr w1.heap.size (twoB false false) ∧ ((i = .int .i64 0 ∧ Blk 46 wr w2.heap.size (twoB false false)) ∨ (i = .int .i64 1 ∧ Blk 46 wr w2.heap.size (twoB X false)) ∨ (i = .int .i64 2 ∧ Blk 46 wr w2.heap.size (twoB X Y)))) (fun i _ => 2 - (intOf i).toNat)
  case atStart => exact ⟨hL4, hb4', hR4, .inl ⟨rfl, hG4⟩⟩
  case round =>
    rename_i wr hrel
    obtain ⟨hLr, hbr, hRr, ⟨rfl, hGr⟩ | ⟨rfl, hGr⟩ | ⟨rfl, hGr⟩⟩ := hrel
    · have hcl := hcx _ hbr
      go_wp2_with (first
        | ((with_reducible show wpList _ _ _ (Oper.mk _ (Op.load 39 _) _ _ _ _ :: _) _ _); refine wpList_load_blk (by rfl) (.tmp 27) 39 (by rfl) _ 0 32 (by rfl) agg_hsh size_hash hLr _ HH.out hhl ?_)
        | (go_at_call 68; go_must (refine hcl.mono ?_); rintro e w5 ⟨v5, rfl, hb5⟩
           have hG5 := hGr.stays hb5)
        | ((with_reducible show wpList _ _ _ (Oper.mk _ (Op.store _ _ _) _ _ _ _ :: _) _ _); refine wpList_store_one (by rfl) (.tmp 32) (.tmp 31) 4 (by rfl) _ 0 (by rfl) (.bool X) (by rfl) rfl rfl size_bool1 hG5 (by decide) ?_
           intro w6 hG6 hbut6 hs6))
      have hb5' := below_then hbr hb5
      exact ⟨⟨(hLr.stays hb5).but hbut6 (Ne.symm e1.out.1), hb5'.trans (hbut6.below (B := w.heap.size) e1.out.2.2.2 hb5'.size), (hRr.stays hb5).but hbut6 (Ne.symm e1.out.2.1), .inr (.inl ⟨rfl, hG6⟩)⟩, by decide⟩
    · have hcl := hcy _ hbr
      go_wp2_with (first
        | ((with_reducible show wpList _ _ _ (Oper.mk _ (Op.load 39 _) _ _ _ _ :: _) _ _); refine wpList_load_blk (by rfl) (.tmp 27) 39 (by rfl) _ 0 32 (by rfl) agg_hsh size_hash hLr _ HH.out hhl ?_)
        | (go_at_call 68; go_must (refine hcl.mono ?_); rintro e w5 ⟨v5, rfl, hb5⟩
           have hG5 := hGr.stays hb5)
        | ((with_reducible show wpList _ _ _ (Oper.mk _ (Op.store _ _ _) _ _ _ _ :: _) _ _); refine wpList_store_one (by rfl) (.tmp 32) (.tmp 31) 4 (by rfl) _ 1 (by rfl) (.bool Y) (by rfl) rfl rfl size_bool1 hG5 (Nat.lt_add_one 1) ?_
           intro w6 hG6 hbut6 hs6))
      have hb5' := below_then hbr hb5
      exact ⟨⟨(hLr.stays hb5).but hbut6 (Ne.symm e1.out.1), hb5'.trans (hbut6.below (B := w.heap.size) e1.out.2.2.2 hb5'.size), (hRr.stays hb5).but hbut6 (Ne.symm e1.out.2.1), .inr (.inr ⟨rfl, hG6⟩)⟩, by decide⟩
    · go_wp2_with (first
        | ((with_reducible show wpList _ _ _ (Oper.mk _ (Op.load 46 _) _ _ _ _ :: _) _ _); refine wpList_load_blk (by rfl) (.tmp 6) 46 (by rfl) _ 0 2 (by rfl) agg_bools size_bools hGr _ (whole_load rfl) rfl ?_)
        | ((with_reducible show wpList _ _ _ (Oper.mk _ (Op.store _ _ _) _ _ _ _ :: _) _ _); refine wpList_store_blk (by rfl) (.tmp 4) (.tmp 34) 46 (by rfl) _ 0 2 (by rfl) (twoB X Y) (by rfl) size_bools hRr rfl (by decide) (twoB_one _ _) (twoB X Y) (whole_store rfl) ?_
           intro w5 hR5 hbut5 hs5))
      exact bodyPost_ret_blk2 rfl rfl (by rfl) (by rfl) agg_bools size_bools hR5 rfl ⟨rfl, hbr.trans (hbut5.below (B := w.heap.size) e1.out.2.2.1 hbr.size)⟩

theorem blook_run (h : Bk B w F k p g S l t) (hln : S.ws.length ≤ 900000) (hV : Vars w) (q : Pt) (hq : q.ok) :
    Calls Tryd.prog 33 #[.pointer (some ⟨k, 0, none⟩), .agg q.vs.toArray] w fun e w' => e = .returned (.tuple #[.agg (twoB (lookK S q).1.1 (lookK S q).1.2).toArray, .int .i64 (lookK S q).2]) ∧ Below w.heap.size w w' := by
  unfold lookK
  by_cases h1 : okK S q = 0
  · rw [if_neg (by simp [h1])]
    exact blook_go h hln hV q hq h1
  · rw [if_pos h1]
    exact blook_err h hln q hq (by simpa using h1)
end

end Go.Proofs.YtcfjkkjjcljaoaaDoor

/-
  A bank beside what else a law holds: each call's contract.
-/

namespace Go.Proofs.YtcfjkkjjcljaoaaDoor
set_option linter.unusedSimpArgs false
set_option linter.unusedVariables false
set_option maxRecDepth 100000
open Go.RowKit

/-- Blocks that stay. -/
structure Stay (M : Nat → Prop) (w w' : World) : Prop where
  size : w.heap.size ≤ w'.heap.size
  block : ∀ j, M j → j < w.heap.size → w'.heap[j]? = w.heap[j]?
theorem Stay.of_below {M : Nat → Prop} {w w' : World} (h : Below w.heap.size w w') : Stay M w w' := ⟨h.size, fun j _ hl => h.block j hl⟩
theorem Stay.trans {M : Nat → Prop} {a b c : World} (h : Stay M a b) (k : Stay M b c) : Stay M a c := ⟨Nat.le_trans h.size k.size, fun j hj hl => (k.block j hj (Nat.lt_of_lt_of_le hl h.size)).trans (h.block j hj hl)⟩
theorem Stay.blk {M : Nat → Prop} {w w' : World} (h : Stay M w w') {t : TypeId} {m : Nat} {vs : List Value} (hb : Blk t w m vs) (hm : M m) : Blk t w' m vs := by
  have hl := hb.lt
  unfold Blk at *
  rw [h.block m hm hl]
  exact hb
theorem Stay.bs {M : Nat → Prop} {w w' : World} (h : Stay M w w') {a : Option Addr} {c : Nat} {xs : List Int} (hB : Bs w a c xs) (hn : ∀ x, a = some x → M x.block) : Bs w' a c xs := by
  refine ⟨hB.rng, hB.cap, hB.capm, hB.nul, ?_⟩
  rcases hB.lay with h0 | ⟨b, off, hbe, hcell⟩
  · exact .inl h0
  · refine .inr ⟨b, off, hbe, fun i hi => ?_⟩
    subst hbe
    rw [World.cell?_of_block (w := w) (h.block b (hn _ rfl) (World.block_lt_of_cell? w _ (hcell i hi)))]
    exact hcell i hi

/-- A bank, all of it from w0 on, apart from the blocks of M. -/
def BS (w0 w : World) (M : Nat → Prop) (k p g : Nat) (S : DS) (l : List Bool) (t : Nat) : Prop :=
  ∃ F, Bk w0.heap.size w F k p g S l t ∧ Below w0.heap.size w0 w ∧ ∀ j, M j → ¬ F j ∧ j ≠ g ∧ j ≠ k ∧ j < w.heap.size

section
variable {w0 w w' : World} {M : Nat → Prop} {k p g : Nat} {S S' : DS} {l l' : List Bool} {t : Nat}

theorem BS.bel (h : BS w0 w M k p g S l t) : Below w0.heap.size w0 w := by obtain ⟨F, h1, h2, h3⟩ := h; exact h2
theorem BS.ok (h : BS w0 w M k p g S l t) : ∃ n, S.Ok n := by obtain ⟨F, h1, h2, h3⟩ := h; exact h1.dk.ok
theorem BS.lt (h : BS w0 w M k p g S l t) {j : Nat} (hj : M j) : j < w.heap.size := by obtain ⟨F, h1, h2, h3⟩ := h; exact (h3 j hj).2.2.2
theorem BS.mp (h : BS w0 w M k p g S l t) : Mp w g l := by obtain ⟨F, h1, h2, h3⟩ := h; exact h1.mp
theorem BS.bb (h : BS w0 w M k p g S l t) : Blk 119 w k (bankV p g t) := by obtain ⟨F, h1, h2, h3⟩ := h; exact h1.bb
theorem BS.lab (h : BS w0 w M k p g S l t) : Lab l := by obtain ⟨F, h1, h2, h3⟩ := h; exact h1.lab
theorem BS.sz (h : BS w0 w M k p g S l t) : l.length = S.laid.length / 256 := by obtain ⟨F, h1, h2, h3⟩ := h; exact h1.sz
theorem BS.dk (h : BS w0 w M k p g S l t) : ∃ F, Dk w F p S := by obtain ⟨F, h1, h2, h3⟩ := h; exact ⟨F, h1.dk⟩
theorem BS.vars (h : BS w0 w M k p g S l t) (hV : Vars w0) : Vars w := hV.below h.bel hV.size
theorem BS.stays (h : BS w0 w M k p g S l t) (hb : Below w.heap.size w w') : BS w0 w' M k p g S l t := by
  obtain ⟨F, h1, h2, h3⟩ := h
  exact ⟨F, h1.stays hb, below_then h2 hb, fun j hj => ⟨(h3 j hj).1, (h3 j hj).2.1, (h3 j hj).2.2.1, Nat.lt_of_lt_of_le (h3 j hj).2.2.2 hb.size⟩⟩
theorem BS.less (h : BS w0 w M k p g S l t) {N : Nat → Prop} (hn : ∀ j, N j → M j) : BS w0 w N k p g S l t := by
  obtain ⟨F, h1, h2, h3⟩ := h
  exact ⟨F, h1, h2, fun j hj => h3 j (hn j hj)⟩
/-- New blocks, held beside. -/
theorem BS.new (h : BS w0 w M k p g S l t) (hb : Below w.heap.size w w') {N : Nat → Prop} (hN : ∀ j, N j → M j ∨ (w.heap.size ≤ j ∧ j < w'.heap.size)) : BS w0 w' N k p g S l t := by
  obtain ⟨F, h1, h2, h3⟩ := h
  refine ⟨F, h1.stays hb, below_then h2 hb, fun j hj => ?_⟩
  rcases hN j hj with h4 | h4
  · exact ⟨(h3 j h4).1, (h3 j h4).2.1, (h3 j h4).2.2.1, Nat.lt_of_lt_of_le (h3 j h4).2.2.2 hb.size⟩
  · refine ⟨fun hf => ?_, fun e => ?_, fun e => ?_, h4.2⟩
    · have := (h1.low j hf).2; omega
    · have := h1.mp.blk.lt; omega
    · have := h1.bb.lt; omega
/-- A block that is held beside turns. -/
theorem BS.set {m : Nat} (h : BS w0 w M k p g S l t) (hb : But m w w') (hm : M m) (h0 : w0.heap.size ≤ m) : BS w0 w' M k p g S l t := by
  obtain ⟨F, h1, h2, h3⟩ := h
  obtain ⟨n1, n2, n3, _⟩ := h3 m hm
  exact ⟨F, h1.but hb n1 n2 n3, h2.trans (hb.below h0 h2.size), fun j hj => ⟨(h3 j hj).1, (h3 j hj).2.1, (h3 j hj).2.2.1, Nat.lt_of_lt_of_le (h3 j hj).2.2.2 hb.size⟩⟩
/-- What a call leaves. -/
theorem bs_then {F : Nat → Prop} (h1 : Bk w0.heap.size w F k p g S l t) (h2 : Below w0.heap.size w0 w) (h3 : ∀ j, M j → ¬ F j ∧ j ≠ g ∧ j ≠ k ∧ j < w.heap.size) (hT : BThen w0.heap.size F w w' k p g S' l' t) : BS w0 w' M k p g S' l' t ∧ Stay M w w' := by
  have hbl := hT.below h1.base (fun j hj => (h1.low j hj).1) h1.lg
  obtain ⟨F', q1, q2, q3⟩ := hT
  refine ⟨⟨F', q1, h2.trans hbl, fun j hj => ?_⟩, ⟨q2.size, fun j hj hl => q2.block j (fun e => ?_) hl⟩⟩
  · obtain ⟨n1, n2, n3, n4⟩ := h3 j hj
    refine ⟨fun hf => ?_, n2, n3, Nat.lt_of_lt_of_le n4 q2.size⟩
    rcases q3 j hf with e | e
    · exact n1 e
    · omega
  · obtain ⟨n1, n2, n3, n4⟩ := h3 j hj
    rcases e with e | e
    · exact n1 e
    · exact n2 e

theorem flush_laid {n : Nat} (hok : S.Ok n) : S.flush.1.laid.length = S.laid.length := by
  have hw : ∀ q ∈ S.ws, q.1 < n ∧ q.2.length = 256 := fun q hq => ⟨(hok.ws q hq).1, (hok.ws q hq).2.1⟩
  unfold DS.flush
  split
  · rfl
  · split
    · show (layW _ _ _ _).length = _
      rw [layW_length hok.len hw _ _ (Nat.le_refl _)]
    · rfl
theorem crash_laid {n : Nat} (hok : S.Ok n) (ks : List Int) : (S.crash ks).laid.length = S.laid.length := by
  have hw : ∀ q ∈ S.ws, q.1 < n ∧ q.2.length = 256 := fun q hq => ⟨(hok.ws q hq).1, (hok.ws q hq).2.1⟩
  show (layW _ _ _ _).length = _
  rw [layW_length hok.len hw _ _ (by omega)]
theorem rot_laid (i : Int) (ms : List Int) : (S.rot i ms).1.laid.length = S.laid.length := by
  unfold DS.rot
  split
  · rfl
  · exact xorTo_length _ _ _ _

theorem bs_put (h : BS w0 w M k p g S l t) (hV : Vars w0) (hln : S.ws.length ≤ 800000) (a : Option Addr) (c : Nat) (bs : List Int) (hB : Bs w a c bs) (hn : bs ≠ [] → ∀ x, a = some x → M x.block ∨ x.block < w0.heap.size) (cp : Int) :
    Calls Tryd.prog 30 #[.pointer (some ⟨k, 0, none⟩), .slice a bs.length c, .int .i64 cp] w fun e w' => e = .returned (.tuple #[.agg (putK S l t bs cp).2.1.vs.toArray, .int .i64 (putK S l t bs cp).2.2]) ∧ BS w0 w' M k p g (putK S l t bs cp).1.1 (putK S l t bs cp).1.2 t ∧ Stay M w w' := by
  have hVw := h.vars hV
  obtain ⟨F, h1, h2, h3⟩ := h
  refine (bput_run h1 hln hVw a c bs hB (fun h0 x hx hf => ?_) cp hV.size).mono fun e w' he => ⟨he.1, bs_then h1 h2 h3 he.2⟩
  rcases hn h0 x hx with h4 | h4
  · exact (h3 _ h4).1 hf
  · have := (h1.low _ hf).1; omega
theorem bs_fix (h : BS w0 w M k p g S l t) (hV : Vars w0) (hln : S.ws.length ≤ 800000) (q : Pt) (hq : q.ok) (a : Option Addr) (c : Nat) (bs : List Int) (hB : Bs w a c bs) (hn : bs ≠ [] → ∀ x, a = some x → M x.block ∨ x.block < w0.heap.size) :
    Calls Tryd.prog 35 #[.pointer (some ⟨k, 0, none⟩), .agg q.vs.toArray, .slice a bs.length c] w fun e w' => e = .returned (.tuple #[.int .i64 ((fixK S q bs).1.2 : Int), .int .i64 (fixK S q bs).2]) ∧ BS w0 w' M k p g (fixK S q bs).1.1 l t ∧ Stay M w w' := by
  have hVw := h.vars hV
  obtain ⟨F, h1, h2, h3⟩ := h
  refine (bfix_run h1 hln hVw hV.size q hq a c bs hB (fun h0 x hx hf => ?_)).mono fun e w' he => ⟨he.1, bs_then h1 h2 h3 he.2⟩
  rcases hn h0 x hx with h4 | h4
  · exact (h3 _ h4).1 hf
  · have := (h1.low _ hf).1; omega
theorem bs_heal (h : BS w0 w M k p g S l t) (hV : Vars w0) (hln : S.ws.length ≤ 800000) (q : Pt) (hq : q.ok) :
    Calls Tryd.prog 34 #[.pointer (some ⟨k, 0, none⟩), .agg q.vs.toArray] w fun e w' => e = .returned (.tuple #[.int .i64 ((healK S q).1.2 : Int), .int .i64 (healK S q).2]) ∧ BS w0 w' M k p g (healK S q).1.1 l t ∧ Stay M w w' := by
  have hVw := h.vars hV
  obtain ⟨F, h1, h2, h3⟩ := h
  exact (bheal_run h1 hln hVw hV.size q hq).mono fun e w' he => ⟨he.1, bs_then h1 h2 h3 he.2⟩
theorem bs_read (h : BS w0 w M k p g S l t) (hV : Vars w0) (hln : S.ws.length ≤ 800000) (q : Pt) (hq : q.ok) :
    Calls Tryd.prog 32 #[.pointer (some ⟨k, 0, none⟩), .agg q.vs.toArray] w fun e w' => ∃ a c, e = .returned (.tuple #[.slice a (readK S q).1.length c, .int .i64 (readK S q).2]) ∧ NewB w.heap.size w' a c (readK S q).1 ∧ Below w.heap.size w w' := by
  have hVw := h.vars hV
  obtain ⟨F, h1, h2, h3⟩ := h
  exact bread_run h1 (by omega) hVw q hq
theorem bs_flush (h : BS w0 w M k p g S l t) (hln : S.ws.length ≤ 800000) :
    Calls Tryd.prog 39 #[.pointer (some ⟨p, 0, none⟩)] w fun e w' => e = .returned (.int .i64 S.flush.2) ∧ BS w0 w' M k p g S.flush.1 l t ∧ Stay M w w' := by
  obtain ⟨F, h1, h2, h3⟩ := h
  obtain ⟨n, hok⟩ := h1.dk.ok
  exact (dk_flush h1.dk (by omega)).mono fun e w' he => ⟨he.1, bs_then h1 h2 h3 (bthen_dk h1 h1.base he.2 (flush_laid hok))⟩
theorem bs_rot (h : BS w0 w M k p g S l t) (i : Int) (a : Option Addr) (c : Nat) (ms : List Int) (hB : Bs w a c ms) (hm : ms.length ≤ 1000) (hn : ms ≠ [] → ∀ x, a = some x → M x.block ∨ x.block < w0.heap.size) :
    Calls Tryd.prog 36 #[.pointer (some ⟨p, 0, none⟩), .int .i64 i, .slice a ms.length c] w fun e w' => e = .returned (.int .i64 (S.rot i ms).2) ∧ BS w0 w' M k p g (S.rot i ms).1 l t ∧ Stay M w w' := by
  obtain ⟨F, h1, h2, h3⟩ := h
  refine (dk_rot h1.dk i a c ms hB (by omega) (fun h0 x hx hf => ?_)).mono fun e w' he => ⟨he.1, bs_then h1 h2 h3 (bthen_dk h1 h1.base he.2 (rot_laid i ms))⟩
  rcases hn h0 x hx with h4 | h4
  · exact (h3 _ h4).1 hf
  · have := (h1.low _ hf).1; omega
theorem bs_fuse (h : BS w0 w M k p g S l t) (f : Int) (hf : f ≤ 9223372036854775807) :
    Calls Tryd.prog 37 #[.pointer (some ⟨p, 0, none⟩), .int .i64 f] w fun e w' => (∃ v, e = .returned v) ∧ BS w0 w' M k p g (S.fuse f) l t ∧ Stay M w w' := by
  obtain ⟨F, h1, h2, h3⟩ := h
  exact (dk_fuse h1.dk f hf).mono fun e w' he => ⟨he.1, bs_then h1 h2 h3 (bthen_dk h1 h1.base he.2 rfl)⟩
theorem bs_crash (h : BS w0 w M k p g S l t) (hln : S.ws.length ≤ 800000) :
    Calls Tryd.prog 38 #[.pointer (some ⟨p, 0, none⟩), .slice none 0 0] w fun e w' => (∃ v, e = .returned v) ∧ BS w0 w' M k p g (S.crash []) l t ∧ Stay M w w' := by
  obtain ⟨F, h1, h2, h3⟩ := h
  obtain ⟨n, hok⟩ := h1.dk.ok
  exact (dk_crash h1.dk (by omega) none 0 [] (.inl rfl) (by simp) (fun h => absurd rfl h)).mono fun e w' he => ⟨he.1, bs_then h1 h2 h3 (bthen_dk h1 h1.base he.2 (crash_laid hok []))⟩
theorem bs_look (h : BS w0 w M k p g S l t) (hV : Vars w0) (hln : S.ws.length ≤ 800000) (q : Pt) (hq : q.ok) :
    Calls Tryd.prog 33 #[.pointer (some ⟨k, 0, none⟩), .agg q.vs.toArray] w fun e w' => e = .returned (.tuple #[.agg (twoB (lookK S q).1.1 (lookK S q).1.2).toArray, .int .i64 (lookK S q).2]) ∧ Below w.heap.size w w' := by
  have hVw := h.vars hV
  obtain ⟨F, h1, h2, h3⟩ := h
  exact blook_run h1 (by omega) hVw q hq
theorem map_run (hk : Blk 119 w k (bankV p g t)) : Calls Tryd.prog 14 #[.pointer (some ⟨k, 0, none⟩)] w fun e w' => e = .returned (.pointer (some ⟨g, 0, none⟩)) ∧ w' = w := by
  have hc1 : w.cell? ⟨k, 1, none⟩ = some (.pointer (some ⟨g, 0, none⟩)) := hk.cell 1
  go_enter Tryd.func14, Tryd.ntmps14
  go_wp2
  go_ret
  exact ⟨rfl, rfl⟩
theorem txg_run (hk : Blk 119 w k (bankV p g t)) : Calls Tryd.prog 17 #[.pointer (some ⟨k, 0, none⟩)] w fun e w' => e = .returned (.int .u32 (t : Int)) ∧ w' = w := by
  have hc1 : w.cell? ⟨k, 2, none⟩ = some (.int .u32 (t : Int)) := hk.cell 2
  go_enter Tryd.func17, Tryd.ntmps17
  go_wp2
  go_ret
  exact ⟨rfl, rfl⟩
theorem bs_fresh (n : Nat) (w : World) (h16 : 16 ≤ n) (h512 : n ≤ 512) : Calls Tryd.prog 7 #[.int .i64 (n : Int)] w fun e w' => ∃ k p g, e = .returned (.tuple #[.pointer (some ⟨k, 0, none⟩), .pointer (some ⟨p, 0, none⟩)]) ∧ BS w w' (fun _ => False) k p g (DS.new n) (lab n 4) 7 := by
  refine (fresh_run n w h16 h512).mono ?_
  rintro e w' ⟨k, p, g, F, rfl, hK, hb⟩
  exact ⟨k, p, g, rfl, F, hK, hb, fun j hj => hj.elim⟩
end

end Go.Proofs.YtcfjkkjjcljaoaaDoor

/-
  As UpT, where the first operations, in any order, are followed by ONE call of any effect, and that one by operations that only read.
-/

namespace Go.Proofs.YtcfjkkjjcljaoaaDoor.UpT
set_option linter.unusedSimpArgs false
set_option linter.unusedVariables false
set_option maxRecDepth 100000
open Go

section
variable {P : Program} {ops : Array Oper} {md : Region.Mode} {R : World → World → Prop} {w0 : World} {Ψ : Nat → Option (Value → World → Prop)} {S : Nat → Bool} {Qf : Act → Env → Prop}

/-- Each operation behind number n waits for one from n on. -/
def chainM (md : Region.Mode) (ops : Array Oper) (n : Nat) : Bool := (List.range ops.size).all fun t => decide (t ≤ n) || (List.range t).any fun s => decide (n ≤ s) && Region.waitsFor md ops t s
def Chain (md : Region.Mode) (ops : Array Oper) (n : Nat) : Prop := chainM md ops n = true
theorem tail_waits2 {n : Nat} {listed : Array Bool} (hs : Region.sinkB md ops n = true) (hc : Chain md ops n) (hn : n < ops.size) (inv : HeadInv md ops n listed) :
    ∀ (d i : Nat), n - i = d → i < n → listed.getD i true = false → ∀ t, n ≤ t → t ∉ Region.ready md ops listed := by
  intro d
  induction d using Nat.strongRecOn with
  | _ d ih =>
    intro i hd hi hun t ht hr
    obtain ⟨_, ot, hot, hall⟩ := mem_ready.1 hr
    have htlt : t < ops.size := (Array.getElem?_eq_some_iff.1 hot).1
    by_cases htn : t = n
    · subst htn
      have h1 := List.all_eq_true.1 hs i (List.mem_range.2 hi)
      obtain ⟨j, hj, hj2⟩ := List.any_eq_true.1 h1
      simp only [Bool.and_eq_true, decide_eq_true_eq] at hj2
      obtain ⟨oj, hoj, e, he, hb, hon⟩ := Region.waitsFor_spec hj2.2
      have hjle : j ≤ t := by have := List.mem_range.1 hj; omega
      by_cases hjt : j = t
      · subst hjt
        have : oj = ot := Option.some.inj (hoj.symm.trans hot)
        subst this
        have h2 := hall e he hb
        rw [hon, getD_both hun] at h2
        cases h2
      · cases hl : listed.getD j false with
        | true =>
          have h2 := inv.closed j oj hoj hl e he hb
          rw [hon, getD_both hun] at h2
          cases h2
        | false =>
          have hjs : j < listed.size := by rw [inv.size]; omega
          exact ih (t - j) (by omega) j rfl (by omega) (getD_in hjs hl) t (Nat.le_refl _) hr
    · have h1 := List.all_eq_true.1 hc t (List.mem_range.2 htlt)
      simp only [Bool.or_eq_true, decide_eq_true_eq] at h1
      rcases h1 with h1 | h1
      · omega
      · obtain ⟨s, hs1, hs2⟩ := List.any_eq_true.1 h1
        simp only [Bool.and_eq_true, decide_eq_true_eq] at hs2
        have hst := List.mem_range.1 hs1
        obtain ⟨o', ho', e, he, hb, hon⟩ := Region.waitsFor_spec hs2.2
        have : o' = ot := Option.some.inj (ho'.symm.trans hot)
        subst this
        have h2 := hall e he hb
        rw [hon, getD_both (inv.tail s hs2.1 (by omega))] at h2
        cases h2

def midB (md : Region.Mode) (ops : Array Oper) (n : Nat) (listed : Array Bool) : Bool := decide (Region.ready md ops listed = [n]) && Region.lexFrom md ops (ops.size - (n + 1)) (n + 1) (listed.setIfInBounds n true)
def midHead (md : Region.Mode) (ops : Array Oper) (n : Nat) : Nat → Nat → Array Bool → Bool
  | 0, _, listed => midB md ops n listed
  | f + 1, k, listed => (Region.ready md ops listed).contains k && Region.free md ops listed k && midHead md ops n f (k + 1) (listed.setIfInBounds k true)
def midAll (md : Region.Mode) (ops : Array Oper) (n : Nat) : Bool :=
  Region.noSelect ops && decide (n < ops.size) && Region.sinkB md ops n && chainM md ops n && midHead md ops n n 0 (Array.replicate ops.size false)
theorem midB_ready {n : Nat} {listed : Array Bool} (h : midB md ops n listed = true) : ∀ j ∈ Region.ready md ops listed, n ≤ j := by
  intro j hj
  simp only [midB, Bool.and_eq_true, decide_eq_true_eq] at h
  rw [h.1] at hj
  have : j = n := by simpa using hj
  omega

theorem firstP2 {n : Nat} {L : Array Bool → Act → Env → Prop} {i : Nat} {oi : Oper} {v : Value} (hi : ops[i]? = some oi) (hsel : ∀ (j : Nat) (o : Oper) cs b, ops[j]? = some o → o.op ≠ .select cs b)
    (hsk : Region.sinkB md ops n = true) (hch : Chain md ops n) (hn : n < ops.size) (hin : i < n) (hdone : ∀ listed a E, L listed a E → ∀ j ∈ Region.ready md ops listed, n ≤ j) :
    ∀ (fuel : Nat) (listed : Array Bool) (a : Act) (E : Env), HeadInv md ops n listed →
      (∀ j oj, ops[j]? = some oj → j ≠ i → listed.getD j true = false → (∀ e ∈ oj.after, Region.binds md e = true → e.on ≠ i) → oi.apart ops oj = true) →
      i ∈ Region.ready md ops listed → (∀ k, listed.getD k true = false → E k = none) → YP P ops md R w0 Ψ i oi v a E →
      anyL P ops md R w0 Ψ S n L fuel (listed.setIfInBounds i true) (a.put oi.dst v) E → anyL P ops md R w0 Ψ S n L (fuel + 1) listed a E := by
  have here : ∀ (K : Act → Env → Prop) (a : Act) (E : Env), YP P ops md R w0 Ψ i oi v a E → K (a.put oi.dst v) E → op P ops md R w0 Ψ S i K a E := by
    intro K a E hy hK
    unfold op
    simp only [hi]
    rcases hy with ⟨hw, hψ, hv⟩ | ⟨hw, rfl⟩
    · simp only [hw, if_true, hψ]; exact ⟨v, hv, hK⟩
    · simp only [hw, Bool.false_eq_true, if_false]; exact hK
  intro fuel
  induction fuel with
  | zero =>
    intro listed a E inv _ hr _ hy H hs
    have hun := (mem_ready.1 hr).1
    refine ⟨fun h => (by rw [h] at hr; cases hr), fun j hj => ?_⟩
    have hjn : j < n := by
      rcases Nat.lt_or_ge j n with h | h
      · exact h
      · exact absurd hj (tail_waits2 hsk hch hn inv _ i rfl hin hun j h)
    refine ⟨hjn, ?_⟩
    by_cases hji : j = i
    · subst hji; exact here _ _ _ hy H
    · have := hdone _ _ _ (H hs) j (ready_mono hj hji)
      omega
  | succ fuel ih =>
    intro listed a E inv hfree hr hE hy H hs
    have hun := (mem_ready.1 hr).1
    refine ⟨fun h => (by rw [h] at hr; cases hr), fun j hj => ?_⟩
    have hjn : j < n := by
      rcases Nat.lt_or_ge j n with h | h
      · exact h
      · exact absurd hj (tail_waits2 hsk hch hn inv _ i rfl hin hun j h)
    refine ⟨hjn, ?_⟩
    by_cases hji : j = i
    · subst hji; exact here _ _ _ hy H
    · have h1 := ((H hs).2 j (ready_mono hj hji)).2
      obtain ⟨hjun, oj, hoj, hall⟩ := mem_ready.1 hj
      have h2 := op_putP hoj (hfree j oj hoj hji hjun (not_waits hr hj hoj)) (fun cs b => hsel i oi cs b hi) (fun cs b => hsel j oj cs b hoj) (hE j hjun) hy h1
      have hfree' : ∀ k ok, ops[k]? = some ok → k ≠ i → (listed.setIfInBounds j true).getD k true = false →
          (∀ e ∈ ok.after, Region.binds md e = true → e.on ≠ i) → oi.apart ops ok = true := fun k ok hk hki hun hno => by
        refine hfree k ok hk hki ?_ hno
        by_cases hjk : j = k
        · subst hjk; exact hjun
        · rw [getD_set_ne true hjk] at hun; exact hun
      refine op_more (fun a' E' hE' h3 => ih (listed.setIfInBounds j true) a' E' (inv.set hj hjn) hfree' (ready_mono hr (Ne.symm hji)) (unlisted hE hE') h3.1 ?_) h2
      rw [Array.setIfInBounds_comm _ _ hji]
      exact h3.2

theorem firstM2 {n : Nat} {L : Array Bool → Act → Env → Prop} (ht : ∀ u v w, R u v → R v w → R u w) (hst : ∀ k ψ, Ψ k = some ψ → ∀ v w w', R w w' → ψ v w → ψ v w') (hR : ∀ w w', R w w' → w.heap.size ≤ w'.heap.size) {i : Nat} {oi : Oper} {ψi : Value → World → Prop} (hi : ops[i]? = some oi)
    (hsel : ∀ (j : Nat) (o : Oper) cs b, ops[j]? = some o → o.op ≠ .select cs b)
    (hsk : Region.sinkB md ops n = true) (hch : Chain md ops n) (hn : n < ops.size) (hin : i < n) (hdone : ∀ listed a E, L listed a E → ∀ j ∈ Region.ready md ops listed, n ≤ j) :
    ∀ (fuel : Nat) (listed : Array Bool) (a : Act) (E : Env), HeadInv md ops n listed →
      (∀ j oj, ops[j]? = some oj → j ≠ i → listed.getD j true = false → (∀ e ∈ oj.after, Region.binds md e = true → e.on ≠ i) → oi.apart ops oj = true) →
      i ∈ Region.ready md ops listed → (∀ k, listed.getD k true = false → E k = none) → YM P ops md R w0 Ψ S i oi ψi a E →
      (∀ v, Sat R w0 Ψ S (setE E i v) → anyL P ops md R w0 Ψ S n L fuel (listed.setIfInBounds i true) (a.put oi.dst v) (setE E i v)) → anyL P ops md R w0 Ψ S n L (fuel + 1) listed a E := by
  have here : ∀ (K : Act → Env → Prop) (a : Act) (E : Env), YM P ops md R w0 Ψ S i oi ψi a E → (∀ v, Sat R w0 Ψ S (setE E i v) → K (a.put oi.dst v) (setE E i v)) → op P ops md R w0 Ψ S i K a E := by
    intro K a E hy hK
    unfold op
    obtain ⟨hw, hψ, hv⟩ := hy
    simp only [hi, hw, if_true, hψ]
    exact ⟨hv, hK⟩
  intro fuel
  induction fuel with
  | zero =>
    intro listed a E inv _ hr hE hy H hs
    have hun := (mem_ready.1 hr).1
    refine ⟨fun h => (by rw [h] at hr; cases hr), fun j hj => ?_⟩
    have hjn : j < n := by
      rcases Nat.lt_or_ge j n with h | h
      · exact h
      · exact absurd hj (tail_waits2 hsk hch hn inv _ i rfl hin hun j h)
    refine ⟨hjn, ?_⟩
    by_cases hji : j = i
    · subst hji; exact here _ _ _ hy H
    · have := ready_mono hj hji
      obtain ⟨ws, hws, hfs⟩ := hs
      obtain ⟨v0, hv0⟩ := makes_sat ht hst hR hy.2.1 hws hfs (hy.2.2 ws (pre_of hws hfs))
      have := hdone _ _ _ (H v0 hv0 hv0) j this
      omega
  | succ fuel ih =>
    intro listed a E inv hfree hr hE hy H hs
    have hun := (mem_ready.1 hr).1
    refine ⟨fun h => (by rw [h] at hr; cases hr), fun j hj => ?_⟩
    have hjn : j < n := by
      rcases Nat.lt_or_ge j n with h | h
      · exact h
      · exact absurd hj (tail_waits2 hsk hch hn inv _ i rfl hin hun j h)
    refine ⟨hjn, ?_⟩
    by_cases hji : j = i
    · subst hji; exact here _ _ _ hy H
    · obtain ⟨hjun, oj, hoj, hall⟩ := mem_ready.1 hj
      have hnw := not_waits hr hj hoj
      have hdep : dep ops md j i = false := by
        unfold dep
        simp only [hoj, Option.map_some, Option.getD_some]
        rw [List.any_eq_false]
        intro e he hb
        simp only [Bool.and_eq_true, beq_iff_eq] at hb
        exact hnw e (by simpa using he) hb.1 hb.2
      have h2 := op_putM (N := anyL P ops md R w0 Ψ S n L fuel ((listed.setIfInBounds i true).setIfInBounds j true)) ht hst hR hoj (hfree j oj hoj hji hjun hnw) (fun cs b => hsel i oi cs b hi) (fun cs b => hsel j oj cs b hoj) hji (hE j hjun) (hE i (mem_ready.1 hr).1) hdep hs hy
        (fun v hv => ((H v hv hv).2 j (ready_mono hj hji)).2)
      have hfree' : ∀ k ok, ops[k]? = some ok → k ≠ i → (listed.setIfInBounds j true).getD k true = false →
          (∀ e ∈ ok.after, Region.binds md e = true → e.on ≠ i) → oi.apart ops ok = true := fun k ok hk hki hun hno => by
        refine hfree k ok hk hki ?_ hno
        by_cases hjk : j = k
        · subst hjk; exact hjun
        · rw [getD_set_ne true hjk] at hun; exact hun
      refine op_more (fun a' E' hE' h3 => ih (listed.setIfInBounds j true) a' E' (inv.set hj hjn) hfree' (ready_mono hr (Ne.symm hji)) (unlisted hE hE') h3.1 ?_) h2
      rw [Array.setIfInBounds_comm _ _ hji]
      exact h3.2

theorem lexM {n : Nat} (ht : ∀ u v w, R u v → R v w → R u w) (hst : ∀ k ψ, Ψ k = some ψ → ∀ v w w', R w w' → ψ v w → ψ v w') (hR : ∀ w w', R w w' → w.heap.size ≤ w'.heap.size) (hs : Region.noSelect ops = true)
    (hsk : Region.sinkB md ops n = true) (hch : Chain md ops n) (hn : n < ops.size) :
    ∀ (l : List Oper) (k : Nat) (listed : Array Bool) (a : Act) (E : Env), (∀ j, j < l.length → l[j]? = ops[k + j]?) → k + l.length = n → HeadInv md ops n listed → midHead md ops n l.length k listed = true → (∀ k, listed.getD k true = false → E k = none) →
      wpUp P ops md R w0 Ψ S Qf l k a E → anyL P ops md R w0 Ψ S n (fun listed' a' E' => midB md ops n listed' = true ∧ Qf a' E') l.length listed a E
  | [], k, _, _, _, _, hk, _, hB, _, h => by
    have : k = n := by simpa using hk
    subst this
    exact fun _ => ⟨by simpa [midHead] using hB, h⟩
  | o :: l, k, listed, a, E, hl, hk, inv, hB, hE, h => by
    have h0 : ops[k]? = some o := by simpa using (hl 0 (by simp)).symm
    simp only [List.length_cons, midHead, Bool.and_eq_true] at hB
    obtain ⟨⟨hr, hf⟩, hB'⟩ := hB
    have hkn : k < n := by simp only [List.length_cons] at hk; omega
    have hk' : k + 1 + l.length = n := by simp only [List.length_cons] at hk; omega
    have hr' : k ∈ Region.ready md ops listed := by simpa using hr
    have hl' : ∀ j, j < l.length → l[j]? = ops[k + 1 + j]? := fun j hj => by have := hl (j + 1) (by simp; omega); simpa [Nat.add_assoc, Nat.add_comm 1 j] using this
    have hd : ∀ listed' (a' : Act) (E' : Env), (midB md ops n listed' = true ∧ Qf a' E') → ∀ j ∈ Region.ready md ops listed', n ≤ j := fun listed' a' E' hL => midB_ready hL.1
    unfold wpUp at h
    by_cases hw : Region.wanted o (yielded ops a.tmps) = true
    · simp only [hw, if_true] at h
      cases hψ : Ψ k with
      | none =>
        simp only [hψ] at h
        obtain ⟨v, hv, hn'⟩ := h
        exact firstP2 h0 (Region.noSelect_spec hs) hsk hch hn hkn hd l.length listed a E inv (Region.free_spec h0 hf) hr' hE (.inl ⟨hw, hψ, hv⟩) (lexM ht hst hR hs hsk hch hn l (k + 1) _ _ E hl' hk' (inv.set hr' hkn) hB' (unlisted hE (.inl rfl)) hn')
      | some ψ =>
        simp only [hψ] at h
        obtain ⟨hm, hn'⟩ := h
        exact firstM2 ht hst hR h0 (Region.noSelect_spec hs) hsk hch hn hkn hd l.length listed a E inv (Region.free_spec h0 hf) hr' hE ⟨hw, hψ, hm⟩ (fun v hv => lexM ht hst hR hs hsk hch hn l (k + 1) _ _ _ hl' hk' (inv.set hr' hkn) hB' (unlisted hE (.inr ⟨v, rfl⟩)) (hn' v hv))
    · simp only [hw] at h
      exact firstP2 h0 (Region.noSelect_spec hs) hsk hch hn hkn hd l.length listed a E inv (Region.free_spec h0 hf) hr' hE (.inr ⟨by simpa using hw, rfl⟩) (lexM ht hst hR hs hsk hch hn l (k + 1) _ _ E hl' hk' (inv.set hr' hkn) hB' (unlisted hE (.inl rfl)) h)

/-- Only the normal end. -/
theorem wpList_one {Mid : Act → World → Prop} {K : Act → World → Prop} {Q : Exit → Act → World → Prop} {n : Nat} {o : Oper} {a : Act} {w : World} (ho : ops[n]? = some o) (h : wpList P ops (midQ Mid) [o] a w) (hK : ∀ a w, Mid a w → K a w) : wpOp P ops Q n K a w := by
  have hout : ¬ LetsOut (midQ Mid) := fun ⟨_, _, h⟩ => h
  unfold wpOp
  simp only [ho]
  unfold wpList at h
  split
  · rename_i hw
    simp only [hw, if_true] at h
    rcases h with h | h
    · refine .inl ?_
      unfold Oper.wp at *
      generalize (execOp a.eval o).run P w = r at *
      cases r with
      | ok x w' =>
        cases x <;> simp only [Oper.upon] at h ⊢
        case value u => exact hK _ _ h
        case skip => exact hK _ _ h
        case defer d => exact hK _ _ h
        case enter f args =>
          refine h.mono fun e w'' he => ?_
          cases e with
          | returned v => exact hK _ _ he
          | panicked c => exact he.elim
          | outgrown => exact (hout he).elim
        case row row args => exact h.mono fun v w'' he => hK _ _ he
      | halt x w' => cases x <;> simp only [Oper.upon] at h ⊢ <;> exact h.elim
    · exact (hout h.2).elim
  · rename_i hw
    simp only [hw] at h
    exact hK _ _ h
end

open Go.RowKit in
theorem wp_region_mid {P : Program} {id : Nat} {Q : Exit → Act → World → Prop} {a : Act} {w : World} {l : List Oper} (n : Nat) (Ψ : Nat → Option (Value → World → Prop)) (S : Nat → Bool) (hm : P.follows .mixedOrders = true) (hB : midAll .any l.toArray n = true)
    (hst : ∀ k ψ, Ψ k = some ψ → ∀ v w w', Below w.heap.size w w' → ψ v w → ψ v w')
    (h : Held (wpUp P l.toArray .any (fun w w' => Below w.heap.size w w') w Ψ S (fun a' E => ∀ w', Below w.heap.size w w' → Facts Ψ S E w' → wpList P l.toArray (midQ fun a2 w2 => wpQuiet P l.toArray (fun u => ∃ m, u = w2.drewN m) (fun a3 => ∀ u, (∃ m, u = w2.drewN m) → Q .normal a3 u) (l.drop (n + 1)) a2) ((l.drop n).take 1) a' w') (l.take n) 0 a (fun _ => none))) : (Code.region id l.toArray true).wp P Q a w := by
  have ht : ∀ u v w : World, Below u.heap.size u v → Below v.heap.size v w → Below u.heap.size u w := fun u v w h1 h2 => h1.trans (h2.mono h1.size)
  have hR : ∀ u v : World, Below u.heap.size u v → u.heap.size ≤ v.heap.size := fun u v h => h.size
  simp only [midAll, Bool.and_eq_true, decide_eq_true_eq] at hB
  obtain ⟨⟨⟨⟨hsel, hn⟩, hs⟩, hc⟩, hlex⟩ := hB
  have hn' : n < l.length := by simpa using hn
  have htl : (l.take n).length = n := by simp; omega
  have inv0 : HeadInv .any l.toArray n (Array.replicate l.toArray.size false) :=
    ⟨by simp, fun j oj _ hl => (by rw [getD_replicate_false] at hl; cases hl), fun t _ ht => getD_in (by simpa using ht) (getD_replicate_false _ _)⟩
  have H := lexM (md := .any) ht hst hR hsel hs hc hn (l.take n) 0 _ a (fun _ => none) (fun j hj => by
    have hj' : j < n := by rw [htl] at hj; exact hj
    simp [hj']) (by simpa using htl) inv0 (by rw [htl]; exact hlex) (fun _ _ => rfl) h.out
  refine wp_region_any hm ?_
  have := soundL (Q := Q) (g := l.toArray.size - n) ht hst hR (fun listed a' E w' h1 h2 hL => by
    obtain ⟨hm1, hq⟩ := hL
    simp only [midB, Bool.and_eq_true, decide_eq_true_eq] at hm1
    have hg : l.toArray.size - n = (l.toArray.size - (n + 1)) + 1 := by simp at hn ⊢; omega
    rw [hg]
    refine ⟨fun h0 => (by rw [h0] at hm1; cases hm1.1), fun i hi => ?_⟩
    rw [hm1.1] at hi
    obtain rfl : i = n := by simpa using hi
    have hdn : l.drop i = l[i] :: l.drop (i + 1) := List.drop_eq_getElem_cons hn'
    have h3 := hq w' h1 h2
    rw [hdn] at h3
    simp only [List.take_succ_cons, List.take_zero] at h3
    refine wpList_one (o := l[i]) (by simp [hn']) h3 fun a2 w2 hquiet => ?_
    have hdl : (l.drop (i + 1)).length = l.toArray.size - (i + 1) := by simp
    have hq2 := wpAnyQ_lex (C := fun u => ∃ m, u = w2.drewN m) (md := .any) hsel (l.drop (i + 1)) (i + 1) (listed.setIfInBounds i true) a2 (fun j => by simp [List.getElem?_drop]) (by rw [hdl]; exact hm1.2) hquiet
    rw [hdl] at hq2
    exact wpAny_of_quiet (Q := fun a3 => ∀ u, (∃ m, u = w2.drewN m) → Q .normal a3 u) (fun _ u hu h => h u hu) _ _ _ _ ⟨0, rfl⟩ hq2) _ _ _ _ { w with drawn := w.drawn + 1 } (Below.refl _ _).drew ⟨fun k v ψ hk _ => (by cases hk), fun k g _ hk => (by cases hk), fun k j g g' _ _ _ hk _ => (by cases hk)⟩ H
  rw [htl, show n + (l.toArray.size - n) = l.toArray.size by omega] at this
  exact this

end Go.Proofs.YtcfjkkjjcljaoaaDoor.UpT
