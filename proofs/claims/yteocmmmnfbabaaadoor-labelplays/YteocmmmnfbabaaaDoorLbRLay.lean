/-
  The walk over the document's Lay.
-/
import Derived.Test.YteocmmmnfbabaaaDoorLbLay
import Derived.Test.YteocmmmnfbabaaaDoorLbRChoose
namespace Go.Proofs.YteocmmmnfbabaaaDoor
set_option linter.unusedSimpArgs false
set_option linter.unusedVariables false
set_option maxRecDepth 100000
open Go.RowKit

section
variable {w : World} {G : Nat → Prop} {cs : List Value} {S : DS}

def rz : List Value := [.slice none 0 0, .slice none 0 0, .bool false, .int .i64 0, .bool false]
theorem alloc_rz (w : World) : (Instr.alloc 48 true (.tuple #[])).run Tryd.prog w = .ok (.pointer (some ⟨w.heap.size, 0, none⟩)) (w.alloc (.cells rz.toArray 48)) := by kernel_rfl

theorem RThen.after {G : Nat → Prop} {w w1 w2 : World} {cs : List Value} {S : DS} (hb : Below w.heap.size w w1) (h : RThen G w1 w2 cs S) : RThen G w w2 cs S :=
  ⟨h.1.keep (fun k hk _ => ⟨rfl, hk.elim .inl (fun h2 => .inr (by have := hb.size; omega))⟩), below_then hb h.2⟩
theorem RThen.then {G : Nat → Prop} {w w1 w2 : World} {cs cs' : List Value} {S S' : DS} (h : RThen G w w1 cs S) (h2 : RThen (fun k => G k ∨ w.heap.size ≤ k) w1 w2 cs' S') : RThen G w w2 cs' S' := by
  refine ⟨h2.1.keep (fun k hk _ => ⟨rfl, ?_⟩), below_then h.2 h2.2⟩
  rcases hk with (hk | hk) | hk
  · exact .inl hk
  · exact .inr hk
  · exact .inr (by have := h.2.size; omega)
/-- A block from w on that is none of the disk's turns. -/
theorem RThen.but {G : Nat → Prop} {w w1 w2 : World} {cs : List Value} {S : DS} {g : Nat} (h : RThen G w w1 cs S) (hb : But g w1 w2) (hg : w.heap.size ≤ g) {G' : Nat → Prop} (hR : Rf w1 G' cs S) (hn : ¬ G' g) (hG' : ∀ k, G' k → G k ∨ w.heap.size ≤ k) : RThen G w w2 cs S :=
  ⟨hR.keep (fun k hk hl => ⟨hb.block k (fun e => hn (e ▸ hk)) hl, hG' k hk⟩), h.2.trans (hb.below hg h.2.size)⟩

set_option maxHeartbeats 20000000 in
theorem rlay_bad (h : Rf w G cs S) (l : Lb) (hl : l.ok) (a : Option Addr) (c : Nat) (hB : Bs w a c l.m) (hm : l.may = false) :
    Calls Tryd.prog 21 #[.agg cs.toArray, .agg (l.vs a c).toArray] w fun e w' => e = .returned (.tuple #[.agg cs.toArray, .int .i64 1]) ∧ Below w.heap.size w w' := by
  have hvl := Lb.vs_len hl.p a c
  obtain ⟨hcl, hco⟩ := h.cells5
  have henc : ∀ u, Below w.heap.size w u → Calls Tryd.prog 10 #[.agg (l.vs a c).toArray] u fun e w' => e = .returned (.tuple #[.slice none 0 0, .int .i64 1]) ∧ Below u.heap.size u w' := fun u hu => lrencode_bad l hl a c u (by have h1 := hB.cap; have h2 := hB.capm; unfold maxLen at h2; omega) hm
  obtain ⟨vs, hvs⟩ : ∃ vs, vs = l.vs a c := ⟨_, rfl⟩
  rw [← hvs] at hvl henc ⊢
  have hrz : rz.length = 5 := rfl
  have HRZ : Hid (∀ w : World, (Instr.alloc 48 true (.tuple #[])).run Tryd.prog w = .ok (.pointer (some ⟨w.heap.size, 0, none⟩)) (w.alloc (.cells rz.toArray 48))) := alloc_rz
  generalize rz = zs at *
  clear hvs
  go_enter Tryd.func21, Tryd.ntmps21
  go_wp2_with (first
    | ((with_reducible show wpList _ _ _ (Oper.mk _ (Op.box _ _) _ _ _ _ :: _) _ _); refine wpList_box0 (by rfl) 48 (.tmp 0) (by rfl) cs (by rfl) ?_; intro w1 hK1 hb1 hs1)
    | ((with_reducible show wpList _ _ _ (Oper.mk _ (Op.box _ _) _ _ _ _ :: _) _ _); refine wpList_box0 (by rfl) 29 (.tmp 1) (by rfl) vs (by rfl) ?_; intro w2 hL2 hb2 hs2
       have hK2 := hK1.stays hb2
       rw [hs1] at hL2 hs2)
    | ((with_reducible show wpList _ _ _ (Oper.mk _ (Op.alloc _) _ _ _ _ :: _) _ _); refine wpList_alloc0 (by rfl) 48 (by rfl) (some 4) (by rfl) _ HRZ.out ?_; intro w3 hR3 hb3 hs3
       have hK3 := hK2.stays hb3
       have hL3 := hL2.stays hb3
       rw [hs2] at hR3 hs3
       have hb3' := below_then (below_then hb1 hb2) hb3
       have he3 := henc w3 hb3')
    | ((with_reducible show wpList _ _ _ (Oper.mk _ (Op.load _ _) _ _ _ _ :: _) _ _); refine wpList_load_blk (by rfl) (.tmp 3) 29 (by rfl) _ 0 37 (by rfl) agg_label size_label hL3 _ (whole_load hvl) hvl ?_)
    | (go_at_call 10; go_must (refine he3.mono ?_); rintro e w4 ⟨rfl, hb4⟩
       have hK4 := hK3.stays hb4
       have hR4 := hR3.stays hb4)
    | ((with_reducible show wpList _ _ _ (Oper.mk _ (Op.load _ _) _ _ _ _ :: _) _ _); refine wpList_load_blk (by rfl) (.tmp 2) 48 (by rfl) _ 0 5 (by rfl) rAgg rSize hK4 _ (whole_load hcl) hcl ?_)
    | ((with_reducible show wpList _ _ _ (Oper.mk _ (Op.store _ _ _) _ _ _ _ :: _) _ _); refine wpList_store_blk (by rfl) (.tmp 4) (.tmp 16) 48 (by rfl) _ 0 5 (by rfl) cs (by rfl) rSize hR4 hcl (by omega) hco _ (whole_store hrz) ?_
       intro w5 hR5 hbut5 hs5))
  have hb4' := below_then hb3' hb4
  exact bodyPost_ret_blk2 rfl rfl (by rfl) (by rfl) rAgg rSize hR5 hcl ⟨rfl, hb4'.trans (hbut5.below (by omega) hb4'.size)⟩

set_option maxHeartbeats 40000000 in
theorem rlay_ok (h : Rf w G cs S) (hG : ∀ k, G k → k < w.heap.size) (l : Lb) (hl : l.ok) (a : Option Addr) (c : Nat) (hB : Bs w a c l.m) (hlen : S.ws.length ≤ 800000) (hm : l.may = true) :
    Calls Tryd.prog 21 #[.agg cs.toArray, .agg (l.vs a c).toArray] w fun e w' => ∃ cs', e = .returned (.tuple #[.agg cs'.toArray, .int .i64 (layL S l).2]) ∧ RThen G w w' cs' (layL S l).1 := by
  have hvl := Lb.vs_len hl.p a c
  obtain ⟨hcl, hco⟩ := h.cells5
  have h256 := Lb.bytes_len hl.p (Lb.may_parts hm).2
  have hbr := Lb.bytes_rng hl
  have hpl := rplaces_run l.t hl.t
  have HT : Hid ((l.vs a c)[0]? = some (.int .u32 (l.t : Int))) := Lb.vs_txg l a c
  have henc : ∀ u, Below w.heap.size w u → Calls Tryd.prog 10 #[.agg (l.vs a c).toArray] u fun e w' => ∃ aE cE, e = .returned (.tuple #[.slice aE 256 cE, .int .i64 0]) ∧ (Bs w' aE cE l.bytes ∧ ∀ x, aE = some x → u.heap.size ≤ x.block) ∧ Below u.heap.size u w' := fun u hu => by
    refine (lrencode_ok l hl a c u (hB.stays hu) hm).mono ?_
    rintro e w' ⟨v, rfl, ho, hb⟩
    obtain ⟨aE, cE, rfl, hBE⟩ := Bs.of_owns ho hbr
    rw [h256] at ho ⊢
    exact ⟨aE, cE, rfl, ⟨hBE, fun x hx => (World.ownsRow.lt ho x.block (by rw [hx]; rfl)).1⟩, hb⟩
  obtain ⟨vs, hvs⟩ : ∃ vs, vs = l.vs a c := ⟨_, rfl⟩
  rw [← hvs] at hvl henc HT ⊢
  have hrz : rz.length = 5 := rfl
  have HRZ : Hid (∀ w : World, (Instr.alloc 48 true (.tuple #[])).run Tryd.prog w = .ok (.pointer (some ⟨w.heap.size, 0, none⟩)) (w.alloc (.cells rz.toArray 48))) := alloc_rz
  generalize rz = zs at *
  unfold layL
  rw [hm, if_pos rfl]
  obtain ⟨bs, hbs⟩ : ∃ bs, bs = l.bytes := ⟨_, rfl⟩
  rw [← hbs] at h256 hbr henc ⊢
  obtain ⟨q, hq⟩ : ∃ q, q = plc l.t := ⟨_, rfl⟩
  obtain ⟨q1, hq1⟩ : ∃ q1 : Nat, q1 = q + 1 := ⟨_, rfl⟩
  have hqne : q ≠ q1 := by omega
  unfold placesV at hpl
  rw [← hq, ← hq1] at hpl
  rw [← hq, ← hq1]
  have hwl : (S.write (q : Int) bs).1.ws.length ≤ 900000 := by have := write_len S (q : Int) bs; omega
  clear hvs hbs hq hq1 hm
  have hput : ∀ (i : Nat) (S : DS), S.ws.length ≤ 900000 → ∀ (u : World) (cs : List Value) (G : Nat → Prop) (aE : Option Addr) (cE : Nat), Rf u G cs S → Bs u aE cE bs → Calls Tryd.prog 50 #[.agg cs.toArray, .int .i64 (i : Int), .slice aE 256 cE] u fun e w' => ∃ cs', e = .returned (.tuple #[.agg cs'.toArray, .int .i64 (S.write (i : Int) bs).2]) ∧ RThen G u w' cs' (S.write (i : Int) bs).1 := fun i S hS u cs G aE cE hR hBu => by
    have := rput_run hR (i : Int) aE cE bs hBu hS
    rwa [h256] at this
  have hput1 := hput q S (by omega)
  have hput2 := hput q1 _ hwl
  obtain ⟨S1, hS1⟩ : ∃ S1, S1 = (S.write (q : Int) bs).1 := ⟨_, rfl⟩
  obtain ⟨e1, he1'⟩ : ∃ e1, e1 = (S.write (q : Int) bs).2 := ⟨_, rfl⟩
  have HW : Hid (S.write (q : Int) bs = (S1, e1)) := by show _ = _; rw [hS1, he1']
  rw [← hS1] at hput2
  rw [← hS1, ← he1'] at hput1
  rw [HW.out]
  clear hS1 he1' HW hwl hput
  obtain ⟨S2, hS2⟩ : ∃ S2, S2 = (S1.write (q1 : Int) bs).1 := ⟨_, rfl⟩
  obtain ⟨e2, he2⟩ : ∃ e2, e2 = (S1.write (q1 : Int) bs).2 := ⟨_, rfl⟩
  rw [← hS2, ← he2] at hput2
  have HW2 : Hid (S1.write (q1 : Int) bs = (S2, e2)) := by show _ = _; rw [hS2, he2]
  rw [HW2.out]
  clear hS2 he2 HW2
  by_cases h0 : e1 = 0
  · rw [if_pos (show (S1, e1).2 = 0 from h0)]
    have hn0 : (e1 != 0) = false := by rw [h0]; rfl
    clear h0
    go_enter Tryd.func21, Tryd.ntmps21
    go_wp2_with (first
      | ((with_reducible show wpList _ _ _ (Oper.mk _ (Op.box _ _) _ _ _ _ :: _) _ _); refine wpList_box0 (by rfl) 48 (.tmp 0) (by rfl) cs (by rfl) ?_; intro w1 hK1 hb1 hs1)
      | ((with_reducible show wpList _ _ _ (Oper.mk _ (Op.box _ _) _ _ _ _ :: _) _ _); refine wpList_box0 (by rfl) 29 (.tmp 1) (by rfl) vs (by rfl) ?_; intro w2 hL2 hb2 hs2
         have hK2 := hK1.stays hb2
         rw [hs1] at hL2 hs2)
      | ((with_reducible show wpList _ _ _ (Oper.mk _ (Op.alloc _) _ _ _ _ :: _) _ _); refine wpList_alloc0 (by rfl) 48 (by rfl) (some 4) (by rfl) _ HRZ.out ?_; intro w3 hR3 hb3 hs3
         have hK3 := hK2.stays hb3
         have hL3 := hL2.stays hb3
         rw [hs2] at hR3 hs3
         have hb3' := below_then (below_then hb1 hb2) hb3
         have he3 := henc w3 hb3')
      | ((with_reducible show wpList _ _ _ (Oper.mk _ (Op.load _ _) _ _ _ _ :: _) _ _); refine wpList_load_blk (by rfl) (.tmp 3) 29 (by rfl) _ 0 37 (by rfl) agg_label size_label hL3 _ (whole_load hvl) hvl ?_)
      | (go_at_call 10; go_must (refine he3.mono ?_); rintro e w4 ⟨aE, cE, rfl, ⟨hB4, hEn⟩, hb4⟩
         have hK4 := hK3.stays hb4
         have hR4 := hR3.stays hb4
         have hL4 := hL3.stays hb4
         have hc0 : w4.cell? ⟨w.heap.size + 1, 0, none⟩ = some (.int .u32 (l.t : Int)) := (hL4.cell 0).trans HT.out)
      | (go_at_call 12; go_must (refine (hpl _).mono ?_); rintro e w5 ⟨rfl, hb5⟩
         have hK5 := hK4.stays hb5
         have hR5 := hR4.stays hb5)
      | ((with_reducible show wpList _ _ _ (Oper.mk _ (Op.alloc _) _ _ _ _ :: _) _ _); refine wpList_alloc0 (by rfl) 34 (by rfl) (some 8) (by rfl) _ alloc_two0 ?_; intro w6 hP6 hb6 hs6)
      | ((with_reducible show wpList _ _ _ (Oper.mk _ (Op.store _ _ _) _ _ _ _ :: _) _ _); refine wpList_store_blk (by rfl) (.tmp 8) (.tmp 20) 34 (by rfl) _ 0 2 (by rfl) _ (by rfl) size_two hP6 (by rfl) (by decide) (by simp [Value.oneCell']) _ (whole_store (by rfl)) ?_
         intro w7 hP7 hbut7 hs7
         have hx0 := hP7.cell 0
         simp only [List.getElem?_cons_zero, List.getElem?_cons_succ] at hx0
         have hK7 := (hK5.stays hb6).but hbut7 (by have := hK5.lt; omega)
         have hR7 := (hR5.stays hb6).but hbut7 (by have := hR5.lt; omega)
         have hb7 : Below w4.heap.size w4 w7 := (below_then hb5 hb6).trans (hbut7.below (B := w4.heap.size) hb5.size (below_then hb5 hb6).size)
         have hb7' := below_then (below_then hb3' hb4) hb7
         have hp7 := hput1 w7 cs G aE cE (h.stays hb7') (hB4.stays hb7))
      | ((with_reducible show wpList _ _ _ (Oper.mk _ (Op.load _ _) _ _ _ _ :: _) _ _); refine wpList_load_blk (by rfl) (.tmp 2) 48 (by rfl) _ 0 5 (by rfl) rAgg rSize hK7 _ (whole_load hcl) hcl ?_)
      | (go_at_call_of 50 (Value.int IntKind.i64 (q : Int)); (refine hp7.mono ?_); rintro e w8 ⟨cs8, rfl, ht8⟩
         have hK8 := hK7.stays ht8.2
         have hR8 := hR7.stays ht8.2
         have hP8 := hP7.stays ht8.2
         obtain ⟨hcl8, hco8⟩ := ht8.1.cells5)
      | ((with_reducible show wpList _ _ _ (Oper.mk _ (Op.store _ _ _) _ _ _ _ :: _) _ _); refine wpList_store_blk (by rfl) (.tmp 2) (.tmp 27) 48 (by rfl) _ 0 5 (by rfl) cs8 (by rfl) rSize hK8 hcl8 (by omega) hco8 _ (whole_store hcl) ?_
         intro w9 hK9 hbut9 hs9
         have hR9 := hR8.but hbut9 (by omega)
         have hP9 := hP8.but hbut9 (by have := hK5.lt; have := hb6.size; have := hb5.size; omega)
         have hx1 := hP9.cell 1
         simp only [List.getElem?_cons_zero, List.getElem?_cons_succ] at hx1
         have hn8 : ¬ (G w.heap.size ∨ w7.heap.size ≤ w.heap.size) := by
           rintro (hk | hk)
           · have := hG _ hk; omega
           · have := hK7.lt; omega
         have ht9r : Rf w9 (fun k => G k ∨ w7.heap.size ≤ k) cs8 S1 := ht8.1.keep (fun k hk hl => ⟨hbut9.block k (fun e => hn8 (e ▸ hk)) hl, hk⟩)
         have ht9 : RThen G w w9 cs8 S1 := (RThen.after hb7' ht8).but hbut9 (Nat.le_refl _) ht8.1 hn8 (fun k hk => hk.elim .inl (fun h2 => .inr (by have := hb7'.size; omega)))
         have hB9 : Bs w9 aE cE bs := ((hB4.stays hb7).stays ht8.2).but hbut9 (fun h0 b hb => by have := hEn b hb; omega)
         have hp9 := hput2 w9 cs8 _ aE cE ht9r hB9)
      | ((with_reducible show wpList _ _ _ (Oper.mk _ (Op.load _ _) _ _ _ _ :: _) _ _); refine wpList_load_blk (by rfl) (.tmp 2) 48 (by rfl) _ 0 5 (by rfl) rAgg rSize hK9 _ (whole_load hcl8) hcl8 ?_)
      | (go_at_call_of 50 (Value.int IntKind.i64 (q1 : Int)); (refine hp9.mono ?_); rintro e wB ⟨csB, rfl, htB⟩
         have hRB := hR9.stays htB.2
         obtain ⟨hclB, hcoB⟩ := htB.1.cells5)
      | ((with_reducible show wpList _ _ _ (Oper.mk _ (Op.store _ _ _) _ _ _ _ :: _) _ _); refine wpList_store_blk (by rfl) (.tmp 4) (.tmp 38) 48 (by rfl) _ 0 5 (by rfl) csB (by rfl) rSize hRB hclB (by omega) hcoB _ (whole_store hrz) ?_
         intro wC hRC hbutC hsC))
    refine bodyPost_ret_blk2 rfl rfl (by rfl) (by rfl) rAgg rSize hRC hclB ⟨csB, rfl, ?_⟩
    have hmo : ∀ k, ((G k ∨ w7.heap.size ≤ k) ∨ w9.heap.size ≤ k) → G k ∨ w.heap.size ≤ k := fun k hk => by
      have := hb7'.size
      have := ht9.2.size
      rcases hk with (hk | hk) | hk
      · exact .inl hk
      · exact .inr (by omega)
      · exact .inr (by omega)
    have htW : RThen G w wB csB S2 := ⟨htB.1.keep (fun k hk _ => ⟨rfl, hmo k hk⟩), below_then ht9.2 htB.2⟩
    refine htW.but hbutC (by omega) htB.1 ?_ hmo
    rintro ((hk | hk) | hk)
    · have := hG _ hk; omega
    · have := hR7.lt; omega
    · have := hR9.lt; omega
  · rw [if_neg (show ¬ (S1, e1).2 = 0 from h0)]
    have hn0 : (e1 != 0) = true := by simpa using h0
    clear h0
    go_enter Tryd.func21, Tryd.ntmps21
    go_wp2_with (first
      | ((with_reducible show wpList _ _ _ (Oper.mk _ (Op.box _ _) _ _ _ _ :: _) _ _); refine wpList_box0 (by rfl) 48 (.tmp 0) (by rfl) cs (by rfl) ?_; intro w1 hK1 hb1 hs1)
      | ((with_reducible show wpList _ _ _ (Oper.mk _ (Op.box _ _) _ _ _ _ :: _) _ _); refine wpList_box0 (by rfl) 29 (.tmp 1) (by rfl) vs (by rfl) ?_; intro w2 hL2 hb2 hs2
         have hK2 := hK1.stays hb2
         rw [hs1] at hL2 hs2)
      | ((with_reducible show wpList _ _ _ (Oper.mk _ (Op.alloc _) _ _ _ _ :: _) _ _); refine wpList_alloc0 (by rfl) 48 (by rfl) (some 4) (by rfl) _ HRZ.out ?_; intro w3 hR3 hb3 hs3
         have hK3 := hK2.stays hb3
         have hL3 := hL2.stays hb3
         rw [hs2] at hR3 hs3
         have hb3' := below_then (below_then hb1 hb2) hb3
         have he3 := henc w3 hb3')
      | ((with_reducible show wpList _ _ _ (Oper.mk _ (Op.load _ _) _ _ _ _ :: _) _ _); refine wpList_load_blk (by rfl) (.tmp 3) 29 (by rfl) _ 0 37 (by rfl) agg_label size_label hL3 _ (whole_load hvl) hvl ?_)
      | (go_at_call 10; go_must (refine he3.mono ?_); rintro e w4 ⟨aE, cE, rfl, ⟨hB4, hEn⟩, hb4⟩
         have hK4 := hK3.stays hb4
         have hR4 := hR3.stays hb4
         have hL4 := hL3.stays hb4
         have hc0 : w4.cell? ⟨w.heap.size + 1, 0, none⟩ = some (.int .u32 (l.t : Int)) := (hL4.cell 0).trans HT.out)
      | (go_at_call 12; go_must (refine (hpl _).mono ?_); rintro e w5 ⟨rfl, hb5⟩
         have hK5 := hK4.stays hb5
         have hR5 := hR4.stays hb5)
      | ((with_reducible show wpList _ _ _ (Oper.mk _ (Op.alloc _) _ _ _ _ :: _) _ _); refine wpList_alloc0 (by rfl) 34 (by rfl) (some 8) (by rfl) _ alloc_two0 ?_; intro w6 hP6 hb6 hs6)
      | ((with_reducible show wpList _ _ _ (Oper.mk _ (Op.store _ _ _) _ _ _ _ :: _) _ _); refine wpList_store_blk (by rfl) (.tmp 8) (.tmp 20) 34 (by rfl) _ 0 2 (by rfl) _ (by rfl) size_two hP6 (by rfl) (by decide) (by simp [Value.oneCell']) _ (whole_store (by rfl)) ?_
         intro w7 hP7 hbut7 hs7
         have hx0 := hP7.cell 0
         simp only [List.getElem?_cons_zero, List.getElem?_cons_succ] at hx0
         have hK7 := (hK5.stays hb6).but hbut7 (by have := hK5.lt; omega)
         have hR7 := (hR5.stays hb6).but hbut7 (by have := hR5.lt; omega)
         have hb7 : Below w4.heap.size w4 w7 := (below_then hb5 hb6).trans (hbut7.below (B := w4.heap.size) hb5.size (below_then hb5 hb6).size)
         have hb7' := below_then (below_then hb3' hb4) hb7
         have hp7 := hput1 w7 cs G aE cE (h.stays hb7') (hB4.stays hb7))
      | ((with_reducible show wpList _ _ _ (Oper.mk _ (Op.load _ _) _ _ _ _ :: _) _ _); refine wpList_load_blk (by rfl) (.tmp 2) 48 (by rfl) _ 0 5 (by rfl) rAgg rSize hK7 _ (whole_load hcl) hcl ?_)
      | (go_at_call_of 50 (Value.int IntKind.i64 (q : Int)); (refine hp7.mono ?_); rintro e w8 ⟨cs8, rfl, ht8⟩
         have hK8 := hK7.stays ht8.2
         have hR8 := hR7.stays ht8.2
         have hP8 := hP7.stays ht8.2
         obtain ⟨hcl8, hco8⟩ := ht8.1.cells5)
      | ((with_reducible show wpList _ _ _ (Oper.mk _ (Op.store _ _ _) _ _ _ _ :: _) _ _); refine wpList_store_blk (by rfl) (.tmp 2) (.tmp 27) 48 (by rfl) _ 0 5 (by rfl) cs8 (by rfl) rSize hK8 hcl8 (by omega) hco8 _ (whole_store hcl) ?_
         intro w9 hK9 hbut9 hs9
         have hR9 := hR8.but hbut9 (by omega)
         have hP9 := hP8.but hbut9 (by have := hK5.lt; have := hb6.size; have := hb5.size; omega)
         have hx1 := hP9.cell 1
         simp only [List.getElem?_cons_zero, List.getElem?_cons_succ] at hx1
         have hn8 : ¬ (G w.heap.size ∨ w7.heap.size ≤ w.heap.size) := by
           rintro (hk | hk)
           · have := hG _ hk; omega
           · have := hK7.lt; omega
         have ht9r : Rf w9 (fun k => G k ∨ w7.heap.size ≤ k) cs8 S1 := ht8.1.keep (fun k hk hl => ⟨hbut9.block k (fun e => hn8 (e ▸ hk)) hl, hk⟩)
         have ht9 : RThen G w w9 cs8 S1 := (RThen.after hb7' ht8).but hbut9 (Nat.le_refl _) ht8.1 hn8 (fun k hk => hk.elim .inl (fun h2 => .inr (by have := hb7'.size; omega)))
         have hB9 : Bs w9 aE cE bs := ((hB4.stays hb7).stays ht8.2).but hbut9 (fun h0 b hb => by have := hEn b hb; omega))
      | ((with_reducible show wpList _ _ _ (Oper.mk _ (Op.load _ _) _ _ _ _ :: _) _ _); refine wpList_load_blk (by rfl) (.tmp 2) 48 (by rfl) _ 0 5 (by rfl) rAgg rSize hK9 _ (whole_load hcl8) hcl8 ?_)
      | ((with_reducible show wpList _ _ _ (Oper.mk _ (Op.store _ _ _) _ _ _ _ :: _) _ _); refine wpList_store_blk (by rfl) (.tmp 4) (.tmp 31) 48 (by rfl) _ 0 5 (by rfl) cs8 (by rfl) rSize hR9 hcl8 (by omega) hco8 _ (whole_store hrz) ?_
         intro wA hRA hbutA hsA))
    refine bodyPost_ret_blk2 rfl rfl (by rfl) (by rfl) rAgg rSize hRA hcl8 ⟨cs8, rfl, ?_⟩
    exact ht9.but hbutA (by omega) ht9r (fun hk => by rcases hk with hk | hk; have := hG _ hk; omega; have := hR7.lt; omega) (fun k hk => by rcases hk with hk | hk; exact .inl hk; exact .inr (by have := hb7'.size; omega))

theorem labRLay_run (h : Rf w G cs S) (hG : ∀ k, G k → k < w.heap.size) (l : Lb) (hl : l.ok) (a : Option Addr) (c : Nat) (hB : Bs w a c l.m) (hlen : S.ws.length ≤ 800000) :
    Calls Tryd.prog 21 #[.agg cs.toArray, .agg (l.vs a c).toArray] w fun e w' => ∃ cs', e = .returned (.tuple #[.agg cs'.toArray, .int .i64 (layL S l).2]) ∧ RThen G w w' cs' (layL S l).1 := by
  cases hm : l.may
  · refine (rlay_bad h l hl a c hB hm).mono ?_
    rintro e w' ⟨rfl, hb⟩
    unfold layL
    rw [hm, if_neg (by decide)]
    exact ⟨cs, rfl, rthen_same h hb⟩
  · exact rlay_ok h hG l hl a c hB hlen hm

end

end Go.Proofs.YteocmmmnfbabaaaDoor
