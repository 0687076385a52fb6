/-
  The walk over the document's Lay.
-/
import Derived.Test.YthbcphalokoknaaDoorG27
import Derived.Test.YthbcphalokoknaaDoorG29
import Derived.Test.YthbcphalokoknaaDoorG17
namespace Go.Proofs.YthbcphalokoknaaDoor
set_option linter.unusedSimpArgs false
set_option linter.unusedVariables false
set_option maxRecDepth 100000
open Go.RowKit

section
variable {w : World} {G : Nat → Prop} {cs : List Value} {S : DS}

def rz : List Value := [.slice none 0 0, .slice none 0 0, .bool false, .int .i64 0, .bool false]
theorem alloc_rz (w : World) : (Instr.alloc 48 true (.tuple #[])).run Tryd.prog w = .ok (.pointer (some ⟨w.heap.size, 0, none⟩)) (w.alloc (.cells rz.toArray 48)) := by kernel_rfl

theorem RThen.after {G : Nat → Prop} {w w1 w2 : World} {cs : List Value} {S : DS} (hb : Below w.heap.size w w1) (h : RThen G w1 w2 cs S) : RThen G w w2 cs S :=
  ⟨h.1.keep (fun k hk _ => ⟨rfl, hk.elim .inl (fun h2 => .inr (by have := hb.size; omega))⟩), below_then hb h.2⟩
theorem RThen.then {G : Nat → Prop} {w w1 w2 : World} {cs cs' : List Value} {S S' : DS} (h : RThen G w w1 cs S) (h2 : RThen (fun k => G k ∨ w.heap.size ≤ k) w1 w2 cs' S') : RThen G w w2 cs' S' := by
  refine ⟨h2.1.keep (fun k hk _ => ⟨rfl, ?_⟩), below_then h.2 h2.2⟩
  rcases hk with (hk | hk) | hk
  · exact .inl hk
  · exact .inr hk
  · exact .inr (by have := h.2.size; omega)
/-- A block from w on that is none of the disk's turns. -/
theorem RThen.but {G : Nat → Prop} {w w1 w2 : World} {cs : List Value} {S : DS} {g : Nat} (h : RThen G w w1 cs S) (hb : But g w1 w2) (hg : w.heap.size ≤ g) {G' : Nat → Prop} (hR : Rf w1 G' cs S) (hn : ¬ G' g) (hG' : ∀ k, G' k → G k ∨ w.heap.size ≤ k) : RThen G w w2 cs S :=
  ⟨hR.keep (fun k hk hl => ⟨hb.block k (fun e => hn (e ▸ hk)) hl, hG' k hk⟩), h.2.trans (hb.below hg h.2.size)⟩

set_option maxHeartbeats 20000000 in
theorem rlay_bad (h : Rf w G cs S) (l : Lb) (hl : l.ok) (a : Option Addr) (c : Nat) (hB : Bs w a c l.m) (hm : l.may = false) :
    Calls Tryd.prog 21 #[.agg cs.toArray, .agg (l.vs a c).toArray] w fun e w' => e = .returned (.tuple #[.agg cs.toArray, .int .i64 1]) ∧ Below w.heap.size w w' := by
  have hvl := Lb.vs_len hl.p a c
  obtain ⟨hcl, hco⟩ := h.cells5
  have henc : ∀ u, Below w.heap.size w u → Calls Tryd.prog 10 #[.agg (l.vs a c).toArray] u fun e w' => e = .returned (.tuple #[.slice none 0 0, .int .i64 1]) ∧ Below u.heap.size u w' := fun u hu => lrencode_bad l hl a c u (by have h1 := hB.cap; have h2 := hB.capm; unfold maxLen at h2; omega) hm
  obtain ⟨vs, hvs⟩ : ∃ vs, vs = l.vs a c := ⟨_, rfl⟩
  rw [← hvs] at hvl henc ⊢
  have hrz : rz.length = 5 := rfl
  have HRZ : Hid (∀ w : World, (Instr.alloc 48 true (.tuple #[])).run Tryd.prog w = .ok (.pointer (some ⟨w.heap.size, 0, none⟩)) (w.alloc (.cells rz.toArray 48))) := alloc_rz
  generalize rz = zs at *
  clear hvs
  go_enter Tryd.func21, Tryd.ntmps21
  go_wp2_with (first
    | ((with_reducible show wpList _ _ _ (Oper.mk _ (Op.box _ _) _ _ _ _ :: _) _ _); refine wpList_box0 (by rfl) 48 (.tmp 0) (by rfl) cs (by rfl) ?_; intro w1 hK1 hb1 hs1)
    | ((with_reducible show wpList _ _ _ (Oper.mk _ (Op.box _ _) _ _ _ _ :: _) _ _); refine wpList_box0 (by rfl) 29 (.tmp 1) (by rfl) vs (by rfl) ?_; intro w2 hL2 hb2 hs2
       have hK2 := hK1.stays hb2
       rw [hs1] at hL2 hs2)
    | ((with_reducible show wpList _ _ _ (Oper.mk _ (Op.alloc _) _ _ _ _ :: _) _ _); refine wpList_alloc0 (by rfl) 48 (by rfl) (some 4) (by rfl) _ HRZ.out ?_; intro w3 hR3 hb3 hs3
       have hK3 := hK2.stays hb3
       have hL3 := hL2.stays hb3
       rw [hs2] at hR3 hs3
       have hb3' := below_then (below_then hb1 hb2) hb3
       have he3 := henc w3 hb3')
    | ((with_reducible show wpList _ _ _ (Oper.mk _ (Op.load _ _) _ _ _ _ :: _) _ _); refine wpList_load_blk (by rfl) (.tmp 3) 29 (by rfl) _ 0 37 (by rfl) agg_label size_label hL3 _ (whole_load hvl) hvl ?_)
    | (go_at_call 10; go_must (refine he3.mono ?_); rintro e w4 ⟨rfl, hb4⟩
       have hK4 := hK3.stays hb4
       have hR4 := hR3.stays hb4)
    | ((with_reducible show wpList _ _ _ (Oper.mk _ (Op.load _ _) _ _ _ _ :: _) _ _); refine wpList_load_blk (by rfl) (.tmp 2) 48 (by rfl) _ 0 5 (by rfl) rAgg rSize hK4 _ (whole_load hcl) hcl ?_)
    | ((with_reducible show wpList _ _ _ (Oper.mk _ (Op.store _ _ _) _ _ _ _ :: _) _ _); refine wpList_store_blk (by rfl) (.tmp 4) (.tmp 16) 48 (by rfl) _ 0 5 (by rfl) cs (by rfl) rSize hR4 hcl (by omega) hco _ (whole_store hrz) ?_
       intro w5 hR5 hbut5 hs5))
  have hb4' := below_then hb3' hb4
  exact bodyPost_ret_blk2 rfl rfl (by rfl) (by rfl) rAgg rSize hR5 hcl ⟨rfl, hb4'.trans (hbut5.below (by omega) hb4'.size)⟩

set_option maxHeartbeats 40000000 in
theorem rlay_ok (h : Rf w G cs S) (hG : ∀ k, G k → k < w.heap.size) (l : Lb) (hl : l.ok) (a : Option Addr) (c : Nat) (hB : Bs w a c l.m) (hlen : S.ws.length ≤ 800000) (hm : l.may = true) :
    Calls Tryd.prog 21 #[.agg cs.toArray, .agg (l.vs a c).toArray] w fun e w' => ∃ cs', e = .returned (.tuple #[.agg cs'.toArray, .int .i64 (layL S l).2]) ∧ RThen G w w' cs' (layL S l).1 := by
  have hvl := Lb.vs_len hl.p a c
  obtain ⟨hcl, hco⟩ := h.cells5
  have h256 := Lb.bytes_len hl.p (Lb.may_parts hm).2
  have hbr := Lb.bytes_rng hl
  have hpl := rplaces_run l.t hl.t
  have HT : Hid ((l.vs a c)[0]? = some (.int .u32 (l.t : Int))) := Lb.vs_txg l a c
  have henc : ∀ u, Below w.heap.size w u → Calls Tryd.prog 10 #[.agg (l.vs a c).toArray] u fun e w' => ∃ aE cE, e = .returned (.tuple #[.slice aE 256 cE, .int .i64 0]) ∧ (Bs w' aE cE l.bytes ∧ ∀ x, aE = some x → u.heap.size ≤ x.block) ∧ Below u.heap.size u w' := fun u hu => by
    refine (lrencode_ok l hl a c u (hB.stays hu) hm).mono ?_
    rintro e w' ⟨v, rfl, ho, hb⟩
    obtain ⟨aE, cE, rfl, hBE⟩ := Bs.of_owns ho hbr
    rw [h256] at ho ⊢
    exact ⟨aE, cE, rfl, ⟨hBE, fun x hx => (World.ownsRow.lt ho x.block (by rw [hx]; rfl)).1⟩, hb⟩
  obtain ⟨vs, hvs⟩ : ∃ vs, vs = l.vs a c := ⟨_, rfl⟩
  rw [← hvs] at hvl henc HT ⊢
  have hrz : rz.length = 5 := rfl
  have HRZ : Hid (∀ w : World, (Instr.alloc 48 true (.tuple #[])).run Tryd.prog w = .ok (.pointer (some ⟨w.heap.size, 0, none⟩)) (w.alloc (.cells rz.toArray 48))) := alloc_rz
  generalize rz = zs at *
  unfold layL
  rw [hm, if_pos rfl]
  obtain ⟨bs, hbs⟩ : ∃ bs, bs = l.bytes := ⟨_, rfl⟩
  rw [← hbs] at h256 hbr henc ⊢
  obtain ⟨q, hq⟩ : ∃ q, q = plc l.t := ⟨_, rfl⟩
  obtain ⟨q1, hq1⟩ : ∃ q1 : Nat, q1 = q + 1 := ⟨_, rfl⟩
  have hqne : q ≠ q1 := by omega
  unfold placesV at hpl
  rw [← hq, ← hq1] at hpl
  rw [← hq, ← hq1]
  have hwl : (S.write (q : Int) bs).1.ws.length ≤ 900000 := by have := write_len S (q : Int) bs; omega
  clear hvs hbs hq hq1 hm
  have hput : ∀ (i : Nat) (S : DS), S.ws.length ≤ 900000 → ∀ (u : World) (cs : List Value) (G : Nat → Prop) (aE : Option Addr) (cE : Nat), Rf u G cs S → Bs u aE cE bs → Calls Tryd.prog 50 #[.agg cs.toArray, .int .i64 (i : Int), .slice aE 256 cE] u fun e w' => ∃ cs', e = .returned (.tuple #[.agg cs'.toArray, .int .i64 (S.write (i : Int) bs).2]) ∧ RThen G u w' cs' (S.write (i : Int) bs).1 := fun i S hS u cs G aE cE hR hBu => by
    have := rput_run hR (i : Int) aE cE bs hBu hS
    rwa [h256] at this
  have hput1 := hput q S (by omega)
  have hput2 := hput q1 _ hwl
  obtain ⟨S1, hS1⟩ : ∃ S1, S1 = (S.write (q : Int) bs).1 := ⟨_, rfl⟩
  obtain ⟨e1, he1'⟩ : ∃ e1, e1 = (S.write (q : Int) bs).2 := ⟨_, rfl⟩
  have HW : Hid (S.write (q : Int) bs = (S1, e1)) := by show _ = _; rw [hS1, he1']
  rw [← hS1] at hput2
  rw [← hS1, ← he1'] at hput1
  rw [HW.out]
  clear hS1 he1' HW hwl hput
  obtain ⟨S2, hS2⟩ : ∃ S2, S2 = (S1.write (q1 : Int) bs).1 := ⟨_, rfl⟩
  obtain ⟨e2, he2⟩ : ∃ e2, e2 = (S1.write (q1 : Int) bs).2 := ⟨_, rfl⟩
  rw [← hS2, ← he2] at hput2
  have HW2 : Hid (S1.write (q1 : Int) bs = (S2, e2)) := by show _ = _; rw [hS2, he2]
  rw [HW2.out]
  clear hS2 he2 HW2
  by_cases h0 : e1 = 0
  · rw [if_pos (show (S1, e1).2 = 0 from h0)]
    have hn0 : (e1 != 0) = false := by rw [h0]; rfl
    clear h0
    go_enter Tryd.func21, Tryd.ntmps21
    go_wp2_with (first
      | ((with_reducible show wpList _ _ _ (Oper.mk _ (Op.box _ _) _ _ _ _ :: _) _ _); refine wpList_box0 (by rfl) 48 (.tmp 0) (by rfl) cs (by rfl) ?_; intro w1 hK1 hb1 hs1)
      | ((with_reducible show wpList _ _ _ (Oper.mk _ (Op.box _ _) _ _ _ _ :: _) _ _); refine wpList_box0 (by rfl) 29 (.tmp 1) (by rfl) vs (by rfl) ?_; intro w2 hL2 hb2 hs2
         have hK2 := hK1.stays hb2
         rw [hs1] at hL2 hs2)
      | ((with_reducible show wpList _ _ _ (Oper.mk _ (Op.alloc _) _ _ _ _ :: _) _ _); refine wpList_alloc0 (by rfl) 48 (by rfl) (some 4) (by rfl) _ HRZ.out ?_; intro w3 hR3 hb3 hs3
         have hK3 := hK2.stays hb3
         have hL3 := hL2.stays hb3
         rw [hs2] at hR3 hs3
         have hb3' := below_then (below_then hb1 hb2) hb3
         have he3 := henc w3 hb3')
      | ((with_reducible show wpList _ _ _ (Oper.mk _ (Op.load _ _) _ _ _ _ :: _) _ _); refine wpList_load_blk (by rfl) (.tmp 3) 29 (by rfl) _ 0 37 (by rfl) agg_label size_label hL3 _ (whole_load hvl) hvl ?_)
      | (go_at_call 10; go_must (refine he3.mono ?_); rintro e w4 ⟨aE, cE, rfl, ⟨hB4, hEn⟩, hb4⟩
         have hK4 := hK3.stays hb4
         have hR4 := hR3.stays hb4
         have hL4 := hL3.stays hb4
         have hc0 : w4.cell? ⟨w.heap.size + 1, 0, none⟩ = some (.int .u32 (l.t : Int)) := (hL4.cell 0).trans HT.out)
      | (go_at_call 12; go_must (refine (hpl _).mono ?_); rintro e w5 ⟨rfl, hb5⟩
         have hK5 := hK4.stays hb5
         have hR5 := hR4.stays hb5)
      | ((with_reducible show wpList _ _ _ (Oper.mk _ (Op.alloc _) _ _ _ _ :: _) _ _); refine wpList_alloc0 (by rfl) 34 (by rfl) (some 8) (by rfl) _ alloc_two0 ?_; intro w6 hP6 hb6 hs6)
      | ((with_reducible show wpList _ _ _ (Oper.mk _ (Op.store _ _ _) _ _ _ _ :: _) _ _); refine wpList_store_blk (by rfl) (.tmp 8) (.tmp 20) 34 (by rfl) _ 0 2 (by rfl) _ (by rfl) size_two hP6 (by rfl) (by decide) (by simp [Value.oneCell']) _ (whole_store (by rfl)) ?_
         intro w7 hP7 hbut7 hs7
         have hx0 := hP7.cell 0
         simp only [List.getElem?_cons_zero, List.getElem?_cons_succ] at hx0
         have hK7 := (hK5.stays hb6).but hbut7 (by have := hK5.lt; omega)
         have hR7 := (hR5.stays hb6).but hbut7 (by have := hR5.lt; omega)
         have hb7 : Below w4.heap.size w4 w7 := (below_then hb5 hb6).trans (hbut7.below (B := w4.heap.size) hb5.size (below_then hb5 hb6).size)
         have hb7' := below_then (below_then hb3' hb4) hb7
         have hp7 := hput1 w7 cs G aE cE (h.stays hb7') (hB4.stays hb7))
      | ((with_reducible show wpList _ _ _ (Oper.mk _ (Op.load _ _) _ _ _ _ :: _) _ _); refine wpList_load_blk (by rfl) (.tmp 2) 48 (by rfl) _ 0 5 (by rfl) rAgg rSize hK7 _ (whole_load hcl) hcl ?_)
      | (go_at_call_of 50 (Value.int IntKind.i64 (q : Int)); (refine hp7.mono ?_); rintro e w8 ⟨cs8, rfl, ht8⟩
         have hK8 := hK7.stays ht8.2
         have hR8 := hR7.stays ht8.2
         have hP8 := hP7.stays ht8.2
         obtain ⟨hcl8, hco8⟩ := ht8.1.cells5)
      | ((with_reducible show wpList _ _ _ (Oper.mk _ (Op.store _ _ _) _ _ _ _ :: _) _ _); refine wpList_store_blk (by rfl) (.tmp 2) (.tmp 27) 48 (by rfl) _ 0 5 (by rfl) cs8 (by rfl) rSize hK8 hcl8 (by omega) hco8 _ (whole_store hcl) ?_
         intro w9 hK9 hbut9 hs9
         have hR9 := hR8.but hbut9 (by omega)
         have hP9 := hP8.but hbut9 (by have := hK5.lt; have := hb6.size; have := hb5.size; omega)
         have hx1 := hP9.cell 1
         simp only [List.getElem?_cons_zero, List.getElem?_cons_succ] at hx1
         have hn8 : ¬ (G w.heap.size ∨ w7.heap.size ≤ w.heap.size) := by
           rintro (hk | hk)
           · have := hG _ hk; omega
           · have := hK7.lt; omega
         have ht9r : Rf w9 (fun k => G k ∨ w7.heap.size ≤ k) cs8 S1 := ht8.1.keep (fun k hk hl => ⟨hbut9.block k (fun e => hn8 (e ▸ hk)) hl, hk⟩)
         have ht9 : RThen G w w9 cs8 S1 := (RThen.after hb7' ht8).but hbut9 (Nat.le_refl _) ht8.1 hn8 (fun k hk => hk.elim .inl (fun h2 => .inr (by have := hb7'.size; omega)))
         have hB9 : Bs w9 aE cE bs := ((hB4.stays hb7).stays ht8.2).but hbut9 (fun h0 b hb => by have := hEn b hb; omega)
         have hp9 := hput2 w9 cs8 _ aE cE ht9r hB9)
      | ((with_reducible show wpList _ _ _ (Oper.mk _ (Op.load _ _) _ _ _ _ :: _) _ _); refine wpList_load_blk (by rfl) (.tmp 2) 48 (by rfl) _ 0 5 (by rfl) rAgg rSize hK9 _ (whole_load hcl8) hcl8 ?_)
      | (go_at_call_of 50 (Value.int IntKind.i64 (q1 : Int)); (refine hp9.mono ?_); rintro e wB ⟨csB, rfl, htB⟩
         have hRB := hR9.stays htB.2
         obtain ⟨hclB, hcoB⟩ := htB.1.cells5)
      | ((with_reducible show wpList _ _ _ (Oper.mk _ (Op.store _ _ _) _ _ _ _ :: _) _ _); refine wpList_store_blk (by rfl) (.tmp 4) (.tmp 38) 48 (by rfl) _ 0 5 (by rfl) csB (by rfl) rSize hRB hclB (by omega) hcoB _ (whole_store hrz) ?_
         intro wC hRC hbutC hsC))
    refine bodyPost_ret_blk2 rfl rfl (by rfl) (by rfl) rAgg rSize hRC hclB ⟨csB, rfl, ?_⟩
    have hmo : ∀ k, ((G k ∨ w7.heap.size ≤ k) ∨ w9.heap.size ≤ k) → G k ∨ w.heap.size ≤ k := fun k hk => by
      have := hb7'.size
      have := ht9.2.size
      rcases hk with (hk | hk) | hk
      · exact .inl hk
      · exact .inr (by omega)
      · exact .inr (by omega)
    have htW : RThen G w wB csB S2 := ⟨htB.1.keep (fun k hk _ => ⟨rfl, hmo k hk⟩), below_then ht9.2 htB.2⟩
    refine htW.but hbutC (by omega) htB.1 ?_ hmo
    rintro ((hk | hk) | hk)
    · have := hG _ hk; omega
    · have := hR7.lt; omega
    · have := hR9.lt; omega
  · rw [if_neg (show ¬ (S1, e1).2 = 0 from h0)]
    have hn0 : (e1 != 0) = true := by simpa using h0
    clear h0
    go_enter Tryd.func21, Tryd.ntmps21
    go_wp2_with (first
      | ((with_reducible show wpList _ _ _ (Oper.mk _ (Op.box _ _) _ _ _ _ :: _) _ _); refine wpList_box0 (by rfl) 48 (.tmp 0) (by rfl) cs (by rfl) ?_; intro w1 hK1 hb1 hs1)
      | ((with_reducible show wpList _ _ _ (Oper.mk _ (Op.box _ _) _ _ _ _ :: _) _ _); refine wpList_box0 (by rfl) 29 (.tmp 1) (by rfl) vs (by rfl) ?_; intro w2 hL2 hb2 hs2
         have hK2 := hK1.stays hb2
         rw [hs1] at hL2 hs2)
      | ((with_reducible show wpList _ _ _ (Oper.mk _ (Op.alloc _) _ _ _ _ :: _) _ _); refine wpList_alloc0 (by rfl) 48 (by rfl) (some 4) (by rfl) _ HRZ.out ?_; intro w3 hR3 hb3 hs3
         have hK3 := hK2.stays hb3
         have hL3 := hL2.stays hb3
         rw [hs2] at hR3 hs3
         have hb3' := below_then (below_then hb1 hb2) hb3
         have he3 := henc w3 hb3')
      | ((with_reducible show wpList _ _ _ (Oper.mk _ (Op.load _ _) _ _ _ _ :: _) _ _); refine wpList_load_blk (by rfl) (.tmp 3) 29 (by rfl) _ 0 37 (by rfl) agg_label size_label hL3 _ (whole_load hvl) hvl ?_)
      | (go_at_call 10; go_must (refine he3.mono ?_); rintro e w4 ⟨aE, cE, rfl, ⟨hB4, hEn⟩, hb4⟩
         have hK4 := hK3.stays hb4
         have hR4 := hR3.stays hb4
         have hL4 := hL3.stays hb4
         have hc0 : w4.cell? ⟨w.heap.size + 1, 0, none⟩ = some (.int .u32 (l.t : Int)) := (hL4.cell 0).trans HT.out)
      | (go_at_call 12; go_must (refine (hpl _).mono ?_); rintro e w5 ⟨rfl, hb5⟩
         have hK5 := hK4.stays hb5
         have hR5 := hR4.stays hb5)
      | ((with_reducible show wpList _ _ _ (Oper.mk _ (Op.alloc _) _ _ _ _ :: _) _ _); refine wpList_alloc0 (by rfl) 34 (by rfl) (some 8) (by rfl) _ alloc_two0 ?_; intro w6 hP6 hb6 hs6)
      | ((with_reducible show wpList _ _ _ (Oper.mk _ (Op.store _ _ _) _ _ _ _ :: _) _ _); refine wpList_store_blk (by rfl) (.tmp 8) (.tmp 20) 34 (by rfl) _ 0 2 (by rfl) _ (by rfl) size_two hP6 (by rfl) (by decide) (by simp [Value.oneCell']) _ (whole_store (by rfl)) ?_
         intro w7 hP7 hbut7 hs7
         have hx0 := hP7.cell 0
         simp only [List.getElem?_cons_zero, List.getElem?_cons_succ] at hx0
         have hK7 := (hK5.stays hb6).but hbut7 (by have := hK5.lt; omega)
         have hR7 := (hR5.stays hb6).but hbut7 (by have := hR5.lt; omega)
         have hb7 : Below w4.heap.size w4 w7 := (below_then hb5 hb6).trans (hbut7.below (B := w4.heap.size) hb5.size (below_then hb5 hb6).size)
         have hb7' := below_then (below_then hb3' hb4) hb7
         have hp7 := hput1 w7 cs G aE cE (h.stays hb7') (hB4.stays hb7))
      | ((with_reducible show wpList _ _ _ (Oper.mk _ (Op.load _ _) _ _ _ _ :: _) _ _); refine wpList_load_blk (by rfl) (.tmp 2) 48 (by rfl) _ 0 5 (by rfl) rAgg rSize hK7 _ (whole_load hcl) hcl ?_)
      | (go_at_call_of 50 (Value.int IntKind.i64 (q : Int)); (refine hp7.mono ?_); rintro e w8 ⟨cs8, rfl, ht8⟩
         have hK8 := hK7.stays ht8.2
         have hR8 := hR7.stays ht8.2
         have hP8 := hP7.stays ht8.2
         obtain ⟨hcl8, hco8⟩ := ht8.1.cells5)
      | ((with_reducible show wpList _ _ _ (Oper.mk _ (Op.store _ _ _) _ _ _ _ :: _) _ _); refine wpList_store_blk (by rfl) (.tmp 2) (.tmp 27) 48 (by rfl) _ 0 5 (by rfl) cs8 (by rfl) rSize hK8 hcl8 (by omega) hco8 _ (whole_store hcl) ?_
         intro w9 hK9 hbut9 hs9
         have hR9 := hR8.but hbut9 (by omega)
         have hP9 := hP8.but hbut9 (by have := hK5.lt; have := hb6.size; have := hb5.size; omega)
         have hx1 := hP9.cell 1
         simp only [List.getElem?_cons_zero, List.getElem?_cons_succ] at hx1
         have hn8 : ¬ (G w.heap.size ∨ w7.heap.size ≤ w.heap.size) := by
           rintro (hk | hk)
           · have := hG _ hk; omega
           · have := hK7.lt; omega
         have ht9r : Rf w9 (fun k => G k ∨ w7.heap.size ≤ k) cs8 S1 := ht8.1.keep (fun k hk hl => ⟨hbut9.block k (fun e => hn8 (e ▸ hk)) hl, hk⟩)
         have ht9 : RThen G w w9 cs8 S1 := (RThen.after hb7' ht8).but hbut9 (Nat.le_refl _) ht8.1 hn8 (fun k hk => hk.elim .inl (fun h2 => .inr (by have := hb7'.size; omega)))
         have hB9 : Bs w9 aE cE bs := ((hB4.stays hb7).stays ht8.2).but hbut9 (fun h0 b hb => by have := hEn b hb; omega))
      | ((with_reducible show wpList _ _ _ (Oper.mk _ (Op.load _ _) _ _ _ _ :: _) _ _); refine wpList_load_blk (by rfl) (.tmp 2) 48 (by rfl) _ 0 5 (by rfl) rAgg rSize hK9 _ (whole_load hcl8) hcl8 ?_)
      | ((with_reducible show wpList _ _ _ (Oper.mk _ (Op.store _ _ _) _ _ _ _ :: _) _ _); refine wpList_store_blk (by rfl) (.tmp 4) (.tmp 31) 48 (by rfl) _ 0 5 (by rfl) cs8 (by rfl) rSize hR9 hcl8 (by omega) hco8 _ (whole_store hrz) ?_
         intro wA hRA hbutA hsA))
    refine bodyPost_ret_blk2 rfl rfl (by rfl) (by rfl) rAgg rSize hRA hcl8 ⟨cs8, rfl, ?_⟩
    exact ht9.but hbutA (by omega) ht9r (fun hk => by rcases hk with hk | hk; have := hG _ hk; omega; have := hR7.lt; omega) (fun k hk => by rcases hk with hk | hk; exact .inl hk; exact .inr (by have := hb7'.size; omega))

theorem labRLay_run (h : Rf w G cs S) (hG : ∀ k, G k → k < w.heap.size) (l : Lb) (hl : l.ok) (a : Option Addr) (c : Nat) (hB : Bs w a c l.m) (hlen : S.ws.length ≤ 800000) :
    Calls Tryd.prog 21 #[.agg cs.toArray, .agg (l.vs a c).toArray] w fun e w' => ∃ cs', e = .returned (.tuple #[.agg cs'.toArray, .int .i64 (layL S l).2]) ∧ RThen G w w' cs' (layL S l).1 := by
  cases hm : l.may
  · refine (rlay_bad h l hl a c hB hm).mono ?_
    rintro e w' ⟨rfl, hb⟩
    unfold layL
    rw [hm, if_neg (by decide)]
    exact ⟨cs, rfl, rthen_same h hb⟩
  · exact rlay_ok h hG l hl a c hB hlen hm

end

end Go.Proofs.YthbcphalokoknaaDoor

/-
  What the law LabelPlays needs of its acts, and of both disks beside each other.
-/

namespace Go.Proofs.YthbcphalokoknaaDoor
set_option linter.unusedSimpArgs false
set_option linter.unusedVariables false
set_option maxRecDepth 100000
open Go.RowKit

theorem run_load_cells {P : Program} {w : World} {t : TypeId} {b off n : Nat} {us : List Value} (hA : ∀ w, (isAgg t).run P w = .ok true w) (hZ : ∀ w, (sizeOf t).run P w = .ok n w)
    (hc : ∀ j, j < n → w.cell? ⟨b, off + j, none⟩ = us[j]?) (hl : us.length = n) : (Instr.loadAt t (.pointer (some ⟨b, off, none⟩))).run P w = .ok (.agg us.toArray) w := by
  have h := run_loadCells_list (P := P) w ⟨b, off, none⟩ us (fun j v hj => by
    have hadd : (⟨b, off, none⟩ : Addr).add j = ⟨b, off + j, none⟩ := by unfold Addr.add; split <;> simp_all
    have hjl : j < n := by
      rcases Nat.lt_or_ge j n with h1 | h1
      · exact h1
      · rw [List.getElem?_eq_none (by omega)] at hj; cases hj
    rw [hadd, hc j hjl]
    exact hj)
  rw [hl] at h
  simp [Instr.loadAt, Instr.sureAddr, loadVar, hA, hZ, h, Sem.run_bind]

/-- A load of a whole value that lies somewhere. -/
theorem wpList_load_cells {P : Program} {w : World} {ops : Array Oper} {rest : List Oper} {o : Oper} {a : Act} {Q : Exit → Act → World → Prop} (hgd : o.guard = none) (x : Operand) (t : TypeId) (ho : o.op = Op.load t x)
    (b off n : Nat) (hx : a.eval x = .pointer (some ⟨b, off, none⟩)) (hA : ∀ w, (isAgg t).run P w = .ok true w) (hZ : ∀ w, (sizeOf t).run P w = .ok n w)
    (us : List Value) (hc : ∀ j, j < n → w.cell? ⟨b, off + j, none⟩ = us[j]?) (hl : us.length = n) (h : wpList P ops Q rest (a.put o.dst (.agg us.toArray)) w) : wpList P ops Q (o :: rest) a w := by
  refine wpList_plain hgd fun K hK => ?_
  have hr := run_load_cells (P := P) (w := w) hA hZ hc hl
  unfold Oper.wp execOp
  simp only [ho, hx, Sem.run_bind, Sem.run_pure, Result.andThen_ok, hr]
  exact hK _ _ h

theorem index_sl42 {P : Program} {t e : TypeId} {b off n c j m : Nat} (ht : P.underlying t = some (.slice e)) (hs : (P.info? e).map (·.size) = some m) (hj : j < n) (w : World) :
    (Instr.indexAt t (.slice (some ⟨b, off, none⟩) n c) (.int .i64 (j : Int))).run P w = .ok (.pointer (some ⟨b, off + j * m, none⟩)) w := by
  have hz := sizeOf_run hs w
  have hb : (0 : Int) ≤ (j : Int) ∧ (j : Int) < (n : Int) := by omega
  have hadd : (⟨b, off, none⟩ : Addr).add (j * m) = ⟨b, off + j * m, none⟩ := by unfold Addr.add; split <;> simp_all
  simp [Instr.indexAt, asIntOf, run_underlying ht, hz, hb, hadd, Sem.run_bind, Instr.sureAddr]
  try omega

theorem agg_act (w : World) : (isAgg 55).run Tryd.prog w = .ok true w := by
  have hfs : Tryd.prog.underlying 55 = some (.struct (Tryd.prog.fieldsOf 55)) := by kernel_rfl
  exact isAgg_struct hfs w
theorem size_act (w : World) : (sizeOf 55).run Tryd.prog w = .ok 42 w := sizeOf_run (by kernel_rfl) w
def actZero : List Value := Lb.zero.vs none 0 ++ [.bool false, .int .i64 0, .slice none 0 0, .bool false, .slice none 0 0]
theorem actZero_len : actZero.length = 42 := by unfold actZero; rw [List.length_append, zero_vs_len]; rfl
theorem alloc_act0 (w : World) : (Instr.alloc 55 true (.tuple #[])).run Tryd.prog w = .ok (.pointer (some ⟨w.heap.size, 0, none⟩)) (w.alloc (.cells actZero.toArray 55)) := by kernel_rfl

theorem ActL.cells_len {x : ActL} (h : x.l.p.ok) : x.cells.length = 42 := by
  unfold ActL.cells; rw [List.length_append, Lb.vs_len h]; rfl
theorem ActL.cells_label {x : ActL} (h : x.l.p.ok) : x.l.vs x.la x.lc = (x.cells.drop 0).take 37 := by
  unfold ActL.cells; rw [List.drop_zero, List.take_left' (Lb.vs_len h x.la x.lc)]
theorem ActL.cells_one (x : ActL) : ∀ v ∈ x.cells, v.oneCell' = true := by
  intro v hv
  unfold ActL.cells at hv
  rcases List.mem_append.1 hv with h | h
  · exact Lb.vs_one _ _ _ v h
  · simp only [ActL.tail, List.mem_cons, List.not_mem_nil, or_false] at h
    rcases h with rfl | rfl | rfl | rfl | rfl <;> rfl
theorem ActL.cells_at {x : ActL} (h : x.l.p.ok) : x.cells[36]? = some (.slice x.la x.l.m.length x.lc) ∧ x.cells[37]? = some (.bool x.fl) ∧ x.cells[38]? = some (.int .i64 x.at') ∧
    x.cells[39]? = some (.slice x.ma x.ms.length x.mc) ∧ x.cells[40]? = some (.bool x.cr) ∧ x.cells[41]? = some (.slice x.ka x.ks.length x.kc) := by
  have hl := Lb.vs_len h x.la x.lc
  unfold ActL.cells
  refine ⟨?_, ?_, ?_, ?_, ?_, ?_⟩
  · rw [List.getElem?_append_left (by omega)]; exact Lb.vs_map h x.la x.lc
  all_goals rw [List.getElem?_append_right (by omega), hl]; rfl

theorem ActsL.at {W : World} {a : Option Addr} {xs : List ActL} (h : ActsL W a xs) {i : Nat} (hi : i < xs.length) :
    ∃ b off, a = some ⟨b, off, none⟩ ∧ (∀ j, j < 42 → W.cell? ⟨b, off + i * 42 + j, none⟩ = (xs.getD i default).cells[j]?) ∧ ActLOk W (xs.getD i default) := by
  rcases h.lay with rfl | ⟨b, off, rfl, hc⟩
  · simp at hi
  · refine ⟨b, off, rfl, fun j hj => ?_, h.ok _ (by simp [List.getD, hi])⟩
    rw [show off + i * 42 + j = off + 42 * i + j by omega]
    exact hc i hi j hj

/-- How many writes may wait behind a label that is laid. -/
theorem layL_len (S : DS) (l : Lb) : (layL S l).1.ws.length ≤ S.ws.length + 2 := by
  unfold layL
  split
  · split
    · have h1 := write_len S (plc l.t : Int) l.bytes
      have h2 := write_len (S.write (plc l.t : Int) l.bytes).1 ((plc l.t + 1 : Nat) : Int) l.bytes
      omega
    · have h1 := write_len S (plc l.t : Int) l.bytes
      omega
  · simp

section
variable {B p : Nat} {w : World} {F G : Nat → Prop} {S T : DS} {cs : List Value}

theorem pair_lay (h : Pair B w F G p S cs T) (hB : B ≤ w.heap.size) (l : Lb) (hl : l.ok) (a : Option Addr) (c : Nat) (hm : Bs w a c l.m) (hV : Vars w) (hlen : S.ws.length ≤ 800000) :
    Calls Tryd.prog 20 #[.pointer (some ⟨p, 0, none⟩), .agg (l.vs a c).toArray] w fun e w' => e = .returned (.int .i64 (layL S l).2) ∧ ∃ F', Pair B w' F' G p (layL S l).1 cs T ∧ (∀ k, F' k → F k ∨ w.heap.size ≤ k) ∧ Frm F w w' ∧ Below B w w' := by
  refine (labLay_run h.dk (fun k hk => (h.low k hk).2) l hl a c hm hV (by omega)).mono ?_
  rintro e w' ⟨rfl, ht⟩
  obtain ⟨F', h1, h2, h3⟩ := h.disk hB ht
  exact ⟨rfl, F', h1, h2, ht.2, h3⟩
theorem pair_rlay (h : Pair B w F G p S cs T) (l : Lb) (hl : l.ok) (a : Option Addr) (c : Nat) (hm : Bs w a c l.m) (hlen : T.ws.length ≤ 800000) :
    Calls Tryd.prog 21 #[.agg cs.toArray, .agg (l.vs a c).toArray] w fun e w' => ∃ cs', e = .returned (.tuple #[.agg cs'.toArray, .int .i64 (layL T l).2]) ∧ Pair B w' F (fun k => (G k ∨ w.heap.size ≤ k) ∧ k < w'.heap.size) p S cs' (layL T l).1 ∧ Below w.heap.size w w' := by
  refine (labRLay_run h.rf h.lowG l hl a c hm hlen).mono ?_
  rintro e w' ⟨cs', rfl, ht⟩
  exact ⟨cs', rfl, h.ref ht, ht.2⟩
end

/-- Choose, the power on or off. -/
theorem choose_run {w : World} {F : Nat → Prop} {p : Nat} {S : DS} (h : Dk w F p S) (hl : S.ws.length ≤ 900000) (hV : Vars w) :
    Calls Tryd.prog 28 #[.pointer (some ⟨p, 0, none⟩)] w fun e w' => ∃ a c, e = .returned (.tuple #[.agg ((chooseL S).1.1.vs a c).toArray, .int .i64 ((chooseL S).1.2 : Int), .int .i64 ((chooseL S).2 : Int)]) ∧ Bs w' a c (chooseL S).1.1.m ∧ Below w.heap.size w w' := by
  cases ho : S.off
  · exact choose_on h (by omega) ho hV
  · refine (choose_off h (by omega) ho).mono ?_
    rintro e w' ⟨rfl, hb⟩
    unfold chooseL
    rw [ho, if_pos rfl]
    exact ⟨none, 0, rfl, Bs.empty _, hb⟩
theorem rchoose_run {w : World} {G : Nat → Prop} {cs : List Value} {S : DS} (h : Rf w G cs S) (hl : S.ws.length ≤ 900000) :
    Calls Tryd.prog 29 #[.agg cs.toArray] w fun e w' => ∃ a c, e = .returned (.tuple #[.agg ((chooseL S).1.1.vs a c).toArray, .int .i64 ((chooseL S).1.2 : Int), .int .i64 ((chooseL S).2 : Int)]) ∧ Bs w' a c (chooseL S).1.1.m ∧ Below w.heap.size w w' := by
  cases ho : S.off
  · exact rchoose_on h hl ho
  · refine (rchoose_off h hl ho).mono ?_
    rintro e w' ⟨rfl, hb⟩
    unfold chooseL
    rw [ho, if_pos rfl]
    exact ⟨none, 0, rfl, Bs.empty _, hb⟩

end Go.Proofs.YthbcphalokoknaaDoor

/-
  Both disks of the law LabelPlays beside the act and the variable that holds the document's.
-/

namespace Go.Proofs.YthbcphalokoknaaDoor
set_option linter.unusedSimpArgs false
set_option linter.unusedVariables false
set_option maxRecDepth 100000
open Go.RowKit

/-- Both disks, the variable at m that holds ms, the act at g. -/
structure PS (w0 w : World) (F G : Nat → Prop) (p : Nat) (S : DS) (cs : List Value) (T : DS) (m g : Nat) (ms av : List Value) : Prop where
  pair : Pair w0.heap.size w F G p S cs T
  mb : Blk 48 w m ms
  ab : Blk 55 w g av
  fm : ¬ F m
  gm : ¬ G m
  fa : ¬ F g
  ga : ¬ G g
  bel : Below w0.heap.size w0 w
  lm : w0.heap.size ≤ m
  la : w0.heap.size ≤ g

section
variable {w0 w w' : World} {F G : Nat → Prop} {p : Nat} {S T S' T' : DS} {cs cs' ms ms' av : List Value} {m g : Nat}

theorem PS.stays (h : PS w0 w F G p S cs T m g ms av) (hb : Below w.heap.size w w') : PS w0 w' F G p S cs T m g ms av :=
  ⟨h.pair.stays hb, h.mb.stays hb, h.ab.stays hb, h.fm, h.gm, h.fa, h.ga, below_then h.bel hb, h.lm, h.la⟩
theorem PS.own (h : PS w0 w F G p S cs T m g ms av) (ht : Then F w w' p S') : ∃ F', PS w0 w' F' G p S' cs T m g ms av := by
  obtain ⟨F', h1, h2, h3⟩ := h.pair.disk h.bel.size ht
  refine ⟨F', h1, box_keep ht.2 h.mb h.fm, box_keep ht.2 h.ab h.fa, fun hf => ?_, h.gm, fun hf => ?_, h.ga, h.bel.trans h3, h.lm, h.la⟩
  · rcases h2 m hf with h4 | h4
    · exact h.fm h4
    · have := h.mb.lt; omega
  · rcases h2 g hf with h4 | h4
    · exact h.fa h4
    · have := h.ab.lt; omega
theorem PS.ref (h : PS w0 w F G p S cs T m g ms av) (ht : RThen G w w' cs' T') : ∃ G', PS w0 w' F G' p S cs' T' m g ms av := by
  refine ⟨_, h.pair.ref ht, h.mb.stays ht.2, h.ab.stays ht.2, h.fm, fun hf => ?_, h.fa, fun hf => ?_, below_then h.bel ht.2, h.lm, h.la⟩
  · rcases hf.1 with h4 | h4
    · exact h.gm h4
    · have := h.mb.lt; omega
  · rcases hf.1 with h4 | h4
    · exact h.ga h4
    · have := h.ab.lt; omega
theorem PS.ne (h : PS w0 w F G p S cs T m g ms av) : g ≠ m := by
  rintro rfl
  have h1 := h.mb
  have h2 := h.ab
  unfold Blk at h1 h2
  rw [h1] at h2
  simp at h2
theorem PS.set (h : PS w0 w F G p S cs T m g ms av) (hb : But m w w') (hm : Blk 48 w' m ms') : PS w0 w' F G p S cs T m g ms' av :=
  ⟨h.pair.but hb h.fm h.gm, hm, h.ab.but hb h.ne, h.fm, h.gm, h.fa, h.ga, h.bel.trans (hb.below h.lm h.bel.size), h.lm, h.la⟩
/-- A new block turns. -/
theorem PS.new {k : Nat} (h : PS w0 w F G p S cs T m g ms av) (hb : But k w w') (hk : k ≠ m) (hk' : k ≠ g) (h1 : ¬ F k) (h2 : ¬ G k) (h3 : w0.heap.size ≤ k) : PS w0 w' F G p S cs T m g ms av :=
  ⟨h.pair.but hb h1 h2, h.mb.but hb (Ne.symm hk), h.ab.but hb (Ne.symm hk'), h.fm, h.gm, h.fa, h.ga, h.bel.trans (hb.below h3 h.bel.size), h.lm, h.la⟩
theorem PS.fresh {w1 : World} (h : PS w0 w F G p S cs T m g ms av) (h1 : Below w.heap.size w w1) (hs : w1.heap.size = w.heap.size + 1) (hb : But w.heap.size w1 w') : PS w0 w' F G p S cs T m g ms av :=
  (h.stays h1).new hb (by have := h.mb.lt; omega) (by have := h.ab.lt; omega) (fun hf => by have := (h.pair.low _ hf).2; omega) (fun hf => by have := h.pair.lowG _ hf; omega) h.bel.size

theorem ps_lay (h : PS w0 w F G p S cs T m g ms av) (l : Lb) (hl : l.ok) (a : Option Addr) (c : Nat) (hm : Bs w a c l.m) (hV : Vars w) (hlen : S.ws.length ≤ 800000) :
    Calls Tryd.prog 20 #[.pointer (some ⟨p, 0, none⟩), .agg (l.vs a c).toArray] w fun e w' => e = .returned (.int .i64 (layL S l).2) ∧ ∃ F', PS w0 w' F' G p (layL S l).1 cs T m g ms av := by
  refine (labLay_run h.pair.dk (fun k hk => (h.pair.low k hk).2) l hl a c hm hV (by omega)).mono ?_
  rintro e w' ⟨rfl, ht⟩
  exact ⟨rfl, h.own ht⟩
theorem ps_rlay (h : PS w0 w F G p S cs T m g ms av) (l : Lb) (hl : l.ok) (a : Option Addr) (c : Nat) (hm : Bs w a c l.m) (hlen : T.ws.length ≤ 800000) :
    Calls Tryd.prog 21 #[.agg cs.toArray, .agg (l.vs a c).toArray] w fun e w' => ∃ cs', e = .returned (.tuple #[.agg cs'.toArray, .int .i64 (layL T l).2]) ∧ ∃ G', PS w0 w' F G' p S cs' (layL T l).1 m g ms av := by
  refine (labRLay_run h.pair.rf h.pair.lowG l hl a c hm hlen).mono ?_
  rintro e w' ⟨cs', rfl, ht⟩
  exact ⟨cs', rfl, h.ref ht⟩
theorem ps_flush (h : PS w0 w F G p S cs T m g ms av) (hlen : S.ws.length ≤ 800000) :
    Calls Tryd.prog 22 #[.pointer (some ⟨p, 0, none⟩)] w fun e w' => (∃ v, e = .returned v) ∧ ∃ F', PS w0 w' F' G p S.flush.1 cs T m g ms av := by
  refine (dk_flush h.pair.dk (by omega)).mono ?_
  rintro e w' ⟨rfl, ht⟩
  exact ⟨⟨_, rfl⟩, h.own ht⟩
theorem ps_rflush (h : PS w0 w F G p S cs T m g ms av) (hlen : T.ws.length ≤ 800000) :
    Calls Tryd.prog 23 #[.agg cs.toArray] w fun e w' => ∃ cs' x, e = .returned (.tuple #[.agg cs'.toArray, .int .i64 x]) ∧ ∃ G', PS w0 w' F G' p S cs' T.flush.1 m g ms av := by
  refine (rflush_run h.pair.rf (by omega)).mono ?_
  rintro e w' ⟨cs', rfl, ht⟩
  exact ⟨cs', _, rfl, h.ref ht⟩
theorem ps_rot (h : PS w0 w F G p S cs T m g ms av) (i : Int) (a : Option Addr) (c : Nat) (qs : List Int) (hB : Bs w0 a c qs) (hq : qs.length ≤ 300) :
    Calls Tryd.prog 24 #[.pointer (some ⟨p, 0, none⟩), .int .i64 i, .slice a qs.length c] w fun e w' => (∃ v, e = .returned v) ∧ ∃ F', PS w0 w' F' G p (S.rot i qs).1 cs T m g ms av := by
  refine (dk_rot h.pair.dk i a c qs (hB.stays h.bel) (by omega) (fun h0 x hx hf => by have := hB.lt h0 hx; have := (h.pair.low _ hf).1; omega)).mono ?_
  rintro e w' ⟨rfl, ht⟩
  exact ⟨⟨_, rfl⟩, h.own ht⟩
theorem ps_rrot (h : PS w0 w F G p S cs T m g ms av) (i : Int) (a : Option Addr) (c : Nat) (qs : List Int) (hB : Bs w0 a c qs) :
    Calls Tryd.prog 25 #[.agg cs.toArray, .int .i64 i, .slice a qs.length c] w fun e w' => ∃ cs' x, e = .returned (.tuple #[.agg cs'.toArray, .int .i64 x]) ∧ ∃ G', PS w0 w' F G' p S cs' (T.rot i qs).1 m g ms av := by
  refine (rrot_run h.pair.rf i a c qs (hB.stays h.bel)).mono ?_
  rintro e w' ⟨cs', rfl, ht⟩
  exact ⟨cs', _, rfl, h.ref ht⟩
theorem is_stays {a : Option Addr} {ks : List Int} (h : Is w a ks) (hb : Below w.heap.size w w') : Is w' a ks := by
  rcases h with h | ⟨b, off, rfl, hc⟩
  · exact .inl h
  · by_cases h0 : ks = []
    · exact .inl h0
    · have hlt := World.block_lt_of_cell? w _ (hc 0 (List.length_pos_iff.2 h0))
      refine .inr ⟨b, off, rfl, fun i hi => ?_⟩
      rw [← hc i hi]
      unfold World.cell?
      rw [hb.block b hlt]
theorem ps_crash (h : PS w0 w F G p S cs T m g ms av) (hlen : S.ws.length ≤ 800000) (a : Option Addr) (c : Nat) (ks : List Int) (hK : Is w0 a ks) (hk : ks.length ≤ 60) :
    Calls Tryd.prog 26 #[.pointer (some ⟨p, 0, none⟩), .slice a ks.length c] w fun e w' => (∃ v, e = .returned v) ∧ ∃ F', PS w0 w' F' G p (S.crash ks) cs T m g ms av := by
  refine (dk_crash h.pair.dk (by omega) a c ks (is_stays hK h.bel) (by omega) (fun h0 x hx hf => by have := is_lt hK h0 hx; have := (h.pair.low _ hf).1; omega)).mono ?_
  rintro e w' ⟨he, ht⟩
  exact ⟨he, h.own ht⟩
theorem ps_rcrash (h : PS w0 w F G p S cs T m g ms av) (hlen : T.ws.length ≤ 800000) (a : Option Addr) (c : Nat) (ks : List Int) (hK : Is w0 a ks) (hk : ks.length ≤ 60) :
    Calls Tryd.prog 27 #[.agg cs.toArray, .slice a ks.length c] w fun e w' => ∃ cs', e = .returned (.agg cs'.toArray) ∧ ∃ G', PS w0 w' F G' p S cs' (T.crash ks) m g ms av := by
  refine (rcrash_run h.pair.rf (by omega) a c ks (is_stays hK h.bel) (by omega)).mono ?_
  rintro e w' ⟨cs', rfl, ht⟩
  exact ⟨cs', rfl, h.ref ht⟩
theorem PS.len (h : PS w0 w F G p S cs T m g ms av) : cs.length = 5 ∧ ∀ v ∈ cs, v.oneCell' = true := h.pair.rf.cells5
end

theorem flush_ws (S : DS) : S.flush.1.ws.length ≤ S.ws.length := flush_len S
theorem rot_ws (S : DS) (i : Int) (ms : List Int) : (S.rot i ms).1.ws = S.ws := by
  unfold DS.rot; split <;> rfl
theorem crash_ws (S : DS) (ks : List Int) : (S.crash ks).ws = [] := rfl

theorem ps_start {w0 wr wa wb : World} {F G : Nat → Prop} {p gm : Nat} {S : DS} {cs av : List Value} (hP : Pair w0.heap.size wr F G p S cs S) (hm : Blk 48 wr gm cs) (hF : ¬ F gm) (hG : ¬ G gm) (hb : Below w0.heap.size w0 wr) (hl : w0.heap.size ≤ gm)
    (hba : Below wr.heap.size wr wa) (hsa : wa.heap.size = wr.heap.size + 1) (hbut : But wr.heap.size wa wb) (hA : Blk 55 wb wr.heap.size av) : PS w0 wb F G p S cs S gm wr.heap.size cs av := by
  have n1 : ¬ F wr.heap.size := fun hf => by have := (hP.low _ hf).2; omega
  have n2 : ¬ G wr.heap.size := fun hf => by have := hP.lowG _ hf; omega
  exact ⟨(hP.stays hba).but hbut n1 n2, (hm.stays hba).but hbut (Nat.ne_of_lt hm.lt), hA, hF, hG, n1, n2, (below_then hb hba).trans (hbut.below hb.size (below_then hb hba).size), hl, hb.size⟩

theorem fuse_ws (S : DS) (f : Int) : (S.fuse f).ws = S.ws := rfl

end Go.Proofs.YthbcphalokoknaaDoor
