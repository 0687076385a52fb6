/-
 What the calls of package space tell, as lists of truths; no program here.
-/
import Derived.Test.YthbldjnpnligpaaDoorB05
import Derived.Test.YthbldjnpnligpaaDoorB11
namespace Go.Proofs.YthbldjnpnligpaaDoor
set_option linter.unusedSimpArgs false
set_option linter.unusedVariables false
set_option maxRecDepth 100000
theorem getD_ext {l m : List Bool} (hl : l.length = m.length) (h : ∀ i, i < l.length → l.getD i false = m.getD i false) : l = m := by
 refine List.ext_getElem hl fun i h1 h2 => ?_
 have := h i h1
 simpa [List.getD, h1, h2] using this
def lab (n k : Nat) : List Bool := (List.range n).map (fun j => decide (j < k))
theorem lab_len (n k : Nat) : (lab n k).length = n := by simp [lab]
theorem lab_at (n k j : Nat) : (lab n k).getD j false = (decide (j < n) && decide (j < k)) := by
 by_cases h : j < n
 · simp [lab, List.getD, h]
 · simp [lab, List.getD, h]
theorem lab_next (n k : Nat) (hk : k < n) : (lab n k).set k true = lab n (k + 1) := by
 refine getD_ext (by simp [lab_len]) fun i hi => ?_
 rw [getD_set _ _ _ _ (by rw [lab_len]; exact hk), lab_at, lab_at]
 by_cases h : k = i
 · subst h; simp [hk]
 · rw [if_neg h]
   congr 1
   exact decide_eq_decide.2 (by omega)
theorem W_none (n k : Nat) : W (lab n 0) k = 0 := by
 refine Nat.eq_of_testBit_eq fun j => ?_
 rw [W_bit, lab_at]
 simp
def addL (l : List Bool) (ks : List Nat) : List Bool := ks.foldl (fun l i => if i < l.length then l.set i true else l) l
theorem addL_len (ks : List Nat) : ∀ l, (addL l ks).length = l.length := by
 induction ks with
 | nil => intro l; rfl
 | cons k ks ih =>
   intro l
   show (addL (if k < l.length then l.set k true else l) ks).length = _
   rw [ih]
   split <;> simp
theorem addL_next (l : List Bool) (ks : List Nat) (j : Nat) (hj : j < ks.length) :
 addL l (ks.take (j + 1)) = if ks.getD j 0 < l.length then (addL l (ks.take j)).set (ks.getD j 0) true else addL l (ks.take j) := by
 rw [List.take_succ_eq_append_getElem hj]
 unfold addL
 rw [List.foldl_append]
 have h := addL_len (ks.take j) l
 unfold addL at h
 have hg : ks[j] = ks.getD j 0 := by simp [List.getD, hj]
 simp only [List.foldl_cons, List.foldl_nil, h, hg]
theorem addL_at (ks : List Nat) : ∀ (l : List Bool) (i : Nat), i < l.length → (addL l ks).getD i false = (l.getD i false || decide (i ∈ ks)) := by
 induction ks with
 | nil => intro l i hi; simp [addL]
 | cons k ks ih =>
   intro l i hi
   show (addL (if k < l.length then l.set k true else l) ks).getD i false = _
   rw [ih _ i (by split <;> simpa using hi)]
   split
   · next h =>
     rw [getD_set _ _ _ _ h]
     by_cases e : k = i
     · subst e; simp
     · rw [if_neg e]; simp [show ¬ i = k from fun x => e x.symm]
   · next h => simp [show ¬ i = k by omega]
def keepL (n : Nat) (ks : List Nat) : List Bool := addL (lab n 4) ks
def Lab (l : List Bool) : Prop := ∀ i, i < 4 → l.getD i false = true
theorem Lab.lab {n : Nat} (h : 4 ≤ n) : Lab (lab n 4) := fun i hi => by rw [lab_at]; simp; omega
theorem Lab.keep {n : Nat} (h : 4 ≤ n) (ks : List Nat) : Lab (keepL n ks) := fun i hi => by
 rw [keepL, addL_at _ _ _ (by rw [lab_len]; omega), Lab.lab h i hi]; rfl
def giveL (l : List Bool) (i : Nat) : List Bool × Nat := if i < l.length ∧ 4 ≤ i ∧ l.getD i false = true then (l.set i false, 0) else (l, 1)
theorem giveL_len (l : List Bool) (i : Nat) : (giveL l i).1.length = l.length := by unfold giveL; split <;> simp
def Fr (l : List Bool) (i : Nat) : List Nat := (List.range i).filter (fun j => !l.getD j false)
theorem Fr_0 (l : List Bool) : Fr l 0 = [] := rfl
theorem Fr_free (l : List Bool) (i : Nat) (h : l.getD i false = false) : Fr l (i + 1) = Fr l i ++ [i] := by
 unfold Fr
 rw [List.range_succ, List.filter_append]
 congr 1
 rw [List.filter_cons, h]; rfl
theorem Fr_used (l : List Bool) (i : Nat) (h : l.getD i false = true) : Fr l (i + 1) = Fr l i := by
 unfold Fr
 rw [List.range_succ, List.filter_append, List.filter_cons, h]
 simp
theorem Fr_mem {l : List Bool} {i j : Nat} : j ∈ Fr l i ↔ j < i ∧ l.getD j false = false := by
 unfold Fr
 rw [List.mem_filter, List.mem_range, Bool.not_eq_true']
theorem Fr_len (l : List Bool) : ∀ i, i ≤ l.length → (Fr l i).length = (l.take i).count false
 | 0, _ => by simp [Fr_0]
 | i + 1, h => by
   have ih := Fr_len l i (by omega)
   have hg : l.getD i false = l[i] := by simp [List.getD, show i < l.length by omega]
   rw [List.take_succ_eq_append_getElem (by omega), List.count_append, ← ih]
   cases hx : l.getD i false
   · rw [Fr_free l i hx, ← hg, hx]; simp
   · rw [Fr_used l i hx, ← hg, hx]; simp
theorem Fr_all (l : List Bool) : (Fr l l.length).length = freeN l := by
 rw [Fr_len l _ (Nat.le_refl _), List.take_of_length_le (Nat.le_refl _)]; rfl
theorem Fr_mono (l : List Bool) (i : Nat) : ∀ d, ∃ r, Fr l (i + d) = Fr l i ++ r
 | 0 => ⟨[], by simp⟩
 | d + 1 => by
   obtain ⟨r, hr⟩ := Fr_mono l i d
   cases hx : l.getD (i + d) false
   · exact ⟨r ++ [i + d], by rw [← Nat.add_assoc, Fr_free l _ hx, hr, List.append_assoc]⟩
   · exact ⟨r, by rw [← Nat.add_assoc, Fr_used l _ hx, hr]⟩
theorem Fr_take (l : List Bool) (i : Nat) (hi : i ≤ l.length) (k : Nat) (hk : (Fr l i).length = k) : Fr l i = (Fr l l.length).take k := by
 obtain ⟨r, hr⟩ := Fr_mono l i (l.length - i)
 rw [show i + (l.length - i) = l.length by omega] at hr
 rw [hr, ← hk, List.take_left]
def setAll (l : List Bool) (o : List Nat) : List Bool := o.foldl (fun l i => l.set i true) l
theorem setAll_len (o : List Nat) : ∀ l, (setAll l o).length = l.length := by
 induction o with
 | nil => intro l; rfl
 | cons k o ih => intro l; show (setAll _ o).length = _; rw [ih]; simp
theorem setAll_more (l : List Bool) (o : List Nat) (i : Nat) : setAll l (o ++ [i]) = (setAll l o).set i true := by
 unfold setAll; rw [List.foldl_append]; rfl
theorem setAll_at (o : List Nat) : ∀ (l : List Bool) (i : Nat), i < l.length → (setAll l o).getD i false = (l.getD i false || decide (i ∈ o)) := by
 induction o with
 | nil => intro l i hi; simp [setAll]
 | cons k o ih =>
   intro l i hi
   show (setAll (l.set k true) o).getD i false = _
   rw [ih _ i (by simpa using hi)]
   by_cases hk : k < l.length
   · rw [getD_set _ _ _ _ hk]
     by_cases e : k = i
     · subst e; simp
     · rw [if_neg e]; simp [show ¬ i = k from fun x => e x.symm]
   · rw [List.set_eq_of_length_le (by omega)]
     simp [show ¬ i = k by omega]
def Cu (l : List Bool) (i : Nat) : List Bool := setAll l (Fr l i)
theorem Cu_len (l : List Bool) (i : Nat) : (Cu l i).length = l.length := setAll_len _ _
theorem Cu_at (l : List Bool) (i : Nat) (hi : i < l.length) : (Cu l i).getD i false = l.getD i false := by
 unfold Cu
 rw [setAll_at _ _ _ hi]
 have : ¬ i ∈ Fr l i := fun h => by have := (Fr_mem.1 h).1; omega
 simp [this]
theorem Cu_free (l : List Bool) (i : Nat) (h : l.getD i false = false) : (Cu l i).set i true = Cu l (i + 1) := by
 unfold Cu; rw [Fr_free l i h, setAll_more]
theorem Cu_used (l : List Bool) (i : Nat) (h : l.getD i false = true) : Cu l i = Cu l (i + 1) := by
 unfold Cu; rw [Fr_used l i h]
def takeL (l : List Bool) (k : Int) : List Bool × List Nat × Nat :=
 if k < 0 ∨ 8 < k then (l, [], 1) else if (freeN l : Int) < k then (l, [], 7) else (setAll l ((Fr l l.length).take k.toNat), (Fr l l.length).take k.toNat, 0)
theorem takeL_len (l : List Bool) (k : Int) : (takeL l k).1.length = l.length := by
 unfold takeL
 split
 · rfl
 · split
   · rfl
   · exact setAll_len _ _
theorem Lab.all {l : List Bool} (h : Lab l) (h4 : 4 ≤ l.length) (o : List Nat) : Lab (setAll l o) := fun i hi => by
 rw [setAll_at _ _ _ (by omega), h i hi]; rfl
theorem Lab.take {l : List Bool} (h : Lab l) (h4 : 4 ≤ l.length) (k : Int) : Lab (takeL l k).1 := by
 unfold takeL
 split
 · exact h
 · split
   · exact h
   · exact h.all h4 _
end Go.Proofs.YthbldjnpnligpaaDoor

/-
 Package space: Keep and New.
-/

namespace Go.Proofs.YthbldjnpnligpaaDoor
set_option linter.unusedSimpArgs false
set_option linter.unusedVariables false
set_option maxRecDepth 100000
open Go.RowKit
structure Us (w : World) (a : Option Addr) (ks : List Nat) : Prop where
 rng : ∀ k ∈ ks, k < 4294967296
 lay : ks = [] ∨ ∃ b off, a = some ⟨b, off, none⟩ ∧ ∀ i, i < ks.length → w.cell? ⟨b, off + i, none⟩ = some (.int .u32 ((ks.getD i 0 : Nat) : Int))
theorem Us.none (w : World) (a : Option Addr) : Us w a [] := ⟨by simp, .inl rfl⟩
theorem Us.stays {w w' : World} {a : Option Addr} {ks : List Nat} (h : Us w a ks) (hb : Below w.heap.size w w') : Us w' a ks := by
 refine ⟨h.rng, ?_⟩
 rcases h.lay with h0 | ⟨b, off, rfl, hc⟩
 · exact .inl h0
 · refine .inr ⟨b, off, rfl, fun i hi => ?_⟩
   rw [hb.cell (World.block_lt_of_cell? w _ (hc i hi))]
   exact hc i hi
theorem Mp.not_u32 {w : World} {g : Nat} {l : List Bool} (h : Mp w g l) (j : Nat) (x : Int) : ¬ w.cell? ⟨g, j, none⟩ = some (.int .u32 x) := by
 intro he
 rw [h.blk.cell j] at he
 have hm := List.mem_of_getElem? he
 simp only [mapV, wordsV, List.mem_cons, List.mem_map] at hm
 rcases hm with hm | ⟨k, _, hm⟩
 · simp at hm
 · simp at hm
theorem Us.but {w w' : World} {a : Option Addr} {ks : List Nat} {g : Nat} {l : List Bool} (h : Us w a ks) (hm : Mp w g l) (hb : But g w w') : Us w' a ks := by
 refine ⟨h.rng, ?_⟩
 rcases h.lay with h0 | ⟨b, off, rfl, hc⟩
 · exact .inl h0
 · refine .inr ⟨b, off, rfl, fun i hi => ?_⟩
   have hci := hc i hi
   have hne : b ≠ g := by
    rintro rfl
    exact hm.not_u32 _ _ hci
   rw [World.cell?_of_block (w := w) (hb.block b hne (World.block_lt_of_cell? w _ hci))]
   exact hci
theorem sizes32 : (Tryd.prog.info? 34).map (·.size) = some 1 := by kernel_rfl
theorem elem32 : Tryd.prog.elem 169 = 34 := by kernel_rfl
theorem build_words0 (w : World) : (Instr.build 134 #[]).run Tryd.prog w = .ok (.agg (List.replicate 8 (Value.int .u64 0)).toArray) w := by kernel_rfl
theorem wordsV_none (n : Nat) : wordsV (lab n 0) = List.replicate 8 (Value.int .u64 0) := by
 unfold wordsV
 simp only [W_none]
 rfl
theorem mapV_none (n : Nat) : mapV (lab n 0) = .int .i64 (n : Int) :: List.replicate 8 (Value.int .u64 0) := by
 rw [mapV, wordsV_none, lab_len]
section
variable {g : Nat} {l : List Bool}
theorem keep_run (a : Option Addr) (c : Nat) (ks : List Nat) (w : World) (h : Mp w g l) (hk : Us w a ks) (hlen : ks.length ≤ 1000000) :
 Calls Tryd.prog 100 #[.pointer (some ⟨g, 0, none⟩), .slice a ks.length c] w fun e w' => e = .returned (.tuple #[]) ∧ Mp w' g (keepL l.length ks) ∧ But g w w' := by
 have hbl := h.blk
 have hlo := h.lo
 have hhi := h.hi
 obtain ⟨n, hn⟩ : ∃ n, n = l.length := ⟨_, rfl⟩
 obtain ⟨m, hm⟩ : ∃ m, m = ks.length := ⟨_, rfl⟩
 have hvl : (mapV l).length = 9 := mapV_len l
 have HST : Hid (mapV (lab n 0) = (mapV l).take 1 ++ List.replicate 8 (Value.int .u64 0) ++ (mapV l).drop (1 + 8)) := by
  show _ = _
  rw [mapV_none, hn, List.drop_eq_nil_of_le (by omega), List.append_nil]
  simp [mapV]
 have HUS : Hid (∀ u, But g w u → Us u a ks) := fun u hu => hk.but h hu
 have HRN : Hid (∀ j, j < m → ks.getD j 0 < 4294967296) := fun j hj => hk.rng _ (by simp [List.getD, show j < ks.length by omega])
 obtain ⟨vs, hvs⟩ : ∃ vs, vs = mapV l := ⟨_, rfl⟩
 rw [← hvs] at hbl hvl HST
 have hone : ∀ v ∈ List.replicate 8 (Value.int .u64 0), v.oneCell' = true := by intro v hv; rw [List.eq_of_mem_replicate hv]; rfl
 have HM : Hid (m = ks.length) := hm
 rw [← hm] at hlen ⊢
 rw [← hn] at hlo hhi ⊢
 clear hm hn hvs h hk
 go_enter Tryd.func100, Tryd.ntmps100
 go_wp2_with (first
  | (refine wpList_build0 (by rfl) 134 (by rfl) _ build_words0 ?_)
  | (refine wpList_store_blk (by rfl) (.tmp 12) (.tmp 10) 134 (by rfl) g 1 8 (by rfl) (List.replicate 8 (Value.int .u64 0)) (by rfl) size_words hbl rfl (by omega) hone (mapV (lab n 0)) HST.out ?_; intro w1 hP1 hbut1 hs1; have hn1 := (Mp.mk hP1 (by rw [lab_len]; exact hlo) (by rw [lab_len]; exact hhi)).len; rw [lab_len] at hn1))
 have hP0 : Mp w1 g (lab n 0) := ⟨hP1, by rw [lab_len]; exact hlo, by rw [lab_len]; exact hhi⟩
 clear hn1 hP1 hbl HST hvl hone hs1
 go_loopw [4, 18] (fun _ i wr => ∃ k : Nat, k ≤ 4 ∧ i = .int .i64 k ∧ Mp wr g (lab n k) ∧ But g w wr) (fun _ i _ => 4 - (intOf i).toNat)
 case atStart => exact ⟨0, by omega, rfl, hP0, hbut1⟩
 case round =>
  rename_i hrel
  obtain ⟨k, hk, rfl, hP, hbr⟩ := hrel
  clear hP0 hbut1
  by_cases hlt : k < 4
  · have HU : Hid (Calls Tryd.prog 140 #[.pointer (some ⟨g, 0, none⟩), .int .i64 (k : Int)] wr fun e w' => e = .returned (.tuple #[]) ∧ Mp w' g (lab n (k + 1)) ∧ But g w w') := by
        have h1 := use_run k wr hP (by rw [lab_len]; omega)
        rw [lab_next n k (by omega)] at h1
        exact h1.mono fun e w' ⟨h2, h3, h4, _⟩ => ⟨h2, h3, hbr.trans h4⟩
    clear hP hbr
    go_wp2_with (go_at_call 140; refine HU.out.mono ?_; rintro e w2 ⟨rfl, hP2, hb2⟩)
    go_roundw
    case rel => exact ⟨k + 1, by omega, by go_num, hP2, hb2⟩
    case measure => simp [intOf]; omega
  · have hk4 : k = 4 := by omega
    subst hk4
    go_wp2
    go_loopw [6, 27] (fun _ i wr => ∃ j : Nat, j ≤ m ∧ i = .int .i64 j ∧ Mp wr g (addL (lab n 4) (ks.take j)) ∧ But g w wr) (fun _ i _ => m - (intOf i).toNat)
    case atStart => exact ⟨0, by omega, rfl, by simpa [addL] using hP, hbr⟩
    case round =>
        rename_i hrel
        obtain ⟨j, hj, rfl, hP', hbr'⟩ := hrel
        clear hP hbr
        by_cases hlt' : j < m
        · obtain ⟨b, off, ha, hc⟩ : ∃ b off, a = some ⟨b, off, none⟩ ∧ wr.cell? ⟨b, off + j, none⟩ = some (.int .u32 ((ks.getD j 0 : Nat) : Int)) := by
           have hm := HM.out
           rcases (HUS.out wr hbr').lay with h0 | ⟨b, off, h1, h2⟩
           · rw [h0] at hm; simp at hm; omega
           · exact ⟨b, off, h1, h2 j (by omega)⟩
          have hix : ∀ u : World, (Instr.indexAt 169 (.slice a m c) (.int .i64 j)).run Tryd.prog u = .ok (.pointer (some ⟨b, off + j, none⟩)) u := fun u => by
           rw [ha]; exact index_run 169 34 Tryd.underlying169 sizes32 elem32 b off m c .i64 j hlt' u
          obtain ⟨q, hq⟩ : ∃ q, q = ks.getD j 0 := ⟨_, rfl⟩
          have hql : q < 4294967296 := by rw [hq]; exact HRN.out j hlt'
          have hnx := addL_next (lab n 4) ks j (by have := HM.out; omega)
          rw [← hq, lab_len] at hnx
          rw [← hq] at hc
          have hl4 : (addL (lab n 4) (ks.take j)).length = n := by rw [addL_len, lab_len]
          clear hq ha
          have HHas := shas_run q hql wr hP'
          rw [hl4] at HHas
          have HH : Hid (Calls Tryd.prog 141 #[.pointer (some ⟨g, 0, none⟩), .int .u32 (q : Int)] wr fun e w' => e = .returned (.bool (decide (q < n))) ∧ w' = wr) := HHas
          clear HHas
          by_cases hin : q < n
          · have HU : Hid (Calls Tryd.prog 140 #[.pointer (some ⟨g, 0, none⟩), .int .i64 (q : Int)] wr fun e w' => e = .returned (.tuple #[]) ∧ Mp w' g (addL (lab n 4) (ks.take (j + 1))) ∧ But g w w') := by
             have h1 := use_run q wr hP' (by omega)
             rw [hnx, if_pos hin]
             exact h1.mono fun e w' ⟨h2, h3, h4, _⟩ => ⟨h2, h3, hbr'.trans h4⟩
            clear hP' hbr' hnx hl4
            go_wp2_with (first
             | (go_at_call 141; refine HH.out.mono ?_; rintro e w2 ⟨rfl, rfl⟩)
             | (go_at_call 140; refine HU.out.mono ?_; rintro e w2 ⟨rfl, hP2, hb2⟩))
            go_roundw
            case rel => exact ⟨_, .int .i64 ((j + 1 : Nat) : Int), _, _, _, _, _, _, _, _, _, _, _, ⟨j + 1, by omega, rfl, hP2, hb2⟩, by congr 1⟩
            case measure => simp [intOf]; omega
          · have hP2 : Mp wr g (addL (lab n 4) (ks.take (j + 1))) := by rw [hnx, if_neg hin]; exact hP'
            clear hP' hnx hl4
            go_wp2_with (first
             | (go_at_call 141; refine HH.out.mono ?_; rintro e w2 ⟨rfl, rfl⟩))
            go_roundw
            case rel => exact ⟨_, .int .i64 ((j + 1 : Nat) : Int), _, _, _, _, _, _, _, _, _, _, _, ⟨j + 1, by omega, rfl, hP2, hbr'⟩, by congr 1⟩
            case measure => simp [intOf]; omega
        · have hjm : j = m := by omega
          subst hjm
          have hfin : Mp wr g (keepL n ks) := by
           have := HM.out
           rw [List.take_of_length_le (by omega)] at hP'
           exact hP'
          clear hP'
          go_wp2
          go_end0
          exact ⟨rfl, hfin, hbr'⟩
theorem build_map (n : Int) (w : World) : (Instr.build 136 #[(0, .int .i64 n)]).run Tryd.prog w = .ok (.agg (Value.int .i64 n :: List.replicate 8 (Value.int .u64 0)).toArray) w := by kernel_rfl
theorem snew_run (n : Nat) (h1 : 16 ≤ n) (h2 : n ≤ 512) (w : World) : Calls Tryd.prog 46 #[.int .i64 (n : Int)] w fun e w' => e = .returned (.tuple #[.pointer (some ⟨w.heap.size, 0, none⟩), .int .i64 0]) ∧ Mp w' w.heap.size (lab n 4) ∧ Below w.heap.size w w' := by
 have hd : decide (16 ≤ (n : Int) ∧ (n : Int) ≤ 512) = true := decide_eq_true (by omega)
 have HM : Hid (∀ u, Calls Tryd.prog 99 #[.int .i64 (n : Int)] u fun e w' => e = .returned (.bool true) ∧ w' = u) := fun u => by rw [← hd]; exact smay_run n u
 clear hd
 obtain ⟨zs, hzs⟩ : ∃ zs, zs = Value.int .i64 (n : Int) :: List.replicate 8 (Value.int .u64 0) := ⟨_, rfl⟩
 have HB : Hid (∀ u, (Instr.build 136 #[(0, .int .i64 (n : Int))]).run Tryd.prog u = .ok (.agg zs.toArray) u) := fun u => by rw [hzs]; exact build_map n u
 have HZ : Hid (zs = mapV (lab n 0)) := by show _ = _; rw [hzs, mapV_none]
 clear hzs
 have HK : Hid (∀ u, Blk 136 u w.heap.size zs → Calls Tryd.prog 100 #[.pointer (some ⟨w.heap.size, 0, none⟩), .slice none 0 0] u fun e w' => e = .returned (.tuple #[]) ∧ Mp w' w.heap.size (lab n 4) ∧ But w.heap.size u w') := fun u hu => by
  have hm : Mp u w.heap.size (lab n 0) := ⟨by rw [← HZ.out]; exact hu, by rw [lab_len]; exact h1, by rw [lab_len]; exact h2⟩
  have := keep_run none 0 [] u hm (Us.none _ _) (by simp)
  rw [lab_len] at this
  exact this
 go_enter Tryd.func46, Tryd.ntmps46
 go_wp2_with (first
  | (go_at_call 99; refine (HM.out _).mono ?_; rintro e w' ⟨rfl, rfl⟩)
  | (refine wpList_build (by rfl) 136 [(0, .tmp 8)] (by rfl) [(0, .int .i64 (n : Int))] (by rfl) _ HB.out ?_)
  | (refine wpList_box0 (by rfl) 136 (.tmp 9) (by rfl) zs (by rfl) ?_; intro w1 hP1 hb1 hs1)
  | (go_at_call 100; refine (HK.out _ hP1).mono ?_; rintro e w2 ⟨rfl, hP2, hb2⟩))
 go_ret2
 exact ⟨rfl, hP2, hb1.trans (hb2.below (Nat.le_refl _) (by omega))⟩
end
end Go.Proofs.YthbldjnpnligpaaDoor

/-
 Package space: Give.
-/

namespace Go.Proofs.YthbldjnpnligpaaDoor
set_option linter.unusedSimpArgs false
set_option linter.unusedVariables false
set_option maxRecDepth 100000
open Go.RowKit
section
variable {g : Nat} {l : List Bool}
theorem give_out (i : Nat) (hi : i < 4294967296) (w : World) (h : Mp w g l) (ho : l.length ≤ i) : Calls Tryd.prog 105 #[.pointer (some ⟨g, 0, none⟩), .int .u32 (i : Int)] w fun e w' => e = .returned (.int .i64 1) ∧ Below w.heap.size w w' := by
 have hd : decide (i < l.length) = false := decide_eq_false (by omega)
 have h1 := shas_run i hi w h
 rw [hd] at h1
 have HH : Hid (Calls Tryd.prog 141 #[.pointer (some ⟨g, 0, none⟩), .int .u32 (i : Int)] w fun e w' => e = .returned (.bool false) ∧ w' = w) := h1
 clear h1 hd
 go_enter Tryd.func105, Tryd.ntmps105
 go_wp2_with (go_at_call 141; refine HH.out.mono ?_; rintro e w' ⟨rfl, rfl⟩)
 go_ret
 exact ⟨rfl, Below.refl _ _⟩
theorem give_lab (i : Nat) (hi : i < 4) (w : World) (h : Mp w g l) : Calls Tryd.prog 105 #[.pointer (some ⟨g, 0, none⟩), .int .u32 (i : Int)] w fun e w' => e = .returned (.int .i64 1) ∧ Below w.heap.size w w' := by
 have hlo := h.lo
 have hd : decide (i < l.length) = true := decide_eq_true (by omega)
 have hd2 : decide ((i : Int) < 4) = true := decide_eq_true (by omega)
 have h1 := shas_run i (by omega) w h
 rw [hd] at h1
 have HH : Hid (Calls Tryd.prog 141 #[.pointer (some ⟨g, 0, none⟩), .int .u32 (i : Int)] w fun e w' => e = .returned (.bool true) ∧ w' = w) := h1
 have h2 := isLabel_run (i : Int) w
 rw [hd2] at h2
 have HL : Hid (Calls Tryd.prog 145 #[.int .i64 (i : Int)] w fun e w' => e = .returned (.bool true) ∧ w' = w) := h2
 clear h1 hd h2 hd2
 go_enter Tryd.func105, Tryd.ntmps105
 go_wp2_with (first
  | (go_at_call 141; refine HH.out.mono ?_; rintro e w' ⟨rfl, rfl⟩)
  | (go_at_call 145; refine HL.out.mono ?_; rintro e w' ⟨rfl, rfl⟩))
 go_ret
 exact ⟨rfl, Below.refl _ _⟩
theorem give_free (i : Nat) (h4 : 4 ≤ i) (hi : i < l.length) (hu : l.getD i false = false) (w : World) (h : Mp w g l) : Calls Tryd.prog 105 #[.pointer (some ⟨g, 0, none⟩), .int .u32 (i : Int)] w fun e w' => e = .returned (.int .i64 1) ∧ Below w.heap.size w w' := by
 have hhi := h.hi
 have hd : decide (i < l.length) = true := decide_eq_true (by omega)
 have hd2 : decide ((i : Int) < 4) = false := decide_eq_false (by omega)
 have h1 := shas_run i (by omega) w h
 rw [hd] at h1
 have HH : Hid (Calls Tryd.prog 141 #[.pointer (some ⟨g, 0, none⟩), .int .u32 (i : Int)] w fun e w' => e = .returned (.bool true) ∧ w' = w) := h1
 have h2 := isLabel_run (i : Int) w
 rw [hd2] at h2
 have HL : Hid (Calls Tryd.prog 145 #[.int .i64 (i : Int)] w fun e w' => e = .returned (.bool false) ∧ w' = w) := h2
 have h3 := used_in i w h hi
 rw [hu] at h3
 have HU : Hid (Calls Tryd.prog 143 #[.pointer (some ⟨g, 0, none⟩), .int .i64 (i : Int)] w fun e w' => e = .returned (.bool false) ∧ Below w.heap.size w w') := h3
 clear h1 hd h2 hd2 h3 hu
 go_enter Tryd.func105, Tryd.ntmps105
 go_wp2_with (first
  | (go_at_call 141; refine HH.out.mono ?_; rintro e w' ⟨rfl, rfl⟩)
  | (go_at_call 145; refine HL.out.mono ?_; rintro e w' ⟨rfl, rfl⟩)
  | (go_at_call 143; refine HU.out.mono ?_; rintro e w1 ⟨rfl, hb1⟩))
 go_ret
 exact ⟨rfl, hb1⟩
theorem give_used (i : Nat) (h4 : 4 ≤ i) (hi : i < l.length) (hu : l.getD i false = true) (w : World) (h : Mp w g l) : Calls Tryd.prog 105 #[.pointer (some ⟨g, 0, none⟩), .int .u32 (i : Int)] w fun e w' => e = .returned (.int .i64 0) ∧ Mp w' g (l.set i false) ∧ But g w w' := by
 have hhi := h.hi
 have hd : decide (i < l.length) = true := decide_eq_true (by omega)
 have hd2 : decide ((i : Int) < 4) = false := decide_eq_false (by omega)
 have h1 := shas_run i (by omega) w h
 rw [hd] at h1
 have HH : Hid (Calls Tryd.prog 141 #[.pointer (some ⟨g, 0, none⟩), .int .u32 (i : Int)] w fun e w' => e = .returned (.bool true) ∧ w' = w) := h1
 have h2 := isLabel_run (i : Int) w
 rw [hd2] at h2
 have HL : Hid (Calls Tryd.prog 145 #[.int .i64 (i : Int)] w fun e w' => e = .returned (.bool false) ∧ w' = w) := h2
 have h3 := used_in i w h hi
 rw [hu] at h3
 have HU : Hid (Calls Tryd.prog 143 #[.pointer (some ⟨g, 0, none⟩), .int .i64 (i : Int)] w fun e w' => e = .returned (.bool true) ∧ Below w.heap.size w w') := h3
 have HM : Hid (∀ u, Below w.heap.size w u → Mp u g l) := fun u hu => h.stays hu
 clear h1 hd h2 hd2 h3 hu h
 have hb := fun u => bit_run i (by omega) u
 have hlt := W_lt l (i / 64)
 have hcl := clr_word l i hi
 have hq0 : (0 : Int) ≤ (i : Int) / 64 := by omega
 have hq1 : (i : Int) / 64 < 8 := by omega
 have hq2 : ((i : Int) / 64).toNat = i / 64 := by omega
 have hwr : IntKind.u32.wrap ((i : Int) / 64) = (i : Int) / 64 := by simp [IntKind.wrap, IntKind.bits, IntKind.signed]; omega
 have hwr2 : IntKind.i64.wrap (i : Int) = (i : Int) := by simp [IntKind.wrap, IntKind.bits, IntKind.signed]; omega
 go_enter Tryd.func105, Tryd.ntmps105
 go_wp2_with (first
  | (go_at_call 141; refine HH.out.mono ?_; rintro e w' ⟨rfl, rfl⟩)
  | (go_at_call 145; refine HL.out.mono ?_; rintro e w' ⟨rfl, rfl⟩)
  | (go_at_call 143; refine HU.out.mono ?_; rintro e w1 ⟨rfl, hb1⟩))
 have hP1 := HM.out w1 hb1
 have hw := hP1.word (i / 64) (by omega)
 have hfr := hP1.blk.free (1 + i / 64)
 go_region_law (refine step_call rfl 146 #[.int .i64 (i : Int)] (by go_simp) (hb _) ?_; rintro e w' ⟨rfl, rfl⟩; refine ⟨_, rfl, ?_⟩)
 all_goals go_wp2
 all_goals go_ret
 all_goals exact ⟨rfl, ⟨(hP1.put i false hi).blk, (hP1.put i false hi).lo, (hP1.put i false hi).hi⟩, (But.of_below hb1).trans ((But.refl g w1).setCell _ _).drew⟩
theorem give_run (i : Nat) (hi : i < 4294967296) (w : World) (h : Mp w g l) : Calls Tryd.prog 105 #[.pointer (some ⟨g, 0, none⟩), .int .u32 (i : Int)] w fun e w' => e = .returned (.int .i64 ((giveL l i).2 : Int)) ∧ Mp w' g (giveL l i).1 ∧ But g w w' := by
 unfold giveL
 by_cases hc : i < l.length ∧ 4 ≤ i ∧ l.getD i false = true
 · rw [if_pos hc]
   exact give_used i hc.2.1 hc.1 hc.2.2 w h
 · rw [if_neg hc]
   have key : Calls Tryd.prog 105 #[.pointer (some ⟨g, 0, none⟩), .int .u32 (i : Int)] w fun e w' => e = .returned (.int .i64 1) ∧ Below w.heap.size w w' := by
    by_cases h1 : i < l.length
    · by_cases h2 : 4 ≤ i
      · exact give_free i h2 h1 (by cases hx : l.getD i false; rfl; exact absurd ⟨h1, h2, hx⟩ hc) w h
      · exact give_lab i (by omega) w h
    · exact give_out i hi w h (by omega)
   exact key.mono fun e w' ⟨h1, h2⟩ => ⟨h1, h.stays h2, But.of_below h2⟩
end
end Go.Proofs.YthbldjnpnligpaaDoor
