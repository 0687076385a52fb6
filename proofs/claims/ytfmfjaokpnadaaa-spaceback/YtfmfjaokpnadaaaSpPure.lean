/-
  What the calls of package space tell, as lists of truths; no program here.
-/
import Derived.Test.YtfmfjaokpnadaaaSpBits
namespace Go.Proofs.Ytfmfjaokpnadaaa
set_option linter.unusedSimpArgs false
set_option linter.unusedVariables false

theorem getD_ext {l m : List Bool} (hl : l.length = m.length) (h : ∀ i, i < l.length → l.getD i false = m.getD i false) : l = m := by
  refine List.ext_getElem hl fun i h1 h2 => ?_
  have := h i h1
  simpa [List.getD, h1, h2] using this

/-- n sectors, of which the first k are used. -/
def lab (n k : Nat) : List Bool := (List.range n).map (fun j => decide (j < k))
theorem lab_len (n k : Nat) : (lab n k).length = n := by simp [lab]
theorem lab_at (n k j : Nat) : (lab n k).getD j false = (decide (j < n) && decide (j < k)) := by
  by_cases h : j < n
  · simp [lab, List.getD, h]
  · simp [lab, List.getD, h]
theorem lab_next (n k : Nat) (hk : k < n) : (lab n k).set k true = lab n (k + 1) := by
  refine getD_ext (by simp [lab_len]) fun i hi => ?_
  rw [getD_set _ _ _ _ (by rw [lab_len]; exact hk), lab_at, lab_at]
  by_cases h : k = i
  · subst h; simp [hk]
  · rw [if_neg h]
    congr 1
    exact decide_eq_decide.2 (by omega)

theorem W_none (n k : Nat) : W (lab n 0) k = 0 := by
  refine Nat.eq_of_testBit_eq fun j => ?_
  rw [W_bit, lab_at]
  simp

/-- The sectors ks that there are, used too. -/
def addL (l : List Bool) (ks : List Nat) : List Bool := ks.foldl (fun l i => if i < l.length then l.set i true else l) l
theorem addL_len (ks : List Nat) : ∀ l, (addL l ks).length = l.length := by
  induction ks with
  | nil => intro l; rfl
  | cons k ks ih =>
    intro l
    show (addL (if k < l.length then l.set k true else l) ks).length = _
    rw [ih]
    split <;> simp
theorem addL_next (l : List Bool) (ks : List Nat) (j : Nat) (hj : j < ks.length) :
    addL l (ks.take (j + 1)) = if ks.getD j 0 < l.length then (addL l (ks.take j)).set (ks.getD j 0) true else addL l (ks.take j) := by
  rw [List.take_succ_eq_append_getElem hj]
  unfold addL
  rw [List.foldl_append]
  have h := addL_len (ks.take j) l
  unfold addL at h
  have hg : ks[j] = ks.getD j 0 := by simp [List.getD, hj]
  simp only [List.foldl_cons, List.foldl_nil, h, hg]
theorem addL_at (ks : List Nat) : ∀ (l : List Bool) (i : Nat), i < l.length → (addL l ks).getD i false = (l.getD i false || decide (i ∈ ks)) := by
  induction ks with
  | nil => intro l i hi; simp [addL]
  | cons k ks ih =>
    intro l i hi
    show (addL (if k < l.length then l.set k true else l) ks).getD i false = _
    rw [ih _ i (by split <;> simpa using hi)]
    split
    · next h =>
      rw [getD_set _ _ _ _ h]
      by_cases e : k = i
      · subst e; simp
      · rw [if_neg e]; simp [show ¬ i = k from fun x => e x.symm]
    · next h => simp [show ¬ i = k by omega]

/-- What Keep leaves. -/
def keepL (n : Nat) (ks : List Nat) : List Bool := addL (lab n 4) ks
theorem keepL_len (n : Nat) (ks : List Nat) : (keepL n ks).length = n := by rw [keepL, addL_len, lab_len]

/-- The labels' sectors are used. -/
def Lab (l : List Bool) : Prop := ∀ i, i < 4 → l.getD i false = true
theorem Lab.lab {n : Nat} (h : 4 ≤ n) : Lab (lab n 4) := fun i hi => by rw [lab_at]; simp; omega
theorem Lab.keep {n : Nat} (h : 4 ≤ n) (ks : List Nat) : Lab (keepL n ks) := fun i hi => by
  rw [keepL, addL_at _ _ _ (by rw [lab_len]; omega), Lab.lab h i hi]; rfl

/-- What Give tells. -/
def giveL (l : List Bool) (i : Nat) : List Bool × Nat := if i < l.length ∧ 4 ≤ i ∧ l.getD i false = true then (l.set i false, 0) else (l, 1)
theorem giveL_len (l : List Bool) (i : Nat) : (giveL l i).1.length = l.length := by unfold giveL; split <;> simp
theorem Lab.give {l : List Bool} (h : Lab l) (i : Nat) : Lab (giveL l i).1 := by
  unfold giveL
  split
  · next hc =>
    intro j hj
    simp only
    rw [getD_set _ _ _ _ hc.1, if_neg (by omega)]
    exact h j hj
  · exact h

/-- The first free ones below i. -/
def Fr (l : List Bool) (i : Nat) : List Nat := (List.range i).filter (fun j => !l.getD j false)
theorem Fr_0 (l : List Bool) : Fr l 0 = [] := rfl
theorem Fr_free (l : List Bool) (i : Nat) (h : l.getD i false = false) : Fr l (i + 1) = Fr l i ++ [i] := by
  unfold Fr
  rw [List.range_succ, List.filter_append]
  congr 1
  rw [List.filter_cons, h]; rfl
theorem Fr_used (l : List Bool) (i : Nat) (h : l.getD i false = true) : Fr l (i + 1) = Fr l i := by
  unfold Fr
  rw [List.range_succ, List.filter_append, List.filter_cons, h]
  simp
theorem Fr_mem {l : List Bool} {i j : Nat} : j ∈ Fr l i ↔ j < i ∧ l.getD j false = false := by
  unfold Fr
  rw [List.mem_filter, List.mem_range, Bool.not_eq_true']
theorem Fr_len (l : List Bool) : ∀ i, i ≤ l.length → (Fr l i).length = (l.take i).count false
  | 0, _ => by simp [Fr_0]
  | i + 1, h => by
    have ih := Fr_len l i (by omega)
    have hg : l.getD i false = l[i] := by simp [List.getD, show i < l.length by omega]
    rw [List.take_succ_eq_append_getElem (by omega), List.count_append, ← ih]
    cases hx : l.getD i false
    · rw [Fr_free l i hx, ← hg, hx]; simp
    · rw [Fr_used l i hx, ← hg, hx]; simp
theorem Fr_all (l : List Bool) : (Fr l l.length).length = freeN l := by
  rw [Fr_len l _ (Nat.le_refl _), List.take_of_length_le (Nat.le_refl _)]; rfl
theorem Fr_mono (l : List Bool) (i : Nat) : ∀ d, ∃ r, Fr l (i + d) = Fr l i ++ r
  | 0 => ⟨[], by simp⟩
  | d + 1 => by
    obtain ⟨r, hr⟩ := Fr_mono l i d
    cases hx : l.getD (i + d) false
    · exact ⟨r ++ [i + d], by rw [← Nat.add_assoc, Fr_free l _ hx, hr, List.append_assoc]⟩
    · exact ⟨r, by rw [← Nat.add_assoc, Fr_used l _ hx, hr]⟩
theorem Fr_take (l : List Bool) (i : Nat) (hi : i ≤ l.length) (k : Nat) (hk : (Fr l i).length = k) : Fr l i = (Fr l l.length).take k := by
  obtain ⟨r, hr⟩ := Fr_mono l i (l.length - i)
  rw [show i + (l.length - i) = l.length by omega] at hr
  rw [hr, ← hk, List.take_left]
theorem Fr_le (l : List Bool) (i : Nat) (hi : i ≤ l.length) : (Fr l i).length ≤ freeN l := by
  obtain ⟨r, hr⟩ := Fr_mono l i (l.length - i)
  rw [show i + (l.length - i) = l.length by omega] at hr
  rw [← Fr_all, hr, List.length_append]
  omega

/-- All of them used. -/
def setAll (l : List Bool) (o : List Nat) : List Bool := o.foldl (fun l i => l.set i true) l
theorem setAll_len (o : List Nat) : ∀ l, (setAll l o).length = l.length := by
  induction o with
  | nil => intro l; rfl
  | cons k o ih => intro l; show (setAll _ o).length = _; rw [ih]; simp
theorem setAll_more (l : List Bool) (o : List Nat) (i : Nat) : setAll l (o ++ [i]) = (setAll l o).set i true := by
  unfold setAll; rw [List.foldl_append]; rfl
theorem setAll_at (o : List Nat) : ∀ (l : List Bool) (i : Nat), i < l.length → (setAll l o).getD i false = (l.getD i false || decide (i ∈ o)) := by
  induction o with
  | nil => intro l i hi; simp [setAll]
  | cons k o ih =>
    intro l i hi
    show (setAll (l.set k true) o).getD i false = _
    rw [ih _ i (by simpa using hi)]
    by_cases hk : k < l.length
    · rw [getD_set _ _ _ _ hk]
      by_cases e : k = i
      · subst e; simp
      · rw [if_neg e]; simp [show ¬ i = k from fun x => e x.symm]
    · rw [List.set_eq_of_length_le (by omega)]
      simp [show ¬ i = k by omega]

/-- Used up to i. -/
def Cu (l : List Bool) (i : Nat) : List Bool := setAll l (Fr l i)
theorem Cu_0 (l : List Bool) : Cu l 0 = l := rfl
theorem Cu_len (l : List Bool) (i : Nat) : (Cu l i).length = l.length := setAll_len _ _
theorem Cu_at (l : List Bool) (i : Nat) (hi : i < l.length) : (Cu l i).getD i false = l.getD i false := by
  unfold Cu
  rw [setAll_at _ _ _ hi]
  have : ¬ i ∈ Fr l i := fun h => by have := (Fr_mem.1 h).1; omega
  simp [this]
theorem Cu_free (l : List Bool) (i : Nat) (h : l.getD i false = false) : (Cu l i).set i true = Cu l (i + 1) := by
  unfold Cu; rw [Fr_free l i h, setAll_more]
theorem Cu_used (l : List Bool) (i : Nat) (h : l.getD i false = true) : Cu l i = Cu l (i + 1) := by
  unfold Cu; rw [Fr_used l i h]

/-- What Take tells. -/
def takeL (l : List Bool) (k : Int) : List Bool × List Nat × Nat :=
  if k < 0 ∨ 8 < k then (l, [], 1) else if (freeN l : Int) < k then (l, [], 7) else (setAll l ((Fr l l.length).take k.toNat), (Fr l l.length).take k.toNat, 0)
theorem takeL_len (l : List Bool) (k : Int) : (takeL l k).1.length = l.length := by
  unfold takeL
  split
  · rfl
  · split
    · rfl
    · exact setAll_len _ _
theorem Lab.all {l : List Bool} (h : Lab l) (h4 : 4 ≤ l.length) (o : List Nat) : Lab (setAll l o) := fun i hi => by
  rw [setAll_at _ _ _ (by omega), h i hi]; rfl
theorem Lab.take {l : List Bool} (h : Lab l) (h4 : 4 ≤ l.length) (k : Int) : Lab (takeL l k).1 := by
  unfold takeL
  split
  · exact h
  · split
    · exact h
    · exact h.all h4 _

theorem free_set (l : List Bool) : ∀ (i : Nat), i < l.length → l.getD i false = false → freeN (l.set i true) + 1 = freeN l := by
  induction l with
  | nil => intro i hi; simp at hi
  | cons b l ih =>
    intro i hi h
    cases i with
    | zero =>
      simp at h; subst h
      simp [freeN]
    | succ i =>
      have := ih i (by simpa using hi) (by simpa using h)
      unfold freeN at this ⊢
      cases b <;> simp <;> omega
theorem free_Cu (l : List Bool) : ∀ i, i ≤ l.length → freeN (Cu l i) + (Fr l i).length = freeN l
  | 0, _ => by rw [Cu_0, Fr_0]; rfl
  | i + 1, h => by
    have ih := free_Cu l i (by omega)
    cases hx : l.getD i false
    · have h1 := free_set (Cu l i) i (by rw [Cu_len]; omega) (by rw [Cu_at l i (by omega), hx])
      rw [← Cu_free l i hx, Fr_free l i hx, List.length_append]
      simp
      omega
    · rw [← Cu_used l i hx, Fr_used l i hx]; exact ih
theorem Fr_stop (l : List Bool) (k : Nat) (hk : k ≤ freeN l) : ∃ i, i ≤ l.length ∧ (Fr l i).length = k := by
  have key : ∀ d, d ≤ l.length → k ≤ (Fr l d).length → ∃ i, i ≤ d ∧ (Fr l i).length = k := by
    intro d
    induction d with
    | zero => intro _ h; exact ⟨0, Nat.le_refl _, by rw [Fr_0] at h ⊢; simp at h ⊢; omega⟩
    | succ d ih =>
      intro hd h
      by_cases he : (Fr l (d + 1)).length = k
      · exact ⟨d + 1, Nat.le_refl _, he⟩
      · have : k ≤ (Fr l d).length := by
          cases hx : l.getD d false
          · rw [Fr_free l d hx, List.length_append] at h he; simp at h he; omega
          · rw [Fr_used l d hx] at h he; omega
        obtain ⟨i, h1, h2⟩ := ih (by omega) this
        exact ⟨i, by omega, h2⟩
  exact key l.length (Nat.le_refl _) (by rw [Fr_all]; exact hk)
end Go.Proofs.Ytfmfjaokpnadaaa
