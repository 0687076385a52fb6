/-
  What is taken: it was free; how it is given back; no program here.
-/
import Derived.Test.YtfmfjaokpnadaaaSpPure
namespace Go.Proofs.Ytfmfjaokpnadaaa
set_option linter.unusedSimpArgs false
set_option linter.unusedVariables false

/-- o is taken of l, and l' is left. -/
structure Tk (l l' : List Bool) (o : List Nat) : Prop where
  len : l'.length = l.length
  fr : freeN l' + o.length = freeN l
  mem : ∀ x ∈ o, x < l.length ∧ l.getD x false = false ∧ l'.getD x false = true
  srt : o.Pairwise (· < ·)
  lab : Lab l → 4 ≤ l.length → Lab l'

theorem takeL_no (l : List Bool) (k : Int) (h : (takeL l k).2.2 ≠ 0) : (takeL l k).1 = l ∧ (takeL l k).2.1 = [] := by
  unfold takeL at *
  split
  · exact ⟨rfl, rfl⟩
  · split
    · exact ⟨rfl, rfl⟩
    · next h1 h2 => rw [if_neg h1, if_neg h2] at h; exact absurd rfl h

theorem Fr_sorted (l : List Bool) (i : Nat) : (Fr l i).Pairwise (· < ·) := List.Pairwise.filter _ List.pairwise_lt_range

theorem takeL_ok (l : List Bool) (k : Int) (h : (takeL l k).2.2 = 0) : Tk l (takeL l k).1 (takeL l k).2.1 ∧ ((takeL l k).2.1.length : Int) = k := by
  unfold takeL at *
  split
  · next h1 => rw [if_pos h1] at h; simp at h
  · split
    · next h1 h2 => rw [if_neg h1, if_pos h2] at h; simp at h
    · next h1 h2 =>
      clear h
      obtain ⟨m, rfl⟩ : ∃ m : Nat, k = (m : Int) := ⟨k.toNat, by omega⟩
      obtain ⟨i, hi, hl⟩ := Fr_stop l m (by omega)
      have he := Fr_take l i hi m hl
      simp only [Int.toNat_natCast]
      rw [← he]
      refine ⟨⟨setAll_len _ _, free_Cu l i hi, fun x hx => ?_, Fr_sorted l i, fun h1 h2 => h1.all h2 _⟩, by rw [hl]⟩
      obtain ⟨hx1, hx2⟩ := Fr_mem.1 hx
      refine ⟨by omega, hx2, ?_⟩
      rw [setAll_at _ _ _ (by omega)]
      simp [hx]

theorem srt_lt {o : List Nat} (h : o.Pairwise (· < ·)) {i j : Nat} (hij : i < j) (hj : j < o.length) : o.getD i 0 < o.getD j 0 := by
  have h1 : i < o.length := by omega
  have := List.pairwise_iff_getElem.1 h i j h1 hj hij
  simpa [List.getD, h1, hj] using this

theorem getD_mem {o : List Nat} {i : Nat} (h : i < o.length) : o.getD i 0 ∈ o := by simp [List.getD, h]

/-- Of what was taken, all from k on is still used. -/
structure Gv (n : Nat) (o : List Nat) (k : Nat) (l : List Bool) : Prop where
  len : l.length = n
  lab : Lab l
  mem : ∀ j, k ≤ j → j < o.length → 4 ≤ o.getD j 0 ∧ o.getD j 0 < n ∧ l.getD (o.getD j 0) false = true
  srt : o.Pairwise (· < ·)

theorem Tk.gv {l l' : List Bool} {o : List Nat} (h : Tk l l' o) (hl : Lab l) (h4 : 4 ≤ l.length) : Gv l.length o 0 l' :=
  ⟨h.len, h.lab hl h4, fun j _ hj => by
    obtain ⟨h1, h2, h3⟩ := h.mem _ (getD_mem hj)
    refine ⟨?_, h1, h3⟩
    rcases Nat.lt_or_ge (o.getD j 0) 4 with h5 | h5
    · rw [hl _ h5] at h2; cases h2
    · exact h5, h.srt⟩

theorem Gv.once {n k : Nat} {o : List Nat} {l : List Bool} (h : Gv n o k l) (hk : k < o.length) : giveL l (o.getD k 0) = (l.set (o.getD k 0) false, 0) := by
  obtain ⟨h1, h2, h3⟩ := h.mem k (Nat.le_refl _) hk
  unfold giveL
  rw [if_pos ⟨by rw [h.len]; exact h2, h1, h3⟩]
theorem Gv.again {n k : Nat} {o : List Nat} {l : List Bool} (h : Gv n o k l) (hk : k < o.length) : giveL (l.set (o.getD k 0) false) (o.getD k 0) = (l.set (o.getD k 0) false, 1) := by
  obtain ⟨h1, h2, h3⟩ := h.mem k (Nat.le_refl _) hk
  unfold giveL
  rw [if_neg]
  rintro ⟨_, _, h4⟩
  rw [getD_set _ _ _ _ (by rw [h.len]; exact h2), if_pos rfl] at h4
  cases h4
theorem Gv.next {n k : Nat} {o : List Nat} {l : List Bool} (h : Gv n o k l) (hk : k < o.length) : Gv n o (k + 1) (l.set (o.getD k 0) false) := by
  obtain ⟨h1, h2, h3⟩ := h.mem k (Nat.le_refl _) hk
  refine ⟨by simpa using h.len, fun i hi => ?_, fun j hj hjl => ?_, h.srt⟩
  · rw [getD_set _ _ _ _ (by rw [h.len]; exact h2), if_neg (by omega)]
    exact h.lab i hi
  · obtain ⟨g1, g2, g3⟩ := h.mem j (by omega) hjl
    refine ⟨g1, g2, ?_⟩
    have := srt_lt h.srt (show k < j by omega) hjl
    rw [getD_set _ _ _ _ (by rw [h.len]; exact h2), if_neg (by omega)]
    exact g3
end Go.Proofs.Ytfmfjaokpnadaaa
