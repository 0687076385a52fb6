/-
  What the law LabelNewest needs of lists alone.
-/
import Derived.Test.YteocmmmnfbabaaaDoorLbAlive
import Derived.Test.YteocmmmnfbabaaaDoorRef7
namespace Go.Proofs.YteocmmmnfbabaaaDoor
set_option linter.unusedSimpArgs false
set_option linter.unusedVariables false
set_option maxRecDepth 100000
open Go.RowKit

theorem Kept.rot {S : DS} {t : Nat} {xs : List Int} (h : Kept S t xs) (i : Int) (hi : i ≠ (t : Int)) (ms : List Int) : Kept (S.rot i ms).1 t xs := by
  unfold DS.rot
  split
  · exact h
  · rename_i hh
    have hh' : S.has i ∧ ms.length ≤ 256 := by simpa using hh
    have h0 := hh'.1.1
    refine ⟨h.off, h.fused, by simp only; rw [xorTo_length]; exact h.len, ?_, h.ne⟩
    simp only
    rw [secOf_xorTo _ _ _ _ _ hh'.2, if_neg (by omega)]
    exact h.sec

theorem Kept.lay {S : DS} {t : Nat} {xs : List Int} (h : Kept S t xs) (l : Lb) (h1 : plc l.t ≠ t) (h2 : plc l.t + 1 ≠ t) : Kept (layL S l).1 t xs := by
  unfold layL
  split
  · split
    · exact (h.write _ (by omega) _).write _ (by omega) _
    · exact h.write _ (by omega) _
  · exact h

theorem lay_flush {l : Lb} (hl : l.ok) (hm : l.may = true) : (layL (DS.new 16) l).2 = 0 ∧ (layL (DS.new 16) l).1.flush.2 = 0 ∧ Kept (layL (DS.new 16) l).1.flush.1 (plc l.t + 1) l.bytes ∧ (layL (DS.new 16) l).1.flush.1.ws = [] ∧ (layL (DS.new 16) l).1.ws.length = 2 := by
  have hp : plc l.t ≤ 2 := by unfold plc; omega
  have hx := Lb.bytes_len hl.p (Lb.may_parts hm).2
  rw [layL_on (S := DS.new 16) hl hm rfl rfl new16_len]
  have h2 : DS.flush { DS.new 16 with ws := (DS.new 16).ws ++ [(plc l.t, l.bytes)] ++ [(plc l.t + 1, l.bytes)], left := (DS.new 16).left } = ({ DS.new 16 with laid := layW (DS.new 16).laid [(plc l.t, l.bytes), (plc l.t + 1, l.bytes)] (fun _ => 256) 2, ws := [], left := 0 }, 0) := by
    unfold DS.flush
    rw [if_neg (by simp [DS.new]), if_pos (by rfl)]
    rfl
  rw [h2]
  have hw : ∀ q ∈ [(plc l.t, l.bytes), (plc l.t + 1, l.bytes)], q.1 < 16 ∧ q.2.length = 256 := by
    intro q hq
    simp at hq
    rcases hq with rfl | rfl
    · exact ⟨by simp only; omega, hx⟩
    · exact ⟨by simp only; omega, hx⟩
  have hlen := layW_length (n := 16) new16_len hw (fun _ => 256) 2 (Nat.le_refl _)
  refine ⟨rfl, rfl, ⟨rfl, rfl, ?_, ?_, fun q hq => by cases hq⟩, rfl, rfl⟩
  · simp only; rw [hlen]; exact new16_len
  · have hc : clamp 256 = 256 := by decide
    have hlen1 := layW_length (n := 16) new16_len hw (fun _ => 256) 1 (by simp)
    simp only
    rw [layW_succ]
    simp only [List.getD_cons_succ, List.getD_cons_zero, hc]
    rw [List.take_of_length_le (by omega), secOf_same (by rw [hlen1, new16_len]; omega) (by omega), List.drop_eq_nil_of_le (by rw [secOf_length (by rw [hlen1, new16_len]; omega)]; omega), List.append_nil]

def cnt (t : Nat) : Nat → Nat
  | 0 => 0
  | k + 1 => cnt t k + if plcd t k then 1 else 0
theorem cnt4 (t : Nat) : cnt t 4 = 2 := by
  have h : plc t = 0 ∨ plc t = 2 := by unfold plc; omega
  rcases h with h | h <;> simp [cnt, plcd, h]

theorem scan_count (S : DS) : ∀ k, (scanC S k).2 ≤ cnt (scanC S k).1.t k
  | 0 => Nat.le_refl _
  | k + 1 => by
    have ih := scan_count S k
    show (stepC k (readW S.laid S.ws k) (scanC S k)).2 ≤ cnt (stepC k (readW S.laid S.ws k) (scanC S k)).1.t k + (if plcd (stepC k (readW S.laid S.ws k) (scanC S k)).1.t k then 1 else 0)
    unfold stepC
    generalize decL (readW S.laid S.ws k) = d
    by_cases h1 : d.2 = 0
    · rw [if_neg (fun h => h h1)]
      cases h2 : plcd d.1.t k
      · rw [if_pos rfl]; omega
      · rw [if_neg (by decide)]
        by_cases h3 : (scanC S k).2 = 0
        · rw [if_pos h3]; simp only; rw [h2, if_pos rfl]; omega
        · rw [if_neg h3]
          by_cases h4 : (scanC S k).1.t < d.1.t
          · rw [if_pos h4]; simp only; rw [h2, if_pos rfl]; omega
          · rw [if_neg h4]
            by_cases h5 : d.1.t = (scanC S k).1.t
            · rw [if_pos h5]; simp only; rw [← h5, h2, if_pos rfl]; rw [h5]; omega
            · rw [if_neg h5]; omega
    · rw [if_pos h1]; omega

theorem scan_from (S : DS) : ∀ k, (scanC S k).2 ≠ 0 → ∃ i, i < k ∧ decL (readW S.laid S.ws i) = ((scanC S k).1, 0)
  | 0, h => absurd rfl h
  | k + 1, h => by
    have ih := scan_from S k
    have hstep : scanC S (k + 1) = stepC k (readW S.laid S.ws k) (scanC S k) := rfl
    have old : (scanC S k).2 ≠ 0 → (scanC S (k + 1)).1 = (scanC S k).1 → ∃ i, i < k + 1 ∧ decL (readW S.laid S.ws i) = ((scanC S (k + 1)).1, 0) := fun h1 h2 => by
      obtain ⟨i, hi, he⟩ := ih h1
      exact ⟨i, by omega, by rw [h2]; exact he⟩
    have new : (decL (readW S.laid S.ws k)).2 = 0 → (scanC S (k + 1)).1 = (decL (readW S.laid S.ws k)).1 → ∃ i, i < k + 1 ∧ decL (readW S.laid S.ws i) = ((scanC S (k + 1)).1, 0) := fun h1 h2 => ⟨k, by omega, by rw [h2, ← h1]⟩
    unfold stepC at hstep
    by_cases h1 : (decL (readW S.laid S.ws k)).2 = 0
    · rw [if_neg (fun h => h h1)] at hstep
      cases h2 : plcd (decL (readW S.laid S.ws k)).1.t k
      · rw [h2, if_pos rfl] at hstep
        rw [hstep] at h
        exact old h (by rw [hstep])
      · rw [h2, if_neg (by decide)] at hstep
        by_cases h3 : (scanC S k).2 = 0
        · rw [if_pos h3] at hstep; exact new h1 (by rw [hstep])
        · rw [if_neg h3] at hstep
          by_cases h4 : (scanC S k).1.t < (decL (readW S.laid S.ws k)).1.t
          · rw [if_pos h4] at hstep; exact new h1 (by rw [hstep])
          · rw [if_neg h4] at hstep
            by_cases h5 : (decL (readW S.laid S.ws k)).1.t = (scanC S k).1.t
            · rw [if_pos h5] at hstep; exact old h3 (by rw [hstep])
            · rw [if_neg h5] at hstep; exact old h3 (by rw [hstep])
    · rw [if_pos h1] at hstep
      rw [hstep] at h
      exact old h (by rw [hstep])

theorem stepC_pos {i : Nat} {xs : List Int} {s : Lb × Nat} (h : s.2 ≠ 0) : (stepC i xs s).2 ≠ 0 := by
  unfold stepC
  repeat' split
  all_goals first | exact h | (simp only; omega)
theorem stepC_new {i : Nat} {xs : List Int} {s : Lb × Nat} (h1 : (decL xs).2 = 0) (h2 : plcd (decL xs).1.t i = true) : (stepC i xs s).2 ≠ 0 := by
  unfold stepC
  rw [if_neg (fun h => h h1), if_neg (by rw [h2]; decide)]
  by_cases h3 : s.2 = 0
  · rw [if_pos h3]; simp
  · rw [if_neg h3]
    repeat' split
    all_goals first | exact h3 | (simp only; omega)
theorem scan_pos (S : DS) {i : Nat} (h1 : (decL (readW S.laid S.ws i)).2 = 0) (h2 : plcd (decL (readW S.laid S.ws i)).1.t i = true) : ∀ k, i < k → (scanC S k).2 ≠ 0
  | 0, h => absurd h (by omega)
  | k + 1, h => by
    by_cases hik : i = k
    · subst hik; exact stepC_new h1 h2
    · exact stepC_pos (scan_pos S h1 h2 k (by omega))

/-- What is chosen, if each label among the sectors is a, or has the number t. -/
theorem newest_pure {S : DS} {a : Lb} {t : Nat} (ha : a.ok) (hm : a.may = true) (hk : Kept S (plc a.t + 1) a.bytes)
    (hall : ∀ i, i < 4 → (decL (readW S.laid S.ws i)).2 = 0 → (decL (readW S.laid S.ws i)).1 = a ∨ (decL (readW S.laid S.ws i)).1.t = t) :
    ∃ x n, chooseL S = ((x, n), 0) ∧ 1 ≤ n ∧ n ≤ 2 ∧ (x = a ∨ x.t = t) := by
  have hp : plc a.t ≤ 2 := by unfold plc; omega
  have hr : readW S.laid S.ws (plc a.t + 1) = a.bytes := by rw [readW_none hk.ne, hk.sec]
  have hd := decL_bytes ha hm
  have hpos : (scanC S 4).2 ≠ 0 := scan_pos S (i := plc a.t + 1) (by rw [hr, hd]) (by rw [hr, hd]; unfold plcd; simp) 4 (by omega)
  have hcnt := scan_count S 4
  rw [cnt4] at hcnt
  obtain ⟨i, hi, he⟩ := scan_from S 4 hpos
  refine ⟨(scanC S 4).1, (scanC S 4).2, ?_, by omega, hcnt, ?_⟩
  · unfold chooseL
    rw [if_neg (by rw [hk.off]; decide), if_neg hpos]
  · have := hall i hi (by rw [he])
    rw [he] at this
    exact this

end Go.Proofs.YteocmmmnfbabaaaDoor
