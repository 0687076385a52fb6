/-
  Labels and bytes: lists alone.
-/
import Derived.Test.YteocmmmnfbabaaaDoorLbDec
namespace Go.Proofs.YteocmmmnfbabaaaDoor
set_option linter.unusedSimpArgs false
set_option linter.unusedVariables false
set_option maxRecDepth 100000
open Go.RowKit

theorem n32_take4 (xs : List Int) (h : 4 ≤ xs.length) : n32 (xs.take 4) = n32 xs := by
  match xs, h with
  | a :: b :: c :: d :: r, _ => unfold n32 take32L; rw [if_neg (by simp), if_neg (by simp)]; rfl

theorem parts224 (xs : List Int) : xs.take 224 = (((xs.take 4 ++ (xs.drop 4).take 4) ++ (xs.drop 8).take 44) ++ (xs.drop 52).take 64) ++ (xs.drop 116).take 108 := by
  rw [← List.take_add, ← List.take_add, ← List.take_add, ← List.take_add]

theorem lbOf_body {xs : List Int} (hr : ∀ x ∈ xs, 0 ≤ x ∧ x ≤ 255) (hl : xs.length = 256) : (lbOf xs).body = (((magicL ++ (xs.drop 4).take 4) ++ (xs.drop 8).take 44) ++ (xs.drop 52).take 64) ++ List.replicate 108 0 := by
  unfold Lb.body lbOf
  simp only
  rw [n32_take4 _ (by simp; omega), b32_n32 (rng_drop hr 4) (by simp; omega), enc_decP (rng_take (rng_drop hr 8) 44) (by simp; omega)]

theorem lbOf_body_iff {xs : List Int} (hr : ∀ x ∈ xs, 0 ≤ x ∧ x ≤ 255) (hl : xs.length = 256) : (lbOf xs).body = xs.take 224 ↔ xs.take 4 = magicL ∧ (xs.drop 116).take 108 = List.replicate 108 0 := by
  rw [lbOf_body hr hl, parts224]
  constructor
  · intro h
    obtain ⟨h1, h2⟩ := List.append_inj' h (by simp; omega)
    obtain ⟨h3, _⟩ := List.append_inj' h1 rfl
    obtain ⟨h4, _⟩ := List.append_inj' h3 rfl
    obtain ⟨h5, _⟩ := List.append_inj' h4 rfl
    exact ⟨h5.symm, h2.symm⟩
  · rintro ⟨h1, h2⟩
    rw [h1, h2]

theorem lbOf_len {xs : List Int} (hl : xs.length = 256) : (lbOf xs).m.length = 64 := by simp [lbOf]; omega

theorem lbOf_bytes_iff {xs : List Int} (hr : ∀ x ∈ xs, 0 ≤ x ∧ x ≤ 255) (hl : xs.length = 256) (hs : sumL xs = true) : (lbOf xs).bytes = xs ↔ xs.take 4 = magicL ∧ (xs.drop 116).take 108 = List.replicate 108 0 := by
  rw [← lbOf_body_iff hr hl]
  have hsum : shaOf (xs.take 224) = xs.drop 224 := of_decide_eq_true hs
  unfold Lb.bytes
  constructor
  · intro h
    have h1 : (lbOf xs).body ++ shaOf (lbOf xs).body = xs.take 224 ++ xs.drop 224 := by rw [h, List.take_append_drop]
    exact (List.append_inj' h1 (by rw [shaOf_length]; simp; omega)).1
  · intro h
    rw [h, hsum, List.take_append_drop]

/-- A label that is written is read as it was. -/
theorem lbOf_of {l : Lb} (hl : l.ok) (hm : l.m.length = 64) (rest : List Int) : lbOf (l.body ++ rest) = l := by
  have he := Pt.enc_len hl.p
  have hb : l.body ++ rest = magicL ++ (b32 l.t ++ (l.p.enc ++ (l.m ++ (List.replicate 108 0 ++ rest)))) := by unfold Lb.body; simp only [List.append_assoc]
  have h4 : magicL.length = 4 := rfl
  have d4 : (l.body ++ rest).drop 4 = b32 l.t ++ (l.p.enc ++ (l.m ++ (List.replicate 108 0 ++ rest))) := by rw [hb, List.drop_left' h4]
  have d8 : (l.body ++ rest).drop 8 = l.p.enc ++ (l.m ++ (List.replicate 108 0 ++ rest)) := by
    rw [show 8 = 4 + 4 from rfl, ← List.drop_drop, d4, List.drop_left' (b32_len _)]
  have d52 : (l.body ++ rest).drop 52 = l.m ++ (List.replicate 108 0 ++ rest) := by
    rw [show 52 = 8 + 44 from rfl, ← List.drop_drop, d8, List.drop_left' he]
  unfold lbOf
  rw [d4, d8, d52, List.take_left' (b32_len _), List.take_left' he, List.take_left' hm, decP_enc hl.p]
  have := n32_b32 l.t hl.t []
  rw [List.append_nil] at this
  rw [this]

theorem okL_of {l : Lb} (hl : l.ok) (hm : l.may = true) (rest : List Int) : okL (l.body ++ rest) = true := by
  obtain ⟨hpm, hm64⟩ := Lb.may_parts hm
  have h1 := lbOf_of hl hm64 rest
  have hp : decP (((l.body ++ rest).drop 8).take 44) = l.p := congrArg Lb.p h1
  have he := Pt.enc_len hl.p
  have hb : l.body ++ rest = magicL ++ (b32 l.t ++ (l.p.enc ++ (l.m ++ (List.replicate 108 0 ++ rest)))) := by unfold Lb.body; simp only [List.append_assoc]
  have hd : (l.body ++ rest).drop 116 = List.replicate 108 0 ++ rest := by
    have : l.body ++ rest = (((magicL ++ b32 l.t) ++ l.p.enc) ++ l.m) ++ (List.replicate 108 0 ++ rest) := by unfold Lb.body; simp only [List.append_assoc]
    rw [this, List.drop_left' (by simp [magicL, b32_len, he, hm64])]
  unfold okL
  rw [hp, hpm, hd, List.take_left' (List.length_replicate), hb, @List.take_left' _ magicL _ 4 rfl]
  simp

theorem decL_bytes {l : Lb} (hl : l.ok) (hm : l.may = true) : decL l.bytes = (l, 0) := by
  obtain ⟨hpm, hm64⟩ := Lb.may_parts hm
  have hb := Lb.body_len hl.p hm64
  have hs : sumL l.bytes = true := by
    unfold sumL Lb.bytes
    rw [List.take_left' hb, List.drop_left' hb]
    simp
  unfold decL
  rw [if_neg (by rw [Lb.bytes_len hl.p hm64]; omega), if_neg (by rw [hs]; decide), if_pos (by unfold Lb.bytes; exact okL_of hl hm _)]
  unfold Lb.bytes
  rw [lbOf_of hl hm64]

/-- Bytes that are a label are its bytes. -/
theorem decL_only {xs : List Int} (hr : ∀ x ∈ xs, 0 ≤ x ∧ x ≤ 255) (h : (decL xs).2 = 0) : xs.length = 256 ∧ sumL xs = true ∧ okL xs = true ∧ (decL xs).1 = lbOf xs ∧ (lbOf xs).bytes = xs := by
  unfold decL at h ⊢
  by_cases h1 : xs.length = 256
  · rw [if_neg (by omega)] at h ⊢
    by_cases h2 : sumL xs = false
    · rw [if_pos h2] at h; cases h
    · rw [if_neg h2] at h ⊢
      have hs : sumL xs = true := by simpa using h2
      by_cases h3 : okL xs = true
      · rw [if_pos h3]
        refine ⟨h1, hs, h3, rfl, (lbOf_bytes_iff hr h1 hs).2 ?_⟩
        unfold okL at h3
        simp only [Bool.and_eq_true, decide_eq_true_eq] at h3
        exact h3.2
      · rw [if_neg h3] at h; cases h
  · rw [if_pos h1] at h; cases h

end Go.Proofs.YteocmmmnfbabaaaDoor
