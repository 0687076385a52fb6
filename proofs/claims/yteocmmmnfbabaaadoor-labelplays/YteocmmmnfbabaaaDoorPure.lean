/-
  Sectors, and bytes that are laid over them: lists alone.
-/
import Derived.Test.YteocmmmnfbabaaaDoorDkOps
namespace Go.Proofs.YteocmmmnfbabaaaDoor
set_option linter.unusedSimpArgs false
set_option linter.unusedVariables false
open Go.RowKit

theorem layAt_get {laid : List Int} {s : Nat} {ys : List Int} (h : 256 * s + ys.length ≤ laid.length) (j : Nat) : (layAt laid s ys)[j]? = if 256 * s ≤ j ∧ j < 256 * s + ys.length then ys[j - 256 * s]? else laid[j]? := by
  unfold layAt
  have hl : (laid.take (256 * s)).length = 256 * s := by simp; omega
  rcases Nat.lt_or_ge j (256 * s) with h1 | h1
  · rw [if_neg (by omega), List.getElem?_append_left (by omega), List.getElem?_take, if_pos h1]
  · rw [List.getElem?_append_right (by omega), hl]
    rcases Nat.lt_or_ge j (256 * s + ys.length) with h2 | h2
    · rw [if_pos ⟨h1, h2⟩, List.getElem?_append_left (by omega)]
    · rw [if_neg (by omega), List.getElem?_append_right (by omega), List.getElem?_drop]
      congr 1
      omega

theorem secOf_get (laid : List Int) (t j : Nat) : (secOf laid t)[j]? = if j < 256 then laid[256 * t + j]? else none := by
  unfold secOf
  rw [List.getElem?_take]
  split
  · rw [List.getElem?_drop]
  · rfl

theorem secOf_other {laid : List Int} {s t : Nat} {ys : List Int} (h : 256 * s + ys.length ≤ laid.length) (hy : ys.length ≤ 256) (hne : s ≠ t) : secOf (layAt laid s ys) t = secOf laid t := by
  apply List.ext_getElem?
  intro j
  rw [secOf_get, secOf_get]
  split
  · rw [layAt_get h, if_neg (by omega)]
  · rfl

theorem secOf_same {laid : List Int} {s : Nat} {ys : List Int} (h : 256 * s + 256 ≤ laid.length) (hy : ys.length ≤ 256) : secOf (layAt laid s ys) s = ys ++ (secOf laid s).drop ys.length := by
  apply List.ext_getElem?
  intro j
  rw [secOf_get]
  rcases Nat.lt_or_ge j ys.length with h1 | h1
  · rw [if_pos (by omega), layAt_get (by omega), if_pos (by omega), List.getElem?_append_left h1]
    congr 1; omega
  · rw [List.getElem?_append_right h1, List.getElem?_drop, secOf_get]
    split
    · rw [layAt_get (by omega), if_neg (by omega), if_pos (by omega)]
      congr 1; omega
    · rw [if_neg (by omega)]

theorem layW_succ (laid : List Int) (ws : List (Nat × List Int)) (keep : Nat → Int) (i : Nat) : layW laid ws keep (i + 1) = layAt (layW laid ws keep i) (ws.getD i (0, [])).1 ((ws.getD i (0, [])).2.take (clamp (keep i))) := by
  simp [layW, List.range_succ]

theorem layW_length {n : Nat} {laid : List Int} {ws : List (Nat × List Int)} (hn : laid.length = 256 * n) (hw : ∀ q ∈ ws, q.1 < n ∧ q.2.length = 256) (keep : Nat → Int) (i : Nat) (hi : i ≤ ws.length) : (layW laid ws keep i).length = laid.length := by
  induction i with
  | zero => rfl
  | succ i ih =>
    have hq : ws.getD i (0, []) ∈ ws := by simp [List.getD, show i < ws.length by omega]
    obtain ⟨h1, h2⟩ := hw _ hq
    have hl : ((ws.getD i (0, [])).2.take (clamp (keep i))).length ≤ 256 := by have := clamp_le (keep i); simp; omega
    rw [layW_succ, layAt_length (by rw [ih (by omega)]; omega), ih (by omega)]

/-- A sector that no write is of stays. -/
theorem secOf_layW {n t : Nat} {laid : List Int} {ws : List (Nat × List Int)} (hn : laid.length = 256 * n) (hw : ∀ q ∈ ws, q.1 < n ∧ q.2.length = 256) (hne : ∀ q ∈ ws, q.1 ≠ t) (keep : Nat → Int) (i : Nat) (hi : i ≤ ws.length) : secOf (layW laid ws keep i) t = secOf laid t := by
  induction i with
  | zero => rfl
  | succ i ih =>
    have hq : ws.getD i (0, []) ∈ ws := by simp [List.getD, show i < ws.length by omega]
    obtain ⟨h1, h2⟩ := hw _ hq
    have hl : ((ws.getD i (0, [])).2.take (clamp (keep i))).length ≤ 256 := by have := clamp_le (keep i); simp; omega
    rw [layW_succ, secOf_other (by rw [layW_length hn hw keep i (by omega)]; omega) hl (hne _ hq), ih (by omega)]

theorem readW_none {laid : List Int} {ws : List (Nat × List Int)} {t : Nat} (hne : ∀ q ∈ ws, q.1 ≠ t) : readW laid ws t = secOf laid t := by
  unfold readW
  have : ws.reverse.find? (fun q => q.1 == t) = none := by
    rw [List.find?_eq_none]
    intro q hq
    simpa using hne q (by simpa using hq)
  rw [this]; rfl

/-- What the law DiskFlushed keeps. -/
structure Kept (S : DS) (t : Nat) (xs : List Int) : Prop where
  off : S.off = false
  fused : S.fused = false
  len : S.laid.length = 4096
  sec : secOf S.laid t = xs
  ne : ∀ q ∈ S.ws, q.1 ≠ t

theorem Kept.read {S : DS} {t : Nat} {xs : List Int} (h : Kept S t xs) (ht : t < 16) : S.read (t : Int) = (xs, 0) := by
  unfold DS.read
  rw [if_neg (by rw [h.off]; decide), if_neg (by have := h.len; simp [DS.has]; omega)]
  simp only [Int.toNat_natCast]
  rw [readW_none h.ne, h.sec]

theorem Kept.write {S : DS} {t : Nat} {xs : List Int} (h : Kept S t xs) (i : Int) (hi : i ≠ (t : Int)) (ys : List Int) : Kept (S.write i ys).1 t xs := by
  unfold DS.write
  rw [if_neg (by rw [h.off]; decide)]
  split
  · exact h
  · rename_i hh
    have hh' : S.has i ∧ ys.length = 256 := by simpa using hh
    split
    · refine ⟨h.off, h.fused, h.len, h.sec, fun q hq => ?_⟩
      rcases List.mem_append.1 hq with hq | hq
      · exact h.ne q hq
      · simp at hq
        subst hq
        have := hh'.1.1
        simp only
        omega
    · rename_i hm
      exact absurd (by unfold may; rw [h.fused]; rfl) hm

theorem Kept.flush {S : DS} {t n : Nat} {xs : List Int} (h : Kept S t xs) (hok : S.Ok n) : Kept S.flush.1 t xs := by
  unfold DS.flush
  rw [if_neg (by rw [h.off]; decide), if_pos (by unfold may; rw [h.fused]; rfl)]
  have hw : ∀ q ∈ S.ws, q.1 < n ∧ q.2.length = 256 := fun q hq => ⟨(hok.ws q hq).1, (hok.ws q hq).2.1⟩
  refine ⟨h.off, h.fused, ?_, ?_, fun q hq => by simp at hq⟩
  · simp only; rw [layW_length hok.len hw _ _ (Nat.le_refl _)]; exact h.len
  · simp only; rw [secOf_layW hok.len hw h.ne _ _ (Nat.le_refl _)]; exact h.sec

theorem Kept.crash {S : DS} {t n : Nat} {xs : List Int} (h : Kept S t xs) (hok : S.Ok n) (ks : List Int) : Kept (S.crash ks) t xs := by
  unfold DS.crash
  have hw : ∀ q ∈ S.ws, q.1 < n ∧ q.2.length = 256 := fun q hq => ⟨(hok.ws q hq).1, (hok.ws q hq).2.1⟩
  refine ⟨rfl, rfl, ?_, ?_, fun q hq => by simp at hq⟩
  · simp only; rw [layW_length hok.len hw _ _ (by omega)]; exact h.len
  · simp only; rw [secOf_layW hok.len hw h.ne _ _ (by omega)]; exact h.sec

theorem write_len (S : DS) (i : Int) (ys : List Int) : (S.write i ys).1.ws.length ≤ S.ws.length + 1 := by
  unfold DS.write DS.dead
  repeat' split
  all_goals simp

theorem flush_len (S : DS) : S.flush.1.ws.length ≤ S.ws.length := by
  unfold DS.flush DS.dead
  repeat' split
  all_goals simp

end Go.Proofs.YteocmmmnfbabaaaDoor
