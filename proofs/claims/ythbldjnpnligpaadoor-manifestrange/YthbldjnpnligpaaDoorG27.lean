/-
  The document's Read: its bytes are new.
-/
import Derived.Test.YthbldjnpnligpaaDoorG25
import Derived.Test.YthbldjnpnligpaaDoorG15
import Derived.Test.YthbldjnpnligpaaDoorG17
import Derived.Test.YthbldjnpnligpaaDoorG20
import Derived.Test.YthbldjnpnligpaaDoorG21
import Derived.Test.YthbldjnpnligpaaDoorG22
import Derived.Test.YthbldjnpnligpaaDoorG26
import Derived.Test.YthbldjnpnligpaaDoorG24
import Derived.Test.YthbldjnpnligpaaDoorG10
namespace Go.Proofs.YthbldjnpnligpaaDoor
set_option linter.unusedSimpArgs false
set_option linter.unusedVariables false
set_option maxRecDepth 100000
open Go.RowKit

section
variable {G : Nat → Prop} {S : DS} {sa : Option Addr} {sc : Nat} {wa : Option Addr} {wc n : Nat}

end

end Go.Proofs.YthbldjnpnligpaaDoor

/-
  What package bank's texts want of general laws.
-/

namespace Go.Proofs.YthbldjnpnligpaaDoor
set_option linter.unusedSimpArgs false
set_option linter.unusedVariables false
set_option maxRecDepth 100000
open Go.RowKit

theorem rng_zeros (n : Nat) : ∀ x ∈ List.replicate n (0 : Int), 0 ≤ x ∧ x ≤ 255 := by
  intro x hx
  rw [(List.mem_replicate.1 hx).2]; decide

theorem run_load_cells {P : Program} {w : World} {t : TypeId} {b off n : Nat} {us : List Value} (hA : ∀ w, (isAgg t).run P w = .ok true w) (hZ : ∀ w, (sizeOf t).run P w = .ok n w)
    (hc : ∀ j, j < n → w.cell? ⟨b, off + j, none⟩ = us[j]?) (hl : us.length = n) : (Instr.loadAt t (.pointer (some ⟨b, off, none⟩))).run P w = .ok (.agg us.toArray) w := by
  have h := run_loadCells_list (P := P) w ⟨b, off, none⟩ us (fun j v hj => by
    have hadd : (⟨b, off, none⟩ : Addr).add j = ⟨b, off + j, none⟩ := by unfold Addr.add; split <;> simp_all
    have hjl : j < n := by
      rcases Nat.lt_or_ge j n with h1 | h1
      · exact h1
      · rw [List.getElem?_eq_none (by omega)] at hj; cases hj
    rw [hadd, hc j hjl]
    exact hj)
  rw [hl] at h
  simp [Instr.loadAt, Instr.sureAddr, loadVar, hA, hZ, h, Sem.run_bind]

end Go.Proofs.YthbldjnpnligpaaDoor

/-
  What a bank's calls tell, as plain data; no function here.
-/

namespace Go.Proofs.YthbldjnpnligpaaDoor
set_option linter.unusedSimpArgs false
set_option linter.unusedVariables false
set_option maxRecDepth 100000
open Go.RowKit

/-- Is the copy at a sector right? -/
def rightL (S : DS) (x : Nat) (h : List Int) : Bool := !(x == 0) && (decide (x < S.laid.length / 256) && decide (shaOf (readW S.laid S.ws x) = h))
/-- What keeps a pointer from being followed. -/
def okK (S : DS) (p : Pt) : Int := if S.off then 8 else if p.may then 0 else 1
def zeros256 : List Int := List.replicate 256 0
def readK (S : DS) (p : Pt) : List Int × Int :=
  if okK S p ≠ 0 then ([], okK S p) else if p.hole = true then (zeros256, 0)
  else if rightL S p.x p.h = true then (readW S.laid S.ws p.x, 0) else if rightL S p.y p.h = true then (readW S.laid S.ws p.y, 0) else ([], 9)
/-- Writes in order, to the first that fails. -/
def wrK (b : List Int) : DS → List Nat → DS × Int
  | S, [] => (S, 0)
  | S, x :: xs => if (S.write (x : Int) b).2 = 0 then wrK b (S.write (x : Int) b).1 xs else S.write (x : Int) b
def putK (S : DS) (l : List Bool) (t : Nat) (b : List Int) (c : Int) : (DS × List Bool) × Pt × Int :=
  if S.off then ((S, l), Pt.zero, 8)
  else if b.length ≠ 256 ∨ c < 1 ∨ 2 < c then ((S, l), Pt.zero, 1)
  else if (takeL l c).2.2 ≠ 0 then ((S, l), Pt.zero, ((takeL l c).2.2 : Int))
  else if (wrK b S (takeL l c).2.1).2 ≠ 0 then (((wrK b S (takeL l c).2.1).1, l), Pt.zero, (wrK b S (takeL l c).2.1).2)
  else (((wrK b S (takeL l c).2.1).1, (takeL l c).1), ⟨shaOf b, t, (takeL l c).2.1.getD 0 0, (takeL l c).2.1.getD 1 0⟩, 0)

theorem write_laid (S : DS) (i : Int) (xs : List Int) : (S.write i xs).1.laid = S.laid := by
  unfold DS.write
  repeat' split
  all_goals rfl
theorem write_len8 (S : DS) (i : Int) (xs : List Int) : (S.write i xs).1.ws.length ≤ S.ws.length + 1 := by
  unfold DS.write
  repeat' split
  all_goals simp [DS.dead]
/-- A write that is done. -/
theorem write_done_ws {S : DS} {i : Int} {xs : List Int} (h : (S.write i xs).2 = 0) : S.has i ∧ xs.length = 256 ∧ (S.write i xs).1.ws = S.ws ++ [(i.toNat, xs)] := by
  unfold DS.write at *
  by_cases h1 : S.off = true
  · rw [if_pos h1] at h; simp at h
  · rw [if_neg h1] at h ⊢
    by_cases h2 : S.has i ∧ xs.length = 256
    · rw [if_neg (by simpa using h2)] at h ⊢
      by_cases h3 : may S.fused S.left = true
      · rw [if_pos h3]; exact ⟨h2.1, h2.2, rfl⟩
      · rw [if_neg h3] at h; simp at h
    · rw [if_pos (by simpa using h2)] at h; simp at h
theorem write_off_ws {S : DS} {i : Int} {xs : List Int} (h : (S.write i xs).2 ≠ 0) : (S.write i xs).1.ws = S.ws := by
  unfold DS.write at *
  repeat' split
  all_goals first | rfl | (exfalso; apply h; simp_all)
theorem readW_write {S : DS} {x : Nat} {xs : List Int} (h : (S.write (x : Int) xs).2 = 0) (y : Nat) : readW (S.write (x : Int) xs).1.laid (S.write (x : Int) xs).1.ws y = if x = y then xs else readW S.laid S.ws y := by
  obtain ⟨_, _, h3⟩ := write_done_ws h
  rw [write_laid, h3, readW_upto]
  simp
theorem readW_write_ne (S : DS) {x y : Nat} (xs : List Int) (hne : x ≠ y) : readW (S.write (x : Int) xs).1.laid (S.write (x : Int) xs).1.ws y = readW S.laid S.ws y := by
  by_cases h : (S.write (x : Int) xs).2 = 0
  · rw [readW_write h, if_neg hne]
  · rw [write_laid, write_off_ws h]
theorem DS.has_nat {S : DS} {n x : Nat} (h : S.Ok n) : S.has (x : Int) ↔ x < n := by
  unfold DS.has
  rw [h.len, Nat.mul_div_cancel_left _ (by omega)]
  omega
theorem DS.Ok.secs {S : DS} {n : Nat} (h : S.Ok n) : S.laid.length / 256 = n := by rw [h.len, Nat.mul_div_cancel_left _ (by omega)]
theorem DS.read_at8 {S : DS} {n k : Nat} (h : S.Ok n) (hoff : S.off = false) (hk : k < n) : S.read (k : Int) = (readW S.laid S.ws k, 0) := by
  have hh : S.has (k : Int) := (DS.has_nat h).2 hk
  unfold DS.read
  rw [hoff, if_neg (by decide), if_neg (by simpa using hh)]
  simp
theorem DS.read_no8 {S : DS} {i : Int} (hoff : S.off = false) (hk : ¬ S.has i) : S.read i = ([], 1) := by
  unfold DS.read
  rw [hoff, if_neg (by decide), if_pos hk]
theorem DS.read_off8 {S : DS} {i : Int} (hoff : S.off = true) : S.read i = ([], 8) := by
  unfold DS.read
  rw [if_pos hoff]

theorem wrK_len (b : List Int) : ∀ (xs : List Nat) (S : DS), (wrK b S xs).1.ws.length ≤ S.ws.length + xs.length
  | [], S => by simp [wrK]
  | x :: xs, S => by
    have h1 := write_len8 S (x : Int) b
    have h2 := wrK_len b xs (S.write (x : Int) b).1
    unfold wrK
    split
    · simp only [List.length_cons]; omega
    · simp only [List.length_cons]; omega
theorem wrK_laid (b : List Int) : ∀ (xs : List Nat) (S : DS), (wrK b S xs).1.laid = S.laid
  | [], S => by simp [wrK]
  | x :: xs, S => by
    have h1 := write_laid S (x : Int) b
    have h2 := wrK_laid b xs (S.write (x : Int) b).1
    unfold wrK
    split
    · exact h2.trans h1
    · exact h1
theorem zeros256_len : zeros256.length = 256 := List.length_replicate
theorem zeros256_rng : ∀ x ∈ zeros256, 0 ≤ x ∧ x ≤ 255 := rng_zeros 256
theorem rightL_lt {S : DS} {n x : Nat} {h : List Int} (hok : S.Ok n) (hr : rightL S x h = true) : x < n ∧ x ≠ 0 ∧ shaOf (readW S.laid S.ws x) = h := by
  unfold rightL at hr
  simp only [Bool.and_eq_true, decide_eq_true_eq, hok.secs] at hr
  exact ⟨hr.2.1, by simpa using hr.1, hr.2.2⟩
theorem readK_len {S : DS} {n : Nat} (hok : S.Ok n) (p : Pt) : ((readK S p).2 = 0 ∧ (readK S p).1.length = 256) ∨ ((readK S p).2 ≠ 0 ∧ (readK S p).1 = []) := by
  unfold readK
  split
  · rename_i h; exact .inr ⟨h, rfl⟩
  · split
    · exact .inl ⟨rfl, zeros256_len⟩
    · split
      · rename_i h; exact .inl ⟨rfl, (readW_ok hok (rightL_lt hok h).1).1⟩
      · split
        · rename_i h; exact .inl ⟨rfl, (readW_ok hok (rightL_lt hok h).1).1⟩
        · exact .inr ⟨by simp, rfl⟩
theorem okK_zero {S : DS} {p : Pt} (h : okK S p = 0) : S.off = false ∧ p.may = true := by
  unfold okK at h
  split at h
  · simp at h
  · split at h
    · rename_i h1 h2; exact ⟨by simpa using h1, h2⟩
    · simp at h

end Go.Proofs.YthbldjnpnligpaaDoor
