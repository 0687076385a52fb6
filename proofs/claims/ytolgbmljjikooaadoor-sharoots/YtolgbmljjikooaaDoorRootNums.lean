/-
  The numbers: the first bits behind the point of the roots of the first primes.
-/
import Derived.Test.YtolgbmljjikooaaDoorRoot2
namespace Go.Proofs.YtolgbmljjikooaaDoor
set_option linter.unusedSimpArgs false
set_option linter.unusedVariables false
open Go.RowKit

def pStep (l : List Nat) (p : Nat) : List Nat := if l.all (fun q => p % q != 0) then l ++ [p] else l
/-- The primes below k + 2. -/
def pl : Nat → List Nat
  | 0 => []
  | k + 1 => pStep (pl k) (k + 2)

set_option maxRecDepth 100000 in
theorem pl_309 : (pl 309).length = 63 := by decide +kernel
set_option maxRecDepth 100000 in
theorem pl_310 : pl 310 = [2, 3, 5, 7, 11, 13, 17, 19, 23, 29, 31, 37, 41, 43, 47, 53, 59, 61, 67, 71, 73, 79, 83, 89, 97, 101, 103, 107, 109, 113, 127, 131, 137, 139, 149, 151, 157, 163, 167, 173, 179, 181, 191, 193, 197, 199, 211, 223, 227, 229, 233, 239, 241, 251, 257, 263, 269, 271, 277, 281, 283, 293, 307, 311] := by decide +kernel

def primes64 : List Nat := [2, 3, 5, 7, 11, 13, 17, 19, 23, 29, 31, 37, 41, 43, 47, 53, 59, 61, 67, 71, 73, 79, 83, 89, 97, 101, 103, 107, 109, 113, 127, 131, 137, 139, 149, 151, 157, 163, 167, 173, 179, 181, 191, 193, 197, 199, 211, 223, 227, 229, 233, 239, 241, 251, 257, 263, 269, 271, 277, 281, 283, 293, 307, 311]

/-- A row of a product. -/
def tRow (x : Nat) : Nat → List Nat → List Nat → List Nat
  | c, o :: os, y :: ys => (c + o + x * y) % 65536 :: tRow x ((c + o + x * y) / 65536) os ys
  | _, os, _ => os
def tRows (b : List Nat) : List Nat → List Nat → List Nat
  | x :: xs, out => match tRow x 0 out b with
    | [] => []
    | d :: r => d :: tRows b xs r
  | [], out => out

theorem tRow_len (x : Nat) : ∀ (c : Nat) (os ys : List Nat), (tRow x c os ys).length = os.length
  | c, o :: os, y :: ys => by simp [tRow, tRow_len x _ os ys]
  | c, [], _ => by simp [tRow]
  | c, o :: os, [] => by simp [tRow]

theorem tIn_row (a b : List Nat) (i : Nat) : ∀ (f k : Nat) (pre rest : List Nat) (c : Nat), pre.length = i + k → rest.length = f → k + f ≤ b.length → tIn a b i f k (pre ++ rest) c = pre ++ tRow (a.getD i 0) c rest (b.drop k)
  | 0, k, pre, rest, c, _, hr, _ => by
    obtain rfl : rest = [] := List.eq_nil_of_length_eq_zero hr
    simp [tIn, tRow]
  | f + 1, k, pre, rest, c, hp, hr, hb => by
    cases rest with
    | nil => simp at hr
    | cons o os =>
      have hkb : k < b.length := by omega
      have hg : (pre ++ o :: os).getD (i + k) 0 = o := by
        rw [List.getD_eq_getElem?_getD, List.getElem?_append_right (by omega), hp, Nat.sub_self]
        rfl
      have hbk : b.drop k = b.getD k 0 :: b.drop (k + 1) := by
        rw [List.getD_eq_getElem?_getD, List.getElem?_eq_getElem hkb, List.drop_eq_getElem_cons hkb]
        rfl
      have hset : ∀ v, (pre ++ o :: os).set (i + k) v = (pre ++ [v]) ++ os := fun v => by
        rw [← hp, List.set_append_right _ _ (Nat.le_refl _), Nat.sub_self]
        simp
      show tIn a b i f (k + 1) _ _ = _
      rw [hg, hset, tIn_row a b i f (k + 1) _ os _ (by simp; omega) (by simpa using hr) (by omega), hbk]
      simp [tRow]

theorem tOut_rows (a b : List Nat) (hb : b.length = 10) : ∀ (f i : Nat) (pre rest : List Nat), pre.length = i → rest.length = f → i + f = 10 → f ≤ a.length - i → tOut a b f i (pre ++ rest) = pre ++ tRows b (a.drop i) rest
  | 0, i, pre, rest, _, hr, _, _ => by
    obtain rfl : rest = [] := List.eq_nil_of_length_eq_zero hr
    cases h : a.drop i <;> simp [tOut, tRows, tRow]
  | f + 1, i, pre, rest, hp, hr, hi, ha => by
    have hai : i < a.length := by omega
    have hak : a.drop i = a.getD i 0 :: a.drop (i + 1) := by
      rw [List.getD_eq_getElem?_getD, List.getElem?_eq_getElem hai, List.drop_eq_getElem_cons hai]
      rfl
    show tOut a b f (i + 1) (tIn a b i (10 - i) 0 (pre ++ rest) 0) = _
    rw [tIn_row a b i (10 - i) 0 pre rest 0 (by omega) (by omega) (by omega), hak, List.drop_zero]
    have hl := tRow_len (a.getD i 0) 0 rest b
    cases hh : tRow (a.getD i 0) 0 rest b with
    | nil => rw [hh] at hl; simp at hl; omega
    | cons d r =>
      rw [hh] at hl
      rw [show pre ++ d :: r = (pre ++ [d]) ++ r by simp, tOut_rows a b hb f (i + 1) (pre ++ [d]) r (by simp; omega) (by simp at hl; omega) (by omega) (by omega)]
      have h2 : tRows b (a.getD i 0 :: a.drop (i + 1)) rest = d :: tRows b (a.drop (i + 1)) r := by simp only [tRows, hh]
      rw [h2, List.append_assoc]
      rfl

def timesF (a b : List Nat) : List Nat := tRows b a [0, 0, 0, 0, 0, 0, 0, 0, 0, 0]
theorem timesN_eq (a b : List Nat) (ha : a.length = 10) (hb : b.length = 10) : timesN a b = timesF a b := by
  have := tOut_rows a b hb 10 0 [] (List.replicate 10 0) rfl rfl rfl (by omega)
  simpa [timesN, timesF] using this

def powF (y : Nat) (cube : Bool) : List Nat := if cube then timesF (timesF (digOf y) (digOf y)) (digOf y) else timesF (digOf y) (digOf y)
theorem powN_eq (y : Nat) (cube : Bool) : powN y cube = powF y cube := by
  have h1 := timesN_eq (digOf y) (digOf y) rfl rfl
  have h2 := timesN_eq (timesN (digOf y) (digOf y)) (digOf y) (timesN_dig _ _).len rfl
  unfold powN powF
  rw [h2, h1]
def rStepF (p : Nat) (cube : Bool) (x step : Nat) : Nat := if aboveN (powF (x + step) cube) (mostOf p cube) 10 then x else x + step
def rLoopF (p : Nat) (cube : Bool) : Nat → Nat → Nat
  | 0, x => x
  | e + 1, x => rLoopF p cube e (rStepF p cube x (2 ^ e))
def rootF (p : Nat) (cube : Bool) : Nat := rLoopF p cube 37 0 % 4294967296
theorem rLoop_eq (p : Nat) (cube : Bool) : ∀ e x, rLoop p cube e x = rLoopF p cube e x
  | 0, _ => rfl
  | e + 1, x => by
    show rLoop p cube e (rStep p cube x (2 ^ e)) = rLoopF p cube e (rStepF p cube x (2 ^ e))
    rw [rLoop_eq p cube e, show rStep p cube x (2 ^ e) = rStepF p cube x (2 ^ e) by unfold rStep rStepF; rw [powN_eq]]
theorem rootN_eq (p : Nat) (cube : Bool) : rootN p cube = rootF p cube := by unfold rootN rootF; rw [rLoop_eq]

set_option maxRecDepth 100000 in
theorem cubes_right : primes64.map (fun p => rootF p true) = stepNums := by decide +kernel
set_option maxRecDepth 100000 in
theorem squares_right : (primes64.take 8).map (fun p => rootF p false) = firsts8.list := by decide +kernel
end Go.Proofs.YtolgbmljjikooaaDoor
