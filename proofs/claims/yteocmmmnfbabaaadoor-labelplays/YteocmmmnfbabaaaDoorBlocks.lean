/-
  Package sha: bytes that are taken block by block, in pieces.
-/
import Derived.Test.YteocmmmnfbabaaaDoorTaken
namespace Go.Proofs.YteocmmmnfbabaaaDoor
set_option linter.unusedSimpArgs false
set_option linter.unusedVariables false

def firsts8 : S8 := ⟨1779033703, 3144134277, 1013904242, 2773480762, 1359893119, 2600822924, 528734635, 1541459225⟩
theorem firsts8_ok : firsts8.Ok := ⟨by decide, by decide, by decide, by decide, by decide, by decide, by decide, by decide⟩

theorem takenOf_ok (v : S8) (bs : List Int) : (takenOf v bs).Ok := ⟨add32_lt _ _, add32_lt _ _, add32_lt _ _, add32_lt _ _, add32_lt _ _, add32_lt _ _, add32_lt _ _, add32_lt _ _⟩

/-- The numbers behind the first n blocks. -/
def folded (v : S8) (xs : List Int) : Nat → S8
  | 0 => v
  | n + 1 => takenOf (folded v xs n) ((xs.drop (64 * n)).take 64)

theorem folded_append (v : S8) (xs ys : List Int) (n : Nat) (h : 64 * n ≤ xs.length) : folded v (xs ++ ys) n = folded v xs n := by
  induction n with
  | zero => rfl
  | succ n ih =>
    have h1 : 64 * n ≤ xs.length := by omega
    simp only [folded, ih h1]
    congr 1
    rw [List.drop_append_of_le_length h1, List.take_append_of_le_length (by simp; omega)]

theorem folded_ok (v : S8) (hv : v.Ok) (xs : List Int) (n : Nat) : (folded v xs n).Ok := by
  cases n with
  | zero => exact hv
  | succ n => exact takenOf_ok _ _

/-- The numbers behind all whole blocks. -/
def hashed (xs : List Int) : S8 := folded firsts8 xs (xs.length / 64)
theorem hashed_ok (xs : List Int) : (hashed xs).Ok := folded_ok _ firsts8_ok _ _

/-- What a hash that goes on has behind the bytes xs. -/
structure St (v : S8) (tail xs : List Int) : Prop where
  len : tail.length = 64
  rng : ∀ x ∈ tail, 0 ≤ x ∧ x ≤ 255
  cut : tail.take (xs.length % 64) = xs.drop (xs.length / 64 * 64)
  num : v = hashed xs

def laid (tail : List Int) (r : Nat) (ys : List Int) : List Int := tail.take r ++ (ys ++ tail.drop (r + ys.length))

theorem laid_length (tail : List Int) (r : Nat) (ys : List Int) (h : r + ys.length ≤ tail.length) : (laid tail r ys).length = tail.length := by
  unfold laid; simp; omega

theorem laid_rng (tail : List Int) (r : Nat) (ys : List Int) (ht : ∀ x ∈ tail, 0 ≤ x ∧ x ≤ 255) (hy : ∀ x ∈ ys, 0 ≤ x ∧ x ≤ 255) : ∀ x ∈ laid tail r ys, 0 ≤ x ∧ x ≤ 255 := by
  intro x hx
  unfold laid at hx
  simp only [List.mem_append] at hx
  rcases hx with hx | hx | hx
  · exact ht x (List.mem_of_mem_take hx)
  · exact hy x hx
  · exact ht x (List.mem_of_mem_drop hx)

theorem St.part {v : S8} {tail xs ys : List Int} (h : St v tail xs) (hy : ∀ x ∈ ys, 0 ≤ x ∧ x ≤ 255) (hf : xs.length % 64 + ys.length < 64) : St v (laid tail (xs.length % 64) ys) (xs ++ ys) := by
  have hq : (xs ++ ys).length / 64 = xs.length / 64 := by simp; omega
  have hr : (xs ++ ys).length % 64 = xs.length % 64 + ys.length := by simp; omega
  have hl := h.len
  refine ⟨by rw [laid_length _ _ _ (by omega), h.len], laid_rng _ _ _ h.rng hy, ?_, ?_⟩
  · rw [hq, hr, List.drop_append_of_le_length (by omega), ← h.cut]
    unfold laid
    rw [← List.append_assoc, List.take_append_of_le_length (by simp; omega), List.take_of_length_le (by simp; omega)]
  · rw [h.num]
    unfold hashed
    rw [hq, folded_append _ _ _ _ (by omega)]

theorem St.full {v : S8} {tail xs ys : List Int} (h : St v tail xs) (hy : ∀ x ∈ ys, 0 ≤ x ∧ x ≤ 255) (hf : xs.length % 64 + ys.length = 64) : St (takenOf v (laid tail (xs.length % 64) ys)) (laid tail (xs.length % 64) ys) (xs ++ ys) := by
  have hq : (xs ++ ys).length / 64 = xs.length / 64 + 1 := by simp; omega
  have hr : (xs ++ ys).length % 64 = 0 := by simp; omega
  have hl := h.len
  refine ⟨by rw [laid_length _ _ _ (by omega), h.len], laid_rng _ _ _ h.rng hy, ?_, ?_⟩
  · rw [hq, hr, List.take_zero, List.drop_eq_nil_of_le (by simp; omega)]
  · have hb : laid tail (xs.length % 64) ys = ((xs ++ ys).drop (64 * (xs.length / 64))).take 64 := by
      rw [List.drop_append_of_le_length (by omega), Nat.mul_comm, ← h.cut, List.take_of_length_le (by simp; omega)]
      unfold laid
      rw [List.drop_eq_nil_of_le (by omega), List.append_nil]
    unfold hashed
    rw [hq]
    simp only [folded]
    rw [folded_append _ _ _ _ (by omega), h.num, ← hb]
    rfl

/-- What the padded bytes have behind so many bytes. -/
def padOf (n : Nat) : List Int :=
  128 :: (List.replicate ((119 - n % 64) % 64) 0 ++ (List.range 8).map fun i => (((n * 8 / 2 ^ (8 * (7 - i)) % 256 : Nat)) : Int))

theorem padOf_length (n : Nat) : (padOf n).length = (119 - n % 64) % 64 + 9 := by simp [padOf]
theorem padOf_rng (n : Nat) : ∀ x ∈ padOf n, 0 ≤ x ∧ x ≤ 255 := by
  intro x hx
  simp only [padOf, List.mem_cons, List.mem_append, List.mem_replicate, List.mem_map] at hx
  rcases hx with rfl | ⟨_, rfl⟩ | ⟨i, _, rfl⟩
  · decide
  · decide
  · have := Nat.mod_lt (n * 8 / 2 ^ (8 * (7 - i))) (show 0 < 256 by decide)
    omega

/-- A number's four bytes. -/
def bytes4 (n : Nat) : List Int := [((n / 16777216 : Nat) : Int), ((n / 65536 % 256 : Nat) : Int), ((n / 256 % 256 : Nat) : Int), ((n % 256 : Nat) : Int)]
def S8.bytes (v : S8) : List Int := v.list.flatMap bytes4

/-- The hash. -/
def shaOf (xs : List Int) : List Int := (hashed (xs ++ padOf xs.length)).bytes

theorem shaOf_length (xs : List Int) : (shaOf xs).length = 32 := rfl
end Go.Proofs.YteocmmmnfbabaaaDoor
