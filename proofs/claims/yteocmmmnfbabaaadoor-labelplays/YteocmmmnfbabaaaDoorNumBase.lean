/-
  NParts of bytes, laid one behind the other; no function here.
-/
import Derived.Test.YteocmmmnfbabaaaDoorProg
import Derived.Test.YteocmmmnfbabaaaDoorBase
namespace Go.Proofs.YteocmmmnfbabaaaDoor
set_option linter.unusedSimpArgs false
set_option linter.unusedVariables false
open Go.RowKit

theorem Tryd.info5 : (Tryd.prog.info? 5).map (fun i => (i.zero, i.size, i.bytes)) = some (some (.int .u8 0), 1, 1) := by kernel_rfl

theorem rng_snoc {xs : List Int} {y : Int} (h : ∀ x ∈ xs, 0 ≤ x ∧ x ≤ 255) (hy : 0 ≤ y ∧ y ≤ 255) : ∀ x ∈ xs ++ [y], 0 ≤ x ∧ x ≤ 255 := by
  intro x hx
  rcases List.mem_append.1 hx with hx | hx
  · exact h x hx
  · rw [List.mem_singleton.1 hx]; exact hy

structure NPart where
  a : Option Addr
  c : Nat
  xs : List Int

def NPart.val (p : NPart) : Value := .slice p.a p.xs.length p.c

def flat : List NPart → List Int
  | [] => []
  | p :: ps => p.xs ++ flat ps

theorem flat_append (p q : List NPart) : flat (p ++ q) = flat p ++ flat q := by
  induction p with
  | nil => rfl
  | cons x p ih => simp [flat, ih]

theorem flat_rng {ps : List NPart} (h : ∀ p ∈ ps, ∀ x ∈ p.xs, (0 : Int) ≤ x ∧ x ≤ 255) : ∀ x ∈ flat ps, 0 ≤ x ∧ x ≤ 255 := by
  induction ps with
  | nil => simp [flat]
  | cons p ps ih =>
    intro x hx
    rcases List.mem_append.1 hx with hx | hx
    · exact h p (by simp) x hx
    · exact ih (fun q hq => h q (by simp [hq])) x hx

structure Ps (w : World) (a : Option Addr) (ps : List NPart) : Prop where
  bs : ∀ p ∈ ps, Bs w p.a p.c p.xs
  lay : ps = [] ∨ ∃ b off, a = some ⟨b, off, none⟩ ∧ ∀ i (hi : i < ps.length), w.cell? ⟨b, off + i, none⟩ = some ps[i].val

theorem Ps.empty (w : World) : Ps w none [] := ⟨by simp, .inl rfl⟩

theorem Ps.stays {w w' : World} {a : Option Addr} {ps : List NPart} (h : Ps w a ps) (hb : Below w.heap.size w w') : Ps w' a ps := by
  refine ⟨fun p hp => (h.bs p hp).stays hb, ?_⟩
  rcases h.lay with h | ⟨b, off, rfl, hc⟩
  · exact .inl h
  · refine .inr ⟨b, off, rfl, fun i hi => ?_⟩
    rw [hb.cell (World.block_lt_of_cell? w _ (hc i hi))]
    exact hc i hi

theorem flat_take_succ (ps : List NPart) (j : Nat) (h : j < ps.length) : flat (ps.take (j + 1)) = flat (ps.take j) ++ ps[j].xs := by
  rw [List.take_succ_eq_append_getElem h, flat_append]; simp [flat]

theorem flat_take_le (ps : List NPart) (j : Nat) : (flat (ps.take j)).length ≤ (flat ps).length := by
  have : flat ps = flat (ps.take j) ++ flat (ps.drop j) := by rw [← flat_append, List.take_append_drop]
  rw [this]; simp

theorem Tryd.elem27 : Tryd.prog.elem 27 = 5 := by kernel_rfl

theorem Tryd.size5 : (Tryd.prog.info? 5).map (·.size) = some 1 := by kernel_rfl

theorem ret_slice {a : Option Addr} {n m c : Nat} (h : n = m) : Ending.returned (.slice a n c) = .returned (.slice a m c) := by rw [h]

theorem below_then {w w1 w2 : World} (h1 : Below w.heap.size w w1) (h2 : Below w1.heap.size w1 w2) : Below w.heap.size w w2 := h1.trans (h2.mono h1.size)

theorem Ps.one {w : World} {a : Option Addr} {c : Nat} {xs : List Int} (h : Bs w a c xs) (t : TypeId) : Ps (w.alloc (.cells #[.slice a xs.length c] t)) (some ⟨w.heap.size, 0, none⟩) [⟨a, c, xs⟩] := by
  refine ⟨fun p hp => ?_, .inr ⟨_, _, rfl, fun i hi => ?_⟩⟩
  · rw [List.mem_singleton.1 hp]; exact h.stays ((Below.refl _ _).alloc (Nat.le_refl _) _)
  · have : i = 0 := by simpa using hi
    subst this
    simp [NPart.val]

theorem Ps.two {w : World} {a a2 : Option Addr} {c c2 : Nat} {xs ys : List Int} (h : Bs w a c xs) (h2 : Bs w a2 c2 ys) (t : TypeId) :
    Ps (w.alloc (.cells #[.slice a xs.length c, .slice a2 ys.length c2] t)) (some ⟨w.heap.size, 0, none⟩) [⟨a, c, xs⟩, ⟨a2, c2, ys⟩] := by
  refine ⟨fun p hp => ?_, .inr ⟨_, _, rfl, fun i hi => ?_⟩⟩
  · have hb := (Below.refl w.heap.size w).alloc (Nat.le_refl _) (.cells #[.slice a xs.length c, .slice a2 ys.length c2] t)
    simp only [List.mem_cons, List.not_mem_nil, or_false] at hp
    rcases hp with rfl | rfl
    · exact h.stays hb
    · exact h2.stays hb
  · have : i = 0 ∨ i = 1 := by simp at hi; omega
    rcases this with rfl | rfl <;> simp [NPart.val]

theorem getD_rng {xs : List Int} (h : ∀ x ∈ xs, 0 ≤ x ∧ x ≤ 255) (k : Nat) (hk : k < xs.length) : 0 ≤ xs.getD k 0 ∧ xs.getD k 0 ≤ 255 := by
  have := h _ (List.getElem_mem hk); simpa [List.getD, hk] using this

theorem drop_cons {xs : List Int} {k : Nat} (hk : k < xs.length) : xs.drop k = xs.getD k 0 :: xs.drop (k + 1) := by
  rw [List.drop_eq_getElem_cons hk]; simp [List.getD, hk]

end Go.Proofs.YteocmmmnfbabaaaDoor
