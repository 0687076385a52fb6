/-
  Package sha: the hash of three bytes, reckoned.
-/
import Derived.Test.YthbldjnpnligpaaDoorG16
import Derived.Test.YthbldjnpnligpaaDoorG20
import Derived.Test.YthbldjnpnligpaaDoorG50
import Derived.Test.YthbldjnpnligpaaDoorG17
namespace Go.Proofs.YthbldjnpnligpaaDoor

end Go.Proofs.YthbldjnpnligpaaDoor

/-
  The live question of package sha's laws.
-/

namespace Go.Proofs.YthbldjnpnligpaaDoor
set_option linter.unusedSimpArgs false
set_option linter.unusedVariables false
set_option maxRecDepth 100000
open Go.RowKit

end Go.Proofs.YthbldjnpnligpaaDoor

/-
  Hashes of hashes: the tree as plain lists, hashes behind a slice, and math/bits.Len of small numbers.
-/

namespace Go.Proofs.YthbldjnpnligpaaDoor
set_option linter.unusedSimpArgs false
set_option linter.unusedVariables false
set_option maxRecDepth 100000
open Go.RowKit

/-- The greatest power of two below n. -/
def halfT (n : Nat) : Nat := 2 ^ Nat.log2 (n - 1)

theorem halfT_lt {n : Nat} (hn : 2 ≤ n) : halfT n < n := by
  have := Nat.log2_self_le (n := n - 1) (by omega)
  unfold halfT; omega
theorem halfT_pos (n : Nat) : 1 ≤ halfT n := Nat.one_le_two_pow

/-- One hash of hashes, by so many rounds at most. -/
def treeF : Nat → List (List Int) → List Int
  | 0, _ => List.replicate 32 0
  | f + 1, l => if l.length = 0 then List.replicate 32 0 else if l.length = 1 then l.getD 0 [] else shaOf (treeF f (l.take (halfT l.length)) ++ treeF f (l.drop (halfT l.length)))

def treeOf (l : List (List Int)) : List Int := treeF l.length l

theorem treeF_more : ∀ (f g : Nat) (l : List (List Int)), l.length ≤ f → l.length ≤ g → treeF f l = treeF g l
  | 0, g, l, hf, hg => by
    have h0 : l.length = 0 := by omega
    cases g with
    | zero => rfl
    | succ g => rw [treeF, treeF, if_pos h0]
  | f + 1, 0, l, hf, hg => by
    have h0 : l.length = 0 := by omega
    rw [treeF, treeF, if_pos h0]
  | f + 1, g + 1, l, hf, hg => by
    rw [treeF, treeF]
    by_cases h0 : l.length = 0
    · rw [if_pos h0, if_pos h0]
    · rw [if_neg h0, if_neg h0]
      by_cases h1 : l.length = 1
      · rw [if_pos h1, if_pos h1]
      · rw [if_neg h1, if_neg h1]
        have hh := halfT_lt (n := l.length) (by omega)
        have hp := halfT_pos l.length
        rw [treeF_more f g (l.take (halfT l.length)) (by simp; omega) (by simp; omega), treeF_more f g (l.drop (halfT l.length)) (by simp; omega) (by simp; omega)]

theorem treeOf_none {l : List (List Int)} (h : l.length = 0) : treeOf l = List.replicate 32 0 := by
  unfold treeOf; rw [h]; rfl
theorem treeOf_one {l : List (List Int)} (h : l.length = 1) : treeOf l = l.getD 0 [] := by
  unfold treeOf; rw [h, treeF, if_neg (by omega), if_pos h]
theorem treeOf_more {l : List (List Int)} (h : 2 ≤ l.length) : treeOf l = shaOf (treeOf (l.take (halfT l.length)) ++ treeOf (l.drop (halfT l.length))) := by
  have hh := halfT_lt h
  have hp := halfT_pos l.length
  have e : treeOf l = treeF (l.length - 1 + 1) l := by unfold treeOf; rw [Nat.sub_add_cancel (by omega)]
  rw [e, treeF, if_neg (by omega), if_neg (by omega)]
  unfold treeOf
  rw [treeF_more (l.length - 1) (l.take (halfT l.length)).length _ (by simp; omega) (Nat.le_refl _), treeF_more (l.length - 1) (l.drop (halfT l.length)).length _ (by simp; omega) (Nat.le_refl _)]

/-- Hashes behind a slice. -/
structure Hs (w : World) (a : Option Addr) (c : Nat) (hs : List (List Int)) : Prop where
  ok : ∀ h ∈ hs, h.length = 32 ∧ ∀ x ∈ h, 0 ≤ x ∧ x ≤ 255
  cap : hs.length ≤ c
  capm : c ≤ maxLen
  lay : hs = [] ∨ ∃ b off, a = some ⟨b, off, none⟩ ∧ ∀ i, i < hs.length → ∀ j, j < 32 → w.cell? ⟨b, off + 32 * i + j, none⟩ = some (.int .u8 ((hs.getD i []).getD j 0))

theorem Hs.stays {w w' : World} {a : Option Addr} {c : Nat} {hs : List (List Int)} (h : Hs w a c hs) (hb : Below w.heap.size w w') : Hs w' a c hs := by
  refine ⟨h.ok, h.cap, h.capm, ?_⟩
  rcases h.lay with h0 | ⟨b, off, rfl, hc⟩
  · exact .inl h0
  · refine .inr ⟨b, off, rfl, fun i hi j hj => ?_⟩
    rw [hb.cell (World.block_lt_of_cell? w _ (hc i hi j hj))]
    exact hc i hi j hj

theorem Hs.cell {w : World} {a : Option Addr} {c : Nat} {hs : List (List Int)} (h : Hs w a c hs) (hp : 0 < hs.length) : ∃ b off, a = some ⟨b, off, none⟩ ∧ ∀ i, i < hs.length → ∀ j, j < 32 → w.cell? ⟨b, off + 32 * i + j, none⟩ = some (.int .u8 ((hs.getD i []).getD j 0)) := by
  rcases h.lay with h0 | h0
  · rw [h0] at hp; simp at hp
  · exact h0

theorem treeOf_ok {hs : List (List Int)} (h : ∀ x ∈ hs, x.length = 32 ∧ ∀ y ∈ x, 0 ≤ y ∧ y ≤ 255) : (treeOf hs).length = 32 ∧ ∀ y ∈ treeOf hs, 0 ≤ y ∧ y ≤ 255 := by
  rcases (by omega : hs.length = 0 ∨ hs.length = 1 ∨ 2 ≤ hs.length) with h0 | h0 | h0
  · rw [treeOf_none h0]; exact ⟨by simp, fun y hy => by rw [(List.mem_replicate.1 hy).2]; omega⟩
  · rw [treeOf_one h0]
    match hs, h0 with
    | [x], _ => exact h x (by simp)
  · rw [treeOf_more h0]; exact ⟨shaOf_length _, shaOf_rng _⟩

/-- l[:k]. -/
theorem Hs.upto {P : Program} {w : World} {a : Option Addr} {c : Nat} {hs : List (List Int)} (h : Hs w a c hs) (t e : TypeId) (ht : P.underlying t = some (.slice e)) (hs32 : (P.info? e).map (·.size) = some 32) (he : P.elem t = e) (k : Nat) (hk : k ≤ hs.length) :
    (∀ (w' : World) (n : Nat) (K : IntKind), (Instr.slice t (.slice a n c) none (some (.int K (k : Int))) none).run P w' = .ok (.slice a k c) w') ∧ Hs w a c (hs.take k) := by
  refine ⟨fun w' n K => ?_, ?_⟩
  · have hz : (sizeOf e).run P w' = .ok 32 w' := sizeOf_run hs32 w'
    rw [run_slice_h w' t a n c (by rw [he]; exact ht) K k (by omega) (by have := h.cap; omega), he, hz]
    have hpl : ∀ ad : Addr, ad.add 0 = ad := fun ad => by cases ad; simp [Addr.add]
    simp [Result.andThen, sliced, hpl]
  · refine ⟨fun x hx => h.ok x (List.mem_of_mem_take hx), by have := h.cap; simp; omega, h.capm, ?_⟩
    rcases h.lay with rfl | ⟨b, off, rfl, hc⟩
    · simp
    · refine .inr ⟨b, off, rfl, fun i hi j hj => ?_⟩
      simp at hi
      rw [hc i (by omega) j hj]
      simp [List.getD, List.getElem?_take, hi, show i < hs.length by omega]

/-- l[k:], k below the length. -/
theorem Hs.from {P : Program} {w : World} {a : Option Addr} {c : Nat} {hs : List (List Int)} (h : Hs w a c hs) (t e : TypeId) (ht : P.underlying t = some (.slice e)) (hs32 : (P.info? e).map (·.size) = some 32) (he : P.elem t = e) (k : Nat) (hk : k < hs.length) :
    ∃ a', (∀ (w' : World) (K : IntKind), (Instr.slice t (.slice a hs.length c) (some (.int K (k : Int))) none none).run P w' = .ok (.slice a' (hs.length - k) (c - k)) w') ∧ ∀ u, Hs u a c hs → Hs u a' (c - k) (hs.drop k) := by
  obtain ⟨b, off, rfl, _⟩ := h.cell (by omega)
  have hcap := h.cap
  have hcapm := h.capm
  refine ⟨some ⟨b, off + 32 * k, none⟩, fun w' K => ?_, fun u hu => ⟨fun x hx => hu.ok x (List.mem_of_mem_drop hx), by simp; omega, by omega, .inr ⟨b, off + 32 * k, rfl, fun i hi j hj => ?_⟩⟩⟩
  · have hz : (sizeOf e).run P w' = .ok 32 w' := sizeOf_run hs32 w'
    have hadd : (⟨b, off, none⟩ : Addr).add (k * 32) = ⟨b, off + 32 * k, none⟩ := by unfold Addr.add; split <;> simp_all [Nat.mul_comm]
    have hne : ¬ c = k := by omega
    rw [run_slice_l w' t (some ⟨b, off, none⟩) hs.length c (by rw [he]; exact ht) K k (by omega) (by omega), he, hz]
    simp [Result.andThen, sliced, hne, hadd]
  · obtain ⟨b1, o1, h1, hc⟩ := hu.cell (by omega)
    cases h1
    simp at hi
    have := hc (k + i) (by omega) j hj
    rw [show off + 32 * k + 32 * i + j = off + 32 * (k + i) + j by omega, this]
    simp [List.getD, List.getElem?_drop]
end Go.Proofs.YthbldjnpnligpaaDoor
