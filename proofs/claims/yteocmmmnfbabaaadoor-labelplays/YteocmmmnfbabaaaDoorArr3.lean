/-
  A row of integers, made.
-/
import Derived.Test.YteocmmmnfbabaaaDoorArr2
namespace Go.Proofs.YteocmmmnfbabaaaDoor
set_option linter.unusedSimpArgs false
set_option linter.unusedVariables false
open Go.RowKit

theorem wpList_make_ints {P : Program} {w w0 : World} {ops : Array Oper} {rest : List Oper} {o : Oper} {a : Act} {Q : Exit → Act → World → Prop} {K : IntKind}
    (hg : o.guard = none) (l c : Operand) (t : TypeId) (hop : o.op = Op.makeSlice t l c)
    (base : Nat) (e : TypeId) (i : TypeInfo) (ht : P.underlying t = some (.slice e)) (hi : P.info? e = some i) (hz : i.zero = some (.int K 0)) (hsize : i.size = 1) (hby : i.bytes ≤ 8)
    (kl kc : IntKind) (L C : Int) (n : Nat) (hl : a.eval l = .int kl L) (hc : a.eval c = .int kc C) (hL : L = (n : Int)) (hC : C = (n : Int)) (b2 : n ≤ 35184372088832) (hbase : base ≤ w.heap.size) (hb : Below base w0 w)
    (hK : ∀ w', Arr K e w' w.heap.size (List.replicate n 0) → Below w.heap.size w w' → Below base w0 w' → w.heap.size < w'.heap.size → wpList P ops Q rest (a.put o.dst (.slice (some ⟨w.heap.size, 0, none⟩) n n)) w') :
    wpList P ops Q (o :: rest) a w := by
  have hbn : i.bytes * n ≤ 281474976710656 := Nat.le_trans (Nat.mul_le_mul hby b2) (by decide)
  refine wpList_make_full w hg l c t hop w.heap.size e i (.int K 0) 1 ht hi hz hsize kl kc L C n hl hc hL hC hbn (by unfold maxLen; omega) (Nat.le_refl _) ?_
  intro w' hown hgr
  have hbw : Below w.heap.size w w' := (Below.refl _ _).grown hgr (Nat.le_refl _) (by simp)
  have harr : Arr K e w' w.heap.size (List.replicate n 0) := by
    rcases hown.2 with ⟨h, _⟩ | ⟨g, cap, cur, hv, hg, hh, h1, h2, h3, h4⟩
    · simp at h
    · simp only [Value.slice.injEq, Option.some.injEq, Addr.mk.injEq, and_true, true_and] at hv
      obtain ⟨h5, h6⟩ := hv
      subst h5 h6
      unfold Arr
      rw [hh]
      congr 2
      have hcs : cur.toList = List.replicate n (Value.int K 0) := by
        have e1 : cur.toList.take (n * 1) = cur.toList := List.take_of_length_le (by simp [h3])
        rw [← e1, h4]
        have e2 : (Value.int K 0).cells = #[.int K 0] := rfl
        rw [e2, Nat.mul_one, toList_madeCells_one]
      rw [List.map_replicate, ← hcs]
  exact hK w' harr hbw (hb.trans (hbw.mono hbase)) harr.lt
end Go.Proofs.YteocmmmnfbabaaaDoor
