/-
  The document's Give and Keep.
-/
import Derived.Test.YtfmfjaokpnadaaaSpRefN
namespace Go.Proofs.Ytfmfjaokpnadaaa
set_option linter.unusedSimpArgs false
set_option linter.unusedVariables false
open Go.RowKit

section
variable {g c : Nat} {l : List Bool}

/-- A slice of none. -/
theorem own_none (w : World) (e : TypeId) : (w.alloc (.cells #[] e)).ownsRow w.heap.size e 1 (.slice (some ⟨w.heap.size, 0, none⟩) 0 0) 0 [] := by
  refine ⟨by simp, .inr ⟨w.heap.size, 0, #[], rfl, Nat.le_refl _, Blk.newAt (vs := []) rfl rfl, Nat.le_refl _, by decide, by simp, by simp⟩⟩

set_option maxHeartbeats 4000000 in
theorem rgive_no (i n : Nat) (hi : i < 4294967296) (w : World) (hT : Tr w g c l) (hn : n = l.length) (hl : n ≤ 512) (hno : ¬ (i < n ∧ 4 ≤ i ∧ l.getD i false = true)) :
    Calls Try.prog 15 #[.agg #[.slice (some ⟨g, 0, none⟩) n c], .int .u32 (i : Int)] w fun e w' => e = .returned (.tuple #[.agg #[.slice (some ⟨g, 0, none⟩) n c], .int .i64 1]) ∧ Below w.heap.size w w' := by
  have hz1 : [Value.slice none 0 0].length = 1 := rfl
  have hz2 : [Value.slice (some ⟨g, 0, none⟩) n c].length = 1 := rfl
  have HC : Hid (∀ u, i < n → Below w.heap.size w u → u.cell? ⟨g, i, none⟩ = some (.bool (l.getD i false))) := fun u hk hu => (hT.stays hu).cell i (by omega)
  clear hn hT
  by_cases h4 : i < 4
  · clear hno HC
    go_enter Try.func15, Try.ntmps15
    go_wp2_with (first
      | (refine wpList_box0 (by rfl) 29 (.tmp 0) (by rfl) [.slice (some ⟨g, 0, none⟩) n c] (by rfl) ?_; intro w1 hP1 hb1 hs1)
      | (refine wpList_alloc0 (by rfl) 29 (by rfl) (some 4) (by rfl) _ alloc_rmap ?_; intro w2 hR2 hb2 hs2; rw [hs1] at hR2 hs2; have hP2 := hP1.stays hb2; have hc0 := hP2.cell 0; have hcr := hR2.cell 0; have hfr := hR2.free 0))
    exact bodyPost_ret_blk2 rfl rfl (by rfl) (by rfl) agg_rmap size_rmap (hR2.set 0 _) hz2 ⟨rfl, (below_then hb1 hb2).setCell (by simp) _⟩
  · have h4' : ¬ i < 4 := h4
    by_cases hin : i < n
    · have hf : l.getD i false = false := by cases hx : l.getD i false; rfl; exact absurd ⟨hin, by omega, hx⟩ hno
      have hce := fun u hu => HC.out u hin hu
      rw [hf] at hce
      have HCE : Hid _ := hce
      have hix := index_tr g n c i hin .u32
      have hng : ¬ n ≤ i := by omega
      clear hno HC hf hce
      go_enter Try.func15, Try.ntmps15
      go_wp2_with (first
        | (refine wpList_box0 (by rfl) 29 (.tmp 0) (by rfl) [.slice (some ⟨g, 0, none⟩) n c] (by rfl) ?_; intro w1 hP1 hb1 hs1)
        | (refine wpList_alloc0 (by rfl) 29 (by rfl) (some 4) (by rfl) _ alloc_rmap ?_; intro w2 hR2 hb2 hs2; rw [hs1] at hR2 hs2; have hP2 := hP1.stays hb2; have hc0 := hP2.cell 0; have hcr := hR2.cell 0; have hfr := hR2.free 0; have hci := HCE.out w2 (below_then hb1 hb2)))
      exact bodyPost_ret_blk2 rfl rfl (by rfl) (by rfl) agg_rmap size_rmap (hR2.set 0 _) hz2 ⟨rfl, (below_then hb1 hb2).setCell (by simp) _⟩
    · have hng : n ≤ i := by omega
      clear hno HC
      go_enter Try.func15, Try.ntmps15
      go_wp2_with (first
        | (refine wpList_box0 (by rfl) 29 (.tmp 0) (by rfl) [.slice (some ⟨g, 0, none⟩) n c] (by rfl) ?_; intro w1 hP1 hb1 hs1)
        | (refine wpList_alloc0 (by rfl) 29 (by rfl) (some 4) (by rfl) _ alloc_rmap ?_; intro w2 hR2 hb2 hs2; rw [hs1] at hR2 hs2; have hP2 := hP1.stays hb2; have hc0 := hP2.cell 0; have hcr := hR2.cell 0; have hfr := hR2.free 0))
      exact bodyPost_ret_blk2 rfl rfl (by rfl) (by rfl) agg_rmap size_rmap (hR2.set 0 _) hz2 ⟨rfl, (below_then hb1 hb2).setCell (by simp) _⟩

set_option maxHeartbeats 4000000 in
theorem rgive_yes (i n : Nat) (w : World) (hT : Tr w g c l) (hn : n = l.length) (hl : n ≤ 512) (hin : i < n) (h4 : 4 ≤ i) (hu : l.getD i false = true) :
    Calls Try.prog 15 #[.agg #[.slice (some ⟨g, 0, none⟩) n c], .int .u32 (i : Int)] w fun e w' => ∃ q c', e = .returned (.tuple #[.agg #[.slice (some ⟨q, 0, none⟩) n c'], .int .i64 0]) ∧ Tr w' q c' (l.set i false) ∧ w.heap.size ≤ q ∧ Below w.heap.size w w' := by
  have hz1 : [Value.slice none 0 0].length = 1 := rfl
  have hz2 : ∀ a n c, [Value.slice a n c].length = 1 := fun _ _ _ => rfl
  have HTS : Hid (∀ u, Below w.heap.size w u → Tr u g c l) := fun u hu => hT.stays hu
  have HCE : Hid (∀ u, Below w.heap.size w u → u.cell? ⟨g, i, none⟩ = some (.bool true)) := fun u hb => by have := (hT.stays hb).cell i (by omega); rw [hu] at this; exact this
  have hix := index_tr g n c i hin .u32
  have hix2 : ∀ q c', ∀ u : World, (Instr.indexAt 27 (.slice (some ⟨q, 0, none⟩) n c') (.int .u32 (i : Int))).run Try.prog u = .ok (.pointer (some ⟨q, i, none⟩)) u := fun q c' u => index_tr q n c' i hin .u32 u
  have HIX : Hid _ := hix2
  have hng : ¬ n ≤ i := by omega
  have hn4 : ¬ i < 4 := by omega
  have HN : Hid (n = l.length) := hn
  have HAP : Hid (∀ (ops : Array Oper) (rest : List Oper) (o : Oper) (a : Act) (Q : Exit → Act → World → Prop) (u : World) (B : Nat), B = u.heap.size → o.guard = none → o.op = .call { callee := .builtin .append, args := #[.tmp 27, .tmp 29], argTypes := #[27, 27] } →
      a.eval (.tmp 27) = .slice (some ⟨B, 0, none⟩) 0 0 → a.eval (.tmp 29) = .slice (some ⟨g, 0, none⟩) n c → Tr u g c l →
      (∀ w' q c', Tr w' q c' l → B ≤ q → Below B (u.alloc (.cells #[] 4)) w' → wpList Try.prog ops Q rest (a.put o.dst (.slice (some ⟨q, 0, none⟩) n c')) w') → wpList Try.prog ops Q (o :: rest) a (u.alloc (.cells #[] 4))) := by
    intro ops rest o a Q u B hB h1 h2 h3 h4 h5 h6
    subst hB
    rw [hn] at h4 h6
    exact wpList_clone_bools h1 _ _ h2 _ h3 u.heap.size (own_none u _) g c l h4 (h5.stays ((Below.refl _ _).alloc (Nat.le_refl _) _)) (by omega) (by omega) (by simp) h6
  clear hT hn hu hix2
  go_enter Try.func15, Try.ntmps15
  go_wp2_with (first
    | (refine wpList_box0 (by rfl) 29 (.tmp 0) (by rfl) [.slice (some ⟨g, 0, none⟩) n c] (by rfl) ?_; intro w1 hP1 hb1 hs1)
    | (refine wpList_alloc0 (by rfl) 29 (by rfl) (some 4) (by rfl) _ alloc_rmap ?_; intro w2 hR2 hb2 hs2; rw [hs1] at hR2 hs2; have hP2 := hP1.stays hb2; have hc0 := hP2.cell 0; have hcr := hR2.cell 0; have hfr := hR2.free 0; have hci := HCE.out w2 (below_then hb1 hb2); have hT2 := HTS.out w2 (below_then hb1 hb2))
    | (at_builtin; refine HAP.out _ _ _ _ _ w2 (w.heap.size + 1 + 1) hs2.symm (by rfl) (by rfl) (by rfl) (by rfl) hT2 ?_; intro w3 q c3 hT3 hq3 hb3; have hix3 := HIX.out q c3; have hc3 := hT3.cell i (by rw [← HN.out]; exact hin); have hf3 := hT3.free i
       have hR3 : Blk 29 w3 (w.heap.size + 1) [.slice none 0 0] := by
         (have h1 := hR2.stays ((Below.refl _ _).alloc (Nat.le_refl _) (.cells #[] 4)); unfold Blk at *; rw [hb3.block _ (by omega)]; exact h1)
       have hX3 : Below w.heap.size w w3 := ((below_then hb1 hb2).trans ((Below.refl _ _).alloc (by omega) (.cells #[] 4))).trans (hb3.mono (by omega))
       have hR4 := hR3.but ((But.refl q w3).setCell i (.bool false)) (by omega); have hcr4 := hR4.cell 0; have hfr4 := hR4.free 0))
  exact bodyPost_ret_blk2 rfl rfl (by rfl) (by rfl) agg_rmap size_rmap (hR4.set 0 _) (hz2 _ _ _) ⟨_, _, rfl, (hT3.set i (by rw [← HN.out]; exact hin) false).but ((But.refl (w.heap.size + 1) _).setCell 0 _) (by omega), by omega, (hX3.setCell (by simp; omega) _).setCell (by simp) _⟩
end
end Go.Proofs.Ytfmfjaokpnadaaa
