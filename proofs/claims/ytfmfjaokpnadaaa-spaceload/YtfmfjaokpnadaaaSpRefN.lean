/-
  The document's New, Give and Keep.
-/
import Derived.Test.YtfmfjaokpnadaaaSpRefB
namespace Go.Proofs.Ytfmfjaokpnadaaa
set_option linter.unusedSimpArgs false
set_option linter.unusedVariables false
open Go.RowKit

theorem agg_rmap (w : World) : (isAgg 29).run Try.prog w = .ok true w := by kernel_rfl
theorem size_rmap (w : World) : (sizeOf 29).run Try.prog w = .ok 1 w := sizeOf_run (by kernel_rfl) w
theorem alloc_rmap (w : World) : (Instr.alloc 29 true (.tuple #[])).run Try.prog w = .ok (.pointer (some ⟨w.heap.size, 0, none⟩)) (w.alloc (.cells [Value.slice none 0 0].toArray 29)) := by kernel_rfl
theorem build_rmap0 (w : World) : (Instr.build 29 #[]).run Try.prog w = .ok (.agg [Value.slice none 0 0].toArray) w := by kernel_rfl
theorem build_rmap (a : Option Addr) (n c : Nat) (w : World) : (Instr.build 29 #[(0, .slice a n c)]).run Try.prog w = .ok (.agg [Value.slice a n c].toArray) w := by kernel_rfl
theorem boolInfo : ∃ i, Try.prog.info? 4 = some i ∧ i.zero = some (.bool false) ∧ i.size = 1 ∧ i.bytes = 1 := ⟨_, rfl, rfl, rfl, rfl⟩

/-- make([]bool, n). -/
theorem wpList_make_bools {w : World} {ops : Array Oper} {rest : List Oper} {o : Oper} {a : Act} {Q : Exit → Act → World → Prop}
    (hg : o.guard = none) (l c : Operand) (hop : o.op = Op.makeSlice 27 l c) (n : Nat) (hl : a.eval l = .int .i64 (n : Int)) (hc : a.eval c = .int .i64 (n : Int)) (hn : n ≤ 512)
    (hK : ∀ w', Tr w' w.heap.size n (lab n 0) → Below w.heap.size w w' → wpList Try.prog ops Q rest (a.put o.dst (.slice (some ⟨w.heap.size, 0, none⟩) n n)) w') :
    wpList Try.prog ops Q (o :: rest) a w := by
  obtain ⟨i, hi, hz, hs, hb⟩ := boolInfo
  refine wpList_make_full w hg l c 27 hop w.heap.size 4 i (.bool false) 1 Try.underlying27 hi hz hs .i64 .i64 _ _ n hl hc rfl rfl (by rw [hb]; omega) (by unfold maxLen; omega) (Nat.le_refl _) ?_
  intro w' hown hgr
  refine hK w' ?_ ((Below.refl _ w).grown hgr (Nat.le_refl _) (by simp))
  rcases hown.2 with ⟨h, _⟩ | ⟨g, cap, cur, hv, hg, hh, h1, h2, h3, h4⟩
  · simp at h
  · simp only [Value.slice.injEq, Option.some.injEq, Addr.mk.injEq, and_true, true_and] at hv
    obtain ⟨h5, h6⟩ := hv
    subst h5 h6
    refine ⟨[], ?_, by rw [lab_len]; simp, h2⟩
    unfold Blk
    rw [hh]
    congr 2
    have : cur.toList = List.replicate n (Value.bool false) := by
      have e1 : cur.toList.take (n * 1) = cur.toList := List.take_of_length_le (by simp [h3])
      rw [← e1, h4]
      have e2 : (Value.bool false).cells = #[.bool false] := rfl
      rw [e2, Nat.mul_one, toList_madeCells_one]
    have hl0 : (lab n 0).map Value.bool = List.replicate n (Value.bool false) := by
      refine List.ext_getElem (by simp [lab_len]) fun j h1 h2 => ?_
      simp [lab]
    rw [List.append_nil, hl0, ← this]

/-- append([]bool{}, l...). -/
theorem wpList_clone_bools {w : World} {ops : Array Oper} {rest : List Oper} {o : Oper} {a : Act} {Q : Exit → Act → World → Prop} (hgd : o.guard = none) (s x : Operand)
    (ho : o.op = .call { callee := .builtin .append, args := #[s, x], argTypes := #[27, 27] })
    (v : Value) (hs : a.eval s = v) (base : Nat) (hown : w.ownsRow base 4 1 v 0 [])
    (g c : Nat) (l : List Bool) (hx : a.eval x = .slice (some ⟨g, 0, none⟩) l.length c) (hT : Tr w g c l) (hl0 : 0 < l.length) (hl : l.length ≤ 512) (hbase : base ≤ w.heap.size)
    (h : ∀ w' q c', Tr w' q c' l → base ≤ q → Below base w w' → wpList Try.prog ops Q rest (a.put o.dst (.slice (some ⟨q, 0, none⟩) l.length c')) w') : wpList Try.prog ops Q (o :: rest) a w := by
  obtain ⟨i, hi, hz, hsz, hb⟩ := boolInfo
  refine wpList_append_own _ hgd s x 27 ho base 4 i (.bool false) 1 1 Try.underlying27 hi hz hsz hb rfl (by decide) v 0 [] hs hown ⟨g, 0, none⟩ l.length c (l.map Value.bool) hx (by simp) ?_ ?_ (by unfold maxLen; omega) (by omega) hbase ?_
  · intro j u hj
    have hjl : j < l.length := by
      rcases Nat.lt_or_ge j l.length with h1 | h1
      · exact h1
      · rw [List.getElem?_eq_none (by simpa using h1)] at hj; cases hj
    have hadd : (⟨g, 0, none⟩ : Addr).add j = ⟨g, j, none⟩ := by unfold Addr.add; split <;> simp_all
    rw [hadd, hT.cell j hjl]
    simpa [List.getD, hjl] using hj
  · intro u hu
    obtain ⟨b, _, rfl⟩ := List.mem_map.1 hu
    rfl
  · intro v' w' h1 h2 _
    have hbl : Below base w w' := (Below.refl base w).grown h2 hbase (fun k hk => (World.ownsRow.lt hown k hk).1)
    rcases h1.2 with ⟨_, h0⟩ | ⟨q, cap, cur, hv', hq, hh, e1, e2, e3, e4⟩
    · omega
    · rw [hv', Nat.zero_add]
      refine h w' q cap ⟨cur.toList.drop l.length, ?_, ?_, e2⟩ hq hbl
      · unfold Blk
        rw [hh]
        congr 2
        simp only [Nat.zero_add, Nat.mul_one, List.nil_append] at e4
        rw [← e4, List.take_append_drop]
      · rw [List.length_drop]
        simp only [Nat.zero_add] at e1
        have : cur.toList.length = cap := by simp [e3]
        omega

theorem one_slice (a : Option Addr) (n c : Nat) : ∀ v ∈ [Value.slice a n c], v.oneCell' = true := by simp; rfl

theorem rnew_bad (n : Int) (hn : ¬ (16 ≤ n ∧ n ≤ 512)) (w : World) : Calls Try.prog 9 #[.int .i64 n] w fun e w' => e = .returned (.tuple #[.agg #[.slice none 0 0], .int .i64 1]) ∧ Below w.heap.size w w' := by
  have hz1 : [Value.slice none 0 0].length = 1 := rfl
  have h1 : ∀ v ∈ [Value.slice none 0 0], v.oneCell' = true := one_slice _ _ _
  rcases (by omega : n < 16 ∨ (¬ n < 16 ∧ 512 < n)) with h | ⟨h, h'⟩
  all_goals
    clear hn
    go_enter Try.func9, Try.ntmps9
    go_wp2_with (first
      | (refine wpList_alloc0 (by rfl) 29 (by rfl) (some 2) (by rfl) _ alloc_rmap ?_; intro w1 hP1 hb1 hs1)
      | (refine wpList_build0 (by rfl) 29 (by rfl) _ build_rmap0 ?_)
      | (refine wpList_store_blk (by rfl) (.tmp 2) (.tmp 12) 29 (by rfl) _ 0 1 (by rfl) _ (by rfl) size_rmap hP1 hz1 (by omega) h1 _ (whole_store hz1) ?_; intro w2 hP2 hbut2 hs2))
    exact bodyPost_ret_blk2 rfl rfl (by rfl) (by rfl) agg_rmap size_rmap hP2 hz1 ⟨rfl, hb1.trans (hbut2.below (Nat.le_refl _) (by omega))⟩

theorem rnew_run (n : Nat) (h16 : 16 ≤ n) (h512 : n ≤ 512) (w : World) : Calls Try.prog 9 #[.int .i64 (n : Int)] w fun e w' =>
    ∃ q c, e = .returned (.tuple #[.agg #[.slice (some ⟨q, 0, none⟩) n c], .int .i64 0]) ∧ Tr w' q c (lab n 4) ∧ w.heap.size ≤ q ∧ Below w.heap.size w w' := by
  have hz1 : [Value.slice none 0 0].length = 1 := rfl
  have hz2 : ∀ a n c, [Value.slice a n c].length = 1 := fun _ _ _ => rfl
  go_enter Try.func9, Try.ntmps9
  go_wp2_with (first
    | (refine wpList_alloc0 (by rfl) 29 (by rfl) (some 2) (by rfl) _ alloc_rmap ?_; intro w1 hP1 hb1 hs1)
    | (refine wpList_make_bools (by rfl) (.tmp 13) (.tmp 13) (by rfl) n (by rfl) (by rfl) h512 ?_; intro w2 hT2 hb2))
  have hP2 := hP1.stays hb2
  have hX2 : Below w.heap.size w w2 := hb1.trans (hb2.mono (by omega))
  rw [hs1] at hT2
  clear hP1 hb1 hb2 hs1
  go_loopw [5] (fun i wr => ∃ k : Nat, k ≤ 4 ∧ i = .int .i64 k ∧ Tr wr (w.heap.size + 1) n (lab n k) ∧ Blk 29 wr w.heap.size [.slice none 0 0] ∧ Below w.heap.size w wr) (fun i _ => 4 - (intOf i).toNat)
  case atStart => exact ⟨0, by omega, rfl, hT2, hP2, hX2⟩
  case round =>
    rename_i hrel
    obtain ⟨k, hk, rfl, hT, hP, hbr⟩ := hrel
    clear hT2 hP2 hX2
    have hsz := hbr.size
    by_cases hlt : k < 4
    · have hck := hT.cell k (by rw [lab_len]; omega)
      have hfr := hT.free k
      have hix := index_tr (w.heap.size + 1) n n k (by omega) .i64
      have hT3 := hT.set k (by rw [lab_len]; omega) true
      rw [lab_next n k (by omega)] at hT3
      have hP3 : Blk 29 (wr.setCell ⟨w.heap.size + 1, k, none⟩ (.bool true)) w.heap.size [.slice none 0 0] := hP.but ((But.refl _ wr).setCell k (.bool true)) (by omega)
      have hb3 : Below w.heap.size w (wr.setCell ⟨w.heap.size + 1, k, none⟩ (.bool true)) := hbr.setCell (by simp) _
      have HT3 : Hid _ := hT3
      have HP3 : Hid _ := hP3
      have HB3 : Hid _ := hb3
      clear hT hP hbr hT3 hP3 hb3
      go_wp2
      go_roundw
      case rel => exact ⟨k + 1, by omega, by go_num, HT3.out, HP3.out, HB3.out⟩
      case measure => simp [intOf]; omega
    · have hk4 : k = 4 := by omega
      subst hk4
      go_wp2_with (first
        | (refine wpList_build (by rfl) 29 [(0, .tmp 22)] (by rfl) [(0, .slice (some ⟨w.heap.size + 1, 0, none⟩) n n)] (by rfl) _ (build_rmap _ _ _) ?_)
        | (refine wpList_store_blk (by rfl) (.tmp 2) (.tmp 23) 29 (by rfl) w.heap.size 0 1 (by rfl) [.slice (some ⟨w.heap.size + 1, 0, none⟩) n n] (by rfl) size_rmap hP (hz2 _ _ _) (by simp) (one_slice _ _ _) _ (whole_store hz1) ?_; intro w3 hP3 hbut3 hs3))
      exact bodyPost_ret_blk2 rfl rfl (by rfl) (by rfl) agg_rmap size_rmap hP3 (hz2 _ _ _) ⟨_, n, rfl, hT.but hbut3 (by omega), by omega, hbr.trans (hbut3.below (Nat.le_refl _) hsz)⟩
end Go.Proofs.Ytfmfjaokpnadaaa
