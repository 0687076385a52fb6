/-
  The document's map: truths behind a slice; what is told of them.
-/
import Derived.Test.YtfmfjaokpnadaaaSpTake
import Derived.Test.YtfmfjaokpnadaaaSpPure3
namespace Go.Proofs.Ytfmfjaokpnadaaa
set_option linter.unusedSimpArgs false
set_option linter.unusedVariables false
open Go.RowKit

/-- Truths at the beginning of a block. -/
def Tr (w : World) (g c : Nat) (l : List Bool) : Prop := ∃ rest : List Value, Blk 4 w g (l.map Value.bool ++ rest) ∧ c = l.length + rest.length ∧ c ≤ maxLen

theorem Tr.stays {w w' : World} {g c : Nat} {l : List Bool} (h : Tr w g c l) (hb : Below w.heap.size w w') : Tr w' g c l := by
  obtain ⟨r, h1, h2, h3⟩ := h
  exact ⟨r, h1.stays hb, h2, h3⟩
theorem Tr.but {w w' : World} {g g' c : Nat} {l : List Bool} (h : Tr w g c l) (hb : But g' w w') (hne : g ≠ g') : Tr w' g c l := by
  obtain ⟨r, h1, h2, h3⟩ := h
  exact ⟨r, h1.but hb hne, h2, h3⟩
theorem Tr.lt {w : World} {g c : Nat} {l : List Bool} (h : Tr w g c l) : g < w.heap.size := by
  obtain ⟨r, h1, h2, h3⟩ := h
  exact h1.lt
theorem Tr.cap {w : World} {g c : Nat} {l : List Bool} (h : Tr w g c l) : l.length ≤ c ∧ c ≤ maxLen := by
  obtain ⟨r, h1, h2, h3⟩ := h
  exact ⟨by omega, h3⟩
theorem Tr.cell {w : World} {g c : Nat} {l : List Bool} (h : Tr w g c l) (i : Nat) (hi : i < l.length) : w.cell? ⟨g, i, none⟩ = some (.bool (l.getD i false)) := by
  obtain ⟨r, h1, h2, h3⟩ := h
  rw [h1.cell i, List.getElem?_append_left (by simpa using hi)]
  simp [List.getD, hi]
theorem Tr.free {w : World} {g c : Nat} {l : List Bool} (h : Tr w g c l) (i : Nat) : w.frozen? ⟨g, i, none⟩ = false := by
  obtain ⟨r, h1, h2, h3⟩ := h
  exact h1.free i
theorem Tr.set {w : World} {g c : Nat} {l : List Bool} (h : Tr w g c l) (i : Nat) (hi : i < l.length) (b : Bool) : Tr (w.setCell ⟨g, i, none⟩ (.bool b)) g c (l.set i b) := by
  obtain ⟨r, h1, h2, h3⟩ := h
  refine ⟨r, ?_, by simpa using h2, h3⟩
  have := h1.set i (.bool b)
  rw [List.set_append_left _ _ (by simpa using hi), ← List.map_set] at this
  exact this

theorem sizesB : (Try.prog.info? 4).map (·.size) = some 1 := by kernel_rfl
theorem elemB : Try.prog.elem 27 = 4 := by kernel_rfl
theorem index_tr (g n c i : Nat) (hi : i < n) (K : IntKind) (u : World) : (Instr.indexAt 27 (.slice (some ⟨g, 0, none⟩) n c) (.int K (i : Int))).run Try.prog u = .ok (.pointer (some ⟨g, i, none⟩)) u := by
  have := index_run 27 4 Try.underlying27 sizesB elemB g 0 n c K i hi u
  rwa [Nat.zero_add] at this

section
variable {g c : Nat} {l : List Bool}

theorem rused_run (i : Int) (w : World) (h : Tr w g c l) (hl : l.length ≤ 512) : Calls Try.prog 20 #[.agg #[.slice (some ⟨g, 0, none⟩) l.length c], .int .i64 i] w fun e w' => e = .returned (.bool (usedL l i)) ∧ Below w.heap.size w w' := by
  obtain ⟨n, hn⟩ : ∃ n, n = l.length := ⟨_, rfl⟩
  have hul : usedL l i = if i < 0 ∨ (n : Int) ≤ i then true else l.getD i.toNat false := by rw [hn]; rfl
  have HU : Hid _ := hul
  have HC : Hid (∀ k, k < n → ∀ u, Below w.heap.size w u → u.cell? ⟨g, k, none⟩ = some (.bool (l.getD k false))) := fun k hk u hu => (h.stays hu).cell k (by omega)
  rw [← hn] at hl ⊢
  clear hul hn h
  by_cases h0 : i < 0
  · go_enter Try.func20, Try.ntmps20
    go_wp2_with (refine wpList_box0 (by rfl) 29 (.tmp 0) (by rfl) [.slice (some ⟨g, 0, none⟩) n c] (by rfl) ?_; intro w1 hP1 hb1 hs1; have hc0 := hP1.cell 0)
    go_ret
    exact ⟨by rw [HU.out, if_pos (.inl h0)]; rfl, hb1⟩
  · obtain ⟨k, rfl⟩ : ∃ k : Nat, i = (k : Int) := ⟨i.toNat, by omega⟩
    by_cases hk : k < n
    · have hix := index_tr g n c k hk .i64
      have hnk : ¬ n ≤ k := by omega
      obtain ⟨b, hb⟩ : ∃ b, b = l.getD k false := ⟨_, rfl⟩
      have HCk := HC.out k hk
      rw [← hb] at HCk
      have HB : Hid (usedL l (k : Int) = b) := by show _ = _; rw [HU.out, if_neg (by omega), hb]; rfl
      clear hb h0 HC HU
      go_enter Try.func20, Try.ntmps20
      go_wp2_with (refine wpList_box0 (by rfl) 29 (.tmp 0) (by rfl) [.slice (some ⟨g, 0, none⟩) n c] (by rfl) ?_; intro w1 hP1 hb1 hs1; have hc0 := hP1.cell 0; have hck := HCk w1 hb1)
      go_ret
      exact ⟨by rw [HB.out]; rfl, hb1⟩
    · have hnk : n ≤ k := by omega
      clear HC
      go_enter Try.func20, Try.ntmps20
      go_wp2_with (refine wpList_box0 (by rfl) 29 (.tmp 0) (by rfl) [.slice (some ⟨g, 0, none⟩) n c] (by rfl) ?_; intro w1 hP1 hb1 hs1; have hc0 := hP1.cell 0)
      go_ret
      exact ⟨by rw [HU.out, if_pos (by omega)]; rfl, hb1⟩

theorem free_take (l : List Bool) (k : Nat) (hk : k < l.length) : (l.take (k + 1)).count false = (l.take k).count false + (if l.getD k false then 0 else 1) := by
  rw [List.take_succ_eq_append_getElem hk, List.count_append]
  have : l[k] = l.getD k false := by simp [List.getD, hk]
  rw [this]
  cases l.getD k false <;> simp

theorem rfree_run (w : World) (h : Tr w g c l) (hl : l.length ≤ 512) : Calls Try.prog 22 #[.agg #[.slice (some ⟨g, 0, none⟩) l.length c]] w fun e w' => e = .returned (.int .i64 ((freeN l : Nat) : Int)) ∧ Below w.heap.size w w' := by
  obtain ⟨n, hn⟩ : ∃ n, n = l.length := ⟨_, rfl⟩
  obtain ⟨cf, hcf⟩ : ∃ cf : Nat → Nat, cf = fun k => (l.take k).count false := ⟨_, rfl⟩
  have HC : Hid (∀ k, k < n → ∀ u, Below w.heap.size w u → u.cell? ⟨g, k, none⟩ = some (.bool (l.getD k false))) := fun k hk u hu => (h.stays hu).cell k (by omega)
  have HS : Hid (∀ k, k < n → cf (k + 1) = cf k + (if l.getD k false then 0 else 1)) := fun k hk => by rw [hcf]; exact free_take l k (by omega)
  have HB : Hid (∀ k, cf k ≤ 512) := fun k => by
    rw [hcf]
    show (l.take k).count false ≤ 512
    have h1 := List.count_le_length (a := false) (l := l.take k)
    have h2 : (l.take k).length ≤ l.length := by simp; omega
    omega
  have H0 : Hid (cf 0 = 0) := by rw [hcf]; rfl
  have HE : Hid (cf n = freeN l) := by rw [hcf, hn]; show (l.take l.length).count false = _; rw [List.take_length]; rfl
  obtain ⟨F, hF⟩ : ∃ F, F = freeN l := ⟨_, rfl⟩
  rw [← hF] at HE ⊢
  rw [← hn] at hl ⊢
  clear hcf hn h hF
  go_enter Try.func22, Try.ntmps22
  go_wp2_with (refine wpList_box0 (by rfl) 29 (.tmp 0) (by rfl) [.slice (some ⟨g, 0, none⟩) n c] (by rfl) ?_; intro w1 hP1 hb1 hs1; have hc0 := hP1.cell 0)
  go_loopw [3, 4] (fun v i wr => ∃ k : Nat, k ≤ n ∧ i = .int .i64 k ∧ v = .int .i64 ((cf k : Nat) : Int) ∧ wr = w1) (fun _ i _ => n - (intOf i).toNat)
  case atStart => exact ⟨0, by omega, rfl, by rw [H0.out]; rfl, rfl⟩
  case round =>
    rename_i hrel
    obtain ⟨k, hk, rfl, rfl, rfl⟩ := hrel
    by_cases hlt : k < n
    · have hck := HC.out k hlt wr hb1
      have hix := index_tr g n c k hlt .i64
      have hs := HS.out k hlt
      have hbd := HB.out k
      obtain ⟨q, hq⟩ : ∃ q, q = cf k := ⟨_, rfl⟩
      rw [← hq] at hs hbd ⊢
      have HQ : Hid (cf (k + 1) = q + (if l.getD k false then 0 else 1)) := hs
      clear hs hq
      cases hb : l.getD k false
      · rw [hb] at hck HQ
        clear hb
        go_wp2
        go_roundw
        case rel => exact ⟨k + 1, by omega, by go_num, by rw [HQ.out]; go_num, trivial⟩
        case measure => simp [intOf]; omega
      · rw [hb] at hck HQ
        clear hb
        go_wp2
        go_roundw
        case rel => exact ⟨k + 1, by omega, by go_num, by rw [HQ.out]; rfl, trivial⟩
        case measure => simp [intOf]; omega
    · have hkn : k = n := by omega
      subst hkn
      rw [HE.out]
      go_wp2
      go_ret
      exact ⟨rfl, hb1⟩
end
end Go.Proofs.Ytfmfjaokpnadaaa
