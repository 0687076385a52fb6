/-
  What is taken: it was free; how it is given back; no program here.
-/
import Derived.Test.YtcfjkkjjcljaoaaDoorG11
import Derived.Test.YtcfjkkjjcljaoaaDoorG12
namespace Go.Proofs.YtcfjkkjjcljaoaaDoor
set_option linter.unusedSimpArgs false
set_option linter.unusedVariables false
set_option maxRecDepth 100000

/-- o is taken of l, and l' is left. -/
structure Tk (l l' : List Bool) (o : List Nat) : Prop where
  len : l'.length = l.length
  fr : freeN l' + o.length = freeN l
  mem : ∀ x ∈ o, x < l.length ∧ l.getD x false = false ∧ l'.getD x false = true
  srt : o.Pairwise (· < ·)
  lab : Lab l → 4 ≤ l.length → Lab l'

theorem takeL_no (l : List Bool) (k : Int) (h : (takeL l k).2.2 ≠ 0) : (takeL l k).1 = l ∧ (takeL l k).2.1 = [] := by
  unfold takeL at *
  split
  · exact ⟨rfl, rfl⟩
  · split
    · exact ⟨rfl, rfl⟩
    · next h1 h2 => rw [if_neg h1, if_neg h2] at h; exact absurd rfl h

theorem Fr_sorted (l : List Bool) (i : Nat) : (Fr l i).Pairwise (· < ·) := List.Pairwise.filter _ List.pairwise_lt_range

theorem takeL_ok (l : List Bool) (k : Int) (h : (takeL l k).2.2 = 0) : Tk l (takeL l k).1 (takeL l k).2.1 ∧ ((takeL l k).2.1.length : Int) = k := by
  unfold takeL at *
  split
  · next h1 => rw [if_pos h1] at h; simp at h
  · split
    · next h1 h2 => rw [if_neg h1, if_pos h2] at h; simp at h
    · next h1 h2 =>
      clear h
      obtain ⟨m, rfl⟩ : ∃ m : Nat, k = (m : Int) := ⟨k.toNat, by omega⟩
      obtain ⟨i, hi, hl⟩ := Fr_stop l m (by omega)
      have he := Fr_take l i hi m hl
      simp only [Int.toNat_natCast]
      rw [← he]
      refine ⟨⟨setAll_len _ _, free_Cu l i hi, fun x hx => ?_, Fr_sorted l i, fun h1 h2 => h1.all h2 _⟩, by rw [hl]⟩
      obtain ⟨hx1, hx2⟩ := Fr_mem.1 hx
      refine ⟨by omega, hx2, ?_⟩
      rw [setAll_at _ _ _ (by omega)]
      simp [hx]

theorem srt_lt {o : List Nat} (h : o.Pairwise (· < ·)) {i j : Nat} (hij : i < j) (hj : j < o.length) : o.getD i 0 < o.getD j 0 := by
  have h1 : i < o.length := by omega
  have := List.pairwise_iff_getElem.1 h i j h1 hj hij
  simpa [List.getD, h1, hj] using this

theorem sgetD_mem {o : List Nat} {i : Nat} (h : i < o.length) : o.getD i 0 ∈ o := by simp [List.getD, h]

/-- Of what was taken, all from k on is still used. -/
structure Gv (n : Nat) (o : List Nat) (k : Nat) (l : List Bool) : Prop where
  len : l.length = n
  lab : Lab l
  mem : ∀ j, k ≤ j → j < o.length → 4 ≤ o.getD j 0 ∧ o.getD j 0 < n ∧ l.getD (o.getD j 0) false = true
  srt : o.Pairwise (· < ·)

theorem Tk.gv {l l' : List Bool} {o : List Nat} (h : Tk l l' o) (hl : Lab l) (h4 : 4 ≤ l.length) : Gv l.length o 0 l' :=
  ⟨h.len, h.lab hl h4, fun j _ hj => by
    obtain ⟨h1, h2, h3⟩ := h.mem _ (sgetD_mem hj)
    refine ⟨?_, h1, h3⟩
    rcases Nat.lt_or_ge (o.getD j 0) 4 with h5 | h5
    · rw [hl _ h5] at h2; cases h2
    · exact h5, h.srt⟩

theorem Gv.once {n k : Nat} {o : List Nat} {l : List Bool} (h : Gv n o k l) (hk : k < o.length) : giveL l (o.getD k 0) = (l.set (o.getD k 0) false, 0) := by
  obtain ⟨h1, h2, h3⟩ := h.mem k (Nat.le_refl _) hk
  unfold giveL
  rw [if_pos ⟨by rw [h.len]; exact h2, h1, h3⟩]
theorem Gv.again {n k : Nat} {o : List Nat} {l : List Bool} (h : Gv n o k l) (hk : k < o.length) : giveL (l.set (o.getD k 0) false) (o.getD k 0) = (l.set (o.getD k 0) false, 1) := by
  obtain ⟨h1, h2, h3⟩ := h.mem k (Nat.le_refl _) hk
  unfold giveL
  rw [if_neg]
  rintro ⟨_, _, h4⟩
  rw [getD_set _ _ _ _ (by rw [h.len]; exact h2), if_pos rfl] at h4
  cases h4
theorem Gv.next {n k : Nat} {o : List Nat} {l : List Bool} (h : Gv n o k l) (hk : k < o.length) : Gv n o (k + 1) (l.set (o.getD k 0) false) := by
  obtain ⟨h1, h2, h3⟩ := h.mem k (Nat.le_refl _) hk
  refine ⟨by simpa using h.len, fun i hi => ?_, fun j hj hjl => ?_, h.srt⟩
  · rw [getD_set _ _ _ _ (by rw [h.len]; exact h2), if_neg (by omega)]
    exact h.lab i hi
  · obtain ⟨g1, g2, g3⟩ := h.mem j (by omega) hjl
    refine ⟨g1, g2, ?_⟩
    have := srt_lt h.srt (show k < j by omega) hjl
    rw [getD_set _ _ _ _ (by rw [h.len]; exact h2), if_neg (by omega)]
    exact g3
end Go.Proofs.YtcfjkkjjcljaoaaDoor

/-
  What Load tells; no program here.
-/

namespace Go.Proofs.YtcfjkkjjcljaoaaDoor
set_option linter.unusedSimpArgs false
set_option linter.unusedVariables false
set_option maxRecDepth 100000

/-- The bit j of bytes. -/
def bitX (xs : List Int) (j : Nat) : Bool := (xs.getD (j / 8) 0).toNat.testBit (j % 8)
/-- May it not be? -/
def bad (xs : List Int) (n j : Nat) : Bool := (bitX xs j && decide (n ≤ j)) || (!bitX xs j && decide (j < 4))
/-- May they be? -/
def okX (xs : List Int) (n : Nat) : Prop := ∀ j, j < 512 → bad xs n j = false
/-- The first i bits. -/
def ldL (xs : List Int) (n i : Nat) : List Bool := (List.range n).map (fun j => decide (j < i) && bitX xs j)

theorem ldL_len (xs : List Int) (n i : Nat) : (ldL xs n i).length = n := by simp [ldL]
theorem ldL_at (xs : List Int) (n i j : Nat) : (ldL xs n i).getD j false = (decide (j < n) && (decide (j < i) && bitX xs j)) := by
  by_cases h : j < n
  · simp [ldL, List.getD, h]
  · simp [ldL, List.getD, h]
theorem ldL_0 (xs : List Int) (n : Nat) : ldL xs n 0 = lab n 0 := by
  refine getD_ext (by rw [ldL_len, lab_len]) fun i hi => ?_
  rw [ldL_at, lab_at]; simp
theorem ldL_one (xs : List Int) (n i : Nat) (hi : i < n) (h : bitX xs i = true) : (ldL xs n i).set i true = ldL xs n (i + 1) := by
  refine getD_ext (by simp [ldL_len]) fun j hj => ?_
  rw [getD_set _ _ _ _ (by rw [ldL_len]; exact hi), ldL_at, ldL_at]
  by_cases e : i = j
  · subst e; simp [hi, h]
  · rw [if_neg e, show decide (j < i + 1) = decide (j < i) from decide_eq_decide.2 (by omega)]
theorem ldL_zero (xs : List Int) (n i : Nat) (h : bitX xs i = false ∨ n ≤ i) : ldL xs n i = ldL xs n (i + 1) := by
  refine getD_ext (by simp [ldL_len]) fun j hj => ?_
  rw [ldL_len] at hj
  rw [ldL_at, ldL_at]
  by_cases e : i = j
  · subst e
    rcases h with h | h
    · simp [h]
    · omega
  · rw [show decide (j < i + 1) = decide (j < i) from decide_eq_decide.2 (by omega)]

/-- The map of bytes. -/
def mapX (xs : List Int) (n : Nat) : List Bool := ldL xs n 512
theorem mapX_len (xs : List Int) (n : Nat) : (mapX xs n).length = n := ldL_len _ _ _
theorem mapX_at (xs : List Int) (n j : Nat) (hn : n ≤ 512) (hj : j < n) : (mapX xs n).getD j false = bitX xs j := by
  rw [mapX, ldL_at]
  simp [hj, show j < 512 by omega]
theorem okX.lab {xs : List Int} {n : Nat} (h : okX xs n) (h4 : 4 ≤ n) (hn : n ≤ 512) : Lab (mapX xs n) := fun i hi => by
  rw [mapX_at _ _ _ hn (by omega)]
  have := h i (by omega)
  unfold bad at this
  cases hb : bitX xs i
  · rw [hb] at this; simp [hi] at this
  · rfl
end Go.Proofs.YtcfjkkjjcljaoaaDoor

/-
  The document's map: truths behind a slice; what is told of them.
-/

namespace Go.Proofs.YtcfjkkjjcljaoaaDoor
set_option linter.unusedSimpArgs false
set_option linter.unusedVariables false
set_option maxRecDepth 100000
open Go.RowKit

/-- Truths at the beginning of a block. -/
def Tr (w : World) (g c : Nat) (l : List Bool) : Prop := ∃ rest : List Value, Blk 4 w g (l.map Value.bool ++ rest) ∧ c = l.length + rest.length ∧ c ≤ maxLen

theorem Tr.stays {w w' : World} {g c : Nat} {l : List Bool} (h : Tr w g c l) (hb : Below w.heap.size w w') : Tr w' g c l := by
  obtain ⟨r, h1, h2, h3⟩ := h
  exact ⟨r, h1.stays hb, h2, h3⟩
theorem Tr.but {w w' : World} {g g' c : Nat} {l : List Bool} (h : Tr w g c l) (hb : But g' w w') (hne : g ≠ g') : Tr w' g c l := by
  obtain ⟨r, h1, h2, h3⟩ := h
  exact ⟨r, h1.but hb hne, h2, h3⟩
theorem Tr.lt {w : World} {g c : Nat} {l : List Bool} (h : Tr w g c l) : g < w.heap.size := by
  obtain ⟨r, h1, h2, h3⟩ := h
  exact h1.lt
theorem Tr.cap {w : World} {g c : Nat} {l : List Bool} (h : Tr w g c l) : l.length ≤ c ∧ c ≤ maxLen := by
  obtain ⟨r, h1, h2, h3⟩ := h
  exact ⟨by omega, h3⟩
theorem Tr.cell {w : World} {g c : Nat} {l : List Bool} (h : Tr w g c l) (i : Nat) (hi : i < l.length) : w.cell? ⟨g, i, none⟩ = some (.bool (l.getD i false)) := by
  obtain ⟨r, h1, h2, h3⟩ := h
  rw [h1.cell i, List.getElem?_append_left (by simpa using hi)]
  simp [List.getD, hi]
theorem Tr.free {w : World} {g c : Nat} {l : List Bool} (h : Tr w g c l) (i : Nat) : w.frozen? ⟨g, i, none⟩ = false := by
  obtain ⟨r, h1, h2, h3⟩ := h
  exact h1.free i
theorem Tr.set {w : World} {g c : Nat} {l : List Bool} (h : Tr w g c l) (i : Nat) (hi : i < l.length) (b : Bool) : Tr (w.setCell ⟨g, i, none⟩ (.bool b)) g c (l.set i b) := by
  obtain ⟨r, h1, h2, h3⟩ := h
  refine ⟨r, ?_, by simpa using h2, h3⟩
  have := h1.set i (.bool b)
  rw [List.set_append_left _ _ (by simpa using hi), ← List.map_set] at this
  exact this

theorem sizesB : (Tryd.prog.info? 4).map (·.size) = some 1 := by kernel_rfl
theorem elemB : Tryd.prog.elem 31 = 4 := by kernel_rfl
theorem index_tr (g n c i : Nat) (hi : i < n) (K : IntKind) (u : World) : (Instr.indexAt 31 (.slice (some ⟨g, 0, none⟩) n c) (.int K (i : Int))).run Tryd.prog u = .ok (.pointer (some ⟨g, i, none⟩)) u := by
  have := index_run 31 4 Tryd.underlying31 sizesB elemB g 0 n c K i hi u
  rwa [Nat.zero_add] at this

section
variable {g c : Nat} {l : List Bool}

theorem free_take (l : List Bool) (k : Nat) (hk : k < l.length) : (l.take (k + 1)).count false = (l.take k).count false + (if l.getD k false then 0 else 1) := by
  rw [List.take_succ_eq_append_getElem hk, List.count_append]
  have : l[k] = l.getD k false := by simp [List.getD, hk]
  rw [this]
  cases l.getD k false <;> simp

theorem rfree_run (w : World) (h : Tr w g c l) (hl : l.length ≤ 512) : Calls Tryd.prog 102 #[.agg #[.slice (some ⟨g, 0, none⟩) l.length c]] w fun e w' => e = .returned (.int .i64 ((freeN l : Nat) : Int)) ∧ Below w.heap.size w w' := by
  obtain ⟨n, hn⟩ : ∃ n, n = l.length := ⟨_, rfl⟩
  obtain ⟨cf, hcf⟩ : ∃ cf : Nat → Nat, cf = fun k => (l.take k).count false := ⟨_, rfl⟩
  have HC : Hid (∀ k, k < n → ∀ u, Below w.heap.size w u → u.cell? ⟨g, k, none⟩ = some (.bool (l.getD k false))) := fun k hk u hu => (h.stays hu).cell k (by omega)
  have HS : Hid (∀ k, k < n → cf (k + 1) = cf k + (if l.getD k false then 0 else 1)) := fun k hk => by rw [hcf]; exact free_take l k (by omega)
  have HB : Hid (∀ k, cf k ≤ 512) := fun k => by
    rw [hcf]
    show (l.take k).count false ≤ 512
    have h1 := List.count_le_length (a := false) (l := l.take k)
    have h2 : (l.take k).length ≤ l.length := by simp; omega
    omega
  have H0 : Hid (cf 0 = 0) := by rw [hcf]; rfl
  have HE : Hid (cf n = freeN l) := by rw [hcf, hn]; show (l.take l.length).count false = _; rw [List.take_length]; rfl
  obtain ⟨F, hF⟩ : ∃ F, F = freeN l := ⟨_, rfl⟩
  rw [← hF] at HE ⊢
  rw [← hn] at hl ⊢
  clear hcf hn h hF
  go_enter Tryd.func102, Tryd.ntmps102
  go_wp2_with (refine wpList_box0 (by rfl) 33 (.tmp 0) (by rfl) [.slice (some ⟨g, 0, none⟩) n c] (by rfl) ?_; intro w1 hP1 hb1 hs1; have hc0 := hP1.cell 0)
  go_loopw [3, 4] (fun v i wr => ∃ k : Nat, k ≤ n ∧ i = .int .i64 k ∧ v = .int .i64 ((cf k : Nat) : Int) ∧ wr = w1) (fun _ i _ => n - (intOf i).toNat)
  case atStart => exact ⟨0, by omega, rfl, by rw [H0.out]; rfl, rfl⟩
  case round =>
    rename_i hrel
    obtain ⟨k, hk, rfl, rfl, rfl⟩ := hrel
    by_cases hlt : k < n
    · have hck := HC.out k hlt wr hb1
      have hix := index_tr g n c k hlt .i64
      have hs := HS.out k hlt
      have hbd := HB.out k
      obtain ⟨q, hq⟩ : ∃ q, q = cf k := ⟨_, rfl⟩
      rw [← hq] at hs hbd ⊢
      have HQ : Hid (cf (k + 1) = q + (if l.getD k false then 0 else 1)) := hs
      clear hs hq
      cases hb : l.getD k false
      · rw [hb] at hck HQ
        clear hb
        go_wp2
        go_roundw
        case rel => exact ⟨k + 1, by omega, by go_num, by rw [HQ.out]; go_num, trivial⟩
        case measure => simp [intOf]; omega
      · rw [hb] at hck HQ
        clear hb
        go_wp2
        go_roundw
        case rel => exact ⟨k + 1, by omega, by go_num, by rw [HQ.out]; rfl, trivial⟩
        case measure => simp [intOf]; omega
    · have hkn : k = n := by omega
      subst hkn
      rw [HE.out]
      go_wp2
      go_ret
      exact ⟨rfl, hb1⟩
end
end Go.Proofs.YtcfjkkjjcljaoaaDoor
