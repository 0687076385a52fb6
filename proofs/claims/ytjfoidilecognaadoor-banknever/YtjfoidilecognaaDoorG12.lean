/-
  What Load tells; no program here.
-/
import Derived.Test.YtjfoidilecognaaDoorG11
namespace Go.Proofs.YtjfoidilecognaaDoor
set_option linter.unusedSimpArgs false
set_option linter.unusedVariables false
set_option maxRecDepth 100000

/-- The bit j of bytes. -/
def bitX (xs : List Int) (j : Nat) : Bool := (xs.getD (j / 8) 0).toNat.testBit (j % 8)
/-- May it not be? -/
def bad (xs : List Int) (n j : Nat) : Bool := (bitX xs j && decide (n ≤ j)) || (!bitX xs j && decide (j < 4))
/-- May they be? -/
def okX (xs : List Int) (n : Nat) : Prop := ∀ j, j < 512 → bad xs n j = false
/-- The first i bits. -/
def ldL (xs : List Int) (n i : Nat) : List Bool := (List.range n).map (fun j => decide (j < i) && bitX xs j)

theorem ldL_len (xs : List Int) (n i : Nat) : (ldL xs n i).length = n := by simp [ldL]
theorem ldL_at (xs : List Int) (n i j : Nat) : (ldL xs n i).getD j false = (decide (j < n) && (decide (j < i) && bitX xs j)) := by
  by_cases h : j < n
  · simp [ldL, List.getD, h]
  · simp [ldL, List.getD, h]
theorem ldL_0 (xs : List Int) (n : Nat) : ldL xs n 0 = lab n 0 := by
  refine getD_ext (by rw [ldL_len, lab_len]) fun i hi => ?_
  rw [ldL_at, lab_at]; simp
theorem ldL_one (xs : List Int) (n i : Nat) (hi : i < n) (h : bitX xs i = true) : (ldL xs n i).set i true = ldL xs n (i + 1) := by
  refine getD_ext (by simp [ldL_len]) fun j hj => ?_
  rw [getD_set _ _ _ _ (by rw [ldL_len]; exact hi), ldL_at, ldL_at]
  by_cases e : i = j
  · subst e; simp [hi, h]
  · rw [if_neg e, show decide (j < i + 1) = decide (j < i) from decide_eq_decide.2 (by omega)]
theorem ldL_zero (xs : List Int) (n i : Nat) (h : bitX xs i = false ∨ n ≤ i) : ldL xs n i = ldL xs n (i + 1) := by
  refine getD_ext (by simp [ldL_len]) fun j hj => ?_
  rw [ldL_len] at hj
  rw [ldL_at, ldL_at]
  by_cases e : i = j
  · subst e
    rcases h with h | h
    · simp [h]
    · omega
  · rw [show decide (j < i + 1) = decide (j < i) from decide_eq_decide.2 (by omega)]

/-- The map of bytes. -/
def mapX (xs : List Int) (n : Nat) : List Bool := ldL xs n 512
theorem mapX_len (xs : List Int) (n : Nat) : (mapX xs n).length = n := ldL_len _ _ _
theorem mapX_at (xs : List Int) (n j : Nat) (hn : n ≤ 512) (hj : j < n) : (mapX xs n).getD j false = bitX xs j := by
  rw [mapX, ldL_at]
  simp [hj, show j < 512 by omega]
theorem okX.lab {xs : List Int} {n : Nat} (h : okX xs n) (h4 : 4 ≤ n) (hn : n ≤ 512) : Lab (mapX xs n) := fun i hi => by
  rw [mapX_at _ _ _ hn (by omega)]
  have := h i (by omega)
  unfold bad at this
  cases hb : bitX xs i
  · rw [hb] at this; simp [hi] at this
  · rfl
end Go.Proofs.YtjfoidilecognaaDoor

/-
  The document's map: truths behind a slice; what is told of them.
-/

namespace Go.Proofs.YtjfoidilecognaaDoor
set_option linter.unusedSimpArgs false
set_option linter.unusedVariables false
set_option maxRecDepth 100000
open Go.RowKit

/-- Truths at the beginning of a block. -/
def Tr (w : World) (g c : Nat) (l : List Bool) : Prop := ∃ rest : List Value, Blk 4 w g (l.map Value.bool ++ rest) ∧ c = l.length + rest.length ∧ c ≤ maxLen

theorem Tr.stays {w w' : World} {g c : Nat} {l : List Bool} (h : Tr w g c l) (hb : Below w.heap.size w w') : Tr w' g c l := by
  obtain ⟨r, h1, h2, h3⟩ := h
  exact ⟨r, h1.stays hb, h2, h3⟩
theorem Tr.but {w w' : World} {g g' c : Nat} {l : List Bool} (h : Tr w g c l) (hb : But g' w w') (hne : g ≠ g') : Tr w' g c l := by
  obtain ⟨r, h1, h2, h3⟩ := h
  exact ⟨r, h1.but hb hne, h2, h3⟩
theorem Tr.lt {w : World} {g c : Nat} {l : List Bool} (h : Tr w g c l) : g < w.heap.size := by
  obtain ⟨r, h1, h2, h3⟩ := h
  exact h1.lt
theorem Tr.cap {w : World} {g c : Nat} {l : List Bool} (h : Tr w g c l) : l.length ≤ c ∧ c ≤ maxLen := by
  obtain ⟨r, h1, h2, h3⟩ := h
  exact ⟨by omega, h3⟩
theorem Tr.cell {w : World} {g c : Nat} {l : List Bool} (h : Tr w g c l) (i : Nat) (hi : i < l.length) : w.cell? ⟨g, i, none⟩ = some (.bool (l.getD i false)) := by
  obtain ⟨r, h1, h2, h3⟩ := h
  rw [h1.cell i, List.getElem?_append_left (by simpa using hi)]
  simp [List.getD, hi]
theorem Tr.free {w : World} {g c : Nat} {l : List Bool} (h : Tr w g c l) (i : Nat) : w.frozen? ⟨g, i, none⟩ = false := by
  obtain ⟨r, h1, h2, h3⟩ := h
  exact h1.free i
theorem Tr.set {w : World} {g c : Nat} {l : List Bool} (h : Tr w g c l) (i : Nat) (hi : i < l.length) (b : Bool) : Tr (w.setCell ⟨g, i, none⟩ (.bool b)) g c (l.set i b) := by
  obtain ⟨r, h1, h2, h3⟩ := h
  refine ⟨r, ?_, by simpa using h2, h3⟩
  have := h1.set i (.bool b)
  rw [List.set_append_left _ _ (by simpa using hi), ← List.map_set] at this
  exact this

theorem sizesB : (Tryd.prog.info? 4).map (·.size) = some 1 := by kernel_rfl
theorem elemB : Tryd.prog.elem 31 = 4 := by kernel_rfl
theorem index_tr (g n c i : Nat) (hi : i < n) (K : IntKind) (u : World) : (Instr.indexAt 31 (.slice (some ⟨g, 0, none⟩) n c) (.int K (i : Int))).run Tryd.prog u = .ok (.pointer (some ⟨g, i, none⟩)) u := by
  have := index_run 31 4 Tryd.underlying31 sizesB elemB g 0 n c K i hi u
  rwa [Nat.zero_add] at this

section
variable {g c : Nat} {l : List Bool}

theorem free_take (l : List Bool) (k : Nat) (hk : k < l.length) : (l.take (k + 1)).count false = (l.take k).count false + (if l.getD k false then 0 else 1) := by
  rw [List.take_succ_eq_append_getElem hk, List.count_append]
  have : l[k] = l.getD k false := by simp [List.getD, hk]
  rw [this]
  cases l.getD k false <;> simp

theorem rfree_run (w : World) (h : Tr w g c l) (hl : l.length ≤ 512) : Calls Tryd.prog 84 #[.agg #[.slice (some ⟨g, 0, none⟩) l.length c]] w fun e w' => e = .returned (.int .i64 ((freeN l : Nat) : Int)) ∧ Below w.heap.size w w' := by
  obtain ⟨n, hn⟩ : ∃ n, n = l.length := ⟨_, rfl⟩
  obtain ⟨cf, hcf⟩ : ∃ cf : Nat → Nat, cf = fun k => (l.take k).count false := ⟨_, rfl⟩
  have HC : Hid (∀ k, k < n → ∀ u, Below w.heap.size w u → u.cell? ⟨g, k, none⟩ = some (.bool (l.getD k false))) := fun k hk u hu => (h.stays hu).cell k (by omega)
  have HS : Hid (∀ k, k < n → cf (k + 1) = cf k + (if l.getD k false then 0 else 1)) := fun k hk => by rw [hcf]; exact free_take l k (by omega)
  have HB : Hid (∀ k, cf k ≤ 512) := fun k => by
    rw [hcf]
    show (l.take k).count false ≤ 512
    have h1 := List.count_le_length (a := false) (l := l.take k)
    have h2 : (l.take k).length ≤ l.length := by simp; omega
    omega
  have H0 : Hid (cf 0 = 0) := by rw [hcf]; rfl
  have HE : Hid (cf n = freeN l) := by rw [hcf, hn]; show (l.take l.length).count false = _; rw [List.take_length]; rfl
  obtain ⟨F, hF⟩ : ∃ F, F = freeN l := ⟨_, rfl⟩
  rw [← hF] at HE ⊢
  rw [← hn] at hl ⊢
  clear hcf hn h hF
  go_enter Tryd.func84, Tryd.ntmps84
  go_wp2_with (refine wpList_box0 (by rfl) 33 (.tmp 0) (by rfl) [.slice (some ⟨g, 0, none⟩) n c] (by rfl) ?_; intro w1 hP1 hb1 hs1; have hc0 := hP1.cell 0)
  go_loopw [3, 4] (fun v i wr => ∃ k : Nat, k ≤ n ∧ i = .int .i64 k ∧ v = .int .i64 ((cf k : Nat) : Int) ∧ wr = w1) (fun _ i _ => n - (intOf i).toNat)
  case atStart => exact ⟨0, by omega, rfl, by rw [H0.out]; rfl, rfl⟩
  case round =>
    rename_i hrel
    obtain ⟨k, hk, rfl, rfl, rfl⟩ := hrel
    by_cases hlt : k < n
    · have hck := HC.out k hlt wr hb1
      have hix := index_tr g n c k hlt .i64
      have hs := HS.out k hlt
      have hbd := HB.out k
      obtain ⟨q, hq⟩ : ∃ q, q = cf k := ⟨_, rfl⟩
      rw [← hq] at hs hbd ⊢
      have HQ : Hid (cf (k + 1) = q + (if l.getD k false then 0 else 1)) := hs
      clear hs hq
      cases hb : l.getD k false
      · rw [hb] at hck HQ
        clear hb
        go_wp2
        go_roundw
        case rel => exact ⟨k + 1, by omega, by go_num, by rw [HQ.out]; go_num, trivial⟩
        case measure => simp [intOf]; omega
      · rw [hb] at hck HQ
        clear hb
        go_wp2
        go_roundw
        case rel => exact ⟨k + 1, by omega, by go_num, by rw [HQ.out]; rfl, trivial⟩
        case measure => simp [intOf]; omega
    · have hkn : k = n := by omega
      subst hkn
      rw [HE.out]
      go_wp2
      go_ret
      exact ⟨rfl, hb1⟩
end
end Go.Proofs.YtjfoidilecognaaDoor

/-
  The document's Bytes.
-/

namespace Go.Proofs.YtjfoidilecognaaDoor
set_option linter.unusedSimpArgs false
set_option linter.unusedVariables false
set_option maxRecDepth 100000
open Go.RowKit

theorem getD_take (l : List Bool) (k j : Nat) : (l.take k).getD j false = (decide (j < k) && l.getD j false) := by
  by_cases h : j < k
  · simp [List.getD, List.getElem?_take, h]
  · simp [List.getD, List.getElem?_take, h]

theorem Bt_take_zero (l : List Bool) (k j : Nat) (h : l.getD k false = false) : Bt (l.take (k + 1)) j = Bt (l.take k) j := by
  refine Nat.eq_of_testBit_eq fun i => ?_
  rw [Bt_bit, Bt_bit, getD_take, getD_take]
  by_cases e : 8 * j + i = k
  · rw [e, h]; simp
  · rw [show decide (8 * j + i < k + 1) = decide (8 * j + i < k) from decide_eq_decide.2 (by omega)]

theorem Bt_take_low (l : List Bool) (k : Nat) : Bt (l.take k) (k / 8) < 2 ^ (k % 8) := by
  refine Nat.lt_pow_two_of_testBit _ fun i hi => ?_
  rw [Bt_bit, getD_take]
  simp [show ¬ 8 * (k / 8) + i < k by omega]

theorem Bt_take_one (l : List Bool) (k j : Nat) (h : l.getD k false = true) : Bt (l.take (k + 1)) j = if j = k / 8 then Bt (l.take k) j + 2 ^ (k % 8) else Bt (l.take k) j := by
  by_cases hj : j = k / 8
  · rw [if_pos hj, hj, Nat.add_comm (Bt (l.take k) (k / 8)), ← nat_join (k % 8) (2 ^ (k % 8)) _ (by simp) (Bt_take_low l k)]
    refine Nat.eq_of_testBit_eq fun i => ?_
    rw [Nat.testBit_or, Nat.testBit_two_pow, Bt_bit, Bt_bit, getD_take, getD_take]
    by_cases e : k % 8 = i
    · subst e
      rw [show 8 * (k / 8) + k % 8 = k by omega, h]
      simp [show k % 8 < 8 by omega]
    · simp only [e, decide_false, Bool.false_or]
      rw [show decide (8 * (k / 8) + i < k + 1) = decide (8 * (k / 8) + i < k) from decide_eq_decide.2 (by omega)]
  · rw [if_neg hj]
    refine Nat.eq_of_testBit_eq fun i => ?_
    rw [Bt_bit, Bt_bit, getD_take, getD_take]
    by_cases hi : i < 8
    · rw [show decide (8 * j + i < k + 1) = decide (8 * j + i < k) from decide_eq_decide.2 (by omega)]
    · simp [hi]

theorem bytesL_zero (l : List Bool) (k : Nat) (h : l.getD k false = false) : bytesM (l.take (k + 1)) = bytesM (l.take k) := by
  unfold bytesM
  simp only [Bt_take_zero l k _ h]
theorem bytesL_one (l : List Bool) (k : Nat) (h : l.getD k false = true) (hk : k < 512) : bytesM (l.take (k + 1)) = (bytesM (l.take k)).set (k / 8) ((Bt (l.take k) (k / 8) + 2 ^ (k % 8) : Nat) : Int) := by
  refine List.ext_getElem? fun j => ?_
  rw [List.getElem?_set, bytesL_len]
  by_cases hj : j < 64
  · have e1 : (bytesM (l.take (k + 1)))[j]? = some ((Bt (l.take (k + 1)) j : Nat) : Int) := by simp [bytesM, hj]
    have e2 : (bytesM (l.take k))[j]? = some ((Bt (l.take k) j : Nat) : Int) := by simp [bytesM, hj]
    rw [e1, e2, Bt_take_one l k j h]
    by_cases e : j = k / 8
    · subst e; rw [if_pos rfl, if_pos rfl, if_pos hj]
    · rw [if_neg e, if_neg (fun x => e x.symm)]
  · rw [if_neg (by omega), List.getElem?_eq_none (by rw [bytesL_len]; omega), List.getElem?_eq_none (by rw [bytesL_len]; omega)]
theorem bytesL_none : bytesM [] = List.replicate 64 0 := by decide +kernel

section
variable {g c : Nat} {l : List Bool}

set_option maxRecDepth 100000 in
theorem rbytes_run (w : World) (h : Tr w g c l) (hl : l.length ≤ 512) : Calls Tryd.prog 14 #[.agg #[.slice (some ⟨g, 0, none⟩) l.length c]] w fun e w' => ∃ a c, e = .returned (.slice a 64 c) ∧ Bs w' a c (bytesM l) ∧ Below w.heap.size w w' := by
  have hi0 : (Tryd.prog.info? 5).map (fun i => (i.zero, i.size, i.bytes)) = some (some (.int .u8 0), 1, 1) := by kernel_rfl
  obtain ⟨ti, ht0, ht1, ht2, ht3⟩ := info_parts hi0
  obtain ⟨n, hn⟩ : ∃ n, n = l.length := ⟨_, rfl⟩
  have HC : Hid (∀ k, k < n → ∀ u, Below w.heap.size w u → u.cell? ⟨g, k, none⟩ = some (.bool (l.getD k false))) := fun k hk u hu => (h.stays hu).cell k (by omega)
  have HE : Hid (bytesM (l.take n) = bytesM l) := by show _ = _; rw [hn, List.take_length]
  have HI : Hid (bytesM (l.take 0) = List.replicate 64 0) := bytesL_none
  rw [← hn] at hl ⊢
  clear hn h hi0
  go_enter Tryd.func14, Tryd.ntmps14
  go_wp2_with (first
    | (refine wpList_box0 (by rfl) 33 (.tmp 0) (by rfl) [.slice (some ⟨g, 0, none⟩) n c] (by rfl) ?_; intro w1 hP1 hb1 hs1)
    | (refine wpList_make_bytes (by rfl) (.const (.int .i64 64)) (.const (.int .i64 64)) 43 (by rfl) w1.heap.size 5 ti Tryd.underlying43 ht0 ht1 ht2 ht3 .i64 .i64 64 64 64 (by rfl) (by rfl) rfl rfl (by decide) (Nat.le_refl _) (Below.refl _ w1) ?_; intro w2 hR2 hb2))
  have hP2 := hP1.stays hb2
  obtain ⟨B, hB⟩ : ∃ B, B = w.heap.size + 1 := ⟨_, rfl⟩
  have hwB : w.heap.size < B := by omega
  rw [hs1, ← hB] at hR2
  rw [← hB]
  have hX2 : Below w.heap.size w w2 := hb1.trans (hb2.mono (by omega))
  clear hB hb1 hb2 hP1 hs1
  go_loopw [4] (fun i wr => ∃ k : Nat, k ≤ n ∧ i = .int .i64 k ∧ Blk 5 wr B ((bytesM (l.take k)).map (Value.int .u8)) ∧ Blk 33 wr w.heap.size [.slice (some ⟨g, 0, none⟩) n c] ∧ Below w.heap.size w wr) (fun i _ => n - (intOf i).toNat)
  case atStart => exact ⟨0, by omega, rfl, by rw [HI.out]; exact hR2, hP2, hX2⟩
  case round =>
    rename_i hrel
    obtain ⟨k, hk, rfl, hR, hP, hbr⟩ := hrel
    clear hR2 hP2 hX2
    have hc0 := hP.cell 0
    by_cases hlt : k < n
    · have hck := HC.out k hlt wr hbr
      have hix := index_tr g n c k hlt .i64
      cases hb : l.getD k false
      · rw [hb] at hck
        have hR3 : Blk 5 wr B ((bytesM (l.take (k + 1))).map (Value.int .u8)) := by rw [bytesL_zero l k hb]; exact hR
        clear hb hR
        go_wp2
        go_roundw
        case rel => exact ⟨k + 1, by omega, by go_num, hR3, hP, hbr⟩
        case measure => simp [intOf]; omega
      · rw [hb] at hck
        have hlow := Bt_take_low l k
        have hone := bytesL_one l k hb (by omega)
        have hcx : wr.cell? ⟨B, k / 8, none⟩ = some (.int .u8 ((Bt (l.take k) (k / 8) : Nat) : Int)) := by
          rw [hR.cell]; simp [bytesM, show k / 8 < 64 by omega]
        have hcl : k / 8 < ((bytesM (l.take k)).map (Value.int .u8)).length := by rw [List.length_map, bytesL_len]; omega
        obtain ⟨x, hx⟩ : ∃ x, x = Bt (l.take k) (k / 8) := ⟨_, rfl⟩
        rw [← hx] at hlow hone hcx
        clear hx hb
        obtain ⟨cur, hcur⟩ : ∃ cur, cur = bytesM (l.take k) := ⟨_, rfl⟩
        rw [← hcur] at hR hone hcl
        clear hcur
        have HON : Hid (bytesM (l.take (k + 1)) = cur.set (k / 8) ((x + 2 ^ (k % 8) : Nat) : Int)) := hone
        clear hone
        have hix8 : ∀ u : World, (Instr.indexAt 43 (.slice (some ⟨B, 0, none⟩) 64 64) (.int .i64 ((k : Int) / 8))).run Tryd.prog u = .ok (.pointer (some ⟨B, k / 8, none⟩)) u := fun u => by
          have := index_run 43 5 Tryd.underlying43 ssizes5 selem5 B 0 64 64 .i64 (k / 8) (by omega) u
          rwa [Nat.zero_add, show (((k / 8 : Nat)) : Int) = (k : Int) / 8 by omega] at this
        obtain ⟨p, hp⟩ : ∃ p, p = 2 ^ (k % 8) := ⟨_, rfl⟩
        have hp8 : p ≤ 128 := by rw [hp]; exact Nat.pow_le_pow_right (by decide) (show k % 8 ≤ 7 by omega)
        have hpI : (2 : Int) ^ (k % 8) = (p : Int) := by rw [hp, Int.natCast_pow]; rfl
        rw [← hp] at hlow HON
        clear hp
        go_wp2_with (refine wpList_store_int (by rfl) (.tmp 31) (.tmp 30) 5 (by rfl) B (k / 8) (by rfl) .u8 _ (by rfl) ssize_u8 hR hcl ?_; intro w5 hR5 hbut5 hs5)
        have hR6 : Blk 5 w5 B ((bytesM (l.take (k + 1))).map (Value.int .u8)) := by
          rw [HON.out, List.map_set]; exact hR5
        have hP6 := hP.but hbut5 (by omega)
        go_roundw
        case rel => exact ⟨k + 1, by omega, by go_num, hR6, hP6, hbr.trans (hbut5.below (Nat.le_of_lt hwB) hbr.size)⟩
        case measure => simp [intOf]; omega
    · have hkn : k = n := by omega
      subst hkn
      rw [HE.out] at hR
      have hB : Bs wr (some ⟨B, 0, none⟩) 64 (bytesM l) := by
        have := Row.bs (e := 5) (w := wr) (g := B) hR (bytesL_rng l) (by rw [bytesL_len]; decide)
        rwa [bytesL_len] at this
      clear hR
      go_wp2
      go_ret
      exact ⟨_, 64, rfl, hB, hbr⟩
end
end Go.Proofs.YtjfoidilecognaaDoor
