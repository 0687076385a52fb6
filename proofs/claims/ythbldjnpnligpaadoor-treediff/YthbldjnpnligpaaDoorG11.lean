/-
  Package space: a map in memory, its bits read and set.
-/
import Derived.Test.YthbldjnpnligpaaDoorG05
import Derived.Test.YthbldjnpnligpaaDoorG10
import Derived.StillTailTactics
import Derived.Deep.RegionLaw
namespace Go.Proofs.YthbldjnpnligpaaDoor
set_option linter.unusedSimpArgs false
set_option linter.unusedVariables false
set_option maxRecDepth 100000
open Go.RowKit

/-- A map's words. -/
def wordsV (l : List Bool) : List Value := (List.range 8).map (fun k => .int .u64 ((W l k : Nat) : Int))
/-- A map's cells. -/
def mapV (l : List Bool) : List Value := .int .i64 ((l.length : Nat) : Int) :: wordsV l

theorem wordsV_len (l : List Bool) : (wordsV l).length = 8 := by simp [wordsV]
theorem mapV_len (l : List Bool) : (mapV l).length = 9 := by simp [mapV, wordsV_len]
theorem wordsV_at (l : List Bool) (k : Nat) (hk : k < 8) : (wordsV l)[k]? = some (.int .u64 ((W l k : Nat) : Int)) := by
  simp [wordsV, hk]
theorem words_set (l : List Bool) (i : Nat) (b : Bool) (hi : i < l.length) (hl : l.length ≤ 512) : (wordsV l).set (i / 64) (.int .u64 ((W (l.set i b) (i / 64) : Nat) : Int)) = wordsV (l.set i b) := by
  refine List.ext_getElem? fun k => ?_
  rw [List.getElem?_set]
  by_cases hk : k < 8
  · rw [wordsV_at l k hk, wordsV_at (l.set i b) k hk]
    split
    · next h => rw [wordsV_len, if_pos (by omega), h]
    · next h =>
      cases b
      · rw [W_free l i k hi, if_neg (by omega)]
      · rw [W_use l i k hi, if_neg (by omega)]
  · rw [if_neg (by omega), List.getElem?_eq_none (by rw [wordsV_len]; omega), List.getElem?_eq_none (by rw [wordsV_len]; omega)]

theorem map_set (l : List Bool) (i : Nat) (b : Bool) (hi : i < l.length) (hl : l.length ≤ 512) : (mapV l).set (1 + i / 64) (.int .u64 ((W (l.set i b) (i / 64) : Nat) : Int)) = mapV (l.set i b) := by
  rw [mapV, Nat.add_comm, List.set_cons_succ, words_set l i b hi hl, mapV, List.length_set]

/-- A map in memory. -/
structure Mp (w : World) (g : Nat) (l : List Bool) : Prop where
  blk : Blk 136 w g (mapV l)
  lo : 16 ≤ l.length
  hi : l.length ≤ 512

theorem Mp.stays {w w' : World} {g : Nat} {l : List Bool} (h : Mp w g l) (hb : Below w.heap.size w w') : Mp w' g l := ⟨h.blk.stays hb, h.lo, h.hi⟩
theorem Mp.len {w : World} {g : Nat} {l : List Bool} (h : Mp w g l) : w.cell? ⟨g, 0, none⟩ = some (.int .i64 ((l.length : Nat) : Int)) := h.blk.cell 0
theorem Mp.word {w : World} {g : Nat} {l : List Bool} (h : Mp w g l) (k : Nat) (hk : k < 8) : w.cell? ⟨g, 1 + k, none⟩ = some (.int .u64 ((W l k : Nat) : Int)) := by
  have hb := h.blk
  unfold Blk at hb
  unfold World.cell?
  simp only [hb]
  have := wordsV_at l k hk
  simp only [mapV, Nat.add_comm 1 k, List.getElem?_toArray, List.getElem?_cons_succ]
  exact this

section
variable {g : Nat} {l : List Bool}

theorem slen_run (w : World) (h : Mp w g l) : Calls Tryd.prog 165 #[.pointer (some ⟨g, 0, none⟩)] w fun e w' => e = .returned (.int .i64 ((l.length : Nat) : Int)) ∧ w' = w := by
  have h0 := h.len
  go_enter Tryd.func165, Tryd.ntmps165
  go_wp2
  go_ret
  exact ⟨rfl, rfl⟩

theorem shas_run (i : Nat) (hi : i < 4294967296) (w : World) (h : Mp w g l) : Calls Tryd.prog 141 #[.pointer (some ⟨g, 0, none⟩), .int .u32 (i : Int)] w fun e w' => e = .returned (.bool (decide (i < l.length))) ∧ w' = w := by
  have h1 := h.hi
  go_enter Tryd.func141, Tryd.ntmps141
  go_wp2_with (go_at_call 165; refine (slen_run _ h).mono ?_; rintro e w' ⟨rfl, rfl⟩)
  go_ret
  refine ⟨?_, rfl⟩
  simp

theorem used_word (l : List Bool) (i : Nat) : (bits .and .u64 ((W l (i / 64) : Nat) : Int) (2 ^ (i % 64)) != 0) = l.getD i false := by
  have hp : 2 ^ (i % 64) < 18446744073709551616 := Nat.lt_of_lt_of_le (Nat.pow_lt_pow_right (by decide) (show i % 64 < 64 by omega)) (by decide)
  have h := u64_and_nat (W l (i / 64)) (2 ^ (i % 64)) (W_lt _ _) hp
  rw [Int.natCast_pow, show ((2 : Nat) : Int) = 2 from rfl] at h
  rw [h, W_used]
  have h0 : 0 < 2 ^ (i % 64) := Nat.two_pow_pos _
  cases l.getD i false
  · rfl
  · simp only [if_true]
    rw [bne_iff_ne]
    omega

theorem used_drew (i : Nat) (w : World) (h : Mp w g l) (ho : i < l.length) : Calls Tryd.prog 143 #[.pointer (some ⟨g, 0, none⟩), .int .i64 (i : Int)] w fun e w' => e = .returned (.bool (l.getD i false)) ∧ ∃ m, w' = w.drewN m := by
  have h1 := h.hi
  have hw := h.word (i / 64) (by omega)
  have hb := fun u => bit_run i (by omega) u
  have hlt := W_lt l (i / 64)
  have hu := used_word l i
  go_enter Tryd.func143, Tryd.ntmps143
  go_wp2_with (go_at_call 165; refine (slen_run _ h).mono ?_; rintro e w' ⟨rfl, rfl⟩)
  go_quiet (first | (go_at_call 146; refine Calls.quiet_of_same (hb _)))
  go_wp2
  go_ret
  refine ⟨?_, _, rfl⟩
  simp [ho]

theorem below_drewW (w : World) (m : Nat) : Below w.heap.size w (w.drewN m) := ⟨rfl, rfl, rfl, Nat.le_refl _, fun _ _ => rfl⟩
theorem Mp.drewN {w : World} (h : Mp w g l) (m : Nat) : Mp (w.drewN m) g l := h.stays (below_drewW w m)

theorem used_in (i : Nat) (w : World) (h : Mp w g l) (ho : i < l.length) : Calls Tryd.prog 143 #[.pointer (some ⟨g, 0, none⟩), .int .i64 (i : Int)] w fun e w' => e = .returned (.bool (l.getD i false)) ∧ Below w.heap.size w w' :=
  (used_drew i w h ho).mono fun e w' ⟨h1, m, h2⟩ => ⟨h1, h2 ▸ below_drewW w m⟩

theorem or_word (l : List Bool) (i : Nat) (hi : i < l.length) : bits .or .u64 ((W l (i / 64) : Nat) : Int) (2 ^ (i % 64)) = ((W (l.set i true) (i / 64) : Nat) : Int) := by
  have hp : 2 ^ (i % 64) < 18446744073709551616 := Nat.lt_of_lt_of_le (Nat.pow_lt_pow_right (by decide) (show i % 64 < 64 by omega)) (by decide)
  have h := u64_or_nat (W l (i / 64)) (2 ^ (i % 64)) (W_lt _ _) hp
  rw [Int.natCast_pow, show ((2 : Nat) : Int) = 2 from rfl] at h
  rw [h, W_use l i _ hi, if_pos rfl]

theorem clr_word (l : List Bool) (i : Nat) (hi : i < l.length) : bits .andNot .u64 ((W l (i / 64) : Nat) : Int) (2 ^ (i % 64)) = ((W (l.set i false) (i / 64) : Nat) : Int) := by
  have hp : 2 ^ (i % 64) < 18446744073709551616 := Nat.lt_of_lt_of_le (Nat.pow_lt_pow_right (by decide) (show i % 64 < 64 by omega)) (by decide)
  have h := u64_andNot_nat (W l (i / 64)) (2 ^ (i % 64)) (W_lt _ _) hp
  rw [Int.natCast_pow, show ((2 : Nat) : Int) = 2 from rfl] at h
  rw [h, W_free l i _ hi, if_pos rfl]

theorem Mp.put {w : World} (h : Mp w g l) (i : Nat) (b : Bool) (hi : i < l.length) : Mp (w.setCell ⟨g, 1 + i / 64, none⟩ (.int .u64 ((W (l.set i b) (i / 64) : Nat) : Int))) g (l.set i b) := by
  have := h.blk.set (1 + i / 64) (.int .u64 ((W (l.set i b) (i / 64) : Nat) : Int))
  rw [map_set l i b hi h.hi] at this
  exact ⟨this, by simpa using h.lo, by simpa using h.hi⟩

theorem use_run (i : Nat) (w : World) (h : Mp w g l) (ho : i < l.length) : Calls Tryd.prog 140 #[.pointer (some ⟨g, 0, none⟩), .int .i64 (i : Int)] w fun e w' => e = .returned (.tuple #[]) ∧ Mp w' g (l.set i true) ∧ But g w w' ∧ w'.heap.size = w.heap.size := by
  have h1 := h.hi
  have hw := h.word (i / 64) (by omega)
  have hfr := h.blk.free (1 + i / 64)
  have hb := fun u => bit_run i (by omega) u
  have hlt := W_lt l (i / 64)
  have hor := or_word l i ho
  have HM : ∀ u : World, Mp u g l → Hid (Mp (u.setCell ⟨g, 1 + i / 64, none⟩ (.int .u64 ((W (l.set i true) (i / 64) : Nat) : Int))) g (l.set i true)) := fun u hu => hu.put i true ho
  have hq0 : (0 : Int) ≤ (i : Int) / 64 := by omega
  have hq1 : (i : Int) / 64 < 8 := by omega
  have hq2 : ((i : Int) / 64).toNat = i / 64 := by omega
  have hwr : IntKind.i64.wrap ((i : Int) / 64) = (i : Int) / 64 := by simp [IntKind.wrap, IntKind.bits, IntKind.signed]; omega
  go_enter Tryd.func140, Tryd.ntmps140
  go_region_law (refine step_call rfl 146 #[.int .i64 (i : Int)] (by go_simp) (hb _) ?_; rintro e w' ⟨rfl, rfl⟩; refine ⟨_, rfl, ?_⟩)
  all_goals go_end0
  all_goals exact ⟨rfl, ⟨(h.put i true ho).blk, (h.put i true ho).lo, (h.put i true ho).hi⟩, ((But.refl g w).setCell _ _).drew, by simp [World.setCell, World.drew]⟩

end
end Go.Proofs.YthbldjnpnligpaaDoor

/-
  Package space: Free, Bytes, Copy.
-/

namespace Go.Proofs.YthbldjnpnligpaaDoor
set_option linter.unusedSimpArgs false
set_option linter.unusedVariables false
set_option maxRecDepth 100000
open Go.RowKit

theorem sizes64 : (Tryd.prog.info? 84).map (·.size) = some 1 := by kernel_rfl
theorem agg_words (w : World) : (isAgg 134).run Tryd.prog w = .ok true w := isAgg_array Tryd.underlying134 w
theorem size_words (w : World) : (sizeOf 134).run Tryd.prog w = .ok 8 w := sizeOf_run (by kernel_rfl) w

theorem map_words (l : List Bool) : wordsV l = ((mapV l).drop 1).take 8 := by
  rw [mapV, List.drop_one, List.tail_cons, List.take_of_length_le (by rw [wordsV_len]; omega)]

section
variable {g : Nat} {l : List Bool}

theorem free_run (w : World) (h : Mp w g l) : Calls Tryd.prog 30 #[.pointer (some ⟨g, 0, none⟩)] w fun e w' => e = .returned (.int .i64 ((freeN l : Nat) : Int)) ∧ w' = w := by
  have h0 := h.len
  have h1 := h.hi
  obtain ⟨ws, hws⟩ : ∃ ws, ws = wordsV l := ⟨_, rfl⟩
  have hwl : ws.length = 8 := by rw [hws]; exact wordsV_len l
  have HW : Hid (ws = ((mapV l).drop 1).take 8) := by rw [hws]; exact map_words l
  have HWA : Hid (∀ k, k < 8 → ws.toArray[k]? = some (.int .u64 ((W l k : Nat) : Int))) := fun k hk => by rw [hws, List.getElem?_toArray]; exact wordsV_at l k hk
  have HFR : Hid ((l.length : Int) - (pop (64 * 8) (pack l) : Nat) = (freeN l : Nat)) := free_eq l h1
  have hbl := h.blk
  obtain ⟨F, hF⟩ : ∃ F, F = freeN l := ⟨_, rfl⟩
  obtain ⟨pc, hpc⟩ : ∃ pc : Nat → Nat, pc = fun k => pop (64 * k) (pack l) := ⟨_, rfl⟩
  have HPC : Hid (∀ k, pc (k + 1) = pc k + pop 64 (W l k)) := fun k => by rw [hpc]; exact pop_next l k
  have HPL : Hid (∀ k, pc k ≤ l.length) := fun k => by rw [hpc]; exact pop_len l _
  have HP0 : Hid (pc 0 = 0) := by rw [hpc]; rfl
  have HP8 : Hid ((l.length : Int) - (pc 8 : Nat) = F) := by rw [hpc, hF]; exact HFR.out
  rw [← hF]
  clear hws hF hpc HFR
  go_enter Tryd.func30, Tryd.ntmps30
  go_wp2_with (refine wpList_load_blk (by rfl) (.tmp 14) 134 (by rfl) g 1 8 (by rfl) agg_words size_words hbl ws HW.out hwl ?_)
  go_loopw [3, 16] (fun v i wr => ∃ k : Nat, k ≤ 8 ∧ i = .int .i64 k ∧ v = .int .i64 ((l.length : Int) - (pc k : Nat)) ∧ wr = w) (fun _ i _ => 8 - (intOf i).toNat)
  case atStart => exact ⟨0, by omega, rfl, by rw [HP0.out]; simp, rfl⟩
  case round =>
    rename_i hrel
    obtain ⟨k, hk, rfl, rfl, rfl⟩ := hrel
    have b1 := HPL.out k
    by_cases hlt : k < 8
    · have hix : ∀ u : World, (Instr.index 134 (.agg ws.toArray) (.int .i64 (k : Int))).run Tryd.prog u = .ok (.int .u64 ((W l k : Nat) : Int)) u := fun u => index_agg Tryd.underlying134 Tryd.underlying84 sizes64 hlt (HWA.out k hlt) .i64 u
      obtain ⟨x, hx⟩ : ∃ x, x = W l k := ⟨_, rfl⟩
      obtain ⟨y, hy⟩ : ∃ y, y = pop 64 x := ⟨_, rfl⟩
      have hxl : x < 18446744073709551616 := by rw [hx]; exact W_lt l k
      have HON : Hid (∀ u : World, Calls Tryd.prog 77 #[.int .u64 (x : Int)] u fun e w' => e = .returned (.int .i64 (y : Int)) ∧ w' = u) := fun u => by rw [hy]; exact ones_run x hxl u
      have HY : Hid (pc (k + 1) = pc k + y) := by show _ = _; rw [hy, hx]; exact HPC.out k
      have b2 : pc k + y ≤ l.length := by rw [← HY.out]; exact HPL.out (k + 1)
      rw [← hx] at hix
      clear hx hy
      obtain ⟨p, hp⟩ : ∃ p, p = pc k := ⟨_, rfl⟩
      rw [← hp] at b1 b2 ⊢
      have HP : Hid (p = pc k) := hp
      clear hp
      go_wp2_with (go_at_call 77; refine (HON.out _).mono ?_; rintro e w' ⟨rfl, rfl⟩)
      go_roundw
      case rel => exact ⟨k + 1, by omega, by go_num, by rw [HY.out, ← HP.out]; go_num, trivial⟩
      case measure => simp [intOf]; omega
    · have hk8 : k = 8 := by omega
      subst hk8
      rw [HP8.out]
      go_wp2
      go_ret
      exact ⟨rfl, rfl⟩

theorem Mp.copy {w w' : World} {q : Nat} (h : Mp w g l) (hq : Blk 136 w' q (mapV l)) : Mp w' q l := ⟨hq, h.lo, h.hi⟩

end
end Go.Proofs.YthbldjnpnligpaaDoor

/-
  What the calls of package space tell, as lists of truths; no program here.
-/

namespace Go.Proofs.YthbldjnpnligpaaDoor
set_option linter.unusedSimpArgs false
set_option linter.unusedVariables false
set_option maxRecDepth 100000

theorem getD_ext {l m : List Bool} (hl : l.length = m.length) (h : ∀ i, i < l.length → l.getD i false = m.getD i false) : l = m := by
  refine List.ext_getElem hl fun i h1 h2 => ?_
  have := h i h1
  simpa [List.getD, h1, h2] using this

/-- n sectors, of which the first k are used. -/
def lab (n k : Nat) : List Bool := (List.range n).map (fun j => decide (j < k))
theorem lab_len (n k : Nat) : (lab n k).length = n := by simp [lab]
theorem lab_at (n k j : Nat) : (lab n k).getD j false = (decide (j < n) && decide (j < k)) := by
  by_cases h : j < n
  · simp [lab, List.getD, h]
  · simp [lab, List.getD, h]
theorem lab_next (n k : Nat) (hk : k < n) : (lab n k).set k true = lab n (k + 1) := by
  refine getD_ext (by simp [lab_len]) fun i hi => ?_
  rw [getD_set _ _ _ _ (by rw [lab_len]; exact hk), lab_at, lab_at]
  by_cases h : k = i
  · subst h; simp [hk]
  · rw [if_neg h]
    congr 1
    exact decide_eq_decide.2 (by omega)

theorem W_none (n k : Nat) : W (lab n 0) k = 0 := by
  refine Nat.eq_of_testBit_eq fun j => ?_
  rw [W_bit, lab_at]
  simp

/-- The sectors ks that there are, used too. -/
def addL (l : List Bool) (ks : List Nat) : List Bool := ks.foldl (fun l i => if i < l.length then l.set i true else l) l
theorem addL_len (ks : List Nat) : ∀ l, (addL l ks).length = l.length := by
  induction ks with
  | nil => intro l; rfl
  | cons k ks ih =>
    intro l
    show (addL (if k < l.length then l.set k true else l) ks).length = _
    rw [ih]
    split <;> simp
theorem addL_next (l : List Bool) (ks : List Nat) (j : Nat) (hj : j < ks.length) :
    addL l (ks.take (j + 1)) = if ks.getD j 0 < l.length then (addL l (ks.take j)).set (ks.getD j 0) true else addL l (ks.take j) := by
  rw [List.take_succ_eq_append_getElem hj]
  unfold addL
  rw [List.foldl_append]
  have h := addL_len (ks.take j) l
  unfold addL at h
  have hg : ks[j] = ks.getD j 0 := by simp [List.getD, hj]
  simp only [List.foldl_cons, List.foldl_nil, h, hg]
theorem addL_at (ks : List Nat) : ∀ (l : List Bool) (i : Nat), i < l.length → (addL l ks).getD i false = (l.getD i false || decide (i ∈ ks)) := by
  induction ks with
  | nil => intro l i hi; simp [addL]
  | cons k ks ih =>
    intro l i hi
    show (addL (if k < l.length then l.set k true else l) ks).getD i false = _
    rw [ih _ i (by split <;> simpa using hi)]
    split
    · next h =>
      rw [getD_set _ _ _ _ h]
      by_cases e : k = i
      · subst e; simp
      · rw [if_neg e]; simp [show ¬ i = k from fun x => e x.symm]
    · next h => simp [show ¬ i = k by omega]

/-- What Keep leaves. -/
def keepL (n : Nat) (ks : List Nat) : List Bool := addL (lab n 4) ks
/-- The labels' sectors are used. -/
def Lab (l : List Bool) : Prop := ∀ i, i < 4 → l.getD i false = true
theorem Lab.lab {n : Nat} (h : 4 ≤ n) : Lab (lab n 4) := fun i hi => by rw [lab_at]; simp; omega
theorem Lab.keep {n : Nat} (h : 4 ≤ n) (ks : List Nat) : Lab (keepL n ks) := fun i hi => by
  rw [keepL, addL_at _ _ _ (by rw [lab_len]; omega), Lab.lab h i hi]; rfl

/-- What Give tells. -/
def giveL (l : List Bool) (i : Nat) : List Bool × Nat := if i < l.length ∧ 4 ≤ i ∧ l.getD i false = true then (l.set i false, 0) else (l, 1)
theorem giveL_len (l : List Bool) (i : Nat) : (giveL l i).1.length = l.length := by unfold giveL; split <;> simp
/-- The first free ones below i. -/
def Fr (l : List Bool) (i : Nat) : List Nat := (List.range i).filter (fun j => !l.getD j false)
theorem Fr_0 (l : List Bool) : Fr l 0 = [] := rfl
theorem Fr_free (l : List Bool) (i : Nat) (h : l.getD i false = false) : Fr l (i + 1) = Fr l i ++ [i] := by
  unfold Fr
  rw [List.range_succ, List.filter_append]
  congr 1
  rw [List.filter_cons, h]; rfl
theorem Fr_used (l : List Bool) (i : Nat) (h : l.getD i false = true) : Fr l (i + 1) = Fr l i := by
  unfold Fr
  rw [List.range_succ, List.filter_append, List.filter_cons, h]
  simp
theorem Fr_mem {l : List Bool} {i j : Nat} : j ∈ Fr l i ↔ j < i ∧ l.getD j false = false := by
  unfold Fr
  rw [List.mem_filter, List.mem_range, Bool.not_eq_true']
theorem Fr_len (l : List Bool) : ∀ i, i ≤ l.length → (Fr l i).length = (l.take i).count false
  | 0, _ => by simp [Fr_0]
  | i + 1, h => by
    have ih := Fr_len l i (by omega)
    have hg : l.getD i false = l[i] := by simp [List.getD, show i < l.length by omega]
    rw [List.take_succ_eq_append_getElem (by omega), List.count_append, ← ih]
    cases hx : l.getD i false
    · rw [Fr_free l i hx, ← hg, hx]; simp
    · rw [Fr_used l i hx, ← hg, hx]; simp
theorem Fr_all (l : List Bool) : (Fr l l.length).length = freeN l := by
  rw [Fr_len l _ (Nat.le_refl _), List.take_of_length_le (Nat.le_refl _)]; rfl
theorem Fr_mono (l : List Bool) (i : Nat) : ∀ d, ∃ r, Fr l (i + d) = Fr l i ++ r
  | 0 => ⟨[], by simp⟩
  | d + 1 => by
    obtain ⟨r, hr⟩ := Fr_mono l i d
    cases hx : l.getD (i + d) false
    · exact ⟨r ++ [i + d], by rw [← Nat.add_assoc, Fr_free l _ hx, hr, List.append_assoc]⟩
    · exact ⟨r, by rw [← Nat.add_assoc, Fr_used l _ hx, hr]⟩
theorem Fr_take (l : List Bool) (i : Nat) (hi : i ≤ l.length) (k : Nat) (hk : (Fr l i).length = k) : Fr l i = (Fr l l.length).take k := by
  obtain ⟨r, hr⟩ := Fr_mono l i (l.length - i)
  rw [show i + (l.length - i) = l.length by omega] at hr
  rw [hr, ← hk, List.take_left]
/-- All of them used. -/
def setAll (l : List Bool) (o : List Nat) : List Bool := o.foldl (fun l i => l.set i true) l
theorem setAll_len (o : List Nat) : ∀ l, (setAll l o).length = l.length := by
  induction o with
  | nil => intro l; rfl
  | cons k o ih => intro l; show (setAll _ o).length = _; rw [ih]; simp
theorem setAll_more (l : List Bool) (o : List Nat) (i : Nat) : setAll l (o ++ [i]) = (setAll l o).set i true := by
  unfold setAll; rw [List.foldl_append]; rfl
theorem setAll_at (o : List Nat) : ∀ (l : List Bool) (i : Nat), i < l.length → (setAll l o).getD i false = (l.getD i false || decide (i ∈ o)) := by
  induction o with
  | nil => intro l i hi; simp [setAll]
  | cons k o ih =>
    intro l i hi
    show (setAll (l.set k true) o).getD i false = _
    rw [ih _ i (by simpa using hi)]
    by_cases hk : k < l.length
    · rw [getD_set _ _ _ _ hk]
      by_cases e : k = i
      · subst e; simp
      · rw [if_neg e]; simp [show ¬ i = k from fun x => e x.symm]
    · rw [List.set_eq_of_length_le (by omega)]
      simp [show ¬ i = k by omega]

/-- Used up to i. -/
def Cu (l : List Bool) (i : Nat) : List Bool := setAll l (Fr l i)
theorem Cu_len (l : List Bool) (i : Nat) : (Cu l i).length = l.length := setAll_len _ _
theorem Cu_at (l : List Bool) (i : Nat) (hi : i < l.length) : (Cu l i).getD i false = l.getD i false := by
  unfold Cu
  rw [setAll_at _ _ _ hi]
  have : ¬ i ∈ Fr l i := fun h => by have := (Fr_mem.1 h).1; omega
  simp [this]
theorem Cu_free (l : List Bool) (i : Nat) (h : l.getD i false = false) : (Cu l i).set i true = Cu l (i + 1) := by
  unfold Cu; rw [Fr_free l i h, setAll_more]
theorem Cu_used (l : List Bool) (i : Nat) (h : l.getD i false = true) : Cu l i = Cu l (i + 1) := by
  unfold Cu; rw [Fr_used l i h]

/-- What Take tells. -/
def takeL (l : List Bool) (k : Int) : List Bool × List Nat × Nat :=
  if k < 0 ∨ 8 < k then (l, [], 1) else if (freeN l : Int) < k then (l, [], 7) else (setAll l ((Fr l l.length).take k.toNat), (Fr l l.length).take k.toNat, 0)
theorem takeL_len (l : List Bool) (k : Int) : (takeL l k).1.length = l.length := by
  unfold takeL
  split
  · rfl
  · split
    · rfl
    · exact setAll_len _ _
theorem Lab.all {l : List Bool} (h : Lab l) (h4 : 4 ≤ l.length) (o : List Nat) : Lab (setAll l o) := fun i hi => by
  rw [setAll_at _ _ _ (by omega), h i hi]; rfl
theorem Lab.take {l : List Bool} (h : Lab l) (h4 : 4 ≤ l.length) (k : Int) : Lab (takeL l k).1 := by
  unfold takeL
  split
  · exact h
  · split
    · exact h
    · exact h.all h4 _

end Go.Proofs.YthbldjnpnligpaaDoor
