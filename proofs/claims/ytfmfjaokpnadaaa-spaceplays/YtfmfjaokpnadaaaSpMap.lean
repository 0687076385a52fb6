/-
  Package space: a map in memory, its bits read and set.
-/
import Derived.Test.YtfmfjaokpnadaaaSpFns
import Derived.Test.YtfmfjaokpnadaaaArr6
import Derived.StillTailTactics
import Derived.Deep.RegionLaw
namespace Go.Proofs.Ytfmfjaokpnadaaa
set_option linter.unusedSimpArgs false
set_option linter.unusedVariables false
open Go.RowKit

/-- A map's words. -/
def wordsV (l : List Bool) : List Value := (List.range 8).map (fun k => .int .u64 ((W l k : Nat) : Int))
/-- A map's cells. -/
def mapV (l : List Bool) : List Value := .int .i64 ((l.length : Nat) : Int) :: wordsV l

theorem wordsV_len (l : List Bool) : (wordsV l).length = 8 := by simp [wordsV]
theorem mapV_len (l : List Bool) : (mapV l).length = 9 := by simp [mapV, wordsV_len]
theorem wordsV_at (l : List Bool) (k : Nat) (hk : k < 8) : (wordsV l)[k]? = some (.int .u64 ((W l k : Nat) : Int)) := by
  simp [wordsV, hk]
theorem wordsV_one (l : List Bool) : ∀ v ∈ wordsV l, v.oneCell' = true := by
  intro v hv
  simp only [wordsV, List.mem_map] at hv
  obtain ⟨k, _, rfl⟩ := hv; rfl
theorem mapV_one (l : List Bool) : ∀ v ∈ mapV l, v.oneCell' = true := by
  intro v hv
  simp only [mapV, List.mem_cons] at hv
  rcases hv with rfl | hv
  · rfl
  · exact wordsV_one l v hv

theorem words_set (l : List Bool) (i : Nat) (b : Bool) (hi : i < l.length) (hl : l.length ≤ 512) : (wordsV l).set (i / 64) (.int .u64 ((W (l.set i b) (i / 64) : Nat) : Int)) = wordsV (l.set i b) := by
  refine List.ext_getElem? fun k => ?_
  rw [List.getElem?_set]
  by_cases hk : k < 8
  · rw [wordsV_at l k hk, wordsV_at (l.set i b) k hk]
    split
    · next h => rw [wordsV_len, if_pos (by omega), h]
    · next h =>
      cases b
      · rw [W_free l i k hi, if_neg (by omega)]
      · rw [W_use l i k hi, if_neg (by omega)]
  · rw [if_neg (by omega), List.getElem?_eq_none (by rw [wordsV_len]; omega), List.getElem?_eq_none (by rw [wordsV_len]; omega)]

theorem map_set (l : List Bool) (i : Nat) (b : Bool) (hi : i < l.length) (hl : l.length ≤ 512) : (mapV l).set (1 + i / 64) (.int .u64 ((W (l.set i b) (i / 64) : Nat) : Int)) = mapV (l.set i b) := by
  rw [mapV, Nat.add_comm, List.set_cons_succ, words_set l i b hi hl, mapV, List.length_set]

/-- A map in memory. -/
structure Mp (w : World) (g : Nat) (l : List Bool) : Prop where
  blk : Blk 64 w g (mapV l)
  lo : 16 ≤ l.length
  hi : l.length ≤ 512

theorem Mp.stays {w w' : World} {g : Nat} {l : List Bool} (h : Mp w g l) (hb : Below w.heap.size w w') : Mp w' g l := ⟨h.blk.stays hb, h.lo, h.hi⟩
theorem Mp.len {w : World} {g : Nat} {l : List Bool} (h : Mp w g l) : w.cell? ⟨g, 0, none⟩ = some (.int .i64 ((l.length : Nat) : Int)) := h.blk.cell 0
theorem Mp.word {w : World} {g : Nat} {l : List Bool} (h : Mp w g l) (k : Nat) (hk : k < 8) : w.cell? ⟨g, 1 + k, none⟩ = some (.int .u64 ((W l k : Nat) : Int)) := by
  have hb := h.blk
  unfold Blk at hb
  unfold World.cell?
  simp only [hb]
  have := wordsV_at l k hk
  simp only [mapV, Nat.add_comm 1 k, List.getElem?_toArray, List.getElem?_cons_succ]
  exact this

section
variable {g : Nat} {l : List Bool}

theorem len_run (w : World) (h : Mp w g l) : Calls Try.prog 24 #[.pointer (some ⟨g, 0, none⟩)] w fun e w' => e = .returned (.int .i64 ((l.length : Nat) : Int)) ∧ w' = w := by
  have h0 := h.len
  go_enter Try.func24, Try.ntmps24
  go_wp2
  go_ret
  exact ⟨rfl, rfl⟩

theorem len_nil (w : World) : Calls Try.prog 24 #[.pointer none] w fun e w' => e = .returned (.int .i64 0) ∧ w' = w := by
  go_enter Try.func24, Try.ntmps24
  go_wp2
  go_ret
  exact ⟨rfl, rfl⟩

theorem has_run (i : Nat) (hi : i < 4294967296) (w : World) (h : Mp w g l) : Calls Try.prog 30 #[.pointer (some ⟨g, 0, none⟩), .int .u32 (i : Int)] w fun e w' => e = .returned (.bool (decide (i < l.length))) ∧ w' = w := by
  have h1 := h.hi
  go_enter Try.func30, Try.ntmps30
  go_wp2_with (go_at_call 24; refine (len_run _ h).mono ?_; rintro e w' ⟨rfl, rfl⟩)
  go_ret
  refine ⟨?_, rfl⟩
  simp

theorem has_nil (i : Nat) (hi : i < 4294967296) (w : World) : Calls Try.prog 30 #[.pointer none, .int .u32 (i : Int)] w fun e w' => e = .returned (.bool false) ∧ w' = w := by
  go_enter Try.func30, Try.ntmps30
  go_wp2_with (go_at_call 24; refine (len_nil _).mono ?_; rintro e w' ⟨rfl, rfl⟩)
  go_ret
  refine ⟨?_, rfl⟩
  simp

/-- Is it used? -/
def usedL (l : List Bool) (i : Int) : Bool := if i < 0 ∨ (l.length : Int) ≤ i then true else l.getD i.toNat false

theorem used_out (i : Int) (w : World) (h : Mp w g l) (ho : i < 0 ∨ (l.length : Int) ≤ i) : Calls Try.prog 19 #[.pointer (some ⟨g, 0, none⟩), .int .i64 i] w fun e w' => e = .returned (.bool true) ∧ w' = w := by
  by_cases hn : i < 0
  · go_enter Try.func19, Try.ntmps19
    go_wp2
    go_ret
    exact ⟨rfl, rfl⟩
  · have hge : (l.length : Int) ≤ i := by omega
    go_enter Try.func19, Try.ntmps19
    go_wp2_with (go_at_call 24; refine (len_run _ h).mono ?_; rintro e w' ⟨rfl, rfl⟩)
    go_ret
    exact ⟨rfl, rfl⟩

theorem used_word (l : List Bool) (i : Nat) : (bits .and .u64 ((W l (i / 64) : Nat) : Int) (2 ^ (i % 64)) != 0) = l.getD i false := by
  have hp : 2 ^ (i % 64) < 18446744073709551616 := Nat.lt_of_lt_of_le (Nat.pow_lt_pow_right (by decide) (show i % 64 < 64 by omega)) (by decide)
  have h := u64_and_nat (W l (i / 64)) (2 ^ (i % 64)) (W_lt _ _) hp
  rw [Int.natCast_pow, show ((2 : Nat) : Int) = 2 from rfl] at h
  rw [h, W_used]
  have h0 : 0 < 2 ^ (i % 64) := Nat.two_pow_pos _
  cases l.getD i false
  · rfl
  · simp only [if_true]
    rw [bne_iff_ne]
    omega

theorem used_drew (i : Nat) (w : World) (h : Mp w g l) (ho : i < l.length) : Calls Try.prog 19 #[.pointer (some ⟨g, 0, none⟩), .int .i64 (i : Int)] w fun e w' => e = .returned (.bool (l.getD i false)) ∧ ∃ m, w' = w.drewN m := by
  have h1 := h.hi
  have hw := h.word (i / 64) (by omega)
  have hb := fun u => bit_run i (by omega) u
  have hlt := W_lt l (i / 64)
  have hu := used_word l i
  go_enter Try.func19, Try.ntmps19
  go_wp2_with (go_at_call 24; refine (len_run _ h).mono ?_; rintro e w' ⟨rfl, rfl⟩)
  go_quiet (first | (go_at_call 32; refine Calls.quiet_of_same (hb _)))
  go_wp2
  go_ret
  refine ⟨?_, _, rfl⟩
  simp [ho]

theorem below_drewN (w : World) (m : Nat) : Below w.heap.size w (w.drewN m) := ⟨rfl, rfl, rfl, Nat.le_refl _, fun _ _ => rfl⟩
theorem Mp.drewN {w : World} (h : Mp w g l) (m : Nat) : Mp (w.drewN m) g l := h.stays (below_drewN w m)

theorem used_in (i : Nat) (w : World) (h : Mp w g l) (ho : i < l.length) : Calls Try.prog 19 #[.pointer (some ⟨g, 0, none⟩), .int .i64 (i : Int)] w fun e w' => e = .returned (.bool (l.getD i false)) ∧ Below w.heap.size w w' :=
  (used_drew i w h ho).mono fun e w' ⟨h1, m, h2⟩ => ⟨h1, h2 ▸ below_drewN w m⟩

theorem used_run (i : Int) (w : World) (h : Mp w g l) : Calls Try.prog 19 #[.pointer (some ⟨g, 0, none⟩), .int .i64 i] w fun e w' => e = .returned (.bool (usedL l i)) ∧ Below w.heap.size w w' := by
  by_cases ho : i < 0 ∨ (l.length : Int) ≤ i
  · refine (used_out i w h ho).mono ?_
    rintro e w' ⟨rfl, rfl⟩
    refine ⟨?_, Below.refl _ _⟩
    unfold usedL; rw [if_pos ho]
  · obtain ⟨k, rfl⟩ : ∃ k : Nat, i = (k : Int) := ⟨i.toNat, by omega⟩
    refine (used_in k w h (by omega)).mono ?_
    rintro e w' ⟨rfl, hb⟩
    refine ⟨?_, hb⟩
    unfold usedL; rw [if_neg ho]; rfl

theorem used_nil (i : Int) (w : World) : Calls Try.prog 19 #[.pointer none, .int .i64 i] w fun e w' => e = .returned (.bool true) ∧ w' = w := by
  by_cases hn : i < 0
  · go_enter Try.func19, Try.ntmps19
    go_wp2
    go_ret
    exact ⟨rfl, rfl⟩
  · have hge : 0 ≤ i := by omega
    go_enter Try.func19, Try.ntmps19
    go_wp2_with (go_at_call 24; refine (len_nil _).mono ?_; rintro e w' ⟨rfl, rfl⟩)
    go_ret
    exact ⟨rfl, rfl⟩

theorem or_word (l : List Bool) (i : Nat) (hi : i < l.length) : bits .or .u64 ((W l (i / 64) : Nat) : Int) (2 ^ (i % 64)) = ((W (l.set i true) (i / 64) : Nat) : Int) := by
  have hp : 2 ^ (i % 64) < 18446744073709551616 := Nat.lt_of_lt_of_le (Nat.pow_lt_pow_right (by decide) (show i % 64 < 64 by omega)) (by decide)
  have h := u64_or_nat (W l (i / 64)) (2 ^ (i % 64)) (W_lt _ _) hp
  rw [Int.natCast_pow, show ((2 : Nat) : Int) = 2 from rfl] at h
  rw [h, W_use l i _ hi, if_pos rfl]

theorem clr_word (l : List Bool) (i : Nat) (hi : i < l.length) : bits .andNot .u64 ((W l (i / 64) : Nat) : Int) (2 ^ (i % 64)) = ((W (l.set i false) (i / 64) : Nat) : Int) := by
  have hp : 2 ^ (i % 64) < 18446744073709551616 := Nat.lt_of_lt_of_le (Nat.pow_lt_pow_right (by decide) (show i % 64 < 64 by omega)) (by decide)
  have h := u64_andNot_nat (W l (i / 64)) (2 ^ (i % 64)) (W_lt _ _) hp
  rw [Int.natCast_pow, show ((2 : Nat) : Int) = 2 from rfl] at h
  rw [h, W_free l i _ hi, if_pos rfl]

theorem Mp.put {w : World} (h : Mp w g l) (i : Nat) (b : Bool) (hi : i < l.length) : Mp (w.setCell ⟨g, 1 + i / 64, none⟩ (.int .u64 ((W (l.set i b) (i / 64) : Nat) : Int))) g (l.set i b) := by
  have := h.blk.set (1 + i / 64) (.int .u64 ((W (l.set i b) (i / 64) : Nat) : Int))
  rw [map_set l i b hi h.hi] at this
  exact ⟨this, by simpa using h.lo, by simpa using h.hi⟩

theorem use_run (i : Nat) (w : World) (h : Mp w g l) (ho : i < l.length) : Calls Try.prog 29 #[.pointer (some ⟨g, 0, none⟩), .int .i64 (i : Int)] w fun e w' => e = .returned (.tuple #[]) ∧ Mp w' g (l.set i true) ∧ But g w w' ∧ w'.heap.size = w.heap.size := by
  have h1 := h.hi
  have hw := h.word (i / 64) (by omega)
  have hfr := h.blk.free (1 + i / 64)
  have hb := fun u => bit_run i (by omega) u
  have hlt := W_lt l (i / 64)
  have hor := or_word l i ho
  have HM : ∀ u : World, Mp u g l → Hid (Mp (u.setCell ⟨g, 1 + i / 64, none⟩ (.int .u64 ((W (l.set i true) (i / 64) : Nat) : Int))) g (l.set i true)) := fun u hu => hu.put i true ho
  have hq0 : (0 : Int) ≤ (i : Int) / 64 := by omega
  have hq1 : (i : Int) / 64 < 8 := by omega
  have hq2 : ((i : Int) / 64).toNat = i / 64 := by omega
  have hwr : IntKind.i64.wrap ((i : Int) / 64) = (i : Int) / 64 := by simp [IntKind.wrap, IntKind.bits, IntKind.signed]; omega
  go_enter Try.func29, Try.ntmps29
  go_region_law (refine step_call rfl 32 #[.int .i64 (i : Int)] (by go_simp) (hb _) ?_; rintro e w' ⟨rfl, rfl⟩; refine ⟨_, rfl, ?_⟩)
  all_goals go_end0
  all_goals exact ⟨rfl, ⟨(h.put i true ho).blk, (h.put i true ho).lo, (h.put i true ho).hi⟩, ((But.refl g w).setCell _ _).drew, by simp [World.setCell, World.drew]⟩

end
end Go.Proofs.Ytfmfjaokpnadaaa
