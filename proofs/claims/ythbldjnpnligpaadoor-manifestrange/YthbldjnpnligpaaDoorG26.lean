/-
  The document's disk: blank, New.
-/
import Derived.Test.YthbldjnpnligpaaDoorG25
namespace Go.Proofs.YthbldjnpnligpaaDoor
set_option linter.unusedSimpArgs false
set_option linter.unusedVariables false
set_option maxRecDepth 100000
open Go.RowKit

def noughts : List Int := List.replicate 256 0

theorem noughts_length : noughts.length = 256 := List.length_replicate
theorem zeros_rng (n : Nat) : ∀ x ∈ List.replicate n (0 : Int), 0 ≤ x ∧ x ≤ 255 := by
  intro x hx
  obtain ⟨_, rfl⟩ := List.mem_replicate.1 hx
  omega
theorem noughts_rng : ∀ x ∈ noughts, 0 ≤ x ∧ x ≤ 255 := zeros_rng 256

theorem blank_run (w : World) : Calls Tryd.prog 101 #[] w fun e w' => e = .returned (.string (strOfNums noughts)) ∧ Below w.heap.size w w' := by
  have hi : (Tryd.prog.info? 5).map (fun i => (i.zero, i.size, i.bytes)) = some (some (.int .u8 0), 1, 1) := by kernel_rfl
  obtain ⟨i0, hi0, hz0, hz1, hz2⟩ := info_parts hi
  have HN : Hid (noughts = List.replicate 256 0) := rfl
  have hnl := noughts_length
  have hnr := noughts_rng
  generalize noughts = N at *
  go_enter Tryd.func101, Tryd.ntmps101
  go_wp2_with (first
    | (refine wpList_make_bytes (w0 := w) (by rfl) (.const (.int .i64 256)) (.const (.int .i64 256)) 43 (by rfl) w.heap.size 5 i0 Tryd.underlying43 hi0 hz0 hz1 hz2 .i64 .i64 256 256 256 (by rfl) (by rfl) (by omega) (by omega) (by omega) (Nat.le_refl _) (Below.refl _ _) ?_; intro w2 hrow2 hb2
       rw [← HN.out] at hrow2
       have hB := hrow2.bs hnr (by rw [hnl]; decide)
       have hcv := hB.conv (P := Tryd.prog) 256 hnl.symm 43 5 Tryd.underlying43 Tryd.underlying5 9 Tryd.underlying9
       rw [hnl] at hcv))
  go_ret
  exact ⟨rfl, hb2⟩

theorem new_ok (n : Nat) (h1 : 16 ≤ n) (h2 : n ≤ 512) : (DS.new n).Ok n :=
  ⟨List.length_replicate, h1, h2, zeros_rng _, (fun q hq => by cases hq), (show (0 : Nat) < 9223372036854775808 by decide)⟩

theorem sec_noughts {n s : Nat} (hs : s < n) : secOf (List.replicate (256 * n) 0) s = noughts := by
  apply List.ext_getElem?
  intro j
  rw [secOf_get]
  unfold noughts
  by_cases hj : j < 256
  · rw [if_pos hj, List.getElem?_replicate, List.getElem?_replicate, if_pos (by omega), if_pos hj]
  · rw [if_neg hj, List.getElem?_replicate, if_neg hj]

theorem sec_strs_new (n : Nat) : secStrs (DS.new n).laid n = List.replicate n (strOfNums noughts) := by
  apply List.ext_getElem?
  intro i
  unfold secStrs
  rw [List.getElem?_map, List.getElem?_replicate]
  by_cases hi : i < n
  · rw [List.getElem?_range hi, if_pos hi]
    simp only [Option.map_some, DS.new]
    rw [sec_noughts hi]
  · rw [if_neg hi, List.getElem?_eq_none (by simpa using hi)]
    rfl

set_option maxRecDepth 100000 in
set_option maxHeartbeats 600000 in
theorem rnew_run (n : Nat) (w : World) (hn1 : 16 ≤ n) (hn2 : n ≤ 512) :
    Calls Tryd.prog 48 #[.int .i64 (n : Int)] w fun e w' => ∃ cs, e = .returned (.tuple #[.agg cs.toArray, .int .i64 0]) ∧ Rf w' (fun k => w.heap.size ≤ k) cs (DS.new n) ∧ Below w.heap.size w w' := by
  have hi : (Tryd.prog.info? 9).map (fun i => (i.zero, i.size, i.bytes)) = some (some (.string .empty), 1, 16) := by kernel_rfl
  obtain ⟨i0, hi0, hz0, hz1, hz2⟩ := info_parts hi
  have h1 : ¬ ((n : Int) < 16) := by omega
  have h2 : ¬ ((512 : Int) < (n : Int)) := by omega
  obtain ⟨N, hN⟩ : ∃ N, N = strOfNums noughts := ⟨_, rfl⟩
  have hbl := blank_run
  rw [← hN] at hbl
  obtain ⟨W, hWe⟩ : ∃ W, W = w.alloc (.cells #[.slice none 0 0, .slice none 0 0, .bool false, .int .i64 0, .bool false] 30) := ⟨_, rfl⟩
  have hbW : Below w.heap.size w W := by rw [hWe]; exact (Below.refl _ _).alloc (Nat.le_refl _) _
  have hY : Blk 30 W w.heap.size [.slice none 0 0, .slice none 0 0, .bool false, .int .i64 0, .bool false] := by rw [hWe]; exact Blk.newAt rfl rfl
  have hsW : W.heap.size = w.heap.size + 1 := by rw [hWe]; simp
  have HWE : Hid (W = w.alloc (.cells #[.slice none 0 0, .slice none 0 0, .bool false, .int .i64 0, .bool false] 30)) := hWe
  have HN : Hid (N = strOfNums noughts) := hN
  clear hWe hN
  go_enter Tryd.func48, Tryd.ntmps48
  go_wp2_with (first
    | (rw [← HWE.out]; refine wpList_make_full W (by rfl) (.tmp 13) (.tmp 13) 27 (by rfl) (w.heap.size + 1) 9 i0 (.string .empty) 1 Tryd.underlying27 hi0 hz0 hz1 .i64 .i64 (n : Int) (n : Int) n (by rfl) (by rfl) rfl rfl (by rw [hz2]; omega) (by unfold maxLen; omega) (by omega) ?_; intro w2 hown2 hg2))
  have hb2 : Below (w.heap.size + 1) W w2 := (Below.refl _ _).grown hg2 (by omega) (by simp)
  have hmade : (madeCells (Value.string ByteArray.empty).cells (n * 1)).toList = (List.replicate 0 N ++ List.replicate (n - 0) ByteArray.empty).map Value.string := by
    have e2 : (Value.string ByteArray.empty).cells = #[.string .empty] := rfl
    rw [e2, Nat.mul_one, toList_madeCells_one]
    simp
  rw [hmade, hsW] at hown2
  clear hmade
  go_loopw [5] (fun x wr => ∃ k : Nat, x = .int .i64 k ∧ k ≤ n ∧ wr.ownsRow (w.heap.size + 1) 9 1 (.slice (some ⟨w.heap.size + 1, 0, none⟩) n n) n ((List.replicate k N ++ List.replicate (n - k) ByteArray.empty).map Value.string) ∧ Below (w.heap.size + 1) W wr) (fun x _ => n - (intOf x).toNat)
  case atStart => exact ⟨0, rfl, Nat.zero_le _, hown2, hb2⟩
  case round =>
    rename_i hrel
    clear hown2 hb2 hg2
    obtain ⟨k, rfl, hk, hown, hbr⟩ := hrel
    have hYr := hY.stays (hsW ▸ hbr)
    have hb0r : Below w.heap.size w wr := hbW.trans (hbr.mono (by omega))
    by_cases hlt : k < n
    · have hlt' : (k : Int) < (n : Int) := by omega
      have HST : Hid (List.replicate (k + 1) N ++ List.replicate (n - (k + 1)) ByteArray.empty = (List.replicate k N ++ List.replicate (n - k) ByteArray.empty).set k N) := by
        unfold Hid
        have e : n - k = (n - (k + 1)) + 1 := by omega
        rw [e, List.replicate_succ (a := ByteArray.empty), set_at _ _ _ _ _ (by simp), List.replicate_succ' (a := N)]
      have hcs : ∃ u, wr.cell? ⟨w.heap.size + 1, k, none⟩ = some u := by
        have h5 := hown.cellAt k (by omega)
        rw [List.getElem?_map, List.getElem?_eq_getElem (by simp; omega)] at h5
        exact ⟨_, h5⟩
      obtain ⟨u, hu⟩ := hcs
      go_wp2_with (go_at_call 101; refine (hbl _).mono ?_; rintro e w3 ⟨rfl, hb3⟩; have hu3 := (hb3.cell (World.block_lt_of_cell? _ _ hu)).trans hu; have hf3 := (owns_stays6 hown hb3).frozenAt k)
      go_roundw
      case rel => exact ⟨k + 1, by go_num, by omega, by rw [HST.out, List.map_set]; exact ((owns_stays6 hown hb3).stored k _).1, (hbr.trans (hb3.mono (by have := hbr.size; omega))).setCell (p := ⟨w.heap.size + 1, k, none⟩) (Nat.le_refl _) _⟩
      case measure => simp [intOf]; omega
    · have hlt' : ¬ ((k : Int) < (n : Int)) := by omega
      have hkn : k = n := by omega
      obtain ⟨q0, q1, q2, q3, q4⟩ := box_cells hYr
      have gy := hYr.free
      have hend : ∀ u, But w.heap.size wr u → SsAt u (fun k => w.heap.size ≤ k) (some ⟨w.heap.size + 1, 0, none⟩) (secStrs (DS.new n).laid n) ∧ Below w.heap.size w u := fun u hu => by
        rw [sec_strs_new, ← HN.out]
        rw [hkn, Nat.sub_self, List.replicate_zero, List.append_nil] at hown
        have hl : (List.replicate n N).length = n := List.length_replicate
        obtain ⟨g', cg', hv, hg', hSS⟩ := ss_of_owns (xs := List.replicate n N) (by rw [hl]; exact hown) (by rw [hl]; omega)
        simp only [hl, Value.slice.injEq, Option.some.injEq, Addr.mk.injEq, and_true, true_and] at hv
        obtain ⟨rfl, rfl⟩ := hv
        exact ⟨hSS.keep (by rw [hl]; omega) (fun k hg hl => ⟨hu.block k (by omega) hl, by omega⟩), hb0r.trans (hu.below (Nat.le_refl _) hb0r.size)⟩
      clear hkn
      go_wp2
      refine bodyPost_ret (results_blk_tmp rfl _ _ _ rfl rAgg rSize (put5_same hYr (.slice (some ⟨w.heap.size + 1, 0, none⟩) n n) (.slice none 0 0) (.bool false) (.int .i64 0) (.bool false)) rfl) rfl ?_
      obtain ⟨e1, e2⟩ := hend _ (put5_but wr w.heap.size (.slice (some ⟨w.heap.size + 1, 0, none⟩) n n) (.slice none 0 0) (.bool false) (.int .i64 0) (.bool false))
      exact ⟨[.slice (some ⟨w.heap.size + 1, 0, none⟩) n n, .slice none 0 0, .bool false, .int .i64 0, .bool false], rfl, ⟨n, _, _, none, 0, new_ok n hn1 hn2, rfl, e1, .inl ⟨rfl, fun _ => rfl⟩⟩, e2⟩

end Go.Proofs.YthbldjnpnligpaaDoor

/-
  The document's disk: Rot.
-/

namespace Go.Proofs.YthbldjnpnligpaaDoor
set_option linter.unusedSimpArgs false
set_option linter.unusedVariables false
set_option maxRecDepth 100000
open Go.RowKit

/-- A row of bytes that a conversion has made. -/
structure Made (w : World) (g : Nat) (xs : List Int) : Prop where
  cell : ∀ i, i < xs.length → w.cell? ⟨g, i, none⟩ = some (.int .u8 (xs.getD i 0))
  free : ∀ i, i < xs.length → w.frozen? ⟨g, i, none⟩ = false

theorem Made.set {w : World} {g : Nat} {xs : List Int} (h : Made w g xs) {k : Nat} (hk : k < xs.length) (y : Int) : Made (w.setCell ⟨g, k, none⟩ (.int .u8 y)) g (xs.set k y) := by
  refine ⟨fun i hi => ?_, fun i hi => ?_⟩
  · rw [List.length_set] at hi
    by_cases he : i = k
    · subst he
      rw [World.cell?_setCell_same' _ _ _ (by rw [h.cell i hi]; rfl)]
      simp [List.getD, hi]
    · have h1 := h.cell i hi
      have h2 : (w.setCell ⟨g, k, none⟩ (.int .u8 y)).cell? ⟨g, i, none⟩ = w.cell? ⟨g, i, none⟩ := World.cell?_setCell_other w ⟨g, k, none⟩ ⟨g, i, none⟩ (.int .u8 y) (fun h => he (by cases h; rfl))
      rw [h2, h1]
      simp [List.getD, List.getElem?_set, Ne.symm he]
  · rw [List.length_set] at hi
    rw [World.frozen?_setCell]
    exact h.free i hi

theorem Made.drew {w : World} {g : Nat} {xs : List Int} (h : Made w g xs) : Made w.drew g xs := ⟨h.cell, h.free⟩

theorem Made.stays {w w' : World} {g : Nat} {xs : List Int} (h : Made w g xs) (h0 : 0 < xs.length) (hb : Below w.heap.size w w') : Made w' g xs := by
  have hlt := World.block_lt_of_cell? _ _ (h.cell 0 h0)
  exact ⟨fun i hi => (hb.cell (p := ⟨g, i, none⟩) hlt).trans (h.cell i hi), fun i hi => by rw [World.frozen?_of_block (w := w) (hb.block g hlt)]; exact h.free i hi⟩

theorem Made.bs {w : World} {g c : Nat} {xs : List Int} (h : Made w g xs) (hr : ∀ x ∈ xs, 0 ≤ x ∧ x ≤ 255) (hc : xs.length ≤ c) (hm : c ≤ maxLen) : Bs w (some ⟨g, 0, none⟩) c xs :=
  ⟨hr, hc, hm, by simp, .inr ⟨g, 0, rfl, fun i hi => by rw [Nat.zero_add]; exact h.cell i hi⟩⟩

section
variable {G : Nat → Prop} {S : DS} {sa : Option Addr} {sc : Nat} {wa : Option Addr} {wc n : Nat}

end
end Go.Proofs.YthbldjnpnligpaaDoor

/-
  The program's disk and the document's one beside each other.
-/

namespace Go.Proofs.YthbldjnpnligpaaDoor
set_option linter.unusedSimpArgs false
set_option linter.unusedVariables false
set_option maxRecDepth 100000
open Go.RowKit

/-- Both disks, the program's among the blocks from B on, with no block in common: the program's at p, with blocks of F, holds S; the document's in the cells cs, with blocks of G, holds T. -/
structure Pair (B : Nat) (w : World) (F G : Nat → Prop) (p : Nat) (S : DS) (cs : List Value) (T : DS) : Prop where
  low : ∀ k, F k → B ≤ k ∧ k < w.heap.size
  lowG : ∀ k, G k → k < w.heap.size
  dis : ∀ k, F k → G k → False
  dk : Dk w F p S
  rf : Rf w G cs T

section
variable {B p : Nat} {w w' : World} {F G : Nat → Prop} {S S' T T' : DS} {cs cs' : List Value}

theorem Pair.stays (h : Pair B w F G p S cs T) (hb : Below w.heap.size w w') : Pair B w' F G p S cs T :=
  ⟨fun k hk => ⟨(h.low k hk).1, Nat.lt_of_lt_of_le (h.low k hk).2 hb.size⟩, fun k hk => Nat.lt_of_lt_of_le (h.lowG k hk) hb.size, h.dis, h.dk.stays hb, h.rf.stays hb⟩

/-- A call of the program's disk. -/
theorem Pair.disk (h : Pair B w F G p S cs T) (hB : B ≤ w.heap.size) (ht : Then F w w' p S') :
    ∃ F', Pair B w' F' G p S' cs T ∧ (∀ k, F' k → F k ∨ w.heap.size ≤ k) ∧ Below B w w' := by
  refine ⟨fun k => (F k ∨ w.heap.size ≤ k) ∧ k < w'.heap.size, ⟨fun k hk => ⟨?_, hk.2⟩, fun k hk => Nat.lt_of_lt_of_le (h.lowG k hk) ht.2.size, fun k hk hg => ?_, ht.1.mono (fun k hk hl => ⟨hk, hl⟩), ?_⟩, fun k hk => hk.1, ht.2.below hB (fun k hk => (h.low k hk).1)⟩
  · rcases hk.1 with h1 | h1
    · exact (h.low k h1).1
    · omega
  · rcases hk.1 with h1 | h1
    · exact h.dis k h1 hg
    · have := h.lowG k hg
      omega
  · exact h.rf.keep (fun k hg hl => ⟨ht.2.block k (fun hf => h.dis k hf hg) hl, hg⟩)

/-- Both disks stay where a block turns that is neither's. -/
theorem Pair.but {g : Nat} (h : Pair B w F G p S cs T) (hb : But g w w') (hF : ¬ F g) (hG : ¬ G g) : Pair B w' F G p S cs T :=
  ⟨fun k hk => ⟨(h.low k hk).1, Nat.lt_of_lt_of_le (h.low k hk).2 hb.size⟩, fun k hk => Nat.lt_of_lt_of_le (h.lowG k hk) hb.size, h.dis, h.dk.keep (fun k hk hl => hb.block k (fun e => hF (e ▸ hk)) hl), h.rf.keep (fun k hk hl => ⟨hb.block k (fun e => hG (e ▸ hk)) hl, hk⟩)⟩

end

/-- A block that is not the disk's stays. -/
theorem box_keep {X : Nat} {w w' : World} {F : Nat → Prop} {t : TypeId} {vs : List Value} (hf : Frm F w w') (hX : Blk t w X vs) (hn : ¬ F X) : Blk t w' X vs := by
  have hl := hX.lt
  unfold Blk at *
  rw [hf.block X hn hl]
  exact hX

end Go.Proofs.YthbldjnpnligpaaDoor
