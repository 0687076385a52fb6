/-
  The helpers of package disk's laws: which acts are small, and the sector that an act writes.
-/
import Derived.Test.YtjdidfocelagbaaDkOps
import Derived.Test.YtjdidfocelagbaaActs
namespace Go.Proofs.Ytjdidfocelagbaa
set_option linter.unusedSimpArgs false
set_option linter.unusedVariables false
open Go.RowKit

theorem small_run (x : ActV) (w : World) (hb : x.bs.length ≤ 9223372036854775807) (hk : x.ks.length ≤ 9223372036854775807) :
    Calls Try.prog 7 #[.agg x.cells.toArray] w fun e w' => e = .returned (.bool (decide (x.bs.length ≤ 300) && decide (x.ks.length ≤ 60))) ∧ Below w.heap.size w w' := by
  obtain ⟨kind, pos, ba, bc, bs, raw, ka, kc, ks⟩ := x
  simp only [ActV.cells] at *
  by_cases h : bs.length ≤ 300
  · have h' : (bs.length : Int) ≤ 300 := by omega
    go_enter Try.func7, Try.ntmps7
    go_wp2
    go_ret
    refine ⟨?_, (Below.refl _ _).alloc (Nat.le_refl _) _⟩
    have e : decide ((ks.length : Int) ≤ 60) = decide (ks.length ≤ 60) := by congr 1; apply propext; omega
    simp [h]
    omega
  · have h' : ¬ ((bs.length : Int) ≤ 300) := by omega
    go_enter Try.func7, Try.ntmps7
    go_wp2
    go_ret
    refine ⟨?_, (Below.refl _ _).alloc (Nat.le_refl _) _⟩
    simp [h]

def padC (bs : List Int) : Int := bs.getLastD 0

/-- The bytes that an act writes. -/
def ActV.sec (x : ActV) : List Int := if x.raw then x.bs else x.bs ++ List.replicate (256 - x.bs.length) (padC x.bs)

theorem padC_rng {bs : List Int} (h : ∀ x ∈ bs, 0 ≤ x ∧ x ≤ 255) : 0 ≤ padC bs ∧ padC bs ≤ 255 := by
  unfold padC
  cases bs with
  | nil => decide
  | cons a l => exact h _ (by rw [List.getLastD_cons]; exact List.getLastD_mem_cons)

theorem pad_rng {bs : List Int} (h : ∀ x ∈ bs, 0 ≤ x ∧ x ≤ 255) (k : Nat) : ∀ x ∈ bs ++ List.replicate k (padC bs), 0 ≤ x ∧ x ≤ 255 := by
  intro x hx
  rcases List.mem_append.1 hx with h1 | h1
  · exact h x h1
  · rw [List.eq_of_mem_replicate h1]; exact padC_rng h

theorem pad_last (bs : List Int) (k m : Nat) (hm : bs.length + k = m + 1) : (bs ++ List.replicate k (padC bs)).getD m 0 = padC bs := by
  rw [List.getD_eq_getElem?_getD]
  by_cases hk : k = 0
  · subst hk
    simp only [List.replicate_zero, List.append_nil]
    unfold padC
    rw [List.getLastD_eq_getLast?, List.getLast?_eq_getElem?, show bs.length - 1 = m by omega]
  · rw [List.getElem?_append_right (by omega), List.getElem?_replicate, if_pos (by omega)]
    rfl

def lenV : Value → Nat
  | .slice _ n _ => n
  | _ => 0

set_option maxRecDepth 100000 in
set_option maxHeartbeats 1000000 in
theorem sec_run (x : ActV) (w : World) (hB : Bs w x.ba x.bc x.bs) (hl : x.bs.length ≤ 300) :
    Calls Try.prog 16 #[.agg x.cells.toArray] w fun e w' => ∃ v, e = .returned v ∧ Out w.heap.size w' v x.sec ∧ Below w.heap.size w w' := by
  obtain ⟨kind, pos, ba, bc, bs, raw, ka, kc, ks⟩ := x
  simp only [ActV.cells, ActV.sec] at *
  have hi : (Try.prog.info? 5).map (fun i => (i.zero, i.size, i.bytes)) = some (some (.int .u8 0), 1, 1) := by kernel_rfl
  obtain ⟨i0, hi0, hz0, hz1, hz2⟩ := info_parts hi
  obtain ⟨W, hW⟩ : ∃ W, W = w.alloc (.cells #[.int .i64 kind, .int .i64 pos, .slice ba bs.length bc, .bool raw, .slice ka ks.length kc] 38) := ⟨_, rfl⟩
  have hbW : Below w.heap.size w W := by rw [hW]; exact (Below.refl _ _).alloc (Nat.le_refl _) _
  have hsW : W.heap.size = w.heap.size + 1 := by rw [hW]; simp
  have hBlk : Blk 38 W w.heap.size [.int .i64 kind, .int .i64 pos, .slice ba bs.length bc, .bool raw, .slice ka ks.length kc] := by rw [hW]; exact Blk.newAt rfl rfl
  have HW : Hid (W = _) := hW
  obtain ⟨R, hR⟩ : ∃ R, R = (if raw = true then bs else bs ++ List.replicate (256 - bs.length) (padC bs)) := ⟨_, rfl⟩
  rw [← hR]
  have hBW := hB.stays hbW
  clear hW
  have HR : Hid (R = (if raw = true then bs else bs ++ List.replicate (256 - bs.length) (padC bs))) := hR
  clear hR
  go_enter Try.func16, Try.ntmps16
  have hown0 : (W.alloc (.cells #[] 5)).ownsRow (w.heap.size + 1) 5 1 (.slice (some ⟨w.heap.size + 1, 0, none⟩) 0 0) ([] : List Int).length (([] : List Int).map (Value.int .u8)) := by
    rw [← hsW]
    exact World.ownsRow_made W #[] 0 (Nat.le_refl _) (by decide) rfl
  have hbA : Below (w.heap.size + 1) W (W.alloc (.cells #[] 5)) := by rw [← hsW]; exact (Below.refl _ _).alloc (Nat.le_refl _) _
  go_wp2_with (at_builtin; rw [← HW.out]; go_must (refine wpList_append_bytes (w0 := W) (by rfl) (.tmp 5) (.tmp 7) 35 (by rfl) (w.heap.size + 1) 5 i0 Try.underlying35 hi0 hz0 hz1 hz2 _ [] (by rfl) hown0 ba bs.length bc bs (by rfl) (by rfl) (hBW.stays ((Below.refl _ _).alloc (Nat.le_refl _) _)) (by simp; omega) (by simp [hsW]) hbA ?_); rw [List.nil_append]; intro v1 w1 hown1 hb1)
  have hraw : ∀ u, Below (w.heap.size + 1) W u → u.cell? ⟨w.heap.size, 3, none⟩ = some (.bool raw) := fun u hu => (hu.cell (by simp)).trans (hBlk.cell 3)
  obtain ⟨nz, hnz⟩ : ∃ nz, nz = 256 - bs.length := ⟨_, rfl⟩
  have hpr := pad_rng hB.rng
  obtain ⟨C, hC⟩ : ∃ C, C = padC bs := ⟨_, rfl⟩
  have hCr := padC_rng hB.rng
  have hlast := pad_last bs
  rw [← hC] at hpr hCr hlast
  have HC : Hid (C = padC bs) := hC
  clear hC
  obtain ⟨L, hL⟩ : ∃ L, L = bs.length := ⟨_, rfl⟩
  rw [← hL] at hnz hlast
  go_loopw [3] (fun v wr => ∃ k : Nat, k ≤ nz ∧ (raw = true → k = 0) ∧ wr.ownsRow (w.heap.size + 1) 5 1 v (bs ++ List.replicate k C).length ((bs ++ List.replicate k C).map (Value.int .u8)) ∧ Below (w.heap.size + 1) W wr) (fun v _ => L + nz - lenV v)
  case atStart => exact ⟨0, by omega, fun _ => rfl, by simpa using hown1, hb1⟩
  case round =>
    clear hown1 hb1
    rename_i hrel
    obtain ⟨k, hk, hk0, hown, hbel⟩ := hrel
    have hr := hraw wr hbel
    have hsr := hbel.size
    obtain ⟨Z, hZ⟩ : ∃ Z, Z = bs ++ List.replicate k C := ⟨_, rfl⟩
    have hZr := hpr k
    have hZl : Z.length = L + k := by rw [hZ, hL]; simp
    rw [← hZ] at hown hZr
    obtain ⟨a3, c3, rfl, hB3⟩ := Bs.of_owns hown hZr
    by_cases hend : raw = true ∨ k = nz
    · have hfin : Out w.heap.size wr (.slice a3 Z.length c3) R ∧ Below w.heap.size w wr := by
        have hZR : Z = R := by
          rw [HR.out, hZ, HC.out]
          cases raw with
          | true => rw [hk0 rfl]; simp
          | false =>
            have hkn : k = nz := by simpa using hend
            rw [hkn, hnz, hL]
            simp
        refine ⟨?_, hbW.trans (hbel.mono (by omega))⟩
        unfold Out
        rw [← hZR]
        exact owns_mono hown (by omega)
      cases raw with
      | true =>
        clear hend hZ hZl hL hnz
        go_wp2
        go_ret
        exact ⟨_, rfl, hfin⟩
      | false =>
        have hkn : k = nz := by simpa using hend
        have hge : ¬ ((Z.length : Int) < 256) := by omega
        clear hend hZ hZl hL hnz hkn
        go_wp2
        go_ret
        exact ⟨_, rfl, hfin⟩
    · have hraw0 : raw = false := by simpa using fun h => hend (.inl h)
      have hkn : k < nz := by rcases Nat.lt_or_ge k nz with h | h; exact h; exact absurd (.inr (by omega)) hend
      subst hraw0
      have HZ : Hid (bs ++ List.replicate (k + 1) C = Z ++ [C]) := by unfold Hid; rw [hZ, List.replicate_succ', List.append_assoc]
      have hlt : (Z.length : Int) < 256 := by omega
      have hBC : ∀ u : World, Bs (u.alloc (.cells #[.int .u8 C] 5)) (some ⟨u.heap.size, 0, none⟩) 1 [C] := fun u => Bs.one u C hCr _
      rcases Nat.eq_zero_or_pos Z.length with h0 | h0
      · have hC0 : C = 0 := by
          have hl0 : bs = [] := List.eq_nil_of_length_eq_zero (by omega)
          rw [HC.out, hl0]; rfl
        have hown' : wr.ownsRow (w.heap.size + 1) 5 1 (.slice a3 0 c3) Z.length (Z.map (Value.int .u8)) := by rw [h0] at hown ⊢; exact hown
        rw [h0]
        have HZl : Hid (Z.length = L + k) := hZl
        have HZ0 : Hid (Z.length = 0) := h0
        rw [hC0] at HZ hBC
        have HC0 : Hid (C = 0) := hC0
        clear hown hZ hZl hnz hL hB3 hend h0 hC0
        go_wp2_with (at_builtin; go_must (refine wpList_append_bytes (w0 := W) (by rfl) (.tmp 26) (.tmp 28) 35 (by rfl) (w.heap.size + 1) 5 i0 Try.underlying35 hi0 hz0 hz1 hz2 _ Z (by rfl) (hown'.alloc _) (some ⟨wr.heap.size, 0, none⟩) 1 1 [0] (by rfl) (by rfl) (hBC _) (by have := HZ0.out; simp; omega) (by simp; omega) (hbel.alloc (by omega) _) ?_); intro v4 w4 hown4 hb4)
        go_roundw
        case rel => exact ⟨k + 1, by omega, (fun h => by cases h), by rw [HC0.out, HZ.out]; exact hown4, hb4⟩
        case measure =>
          obtain ⟨a4, c4, rfl, _⟩ := Bs.of_owns hown4 (by intro x hx; rcases List.mem_append.1 hx with h | h; exact hZr x h; simp at h; omega)
          have := HZl.out
          have := HZ0.out
          simp [lenV]
          omega
      · obtain ⟨m, hm⟩ : ∃ m, Z.length = m + 1 := ⟨Z.length - 1, by omega⟩
        obtain ⟨b, o, rfl, hcz⟩ := hB3.cell h0
        have hcm := hcz m (by omega)
        have hzm : Z.getD m 0 = C := by rw [hZ]; exact hlast k m (by omega)
        rw [hzm] at hcm
        have HM : Hid (Z.length = m + 1) := hm
        have hown' : wr.ownsRow (w.heap.size + 1) 5 1 (.slice (some ⟨b, o, none⟩) (m + 1) c3) Z.length (Z.map (Value.int .u8)) := by rw [← hm]; exact hown
        rw [hm] at hlt ⊢
        have hm2 : m < 256 := by omega
        have HZl : Hid (Z.length = L + k) := hZl
        clear hown hcz hzm hZ hZl hm hnz hL hB3 hend h0
        go_wp2_with (at_builtin; go_must (refine wpList_append_bytes (w0 := W) (by rfl) (.tmp 26) (.tmp 28) 35 (by rfl) (w.heap.size + 1) 5 i0 Try.underlying35 hi0 hz0 hz1 hz2 _ Z (by rfl) (hown'.alloc _) (some ⟨wr.heap.size, 0, none⟩) 1 1 [C] (by rfl) (by rfl) (hBC _) (by have := HM.out; simp; omega) (by simp; omega) (hbel.alloc (by omega) _) ?_); intro v4 w4 hown4 hb4)
        go_roundw
        case rel => exact ⟨k + 1, by omega, (fun h => by cases h), by rw [HZ.out]; exact hown4, hb4⟩
        case measure =>
          obtain ⟨a4, c4, rfl, _⟩ := Bs.of_owns hown4 (HZ.out ▸ hpr (k + 1))
          have := HZl.out
          have := HM.out
          simp [lenV]
          omega

end Go.Proofs.Ytjdidfocelagbaa
