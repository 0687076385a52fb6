/-
  Package sha: Text.
-/
import Derived.Test.YtnkblmbpioamnaaDoorArr2
import Derived.Test.YtnkblmbpioamnaaDoorRows
import Derived.Laws.BitsAllLaws
namespace Go.Proofs.YtnkblmbpioamnaaDoor
set_option linter.unusedSimpArgs false
set_option linter.unusedVariables false
open Go.RowKit

def digitStr : ByteArray := ⟨#[48, 49, 50, 51, 52, 53, 54, 55, 56, 57, 97, 98, 99, 100, 101, 102]⟩
def hexd (k : Nat) : Nat := if k < 10 then 48 + k else 87 + k

theorem hexd_at (k : Nat) (hk : k < 16) : digitStr.data[k]? = some (hexd k).toUInt8 ∧ (hexd k).toUInt8.toNat = hexd k ∧ hexd k < 256 := by
  have : k = 0 ∨ k = 1 ∨ k = 2 ∨ k = 3 ∨ k = 4 ∨ k = 5 ∨ k = 6 ∨ k = 7 ∨ k = 8 ∨ k = 9 ∨ k = 10 ∨ k = 11 ∨ k = 12 ∨ k = 13 ∨ k = 14 ∨ k = 15 := by omega
  rcases this with rfl | rfl | rfl | rfl | rfl | rfl | rfl | rfl | rfl | rfl | rfl | rfl | rfl | rfl | rfl | rfl <;> decide

theorem digit_run {P : Program} {t : TypeId} (ht : P.underlying t = some .string) (k : Nat) (hk : k < 16) (K : IntKind) (w : World) :
    (Instr.index t (.string digitStr) (.int K (k : Int))).run P w = .ok (.int .u8 ((hexd k : Nat) : Int)) w := by
  obtain ⟨h1, h2, _⟩ := hexd_at k hk
  have h0 : (0 : Int) ≤ (k : Int) := by omega
  have h3 : digitStr[k]? = some (hexd k).toUInt8 := by
    have hs : k < digitStr.size := hk
    rw [getElem?_pos digitStr k hs]
    rw [← h1]
    show some (digitStr.data[k]) = _
    rw [Array.getElem?_eq_getElem]
  simp [Instr.index, asIntOf, run_underlying ht, h0, h3, h2, Sem.run_bind]

def hexs (c : Int) : List Int := [((hexd (c.toNat / 16) : Nat) : Int), ((hexd (c.toNat % 16) : Nat) : Int)]
/-- The first four bytes in digits. -/
def textOf (hs : List Int) : List Int := (hs.take 4).flatMap hexs

theorem hexs_rng (c : Int) (hc : 0 ≤ c ∧ c ≤ 255) : ∀ x ∈ hexs c, 0 ≤ x ∧ x ≤ 255 := by
  have h1 := (hexd_at (c.toNat / 16) (by omega)).2.2
  have h2 := (hexd_at (c.toNat % 16) (by omega)).2.2
  intro x hx
  simp only [hexs, List.mem_cons, List.not_mem_nil, or_false] at hx
  rcases hx with rfl | rfl <;> omega

theorem flat_hexs_rng (l : List Int) (hl : ∀ x ∈ l, 0 ≤ x ∧ x ≤ 255) : ∀ x ∈ l.flatMap hexs, 0 ≤ x ∧ x ≤ 255 := by
  intro x hx
  obtain ⟨c, hc, hxc⟩ := List.mem_flatMap.1 hx
  exact hexs_rng c (hl c hc) x hxc

theorem flat_hexs_len (l : List Int) : (l.flatMap hexs).length = 2 * l.length := by
  induction l with
  | nil => rfl
  | cons x l ih => simp only [List.flatMap_cons, List.length_append, ih, List.length_cons, hexs, List.length_nil]; omega

set_option maxRecDepth 100000 in
set_option maxHeartbeats 1000000 in
theorem text_run (hs : List Int) (hl : hs.length = 32) (hb : ∀ x ∈ hs, 0 ≤ x ∧ x ≤ 255) (w : World) :
    Calls Tryd.prog 8 #[.agg (hs.map (Value.int .u8)).toArray] w fun e w' => e = .returned (.string (strOfNums (textOf hs))) ∧ Below w.heap.size w w' := by
  obtain ⟨i0, hi, hz0, hz1, hz2⟩ : ∃ i, Tryd.prog.info? 5 = some i ∧ i.zero = some (.int .u8 0) ∧ i.size = 1 ∧ i.bytes = 1 := ⟨_, rfl, rfl, rfl, rfl⟩
  go_enter Tryd.func8, Tryd.ntmps8
  go_wp2_with (at_make; go_must (refine wpList_make_own _ (by rfl) _ _ 28 (by rfl) (w.heap.size + 1) 5 i0 (.int .u8 0) 1 Tryd.underlying28 hi hz0 hz1 _ _ _ 8 (by rfl) (by rfl) (by omega) (by rw [hz2]; omega) (by decide) (by simp) ?_); intro w1 hown1 hg1)
  have hW : Below (w.heap.size + 1) (w.alloc (.cells (hs.map (Value.int .u8)).toArray 24)) w1 := (Below.refl _ _).grown hg1 (by simp) (by simp)
  go_loopw [3, 9] (fun v i wr => ∃ k : Nat, k ≤ 4 ∧ i = .int .i64 k ∧ wr.ownsRow (w.heap.size + 1) 5 1 v ((hs.take k).flatMap hexs).length (((hs.take k).flatMap hexs).map (Value.int .u8)) ∧ Below (w.heap.size + 1) (w.alloc (.cells (hs.map (Value.int .u8)).toArray 24)) wr) (fun _ i _ => 4 - (intOf i).toNat)
  case atStart => exact ⟨0, by omega, rfl, by simpa using hown1, hW⟩
  case round =>
    clear hown1 hg1 hW
    rename_i hrel
    obtain ⟨k, hk, rfl, hown, hbel⟩ := hrel
    have hsz := hbel.size
    simp at hsz
    by_cases hlt : k < 4
    · obtain ⟨x, hx⟩ : ∃ x : Nat, hs.getD k 0 = (x : Int) ∧ x < 256 := by
        have h1 : k < hs.length := by omega
        have h2 := hb (hs[k]) (List.getElem_mem h1)
        refine ⟨(hs[k]).toNat, ?_, by omega⟩
        simp [List.getD, h1]; omega
      obtain ⟨hx, lx⟩ := hx
      have hc : wr.cell? ⟨w.heap.size, k, none⟩ = some (.int .u8 (x : Int)) := by
        have h1 := (Arr.new (K := .u8) (e := 24) (w := w) (cur := hs) rfl).cell k (by omega)
        rw [hbel.cell (by simp), h1, hx]
      obtain ⟨a1, ha1⟩ : ∃ y, y = x / 16 := ⟨_, rfl⟩
      obtain ⟨a2, ha2⟩ : ∃ y, y = x % 16 := ⟨_, rfl⟩
      have e1 : (x : Int) / 16 = (a1 : Int) := by omega
      have e2 : bits .and .u8 (x : Int) 15 = (a2 : Int) := by
        have h := u8_and (x : Int) 15 (by omega) (by omega) (by decide) (by decide)
        rw [h, ha2]
        have e : (15 : Int).toNat = 2 ^ 4 - 1 := rfl
        rw [e, Nat.and_two_pow_sub_one_eq_mod]
        simp
      obtain ⟨d1, hd1⟩ : ∃ y, y = hexd a1 := ⟨_, rfl⟩
      obtain ⟨d2, hd2⟩ : ∃ y, y = hexd a2 := ⟨_, rfl⟩
      have i1 : ∀ w, (Instr.index 9 (.string ⟨#[48, 49, 50, 51, 52, 53, 54, 55, 56, 57, 97, 98, 99, 100, 101, 102]⟩) (.int .u8 (a1 : Int))).run Tryd.prog w = .ok (.int .u8 (d1 : Int)) w := fun w => hd1 ▸ digit_run Tryd.underlying9 a1 (by omega) .u8 w
      have i2 : ∀ w, (Instr.index 9 (.string ⟨#[48, 49, 50, 51, 52, 53, 54, 55, 56, 57, 97, 98, 99, 100, 101, 102]⟩) (.int .u8 (a2 : Int))).run Tryd.prog w = .ok (.int .u8 (d2 : Int)) w := fun w => hd2 ▸ digit_run Tryd.underlying9 a2 (by omega) .u8 w
      have r1 : d1 < 256 := hd1 ▸ (hexd_at a1 (by omega)).2.2
      have r2 : d2 < 256 := hd2 ▸ (hexd_at a2 (by omega)).2.2
      have bk : (k : Int) < 4 := by omega
      have HX : Hid ((hs.take (k + 1)).flatMap hexs = (hs.take k).flatMap hexs ++ [(d1 : Int), (d2 : Int)]) := by
        unfold Hid
        have h1 : k < hs.length := by omega
        have h2 : hs[k] = (x : Int) := by simpa [List.getD, h1] using hx
        rw [List.take_add_one, List.getElem?_eq_getElem h1, List.flatMap_append, h2, hd1, hd2, ha1, ha2]
        simp [hexs]
      have hL : ((hs.take k).flatMap hexs).length ≤ 8 := by rw [flat_hexs_len, List.length_take]; omega
      obtain ⟨F, hF⟩ : ∃ F, F = (hs.take k).flatMap hexs := ⟨_, rfl⟩
      rw [← hF] at hown hL
      have HF : Hid (F = (hs.take k).flatMap hexs) := hF
      have hB2 : Bs (wr.alloc (.cells #[.int .u8 (d1 : Int), .int .u8 (d2 : Int)] 5)).drew (some ⟨wr.heap.size, 0, none⟩) 2 [(d1 : Int), (d2 : Int)] := by
        refine Row.bs (e := 5) (cur := [(d1 : Int), (d2 : Int)]) ?_ (fun x hx => ?_) (by simp [maxLen])
        · exact (Blk.newAt (e := 5) (vs := [(d1 : Int), (d2 : Int)].map (Value.int .u8)) rfl rfl).drew
        · simp only [List.mem_cons, List.not_mem_nil, or_false] at hx
          rcases hx with rfl | rfl <;> omega
      clear ha1 ha2 hd1 hd2 hx hF hl
      go_wp2
      refine wp_region_any (by kernel_rfl) ?_
      change wpAny _ _ _ _ _ _ _ (World.drew _)
      refine any_take 0 rfl (some 13) rfl (u3) (by kernel_rfl) (by kernel_rfl) (by kernel_rfl) (fun _ _ _ h => h) (Or.inl ⟨by rfl, fun w => by go_simp⟩) ?_
      simp only [Act.put, List.setIfInBounds_toArray, List.set_cons_succ, List.set_cons_zero]
      refine any_take 1 rfl (some 14) rfl (.int .u8 (x : Int)) (by kernel_rfl) (by kernel_rfl) (by kernel_rfl) (fun _ _ _ h => h) (Or.inl ⟨by rfl, fun w => by go_simp⟩) ?_
      simp only [Act.put, List.setIfInBounds_toArray, List.set_cons_succ, List.set_cons_zero]
      refine any_take 2 rfl (some 15) rfl (.int .u8 (a1 : Int)) (by kernel_rfl) (by kernel_rfl) (by kernel_rfl) (fun _ _ _ h => h) (Or.inl ⟨by rfl, fun w => by go_simp⟩) ?_
      simp only [Act.put, List.setIfInBounds_toArray, List.set_cons_succ, List.set_cons_zero]
      refine any_take 3 rfl (some 16) rfl (.int .u8 (d1 : Int)) (by kernel_rfl) (by kernel_rfl) (by kernel_rfl) (fun _ _ _ h => h) (Or.inl ⟨by rfl, fun w => by go_simp⟩) ?_
      simp only [Act.put, List.setIfInBounds_toArray, List.set_cons_succ, List.set_cons_zero]
      refine any_take 4 rfl (some 17) rfl (.int .u8 (x : Int)) (by kernel_rfl) (by kernel_rfl) (by kernel_rfl) (fun _ _ _ h => h) (Or.inl ⟨by rfl, fun w => by go_simp⟩) ?_
      simp only [Act.put, List.setIfInBounds_toArray, List.set_cons_succ, List.set_cons_zero]
      refine any_take 5 rfl (some 18) rfl (.int .u8 (a2 : Int)) (by kernel_rfl) (by kernel_rfl) (by kernel_rfl) (fun _ _ _ h => h) (Or.inl ⟨by rfl, fun w => by go_simp⟩) ?_
      simp only [Act.put, List.setIfInBounds_toArray, List.set_cons_succ, List.set_cons_zero]
      refine any_take 6 rfl (some 19) rfl (.int .u8 (d2 : Int)) (by kernel_rfl) (by kernel_rfl) (by kernel_rfl) (fun _ _ _ h => h) (Or.inl ⟨by rfl, fun w => by go_simp⟩) ?_
      simp only [Act.put, List.setIfInBounds_toArray, List.set_cons_succ, List.set_cons_zero]
      refine any_seq 7 (by rfl) (by kernel_rfl) ?_
      simp only [List.drop_succ_cons, List.drop_zero]
      go_wp2_with (at_builtin; go_must (refine wpList_append_bytes (w0 := w.alloc (.cells (hs.map (Value.int .u8)).toArray 24)) (by rfl) _ _ 28 (by rfl) (w.heap.size + 1) 5 i0 Tryd.underlying28 hi hz0 hz1 hz2 _ F (by rfl) (hown.alloc _) (some ⟨wr.heap.size, 0, none⟩) 2 2 [(d1 : Int), (d2 : Int)] (by rfl) (by rfl) hB2 (by simp; omega) (by simp; omega) ((hbel.drew).alloc (by simp; omega) _) ?_); intro v' w2 hown2 hb2)
      go_roundw
      case rel =>
        refine ⟨k + 1, by omega, by go_num, ?_, hb2⟩
        rw [HX.out, ← HF.out]
        exact hown2
      case measure => simp [intOf]; omega
    · obtain ⟨F, hF⟩ : ∃ F, F = textOf hs := ⟨_, rfl⟩
      have e4 : (hs.take k).flatMap hexs = F := by rw [hF, show k = 4 by omega]; rfl
      rw [e4] at hown
      have hr : ∀ x ∈ F, 0 ≤ x ∧ x ≤ 255 := by rw [hF]; exact flat_hexs_rng _ (fun x hx => hb x (List.mem_of_mem_take hx))
      obtain ⟨a, c, rfl, hB⟩ := Bs.of_owns hown hr
      have hcv := hB.conv (P := Tryd.prog) F.length rfl 28 5 Tryd.underlying28 Tryd.underlying5 9 Tryd.underlying9
      have HF : Hid (F = textOf hs) := hF
      have hfin : Below w.heap.size w wr := ((Below.refl w.heap.size w).alloc (Nat.le_refl _) _).trans (hbel.mono (by omega))
      clear hF e4 hown
      go_wp2
      go_ret
      exact ⟨by rw [HF.out]; rfl, hfin⟩
end Go.Proofs.YtnkblmbpioamnaaDoor
