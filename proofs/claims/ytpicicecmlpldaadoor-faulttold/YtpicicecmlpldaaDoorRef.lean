/-
  The document's answer: the name of a number, the text of operations.
-/
import Derived.Test.YtpicicecmlpldaaDoorWrapped
namespace Go.Proofs.YtpicicecmlpldaaDoor
set_option linter.unusedSimpArgs false
set_option linter.unusedVariables false
open Go.RowKit

def namesV : List Value := namesL.map fun z => Value.string ⟨z.toArray⟩

theorem namesV_at (k : Nat) (hk : k < 16) : namesV[k]? = some (.string ⟨(namesL.getD k []).toArray⟩) := by
  have hl : namesL.length = 16 := rfl
  unfold namesV
  rw [List.getElem?_map, List.getD_eq_getElem?_getD, List.getElem?_eq_getElem (by omega)]
  rfl

theorem rnames_run (w : World) : Calls Tryd.prog 24 #[] w fun e w' => ∃ g, e = .returned (.slice (some ⟨g, 0, none⟩) 16 16) ∧ Blk 9 w' g namesV ∧ Below w.heap.size w w' := by
  go_enter Tryd.func24, Tryd.ntmps24
  go_wp2
  go_ret
  exact ⟨w.heap.size, rfl, Blk.newAt rfl rfl, (Below.refl _ _).alloc (Nat.le_refl _) _⟩

theorem rname_run (c : Int) (w : World) : Calls Tryd.prog 17 #[.int .i64 c] w fun e w' => e = .returned (.string ⟨(nameOf c).toArray⟩) ∧ Below w.heap.size w w' := by
  obtain ⟨nm, hnm⟩ : ∃ nm, nm = nameOf c := ⟨_, rfl⟩
  rw [← hnm]
  by_cases h0 : c < 0
  · obtain rfl : nm = [63] := by rw [hnm]; simp [nameOf, h0]
    clear hnm
    go_enter Tryd.func17, Tryd.ntmps17
    go_wp2_with (go_at_call 24; go_must (refine (rnames_run _).mono ?_); rintro e w1 ⟨g, rfl, hg, hb⟩)
    go_ret
    exact ⟨rfl, hb⟩
  · by_cases h1 : 16 ≤ c
    · obtain rfl : nm = [63] := by rw [hnm]; simp [nameOf, h1]
      clear hnm
      go_enter Tryd.func17, Tryd.ntmps17
      go_wp2_with (go_at_call 24; go_must (refine (rnames_run _).mono ?_); rintro e w1 ⟨g, rfl, hg, hb⟩)
      go_ret
      exact ⟨rfl, hb⟩
    · obtain ⟨k, rfl⟩ : ∃ k : Nat, c = k := ⟨c.toNat, by omega⟩
      have hk : k < 16 := by omega
      have hv : namesV[k]? = some (.string ⟨nm.toArray⟩) := by
        rw [namesV_at k hk, hnm]
        simp [nameOf, h0, h1]
      have hk' : (k : Int) < 16 := by omega
      clear hnm h0 h1
      go_enter Tryd.func17, Tryd.ntmps17
      go_wp2_with (go_at_call 24; go_must (refine (rnames_run _).mono ?_); rintro e w1 ⟨g, rfl, hg, hb⟩; have hcl := (hg.cell k).trans hv)
      go_ret
      exact ⟨rfl, hb⟩

theorem told_append (x : ByteArray) : ∀ l : List ByteArray, told (l ++ [x]) = told l ++ (x.data.toList ++ [58, 32])
  | [] => by simp [told]
  | y :: r => by
    show (y.data.toList ++ [58, 32] ++ told (r ++ [x])) = (y.data.toList ++ [58, 32] ++ told r) ++ _
    rw [told_append x r, List.append_assoc, List.append_assoc, List.append_assoc]

theorem told_take (l : List ByteArray) (k : Nat) (hk : k < l.length) : (⟨(told (l.take k)).toArray⟩ ++ l.getD k .empty ++ ⟨#[58, 32]⟩ : ByteArray) = ⟨(told (l.take (k + 1))).toArray⟩ := by
  rw [List.take_add_one, List.getElem?_eq_getElem hk, List.getD_eq_getElem?_getD, List.getElem?_eq_getElem hk]
  simp only [Option.toList, Option.getD]
  rw [told_append]
  apply ByteArray.ext
  simp only [ByteArray.data_append]
  apply Array.ext'
  simp

theorem mk_size (l : List UInt8) : (ByteArray.mk l.toArray).size = l.length := by rw [← bytes_len]

set_option maxHeartbeats 1000000 in
theorem rtext_run (a : Option Addr) (cap : Nat) (l : List ByteArray) (hl : 0 < l.length) (hm : l.length ≤ 21) (hs : ∀ x ∈ l, x.size ≤ 20) (c : Int) (hc : c ≠ 0) (w : World) (h : Ss w a l) :
    Calls Tryd.prog 14 #[.slice a l.length cap, .int .i64 c] w fun e w' => e = .returned (.string ⟨(textOf l c).toArray⟩) ∧ Below w.heap.size w w' := by
  obtain ⟨X, hX⟩ : ∃ X : ByteArray, X = ⟨(textOf l c).toArray⟩ := ⟨_, rfl⟩
  rw [← hX]
  have HX : Hid (X = ⟨(textOf l c).toArray⟩) := hX
  clear hX
  have hc' : (c == 0) = false := by simp [hc]
  have hl' : ((l.length : Int) == 0) = false := by simp; intro h0; simp [h0] at hl
  have hl2 : ((l.length : Int) = 0) = False := by simp; intro h0; simp [h0] at hl
  clear hc
  go_enter Tryd.func14, Tryd.ntmps14
  go_wp2
  go_loopw [5, 6] (fun s i wr => ∃ k : Nat, s = .string ⟨(told (l.take k)).toArray⟩ ∧ i = .int .i64 k ∧ k ≤ l.length ∧ wr = w) (fun _ i _ => l.length - (intOf i).toNat)
  case atStart => exact ⟨0, rfl, rfl, by omega, rfl⟩
  case round =>
    rename_i hrel
    obtain ⟨k, rfl, rfl, hk, rfl⟩ := hrel
    have htk := told_bound (l.take k) (fun x hx => hs x (List.mem_of_mem_take hx))
    have htk2 : (told (l.take k)).length ≤ 462 := by simp at htk; omega
    by_cases hlt : k < l.length
    · obtain ⟨b, off, rfl, hcl⟩ := h.at k hlt
      have hst := told_take l k hlt
      have hgd : (l.getD k .empty).size ≤ 20 := by
        rw [List.getD_eq_getElem?_getD, List.getElem?_eq_getElem hlt]
        exact hs _ (List.getElem_mem hlt)
      obtain ⟨s, hss⟩ : ∃ s, s = l.getD k .empty := ⟨_, rfl⟩
      obtain ⟨S, hS⟩ : ∃ S : ByteArray, S = ⟨(told (l.take k)).toArray⟩ := ⟨_, rfl⟩
      have hSs : S.size ≤ 462 := by rw [hS, mk_size]; exact htk2
      rw [← hss] at hcl hst hgd
      rw [← hS] at hst ⊢
      have HS : Hid (S ++ s ++ ⟨#[58, 32]⟩ = ⟨(told (l.take (k + 1))).toArray⟩) := hst
      have hlt' : (k : Int) < (l.length : Int) := by omega
      clear hst hss hS htk htk2
      go_wp2
      go_roundw
      case rel => exact ⟨k + 1, by rw [HS.out], by go_num, by omega, trivial⟩
      case measure => simp [intOf]; omega
    · have hlt' : ¬ ((k : Int) < (l.length : Int)) := by omega
      have hk2 : l.take k = l := by rw [List.take_of_length_le (by omega)]
      rw [hk2] at htk2 ⊢
      obtain ⟨S, hS⟩ : ∃ S : ByteArray, S = ⟨(told l).toArray⟩ := ⟨_, rfl⟩
      have hSs : S.size ≤ 462 := by rw [hS, mk_size]; exact htk2
      obtain ⟨N, hN⟩ : ∃ N : ByteArray, N = ⟨(nameOf c).toArray⟩ := ⟨_, rfl⟩
      have hNs : N.size ≤ 10 := by rw [hN, mk_size]; exact nameOf_len c
      have hfin : S ++ N = ⟨(textOf l c).toArray⟩ := by
        rw [hS, hN]
        apply ByteArray.ext
        simp only [ByteArray.data_append]
        apply Array.ext'
        simp [textOf]
      have hcall := rname_run c wr
      rw [← hN] at hcall
      rw [← hS]
      have HF : Hid (S ++ N = X) := by rw [HX.out]; exact hfin
      clear htk htk2 hS hN hfin
      go_wp2_with (go_at_call 17; go_must (refine hcall.mono ?_); rintro e w2 ⟨rfl, hb2⟩)
      go_ret
      exact ⟨by rw [← HF.out]; rfl, hb2⟩
end Go.Proofs.YtpicicecmlpldaaDoor
