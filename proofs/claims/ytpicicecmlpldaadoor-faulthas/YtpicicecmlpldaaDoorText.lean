/-
  Package fault: Text of a chain.
-/
import Derived.Test.YtpicicecmlpldaaDoorRoot
import Derived.Test.YtpicicecmlpldaaDoorName
import Derived.Test.YtpicicecmlpldaaDoorBld
namespace Go.Proofs.YtpicicecmlpldaaDoor
set_option linter.unusedSimpArgs false
set_option linter.unusedVariables false
open Go.RowKit

/-- The operations, with what stands behind each. -/
def told : List ByteArray → List UInt8
  | [] => []
  | op :: rest => op.data.toList ++ [58, 32] ++ told rest

/-- The text of a chain. -/
def textOf (ops : List ByteArray) (c : Int) : List UInt8 := told ops ++ nameOf c

theorem bytes_len (s : ByteArray) : s.data.toList.length = s.size := by rw [Array.length_toList]; rfl

theorem told_len (op : ByteArray) (rest : List ByteArray) : (told (op :: rest)).length = op.size + 2 + (told rest).length := by
  show (op.data.toList ++ [58, 32] ++ told rest).length = _
  rw [List.length_append, List.length_append, bytes_len]
  rfl

theorem Ch.kept {w w' : World} {b : Nat} {l : List UInt8} {c : Int} (hB : Bld w b l) (hk : Kept b w w') : ∀ {ops : List ByteArray} {p : Option Addr}, Ch w c p ops → Ch w' c p ops
  | [], _, h => h
  | _ :: _, _, ⟨g, q, hp, hb, hr⟩ => by
    refine ⟨g, q, hp, hk g _ hb ?_ ?_, hr.kept hB hk⟩
    · intro hh
      obtain ⟨cs, hc⟩ := hB.block
      injection hh with hh
      subst hh
      have := hb.symm.trans hc
      simp at this
    · intro cs fz hh
      simp at hh

theorem text_none (w : World) : Calls Tryd.prog 10 #[.pointer none] w fun e w' => e = .returned (.string .empty) ∧ w' = w := by
  go_enter Tryd.func10, Tryd.ntmps10
  go_wp2
  go_ret
  exact ⟨rfl, rfl⟩

theorem nameOf_len (c : Int) : (nameOf c).length ≤ 10 := by
  unfold nameOf
  split
  · simp
  · rcases Nat.lt_or_ge c.toNat 16 with h | h
    · have : ∀ k, k < 16 → (namesL.getD k []).length ≤ 10 := by decide
      exact this _ h
    · omega

set_option maxRecDepth 100000 in
theorem text_run (c : Int) (p : Option Addr) (op0 : ByteArray) (ops0 : List ByteArray) (hlen : (told (op0 :: ops0)).length ≤ 1000000) (w : World) (hE : ErrT w) (hN : NamesT w) (h : Ch w c p (op0 :: ops0)) :
    Calls Tryd.prog 10 #[.pointer p] w fun e w' => e = .returned (.string ⟨(textOf (op0 :: ops0) c).toArray⟩) ∧ Below w.heap.size w w' := by
  obtain ⟨b0, q0, rfl, hb0, hq0⟩ := id h
  obtain ⟨f0, f1, f2⟩ := fields w b0 op0 c q0 hb0
  obtain ⟨T, hT⟩ : ∃ T, T = told (op0 :: ops0) := ⟨_, rfl⟩
  obtain ⟨F, hF⟩ : ∃ F, F = textOf (op0 :: ops0) c := ⟨_, rfl⟩
  have HF : Hid (F = T ++ nameOf c) := by rw [hF, hT]; rfl
  rw [← hF]
  rw [← hT] at hlen
  have HT : Hid (T = told (op0 :: ops0)) := hT
  have ha : Below w.heap.size w (w.alloc (.cells #[.pointer none, .slice none 0 0] 45)) := (Below.refl _ _).alloc (Nat.le_refl _) _
  have hB0 := Bld.fresh w
  have h1 := h.stays ha
  clear hT hF f2
  go_enter Tryd.func10, Tryd.ntmps10
  go_wp2
  go_loopw [4] (fun v wr => ∃ (p' : Option Addr) (D : List UInt8) (rest : List ByteArray), v = .pointer p' ∧ Bld wr w.heap.size D ∧ Ch wr c p' rest ∧ rest.length ≤ ops0.length + 1 ∧ D ++ told rest = T ∧ Below w.heap.size w wr) (fun v wr => chLen wr (ops0.length + 1) (ptrOf v))
  case atStart => exact ⟨_, [], _, rfl, hB0, h1, Nat.le_refl _, HT.out.symm, ha⟩
  case round =>
    clear hB0 h1 h ha
    rename_i hrel
    obtain ⟨p', D, rest, rfl, hB, hC, hl, hD, hbel⟩ := hrel
    have hEr : ErrT wr := hE.stays hbel
    have hNr : NamesT wr := hN.stays hbel
    cases rest with
    | nil =>
      obtain rfl : p' = none := hC
      obtain rfl : D = T := by simpa [told] using hD
      have hb0r := hb0.stays hbel
      obtain ⟨g0, g1, g2⟩ := fields wr b0 op0 c q0 hb0r
      have hnl := nameOf_len c
      have hsz : (ByteArray.mk (nameOf c).toArray).size ≤ 10 := by simpa [ByteArray.size] using hnl
      go_wp2_with (first
        | (go_at_call 16; go_must (refine (name_run c _ hNr).mono ?_); rintro e w' ⟨rfl, rfl⟩)
        | (go_at_call 21; go_must (refine (bld_write _ D _ _ hB (by omega)).mono ?_); rintro e w2 ⟨rfl, hB2, hb2, hk2⟩)
        | (go_at_call 22; go_must (refine (bld_string _ _ _ hB2).mono ?_); rintro e w3 ⟨rfl, hb3⟩))
      go_ret
      exact ⟨by rw [HF.out]; rfl, (hbel.trans hb2).trans hb3⟩
    | cons op rest =>
      have hl' : rest.length ≤ ops0.length := by simpa using hl
      have hm := hC.len _ _ (ops0.length + 1) hl
      obtain ⟨b, q, hp, hb, hq⟩ := id hC
      subst hp
      obtain ⟨g0, g1, g2⟩ := fields wr b op c q hb
      have HD : Hid (D ++ told (op :: rest) = T) := hD
      have hlD : D.length + op.size + 2 ≤ 1000000 := by
        have h1 := congrArg List.length hD
        rw [List.length_append, told_len] at h1
        omega
      have ht2 : (ByteArray.mk #[58, 32]).size = 2 := rfl
      have hops : op.data.toList.length = op.size := bytes_len op
      clear hD g1 g2
      go_wp2_with (go_at_call 21; go_must (refine (bld_write _ D op wr hB (by omega)).mono ?_))
      rintro e w2 ⟨rfl, hB2, hb2, hk2⟩
      have hC2 := hC.kept hB hk2
      go_wp2_with (go_at_call 21; go_must (refine (bld_write _ _ ⟨#[58, 32]⟩ w2 hB2 (by rw [ht2, List.length_append, hops]; omega)).mono ?_))
      rintro e w3 rfl hB3 hb3 hk3
      have hC3 := hC2.kept hB2 hk3
      have hbel3 := (hbel.trans hb2).trans hb3
      have hcall := within_run c _ op rest w3 (hE.stays hbel3) hC3
      go_wp2_with (go_at_call 20; go_must (refine hcall.mono ?_))
      rintro e w4 ⟨p1, rfl, hC4, hb4⟩
      have hm1 := hC4.len _ _ (ops0.length + 1) (by omega)
      have hB4 := hB3.stays hb4
      go_wp2
      go_roundw
      case rel => exact ⟨p1, _, rest, rfl, hB4, hC4, by omega, by rw [← HD.out]; simp [told], hbel3.trans (hb4.mono hbel3.size)⟩
      case measure => simp [ptrOf, hm, hm1]
end Go.Proofs.YtpicicecmlpldaaDoor
