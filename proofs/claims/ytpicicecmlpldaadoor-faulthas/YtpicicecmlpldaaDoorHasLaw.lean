/-
  Whether any fault has any number, and any number's name: the statement's walk.
-/
import Derived.Test.YtpicicecmlpldaaDoorIs
import Derived.Test.YtpicicecmlpldaaDoorRef
namespace Go.Proofs.YtpicicecmlpldaaDoor
set_option linter.unusedSimpArgs false
set_option linter.unusedVariables false
open Go.RowKit

def HasAt (p : Option Addr) (d : Int) (r : Bool) (w : World) : Prop := ∀ u, Below w.heap.size w u → Calls Tryd.prog 15 #[.pointer p, .int .i64 d] u fun e u' => e = .returned (.bool r) ∧ Below w.heap.size w u'

theorem hasAt_none (d : Int) (w : World) : HasAt none d false w := fun u hu => (has_none d u).mono (by rintro e u' ⟨rfl, h'⟩; exact ⟨rfl, hu.trans (h'.mono hu.size)⟩)
theorem hasAt_run {c d : Int} {p : Option Addr} {op : ByteArray} {ops : List ByteArray} {w : World} (h : Ch w c p (op :: ops)) (r : Bool) (hr : (c == d) = r) : HasAt p d r w := fun u hu => by
  subst hr
  exact (has_run c d p op ops u (h.stays hu)).mono (by rintro e u' ⟨rfl, h'⟩; exact ⟨rfl, hu.trans (h'.mono hu.size)⟩)

set_option maxHeartbeats 2000000 in
set_option maxRecDepth 100000 in
theorem has_walk (a : Option Addr) (cap : Nat) (xs : List ByteArray) (c d : Int) (w : World) (hE : ErrT w) (hN : NamesT w) (h : Ss w a xs) :
    Calls Tryd.prog 4 #[.slice a xs.length cap, .int .i64 c, .int .i64 d] w fun e w' => e = .returned (.bool true) ∧ Below w.heap.size w w' := by
  have hsm := small_run ⟨#[]⟩ a cap xs w h
  go_enter Tryd.func4, Tryd.ntmps4
  go_wp2_with (go_at_call 6; go_must (refine hsm.mono ?_))
  rintro e w' ⟨⟨r, rfl, hr⟩, hw⟩
  subst hw
  clear hsm
  cases r with
  | false =>
    clear hr
    go_wp2_with (go_at_call 7; go_must (refine (alive_run _ hE hN).mono ?_); rintro e w1 ⟨rfl, hb1⟩)
    go_ret
    exact ⟨rfl, hb1⟩
  | true =>
    obtain ⟨hl, hsz, hop⟩ := hr rfl
    clear hr hop hsz
    by_cases hc : c = 0
    · subst hc
      have hmade := made_none rootS a cap xs hl _ h
      have tZ := hasAt_none d w'
      have tA := tells_alive hE hN
      have hb0 := Below.refl w'.heap.size w'
      have hNw : ∀ u, Below w'.heap.size w' u → NamesT u := fun u hu => hN.stays hu
      clear h hE
      cases hd : ((0 : Int) == d) with
      | true =>
        obtain rfl : (0 : Int) = d := by simpa using hd
        clear hd
        go_wp2_with (first
          | (go_at_call 8; go_must (refine hmade.mono ?_); rintro e w1 ⟨rfl, rfl⟩)
          | (go_at_call 7; go_must (refine (tA _ hb0).mono ?_); rintro e y1 ⟨rfl, hy1⟩)
          | (go_at_call 15; go_must (refine (tZ _ (by assumption)).mono ?_); rintro e y2 ⟨rfl, hy2⟩)
          | (go_at_call 16; go_must (refine (name_run _ _ (hNw _ hy2)).mono ?_); rintro e y3 ⟨rfl, rfl⟩)
          | (go_at_call 17; go_must (refine (rname_run _ _).mono ?_); rintro e y4 ⟨rfl, hy4⟩; replace hy4 := hy2.trans (hy4.mono hy2.size)))
        go_ret
        exact ⟨rfl, hy2⟩
      | false =>
        go_wp2_with (first
          | (go_at_call 8; go_must (refine hmade.mono ?_); rintro e w1 ⟨rfl, rfl⟩)
          | (go_at_call 7; go_must (refine (tA _ hb0).mono ?_); rintro e y1 ⟨rfl, hy1⟩)
          | (go_at_call 15; go_must (refine (tZ _ (by assumption)).mono ?_); rintro e y2 ⟨rfl, hy2⟩)
          | (go_at_call 16; go_must (refine (name_run _ _ (hNw _ hy2)).mono ?_); rintro e y3 ⟨rfl, rfl⟩)
          | (go_at_call 17; go_must (refine (rname_run _ _).mono ?_); rintro e y4 ⟨rfl, hy4⟩; replace hy4 := hy2.trans (hy4.mono hy2.size)))
        go_ret
        exact ⟨rfl, hy2⟩
    · have hmade := made_run rootS c hc a cap xs hl _ h
      have hc' : (c == 0) = false := by simp [hc]
      have hc2 : (c != 0) = true := by simp [hc]
      obtain ⟨op1, ops1, hoo⟩ := madeOf_cons rootS xs
      rw [hoo] at hmade
      clear hoo hc
      go_wp2_with (go_at_call 8; go_must (refine hmade.mono ?_))
      rintro e w2 ⟨p1, rfl, hC1, hb1⟩
      have tZ := hasAt_none d w2
      have tA := tells_alive (hE.stays hb1) (hN.stays hb1)
      have hb0 := Below.refl w2.heap.size w2
      have hNw : ∀ u, Below w2.heap.size w2 u → NamesT u := fun u hu => (hN.stays hb1).stays hu
      clear h hE hN hmade
      cases hd : (c == d) with
      | true =>
        have tH := hasAt_run hC1 true hd
        obtain rfl : c = d := by simpa using hd
        clear hd
        obtain ⟨b2, q2, rfl, _, _⟩ := hC1
        go_wp2_with (first
          | (go_at_call 7; go_must (refine (tA _ hb0).mono ?_); rintro e y1 ⟨rfl, hy1⟩)
          | (go_at_call_of 15 (Value.pointer (some ⟨b2, 0, none⟩)); go_must (refine (tH _ hy1).mono ?_); rintro e y2 ⟨rfl, hy2⟩)
          | (go_at_call 16; go_must (refine (name_run _ _ (hNw _ hy2)).mono ?_); rintro e y3 ⟨rfl, rfl⟩)
          | (go_at_call 17; go_must (refine (rname_run _ _).mono ?_); rintro e y4 ⟨rfl, hy4⟩; replace hy4 := hy2.trans (hy4.mono hy2.size))
          | (go_at_call_of 15 (Value.pointer none); go_must (refine (tZ _ hy4).mono ?_); rintro e y5 ⟨rfl, hy5⟩))
        go_ret
        exact ⟨rfl, hb1.trans (hy5.mono hb1.size)⟩
      | false =>
        have tH := hasAt_run hC1 false hd
        obtain ⟨b2, q2, rfl, _, _⟩ := hC1
        go_wp2_with (first
          | (go_at_call 7; go_must (refine (tA _ hb0).mono ?_); rintro e y1 ⟨rfl, hy1⟩)
          | (go_at_call_of 15 (Value.pointer (some ⟨b2, 0, none⟩)); go_must (refine (tH _ hy1).mono ?_); rintro e y2 ⟨rfl, hy2⟩)
          | (go_at_call 16; go_must (refine (name_run _ _ (hNw _ hy2)).mono ?_); rintro e y3 ⟨rfl, rfl⟩)
          | (go_at_call 17; go_must (refine (rname_run _ _).mono ?_); rintro e y4 ⟨rfl, hy4⟩; replace hy4 := hy2.trans (hy4.mono hy2.size))
          | (go_at_call_of 15 (Value.pointer none); go_must (refine (tZ _ hy4).mono ?_); rintro e y5 ⟨rfl, hy5⟩))
        go_ret
        exact ⟨rfl, hb1.trans (hy5.mono hb1.size)⟩
end Go.Proofs.YtpicicecmlpldaaDoor
