/-
  What any fault tells: the statement's walk.
-/
import Derived.Test.YtpicicecmlpldaaDoorRef
import Derived.Test.YtpicicecmlpldaaDoorStrsOwn
import Derived.OwnWalk
namespace Go.Proofs.YtpicicecmlpldaaDoor
set_option linter.unusedSimpArgs false
set_option linter.unusedVariables false
open Go.RowKit

theorem strInfo : ∃ i, Tryd.prog.info? 9 = some i ∧ i.zero = some (.string .empty) ∧ i.size = 1 ∧ i.bytes = 16 := by
  have h : (Tryd.prog.info? 9).map (fun i => (i.zero, i.size, i.bytes)) = some (some (.string .empty), 1, 16) := by kernel_rfl
  obtain ⟨i, hi, h2⟩ := Option.map_eq_some_iff.1 h
  simp only [Prod.mk.injEq] at h2
  exact ⟨i, hi, h2.1, h2.2.1, h2.2.2⟩

theorem error_run (c : Int) (p : Option Addr) (op : ByteArray) (ops : List ByteArray) (hlen : (told (op :: ops)).length ≤ 1000000) (w : World) (hE : ErrT w) (hN : NamesT w) (h : Ch w c p (op :: ops)) :
    Calls Tryd.prog 13 #[.pointer p] w fun e w' => e = .returned (.string ⟨(textOf (op :: ops) c).toArray⟩) ∧ Below w.heap.size w w' := by
  have hcall := text_run c p op ops hlen w hE hN h
  go_enter Tryd.func13, Tryd.ntmps13
  go_wp2_with (go_at_call 10; go_must (refine hcall.mono ?_); rintro e w' ⟨rfl, hb⟩)
  go_ret
  exact ⟨rfl, hb⟩

theorem tells_error {w : World} (hE : ErrT w) (hN : NamesT w) {c : Int} {p : Option Addr} {op : ByteArray} {ops : List ByteArray} (h : Ch w c p (op :: ops)) (hl : (told (op :: ops)).length ≤ 1000000) (s : ByteArray) (hs : s = ⟨(textOf (op :: ops) c).toArray⟩) :
    Tells 13 p (.string s) w := fun u hu => by
  subst hs
  refine (error_run c p op ops hl u (hE.stays hu) (hN.stays hu) (h.stays hu)).mono ?_
  rintro e u' ⟨rfl, h'⟩
  exact ⟨rfl, hu.trans (h'.mono hu.size)⟩

theorem rev_take (xs : List ByteArray) (k m : Nat) (h : k + (m + 1) = xs.length) : xs.reverse.take k ++ [xs.getD m .empty] = xs.reverse.take (k + 1) := by
  rw [List.take_add_one, List.getElem?_reverse (by omega), show xs.length - 1 - k = m by omega, List.getElem?_eq_getElem (by omega), List.getD_eq_getElem?_getD, List.getElem?_eq_getElem (by omega)]
  rfl

set_option maxHeartbeats 4000000 in
set_option maxRecDepth 100000 in
theorem told_walk (root : ByteArray) (a : Option Addr) (cap : Nat) (xs : List ByteArray) (c : Int) (w : World) (hE : ErrT w) (hN : NamesT w) (h : Ss w a xs) :
    Calls Tryd.prog 3 #[.string root, .slice a xs.length cap, .int .i64 c] w fun e w' => e = .returned (.bool true) ∧ Below w.heap.size w w' := by
  have hsm := small_run root a cap xs w h
  go_enter Tryd.func3, Tryd.ntmps3
  go_wp2_with (go_at_call 6; go_must (refine hsm.mono ?_))
  rintro e w' ⟨⟨r, rfl, hr⟩, hw⟩
  subst hw
  clear hsm
  cases r with
  | false =>
    clear hr
    go_wp2_with (go_at_call 7; go_must (refine (alive_run _ hE hN).mono ?_); rintro e w1 ⟨rfl, hb1⟩)
    go_ret
    exact ⟨rfl, hb1⟩
  | true =>
    obtain ⟨hl, hsz, hop⟩ := hr rfl
    clear hr
    obtain ⟨p0, hmade⟩ : ∃ R : Option Addr → World → Prop, Calls Tryd.prog 8 #[.string root, .slice a xs.length cap, .int .i64 c] w' (fun e u => ∃ p, e = .returned (.pointer p) ∧ R p u ∧ Below w'.heap.size w' u) ∧ ∀ p u, R p u → (c = 0 ∧ p = none) ∨ (c ≠ 0 ∧ Ch u c p (madeOf root xs)) := by
      by_cases hc : c = 0
      · subst hc
        exact ⟨fun p u => p = none, (made_none root a cap xs hl _ h).mono (by rintro e u ⟨rfl, rfl⟩; exact ⟨none, rfl, rfl, Below.refl _ _⟩), fun p u hp => .inl ⟨rfl, hp⟩⟩
      · exact ⟨fun p u => Ch u c p (madeOf root xs), made_run root c hc a cap xs hl _ h, fun p u hp => .inr ⟨hc, hp⟩⟩
    obtain ⟨hmade, hR⟩ := hmade
    go_wp2_with (go_at_call 8; go_must (refine hmade.mono ?_))
    rintro e w1 ⟨p, rfl, hRp, hb1⟩
    have hp := hR p w1 hRp
    have h1 := h.stays hb1
    clear hR hRp hmade h
    obtain ⟨i0, hi0, hz0, hs0, hy0⟩ := strInfo
    go_wp2
    have hown0 := owns_new (w := w1) (e := 9) (base := w1.heap.size) (Nat.le_refl _)
    have hal : Below w1.heap.size w1 (w1.alloc (.cells #[] 9)) := (Below.refl _ _).alloc (Nat.le_refl _) _
    obtain ⟨B, hBB⟩ : ∃ B, B = w1.heap.size := ⟨_, rfl⟩
    rw [← hBB] at hown0 hal ⊢
    have HBB : Hid (B = w1.heap.size) := hBB
    clear hBB
    go_loopw [8, 9] (fun v i wr => ∃ (k j : Nat) (z : Int), i = .int .i64 z ∧ z = (j : Int) - 1 ∧ k + j = xs.length ∧ wr.ownsRow B 9 1 v (xs.reverse.take k).length ((xs.reverse.take k).map Value.string) ∧ Below B w1 wr) (fun _ i _ => (intOf i + 1).toNat)
    case atStart => exact ⟨0, xs.length, _, rfl, rfl, by omega, hown0, hal⟩
    case round =>
      clear hown0 hal
      rename_i hrel
      obtain ⟨k, j, z, rfl, hz, hkj, hown, hbel⟩ := hrel
      have hsr : B ≤ wr.heap.size := by rw [HBB.out]; exact hbel.size
      have hkl : (xs.reverse.take k).length ≤ 20 := by simp; omega
      cases j with
      | succ m =>
        obtain rfl : z = (m : Int) := by omega
        clear hz
        have hbel1 : Below w1.heap.size w1 wr := HBB.out ▸ hbel
        obtain ⟨b, off, rfl, hcl⟩ := (h1.stays hbel1).at m (by omega)
        have hrt := rev_take xs k m hkj
        obtain ⟨s, hss⟩ : ∃ s, s = xs.getD m .empty := ⟨_, rfl⟩
        obtain ⟨D, hD⟩ : ∃ D, D = xs.reverse.take k := ⟨_, rfl⟩
        rw [← hss] at hcl hrt
        rw [← hD] at hrt hown hkl
        have HR : Hid (D ++ [s] = xs.reverse.take (k + 1)) := hrt
        have hm' : (m : Int) < (xs.length : Int) := by omega
        have hown1 := owns_stays hown ((Below.refl wr.heap.size wr).alloc (Nat.le_refl _) (.cells #[.string s] 9))
        have hbel2 := hbel.alloc (by omega) (.cells #[.string s] 9)
        have hcn : (wr.alloc (.cells #[.string s] 9)).cell? ⟨wr.heap.size, 0, none⟩ = some (.string s) := (Blk.newAt (e := 9) (vs := [.string s]) rfl rfl).cell 0
        have hsz2 : B ≤ (wr.alloc (.cells #[.string s] 9)).heap.size := by simp; omega
        clear hss hD hrt
        go_wp2_with (at_builtin; go_must (refine wpList_append_str (w0 := w1) (by rfl) (.tmp 27) (.tmp 32) 22 (by rfl) B 9 i0 Tryd.underlying22 hi0 hz0 hs0 hy0 _ D rfl hown1 wr.heap.size 1 s (by rfl) hcn (by omega) hsz2 hbel2 ?_))
        intro v' w2 hown2 hbel3
        go_wp2
        go_roundw
        case rel => exact ⟨k + 1, m, _, rfl, rfl, by omega, by rw [← HR.out]; simpa using hown2, hbel3⟩
        case measure => simp [intOf]
      | zero =>
        obtain rfl : z = -1 := by omega
        clear hz
        obtain rfl : k = xs.length := by omega
        rw [show xs.reverse.take xs.length = xs.reverse by rw [List.take_of_length_le (by simp)]] at hown hkl
        have hcn : (wr.alloc (.cells #[.string root] 9)).cell? ⟨wr.heap.size, 0, none⟩ = some (.string root) := (Blk.newAt (e := 9) (vs := [.string root]) rfl rfl).cell 0
        have hown1 := owns_stays hown ((Below.refl wr.heap.size wr).alloc (Nat.le_refl _) (.cells #[.string root] 9))
        have hbel2 := hbel.alloc (by omega) (.cells #[.string root] 9)
        have hsz2 : B ≤ (wr.alloc (.cells #[.string root] 9)).heap.size := by simp; omega
        go_wp2_with (at_builtin; go_must (refine wpList_append_str (w0 := w1) (by rfl) (.tmp 34) (.tmp 36) 22 (by rfl) B 9 i0 Tryd.underlying22 hi0 hz0 hs0 hy0 _ xs.reverse rfl hown1 wr.heap.size 1 root (by rfl) hcn (by omega) hsz2 hbel2 ?_))
        intro v' w2 hown2 hbel3
        have hown3 : w2.ownsRow B 9 1 v' (madeOf root xs).length ((madeOf root xs).map Value.string) := by unfold madeOf; simpa using hown2
        have hb2 : Below w1.heap.size w1 w2 := HBB.out ▸ hbel3
        clear hown hown1 hown2 hbel hbel2 hbel3 hcn hsz2 hkl hsr hi0 hz0 hs0 hy0
        obtain ⟨a2, c2, rfl, hS2⟩ := ss_of_owns hown3
        clear hown3
        have hb12 := hb1.trans (hb2.mono hb1.size)
        have hE2 := hE.stays hb12
        have hN2 := hN.stays hb12
        have tA := tells_alive hE2 hN2
        have hb0 := Below.refl w2.heap.size w2
        rcases hp with ⟨rfl, rfl⟩ | ⟨hc, hC⟩
        · have tC : Tells 9 none (.int .i64 0) w2 := fun u hu => (code_none u).mono (by rintro e u' ⟨rfl, rfl⟩; exact ⟨rfl, hu⟩)
          have tT : Tells 10 none (.string .empty) w2 := fun u hu => (text_none u).mono (by rintro e u' ⟨rfl, rfl⟩; exact ⟨rfl, hu⟩)
          have hCn : Ch w2 0 none [] := rfl
          have tR := tells_root hE2 hCn .empty rfl
          have tD := tells_depth hE2 hCn 0 rfl (by omega)
          clear hE hN hE2 hN2 hS2 hsz h1
          go_wp2_with (first
            | (go_at_call 7; go_must (refine (tA _ hb0).mono ?_); rintro e y1 ⟨rfl, hy1⟩)
            | (go_at_call 9; go_must (refine (tC _ hy1).mono ?_); rintro e y2 ⟨rfl, hy2⟩)
            | (go_at_call 10; go_must (refine (tT _ hy2).mono ?_); rintro e y3 ⟨rfl, hy3⟩)
            | (go_at_call 11; go_must (refine (tR _ hy3).mono ?_); rintro e y4 ⟨rfl, hy4⟩)
            | (go_at_call 12; go_must (refine (tD _ hy4).mono ?_); rintro e y5 ⟨rfl, hy5⟩))
          go_ret
          exact ⟨rfl, hb12.trans (hy5.mono hb12.size)⟩
        · have hc' : (c == 0) = false := by simp [hc]
          have hC2 := hC.stays hb2
          have hml : (madeOf root xs).length ≤ 21 := by unfold madeOf; simp; omega
          have hms : ∀ x ∈ madeOf root xs, x.size ≤ 20 := by
            intro x hxm
            unfold madeOf at hxm
            rcases List.mem_append.1 hxm with hm | hm
            · exact hsz x (by simpa using hm)
            · rw [List.mem_singleton.1 hm]; exact hop
          have hlast : lastOf .empty (madeOf root xs) = root := lastOf_append _ _ _
          obtain ⟨op1, ops1, hoo⟩ := madeOf_cons root xs
          rw [hoo] at hml hms hlast hC2 hS2 ⊢
          have hb1l := told_bound _ hms
          obtain ⟨n, hn⟩ : ∃ n, (op1 :: ops1).length = n := ⟨_, rfl⟩
          obtain ⟨Y, hY⟩ : ∃ Y : ByteArray, Y = ⟨(textOf (op1 :: ops1) c).toArray⟩ := ⟨_, rfl⟩
          have hn1 : 0 < (op1 :: ops1).length := by simp
          have tC := tells_code hC2
          have tR := tells_root hE2 hC2 root hlast
          have tD := tells_depth hE2 hC2 n hn (by omega)
          have tT := tells_text hE2 hN2 hC2 (by omega) Y hY
          have tE := tells_error hE2 hN2 hC2 (by omega) Y hY
          have tX : ∀ u, Below w2.heap.size w2 u → Calls Tryd.prog 14 #[.slice a2 n c2, .int .i64 c] u fun e u' => e = .returned (.string Y) ∧ Below w2.heap.size w2 u' := fun u hu => by
            have := rtext_run a2 c2 (op1 :: ops1) hn1 hml hms c hc u (hS2.stays hu)
            rw [hn, ← hY] at this
            exact this.mono (by rintro e u' ⟨rfl, h'⟩; exact ⟨rfl, hu.trans (h'.mono hu.size)⟩)
          rw [hn]
          obtain ⟨b2, q2, rfl, _, _⟩ := hC2
          clear hE hN hE2 hN2 hS2 hsz h1 hC hc hml hms hlast hb1l hn hY hn1 hoo
          go_wp2_with (first
            | (go_at_call 7; go_must (refine (tA _ hb0).mono ?_); rintro e y1 ⟨rfl, hy1⟩)
            | (go_at_call 13; go_must (refine (tE _ hy1).mono ?_); rintro e y2 ⟨rfl, hy2⟩)
            | (go_at_call 10; go_must (refine (tT _ (by first | exact hy3 | exact hy2)).mono ?_); first | rintro e y3 ⟨rfl, hy3⟩ | rintro e y4 ⟨rfl, hy4⟩)
            | (go_at_call 14; go_must (refine (tX _ (by assumption)).mono ?_); rintro e y5 ⟨rfl, hy5⟩)
            | (go_at_call 9; go_must (refine (tC _ hy5).mono ?_); rintro e y6 ⟨rfl, hy6⟩)
            | (go_at_call 11; go_must (refine (tR _ hy6).mono ?_); rintro e y7 ⟨rfl, hy7⟩)
            | (go_at_call 12; go_must (refine (tD _ hy7).mono ?_); rintro e y8 ⟨rfl, hy8⟩))
          go_ret
          exact ⟨rfl, hb12.trans (hy8.mono hb12.size)⟩
end Go.Proofs.YtpicicecmlpldaaDoor
