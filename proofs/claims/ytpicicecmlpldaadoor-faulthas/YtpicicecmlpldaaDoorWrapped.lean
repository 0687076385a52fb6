/-
  What is wrapped once more: the statement's walk.
-/
import Derived.Test.YtpicicecmlpldaaDoorMade
namespace Go.Proofs.YtpicicecmlpldaaDoor
set_option linter.unusedSimpArgs false
set_option linter.unusedVariables false
open Go.RowKit

def rootS : ByteArray := ⟨#[114, 111, 111, 116]⟩

theorem lastOf_append (s x : ByteArray) : ∀ l : List ByteArray, lastOf s (l ++ [x]) = x
  | [] => rfl
  | y :: r => lastOf_append y x r

theorem told_bound : ∀ l : List ByteArray, (∀ x ∈ l, x.size ≤ 20) → (told l).length ≤ 22 * l.length
  | [], _ => by simp [told]
  | x :: r, h => by
    rw [told_len]
    have h1 := h x (by simp)
    have h2 := told_bound r (fun y hy => h y (by simp [hy]))
    simp only [List.length_cons]
    omega

/-- A call that tells this of a chain wherever it is asked behind the world that has it. -/
def Tells (f : FuncId) (p : Option Addr) (v : Value) (w : World) : Prop := ∀ u, Below w.heap.size w u → Calls Tryd.prog f #[.pointer p] u fun e u' => e = .returned v ∧ Below w.heap.size w u'

theorem tells_alive {w : World} (hE : ErrT w) (hN : NamesT w) : ∀ u, Below w.heap.size w u → Calls Tryd.prog 7 #[] u fun e u' => e = .returned (.bool true) ∧ Below w.heap.size w u' := fun u hu =>
  (alive_run u (hE.stays hu) (hN.stays hu)).mono (by rintro e u' ⟨rfl, h⟩; exact ⟨rfl, hu.trans (h.mono hu.size)⟩)

theorem tells_code {w : World} {c : Int} {p : Option Addr} {op : ByteArray} {ops : List ByteArray} (h : Ch w c p (op :: ops)) : Tells 9 p (.int .i64 c) w := fun u hu => by
  obtain ⟨b, q, rfl, hb, hq⟩ := h
  refine (code_run b q op c u (hb.stays hu)).mono ?_
  rintro e u' ⟨rfl, rfl⟩
  exact ⟨rfl, hu⟩

theorem tells_root {w : World} (hE : ErrT w) {c : Int} {p : Option Addr} {ops : List ByteArray} (h : Ch w c p ops) (r : ByteArray) (hr : lastOf .empty ops = r) : Tells 11 p (.string r) w := fun u hu => by
  refine (root_run c p ops u (hE.stays hu) (h.stays hu)).mono ?_
  rintro e u' ⟨rfl, h'⟩
  exact ⟨by rw [hr], hu.trans (h'.mono hu.size)⟩

theorem tells_depth {w : World} (hE : ErrT w) {c : Int} {p : Option Addr} {ops : List ByteArray} (h : Ch w c p ops) (n : Nat) (hn : ops.length = n) (hN : n ≤ 1000) : Tells 12 p (.int .i64 n) w := fun u hu => by
  subst hn
  refine (depth_run c p ops hN u (hE.stays hu) (h.stays hu)).mono ?_
  rintro e u' ⟨rfl, h'⟩
  exact ⟨rfl, hu.trans (h'.mono hu.size)⟩

theorem tells_text {w : World} (hE : ErrT w) (hN : NamesT w) {c : Int} {p : Option Addr} {op : ByteArray} {ops : List ByteArray} (h : Ch w c p (op :: ops)) (hl : (told (op :: ops)).length ≤ 1000000) (s : ByteArray) (hs : s = ⟨(textOf (op :: ops) c).toArray⟩) :
    Tells 10 p (.string s) w := fun u hu => by
  subst hs
  refine (text_run c p op ops hl u (hE.stays hu) (hN.stays hu) (h.stays hu)).mono ?_
  rintro e u' ⟨rfl, h'⟩
  exact ⟨rfl, hu.trans (h'.mono hu.size)⟩

theorem text_cons (op op1 : ByteArray) (ops : List ByteArray) (c : Int) : (op ++ ⟨#[58, 32]⟩) ++ ⟨(textOf (op1 :: ops) c).toArray⟩ = (⟨(textOf (op :: op1 :: ops) c).toArray⟩ : ByteArray) := by
  apply ByteArray.ext
  simp only [ByteArray.data_append]
  apply Array.ext'
  simp [textOf, told]

set_option maxHeartbeats 2000000 in
set_option maxRecDepth 100000 in
theorem wrapped_walk (a : Option Addr) (cap : Nat) (xs : List ByteArray) (op : ByteArray) (c : Int) (w : World) (hE : ErrT w) (hN : NamesT w) (h : Ss w a xs) :
    Calls Tryd.prog 5 #[.slice a xs.length cap, .string op, .int .i64 c] w fun e w' => e = .returned (.bool true) ∧ Below w.heap.size w w' := by
  have hsm := small_run op a cap xs w h
  go_enter Tryd.func5, Tryd.ntmps5
  go_wp2_with (go_at_call 6; go_must (refine hsm.mono ?_))
  rintro e w' ⟨⟨r, rfl, hr⟩, hw⟩
  subst hw
  clear hsm
  cases r with
  | false =>
    clear hr
    go_wp2_with (go_at_call 7; go_must (refine (alive_run _ hE hN).mono ?_); rintro e w1 ⟨rfl, hb1⟩)
    go_ret
    exact ⟨rfl, hb1⟩
  | true =>
    obtain ⟨hl, hsz, hop⟩ := hr rfl
    clear hr
    by_cases hc : c = 0
    · subst hc
      have hmade := made_none rootS a cap xs hl _ h
      clear hsz
      go_wp2_with (first
        | (go_at_call 8; go_must (refine hmade.mono ?_); rintro e w1 ⟨rfl, rfl⟩)
        | (go_at_call 18; go_must (refine (wrap_none _ _).mono ?_); rintro e w2 ⟨rfl, rfl⟩)
        | (go_at_call 7; go_must (refine (alive_run _ hE hN).mono ?_); rintro e w3 ⟨rfl, hb3⟩))
      go_ret
      exact ⟨rfl, hb3⟩
    · have hmade := made_run rootS c hc a cap xs hl _ h
      have hc' : (c == 0) = false := by simp [hc]
      have hml : (madeOf rootS xs).length ≤ 21 := by unfold madeOf; simp; omega
      have hms : ∀ x ∈ madeOf rootS xs, x.size ≤ 20 := by
        intro x hxm
        unfold madeOf at hxm
        rcases List.mem_append.1 hxm with hm | hm
        · exact hsz x (by simpa using hm)
        · rw [List.mem_singleton.1 hm]; decide
      have hlast : lastOf .empty (madeOf rootS xs) = rootS := lastOf_append _ _ _
      have hlast2 : lastOf .empty (op :: madeOf rootS xs) = rootS := lastOf_append _ _ (op :: xs.reverse)
      obtain ⟨op1, ops1, hoo⟩ := madeOf_cons rootS xs
      rw [hoo] at hml hms hlast hlast2 hmade
      have hb1l := told_bound _ hms
      have hb2l := told_bound (op :: op1 :: ops1) (by
        intro x hxm
        rcases List.mem_cons.1 hxm with rfl | hm
        · exact hop
        · exact hms x hm)
      obtain ⟨n, hn⟩ : ∃ n, (op1 :: ops1).length = n := ⟨_, rfl⟩
      have hn2 : (op :: op1 :: ops1).length = n + 1 := by rw [← hn]; rfl
      rw [hn] at hml
      rw [hn] at hb1l
      rw [hn2] at hb2l
      obtain ⟨Y, hY⟩ : ∃ Y : ByteArray, Y = ⟨(textOf (op1 :: ops1) c).toArray⟩ := ⟨_, rfl⟩
      have hY2 : (op ++ ⟨#[58, 32]⟩) ++ Y = ⟨(textOf (op :: op1 :: ops1) c).toArray⟩ := by rw [hY]; exact text_cons _ _ _ _
      have HK : Hid ((op1 :: ops1).length = n ∧ (op :: op1 :: ops1).length = n + 1 ∧ (told (op1 :: ops1)).length ≤ 1000000 ∧ (told (op :: op1 :: ops1)).length ≤ 1000000 ∧ lastOf .empty (op1 :: ops1) = rootS ∧ lastOf .empty (op :: op1 :: ops1) = rootS ∧ Y = ⟨(textOf (op1 :: ops1) c).toArray⟩ ∧ (op ++ ⟨#[58, 32]⟩) ++ Y = ⟨(textOf (op :: op1 :: ops1) c).toArray⟩) :=
        ⟨hn, hn2, by omega, by omega, hlast, hlast2, hY, hY2⟩
      have hYs : Y.size ≤ 1000 := by
        rw [hY]
        have h1 := nameOf_len c
        have h2 : (ByteArray.mk (textOf (op1 :: ops1) c).toArray).size = (textOf (op1 :: ops1) c).length := by rw [← bytes_len]
        rw [h2]
        unfold textOf
        rw [List.length_append]
        omega
      have hn' : (n : Int) + 1 ≤ 1000 := by omega
      clear hsz hc hms hlast hlast2 hoo hb1l hb2l hn hn2 hY hY2
      go_wp2_with (go_at_call 8; go_must (refine hmade.mono ?_))
      rintro e w1 ⟨p1, rfl, hC1, hb1⟩
      go_wp2_with (go_at_call 18; go_must (refine (wrap_run op c p1 op1 ops1 w1 hC1).mono ?_))
      rintro e w2 ⟨p2, rfl, hC2, hb2⟩
      have hb12 := hb1.trans (hb2.mono hb1.size)
      have hE2 := hE.stays hb12
      have hN2 := hN.stays hb12
      have hC1' := hC1.stays hb2
      have tA := tells_alive hE2 hN2
      have tC := tells_code hC2
      have tR2 := tells_root hE2 hC2 rootS HK.out.2.2.2.2.2.1
      have tR1 := tells_root hE2 hC1' rootS HK.out.2.2.2.2.1
      have tD2 := tells_depth hE2 hC2 (n + 1) HK.out.2.1 (by omega)
      have tD1 := tells_depth hE2 hC1' n HK.out.1 (by omega)
      have tT2 := tells_text hE2 hN2 hC2 HK.out.2.2.2.1 _ HK.out.2.2.2.2.2.2.2
      have tT1 := tells_text hE2 hN2 hC1' HK.out.2.2.1 Y HK.out.2.2.2.2.2.2.1
      obtain ⟨b2, q2, rfl, _, _⟩ := hC2
      clear hmade hC1 hC1' hE hN hE2 hN2 h
      have hb0 := Below.refl w2.heap.size w2
      go_wp2_with (first
        | (go_at_call 7; go_must (refine (tA _ hb0).mono ?_); rintro e u1 ⟨rfl, hu1⟩)
        | (go_at_call 9; go_must (refine (tC _ hu1).mono ?_); rintro e u2 ⟨rfl, hu2⟩)
        | (go_at_call_of 11 (Value.pointer (some ⟨b2, 0, none⟩)); go_must (refine (tR2 _ hu2).mono ?_); rintro e u3 ⟨rfl, hu3⟩)
        | (go_at_call_of 11 (Value.pointer p1); go_must (refine (tR1 _ hu3).mono ?_); rintro e u4 ⟨rfl, hu4⟩)
        | (go_at_call_of 12 (Value.pointer (some ⟨b2, 0, none⟩)); go_must (refine (tD2 _ hu4).mono ?_); rintro e u5 ⟨rfl, hu5⟩)
        | (go_at_call_of 12 (Value.pointer p1); go_must (refine (tD1 _ hu5).mono ?_); rintro e u6 ⟨rfl, hu6⟩)
        | (go_at_call_of 10 (Value.pointer (some ⟨b2, 0, none⟩)); go_must (refine (tT2 _ hu6).mono ?_); rintro e u7 ⟨rfl, hu7⟩)
        | (go_at_call_of 10 (Value.pointer p1); go_must (refine (tT1 _ hu7).mono ?_); rintro e u8 ⟨rfl, hu8⟩))
      go_ret
      exact ⟨rfl, hb12.trans (hu8.mono hb12.size)⟩
end Go.Proofs.YtpicicecmlpldaaDoor
