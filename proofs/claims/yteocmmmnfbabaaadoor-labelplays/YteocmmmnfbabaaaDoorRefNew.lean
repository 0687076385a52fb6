/-
  The document's Read: its bytes are new.
-/
import Derived.Test.YteocmmmnfbabaaaDoorRef4
namespace Go.Proofs.YteocmmmnfbabaaaDoor
set_option linter.unusedSimpArgs false
set_option linter.unusedVariables false
open Go.RowKit

section
variable {G : Nat → Prop} {S : DS} {sa : Option Addr} {sc : Nat} {wa : Option Addr} {wc n : Nat}

set_option maxRecDepth 100000 in
set_option maxHeartbeats 600000 in
theorem rread_go_new (s : Nat) (sn wn : Nat) (HSN : Hid (sn = n)) (HWN : Hid (wn = S.ws.length)) (fused : Bool) (left : Nat) (w : World) (hok : S.Ok n) (hsn : s < n) (hs : SsAt w G sa (secStrs S.laid n)) (hW : WsAt w G wa wc S.ws) (hlen : S.ws.length ≤ 900000) :
    Calls Tryd.prog 60 #[.agg #[.slice sa sn sc, .slice wa wn wc, .bool fused, .int .i64 (left : Int), .bool false], .int .i64 (s : Int)] w fun e w' =>
      ∃ a c, e = .returned (.tuple #[.slice a 256 c, .int .i64 0]) ∧ (Bs w' a c (readW S.laid S.ws s) ∧ ∀ x, a = some x → w.heap.size ≤ x.block) ∧ Below w.heap.size w w' := by
  have h1' : ¬ ((s : Int) < 0) := by omega
  have hsn2 := HSN.out
  have hwn2 := HWN.out
  have h2' : ¬ ((sn : Int) ≤ (s : Int)) := by omega
  have h2'' : (s : Int) < (sn : Int) := by omega
  have hX : Blk 48 (w.alloc (.cells #[.slice sa sn sc, .slice wa wn wc, .bool fused, .int .i64 (left : Int), .bool false] 48)) w.heap.size [.slice sa sn sc, .slice wa wn wc, .bool fused, .int .i64 (left : Int), .bool false] := Blk.newAt rfl rfl
  obtain ⟨W, hWe⟩ : ∃ W, W = w.alloc (.cells #[.slice sa sn sc, .slice wa wn wc, .bool fused, .int .i64 (left : Int), .bool false] 48) := ⟨_, rfl⟩
  have hbW : Below w.heap.size w W := by rw [hWe]; exact (Below.refl _ _).alloc (Nat.le_refl _) _
  rw [← hWe] at hX
  obtain ⟨z0, z1, z2, z3, z4⟩ := box_cells hX
  obtain ⟨sb, so, rfl, _, hcs⟩ := hs.keep (w' := W) (G' := G) (by rw [secStrs_length]; omega) (fun k hg hl => ⟨hbW.block k hl, hg⟩)
  have hc := hcs s (by rw [secStrs_length]; exact hsn)
  have hgd : (secStrs S.laid n).getD s .empty = strOfNums (readW S.laid (S.ws.take 0) s) := by
    simp [secStrs, List.getD, hsn, readW]
  rw [hgd] at hc
  have HWE : Hid (W = _) := hWe
  have hWW := hW.keep (w' := W) (G' := G) (fun k hg hl => ⟨hbW.block k hl, hg⟩)
  have hall : ∀ k, k ≤ S.ws.length → (readW S.laid (S.ws.take k) s).length = 256 ∧ ∀ x ∈ readW S.laid (S.ws.take k) s, 0 ≤ x ∧ x ≤ 255 := fun k hk =>
    readW_ok (S := { S with ws := S.ws.take k }) (n := n) ⟨hok.len, hok.lo, hok.hi, hok.rng, fun q hq => hok.ws q (List.mem_of_mem_take hq), hok.left⟩ hsn
  clear hWe hcs hgd hsn2 hwn2
  rw [HWE.out] at z0 z1 z2 z3 z4 hc
  go_enter Tryd.func60, Tryd.ntmps60
  go_wp2
  go_loopw [6, 7] (fun v x wr => ∃ k : Nat, x = .int .i64 k ∧ k ≤ S.ws.length ∧ v = .string (strOfNums (readW S.laid (S.ws.take k) s)) ∧ wr = W) (fun _ x _ => S.ws.length - (intOf x).toNat)
  case atStart => exact ⟨0, rfl, Nat.zero_le _, rfl, HWE.out.symm⟩
  case round =>
    rename_i hrel
    rw [← HWE.out] at z0 z1 z2 z3 z4 hc
    obtain ⟨k, rfl, hk, rfl, rfl⟩ := hrel
    by_cases hlt : k < S.ws.length
    · have hlt' : (k : Int) < (wn : Int) := by have := HWN.out; omega
      obtain ⟨b, off, rfl, hc0, hc1⟩ := hWW.at hlt
      have hru := readW_upto S.laid (S.ws.take k) (S.ws.getD k (0, [])) s
      rw [← take_succ_getD hlt] at hru
      obtain ⟨t, hte⟩ : ∃ t, t = (S.ws.getD k (0, [])).1 := ⟨_, rfl⟩
      obtain ⟨y, hye⟩ : ∃ y, y = (S.ws.getD k (0, [])).2 := ⟨_, rfl⟩
      rw [← hte] at hc0 hru
      rw [← hye] at hc1 hru
      have e2 : off + 2 * k = off + k * 2 := by omega
      rw [e2] at hc0 hc1
      have HRU : Hid (readW S.laid (S.ws.take (k + 1)) s = if t = s then y else readW S.laid (S.ws.take k) s) := hru
      clear hte hye e2 hru
      by_cases hts : t = s
      · have hts' : ((t : Int) = (s : Int)) = True := eq_true (by omega)
        go_wp2
        go_roundw
        case rel => exact ⟨k + 1, by go_num, by omega, by rw [HRU.out, if_pos hts], trivial⟩
        case measure => simp [intOf]; omega
      · have hts' : ((t : Int) = (s : Int)) = False := eq_false (by omega)
        go_wp2
        go_roundw
        case rel => exact ⟨k + 1, by go_num, by omega, by rw [HRU.out, if_neg hts], trivial⟩
        case measure => simp [intOf]; omega
    · have hlt' : ¬ ((k : Int) < (wn : Int)) := by have := HWN.out; omega
      have hkk : k = S.ws.length := by omega
      obtain ⟨hl, hr⟩ := hall k hk
      obtain ⟨c, w', hrun, hB, hb, _⟩ := conv_bs _ hr (by omega) wr
      rw [hl] at hrun
      have hfin : (Bs w' (some ⟨wr.heap.size, 0, none⟩) c (readW S.laid S.ws s) ∧ ∀ x, some (⟨wr.heap.size, 0, none⟩ : Addr) = some x → w.heap.size ≤ x.block) ∧ Below w.heap.size w w' := by
        refine ⟨⟨?_, fun x hx => by cases hx; exact hbW.size⟩, hbW.trans (hb.mono hbW.size)⟩
        rw [hkk, List.take_length] at hB
        exact hB
      generalize readW S.laid (S.ws.take k) s = R at *
      clear hkk
      go_wp2
      refine bodyPost_ret (results_tmp2 rfl _ _ _) rfl ?_
      exact ⟨_, _, rfl, hfin⟩

theorem rread_new {w : World} {cs : List Value} (h : Rf w G cs S) (i : Int) (hl : S.ws.length ≤ 900000) :
    Calls Tryd.prog 60 #[.agg cs.toArray, .int .i64 i] w fun e w' => ∃ a c, e = .returned (.tuple #[.slice a (S.read i).1.length c, .int .i64 (S.read i).2]) ∧ (Bs w' a c (S.read i).1 ∧ ∀ x, a = some x → w.heap.size ≤ x.block) ∧ Below w.heap.size w w' := by
  obtain ⟨n, sa, sc, wa, wc, hok, rfl, hs, hw⟩ := h
  have hn : S.laid.length / 256 = n := by rw [hok.len]; omega
  have hhas : S.has i ↔ (0 ≤ i ∧ i < (n : Int)) := by unfold DS.has; rw [hn]
  unfold DS.read
  by_cases h1 : S.off = true
  · rw [if_pos h1]
    unfold rcells
    refine (rread_err (sa := sa) (sc := sc) (wa := wa) (wc := wc) i n S.ws.length S.fused S.off S.left w (.inl h1)).mono ?_
    rintro e w' ⟨rfl, hb⟩
    rw [if_pos h1]
    exact ⟨none, 0, rfl, ⟨Bs.empty _, fun x hx => by cases hx⟩, hb⟩
  · rw [if_neg h1]
    have hoff : S.off = false := by simpa using h1
    by_cases h2 : S.has i
    · rw [if_neg (by simpa using h2)]
      obtain ⟨hi0, hi1⟩ := hhas.1 h2
      obtain ⟨s, rfl⟩ : ∃ s : Nat, i = (s : Int) := ⟨i.toNat, by omega⟩
      have hr := readW_ok hok (s := s) (by omega)
      unfold rcells
      rw [hoff]
      refine (rread_go_new (G := G) (S := S) (n := n) (sa := sa) (sc := sc) (wa := wa) (wc := wc) s n S.ws.length rfl rfl S.fused S.left w hok (by omega) hs hw hl).mono ?_
      rintro e w' ⟨a, c, rfl, hB, hb⟩
      simp only [Int.toNat_natCast]
      rw [hr.1]
      exact ⟨a, c, rfl, hB, hb⟩
    · rw [if_pos (by simpa using h2)]
      unfold rcells
      refine (rread_err (sa := sa) (sc := sc) (wa := wa) (wc := wc) i n S.ws.length S.fused S.off S.left w (.inr ⟨hoff, by rw [hhas] at h2; exact h2⟩)).mono ?_
      rintro e w' ⟨rfl, hb⟩
      rw [if_neg h1]
      exact ⟨none, 0, rfl, ⟨Bs.empty _, fun x hx => by cases hx⟩, hb⟩

end

end Go.Proofs.YteocmmmnfbabaaaDoor
