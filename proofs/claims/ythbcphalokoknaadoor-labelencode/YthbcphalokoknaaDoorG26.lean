/-
  The document's disk: Rot.
-/
import Derived.Test.YthbcphalokoknaaDoorG25
namespace Go.Proofs.YthbcphalokoknaaDoor
set_option linter.unusedSimpArgs false
set_option linter.unusedVariables false
open Go.RowKit

def xorS (xs ms : List Int) (k : Nat) : List Int := (List.range k).foldl (fun l j => l.set j (xorB (l.getD j 0) (ms.getD j 0))) xs

theorem xorS_succ (xs ms : List Int) (k : Nat) : xorS xs ms (k + 1) = (xorS xs ms k).set k (xorB ((xorS xs ms k).getD k 0) (ms.getD k 0)) := by
  simp [xorS, List.range_succ]

theorem xorS_length (xs ms : List Int) (k : Nat) : (xorS xs ms k).length = xs.length := by
  induction k with
  | zero => rfl
  | succ k ih => rw [xorS_succ, List.length_set, ih]

theorem xorS_rng {xs ms : List Int} (h : ∀ x ∈ xs, 0 ≤ x ∧ x ≤ 255) (k : Nat) : ∀ x ∈ xorS xs ms k, 0 ≤ x ∧ x ≤ 255 := by
  induction k with
  | zero => exact h
  | succ k ih =>
    intro x hx
    rw [xorS_succ] at hx
    rcases List.mem_or_eq_of_mem_set hx with hx | rfl
    · exact ih x hx
    · exact bits_within .xor .u8 _ _

theorem secOf_set {laid : List Int} {s t j : Nat} (hj : j < 256) (y : Int) : secOf (laid.set (256 * s + j) y) t = if s = t then (secOf laid t).set j y else secOf laid t := by
  apply List.ext_getElem?
  intro i
  by_cases hst : s = t
  · subst hst
    rw [if_pos rfl, secOf_get, List.getElem?_set, List.getElem?_set, secOf_get]
    by_cases hij : j = i
    · subst hij
      have hl : (j < (secOf laid s).length) ↔ (256 * s + j < laid.length) := by unfold secOf; simp; omega
      simp only [hj, if_true, hl]
    · simp only [hij, if_false]
      split
      · rw [if_neg (by omega)]
      · rfl
  · rw [if_neg hst, secOf_get, secOf_get]
    split
    · rw [List.getElem?_set, if_neg (by omega)]
    · rfl

theorem secOf_xorTo (laid : List Int) (s t : Nat) (ms : List Int) (k : Nat) (hk : k ≤ 256) : secOf (xorTo laid s ms k) t = if s = t then xorS (secOf laid t) ms k else secOf laid t := by
  induction k with
  | zero => split <;> rfl
  | succ k ih =>
    rw [xorTo_succ, secOf_set (by omega), ih (by omega)]
    by_cases hst : s = t
    · subst hst
      simp only [if_true]
      rw [xorS_succ]
      congr 2
      have h1 := ih (by omega)
      rw [if_pos rfl] at h1
      rw [← h1, List.getD_eq_getElem?_getD, List.getD_eq_getElem?_getD, secOf_get, if_pos (by omega)]
    · simp only [hst, if_false]

theorem secStrs_xor {laid : List Int} {n s : Nat} {ms : List Int} {k : Nat} (hs : s < n) (hk : k ≤ 256) : secStrs (xorTo laid s ms k) n = (secStrs laid n).set s (strOfNums (xorS (secOf laid s) ms k)) := by
  apply List.ext_getElem?
  intro i
  rw [List.getElem?_set]
  unfold secStrs
  by_cases hi : i < n
  · by_cases he : s = i
    · subst he
      simp [hs, secOf_xorTo _ _ _ _ _ hk]
    · simp [he, hi, secOf_xorTo _ _ _ _ _ hk]
  · simp [hi]
    intro he
    omega

/-- A row of bytes that a conversion has made. -/
structure Made (w : World) (g : Nat) (xs : List Int) : Prop where
  cell : ∀ i, i < xs.length → w.cell? ⟨g, i, none⟩ = some (.int .u8 (xs.getD i 0))
  free : ∀ i, i < xs.length → w.frozen? ⟨g, i, none⟩ = false

theorem Made.set {w : World} {g : Nat} {xs : List Int} (h : Made w g xs) {k : Nat} (hk : k < xs.length) (y : Int) : Made (w.setCell ⟨g, k, none⟩ (.int .u8 y)) g (xs.set k y) := by
  refine ⟨fun i hi => ?_, fun i hi => ?_⟩
  · rw [List.length_set] at hi
    by_cases he : i = k
    · subst he
      rw [World.cell?_setCell_same' _ _ _ (by rw [h.cell i hi]; rfl)]
      simp [List.getD, hi]
    · have h1 := h.cell i hi
      have h2 : (w.setCell ⟨g, k, none⟩ (.int .u8 y)).cell? ⟨g, i, none⟩ = w.cell? ⟨g, i, none⟩ := World.cell?_setCell_other w ⟨g, k, none⟩ ⟨g, i, none⟩ (.int .u8 y) (fun h => he (by cases h; rfl))
      rw [h2, h1]
      simp [List.getD, List.getElem?_set, Ne.symm he]
  · rw [List.length_set] at hi
    rw [World.frozen?_setCell]
    exact h.free i hi

theorem Made.drew {w : World} {g : Nat} {xs : List Int} (h : Made w g xs) : Made w.drew g xs := ⟨h.cell, h.free⟩

theorem Made.stays {w w' : World} {g : Nat} {xs : List Int} (h : Made w g xs) (h0 : 0 < xs.length) (hb : Below w.heap.size w w') : Made w' g xs := by
  have hlt := World.block_lt_of_cell? _ _ (h.cell 0 h0)
  exact ⟨fun i hi => (hb.cell (p := ⟨g, i, none⟩) hlt).trans (h.cell i hi), fun i hi => by rw [World.frozen?_of_block (w := w) (hb.block g hlt)]; exact h.free i hi⟩

theorem Made.bs {w : World} {g c : Nat} {xs : List Int} (h : Made w g xs) (hr : ∀ x ∈ xs, 0 ≤ x ∧ x ≤ 255) (hc : xs.length ≤ c) (hm : c ≤ maxLen) : Bs w (some ⟨g, 0, none⟩) c xs :=
  ⟨hr, hc, hm, by simp, .inr ⟨g, 0, rfl, fun i hi => by rw [Nat.zero_add]; exact h.cell i hi⟩⟩

section
variable {G : Nat → Prop} {S : DS} {sa : Option Addr} {sc : Nat} {wa : Option Addr} {wc n : Nat}

set_option maxRecDepth 100000 in
set_option maxHeartbeats 600000 in
theorem rrot_arg (i : Int) (ba : Option Addr) (bn bc : Nat) (sn : Nat) (wn : Nat) (fused off : Bool) (left : Nat) (w : World) (hi : ¬ ((0 ≤ i ∧ i < (sn : Int)) ∧ bn ≤ 256)) :
    Calls Tryd.prog 25 #[.agg #[.slice sa sn sc, .slice wa wn wc, .bool fused, .int .i64 (left : Int), .bool off], .int .i64 i, .slice ba bn bc] w fun e w' =>
      e = .returned (.tuple #[.agg #[.slice sa sn sc, .slice wa wn wc, .bool fused, .int .i64 (left : Int), .bool off], .int .i64 1]) ∧ Below w.heap.size w w' := by
  rcases (by omega : i < 0 ∨ 0 ≤ i ∧ (sn : Int) ≤ i ∨ 0 ≤ i ∧ i < (sn : Int) ∧ 256 < bn) with h | ⟨h1, h2⟩ | ⟨h1, h2, h3⟩
  · clear hi
    go_enter Tryd.func25, Tryd.ntmps25
    go_wp2
    refine bodyPost_ret (results_blk_tmp rfl _ _ _ rfl rAgg rSize (Blk.newAt (by simp) rfl) rfl) rfl ?_
    exact ⟨rfl, ((Below.refl _ _).alloc (Nat.le_refl _) _).alloc (by simp) _⟩
  · clear hi
    have h1' : ¬ (i < 0) := by omega
    go_enter Tryd.func25, Tryd.ntmps25
    go_wp2
    refine bodyPost_ret (results_blk_tmp rfl _ _ _ rfl rAgg rSize (Blk.newAt (by simp) rfl) rfl) rfl ?_
    exact ⟨rfl, ((Below.refl _ _).alloc (Nat.le_refl _) _).alloc (by simp) _⟩
  · clear hi
    have h1' : ¬ (i < 0) := by omega
    have h2' : ¬ ((sn : Int) ≤ i) := by omega
    have h3' : (256 : Int) < (bn : Int) := by omega
    clear h3
    go_enter Tryd.func25, Tryd.ntmps25
    go_wp2
    refine bodyPost_ret (results_blk_tmp rfl _ _ _ rfl rAgg rSize (Blk.newAt (by simp) rfl) rfl) rfl ?_
    exact ⟨rfl, ((Below.refl _ _).alloc (Nat.le_refl _) _).alloc (by simp) _⟩

set_option maxRecDepth 100000 in
set_option maxHeartbeats 1000000 in
theorem rrot_go (s : Nat) (ma : Option Addr) (mc : Nat) (ms : List Int) (sn wn : Nat) (HSN : Hid (sn = n)) (fused off : Bool) (left : Nat) (w : World) (hok : S.Ok n) (hsn : s < n) (hs : SsAt w G sa (secStrs S.laid n)) (hB : Bs w ma mc ms) (hm : ms.length ≤ 256) :
    Calls Tryd.prog 25 #[.agg #[.slice sa sn sc, .slice wa wn wc, .bool fused, .int .i64 (left : Int), .bool off], .int .i64 (s : Int), .slice ma ms.length mc] w fun e w' =>
      ∃ sa' sc', e = .returned (.tuple #[.agg #[.slice sa' sn sc', .slice wa wn wc, .bool fused, .int .i64 (left : Int), .bool off], .int .i64 0]) ∧ SsAt w' (fun k => w.heap.size ≤ k) sa' (secStrs (xorTo S.laid s ms ms.length) n) ∧ Below w.heap.size w w' := by
  have h1' : ¬ ((s : Int) < 0) := by omega
  have h2' : ¬ ((sn : Int) ≤ (s : Int)) := by have := HSN.out; omega
  have h2'' : (s : Int) < (sn : Int) := by have := HSN.out; omega
  have h3' : ¬ ((256 : Int) < (ms.length : Int)) := by omega
  obtain ⟨W, hWe⟩ : ∃ W, W = (w.alloc (.cells #[.slice sa sn sc, .slice wa wn wc, .bool fused, .int .i64 (left : Int), .bool off] 48)).alloc (.cells #[.slice none 0 0, .slice none 0 0, .bool false, .int .i64 0, .bool false] 48) := ⟨_, rfl⟩
  have hbW : Below w.heap.size w W := by rw [hWe]; exact ((Below.refl _ _).alloc (Nat.le_refl _) _).alloc (by simp) _
  have hX : Blk 48 W w.heap.size [.slice sa sn sc, .slice wa wn wc, .bool fused, .int .i64 (left : Int), .bool off] := by rw [hWe]; exact (Blk.newAt rfl rfl).alloc _
  have hY : Blk 48 W (w.heap.size + 1) [.slice none 0 0, .slice none 0 0, .bool false, .int .i64 0, .bool false] := by rw [hWe]; exact Blk.newAt (by simp) rfl
  have hsW : W.heap.size = w.heap.size + 2 := by rw [hWe]; simp
  have hn16 := hok.lo
  have hn512 := hok.hi
  obtain ⟨sb, so, rfl, hG, hcs⟩ := hs.keep (w' := W) (G' := G) (by rw [secStrs_length]; omega) (fun k hg hl => ⟨hbW.block k hl, hg⟩)
  have hc : W.cell? ⟨sb, so + s, none⟩ = some (.string (strOfNums (secOf S.laid s))) := by
    rw [hcs s (by rw [secStrs_length]; exact hsn)]
    simp [secStrs, List.getD, hsn]
  have hsl : (secOf S.laid s).length = 256 := secOf_length (by have := hok.len; omega)
  have hsr : ∀ x ∈ secOf S.laid s, 0 ≤ x ∧ x ≤ 255 := fun x hx => hok.rng x (List.mem_of_mem_drop (List.mem_of_mem_take hx))
  have hSW : SsAt W G (some ⟨sb, so, none⟩) (secStrs S.laid n) := ⟨sb, so, rfl, hG, hcs⟩
  have HXO := secStrs_xor (laid := S.laid) (ms := ms) hsn hm
  obtain ⟨Y, hYe⟩ : ∃ Y, Y = secOf S.laid s := ⟨_, rfl⟩
  rw [← hYe] at hc hsl hsr HXO
  obtain ⟨c, w2, hrun, hB2, hb2, hf2⟩ := conv_bs Y hsr (by omega) W
  rw [hsl] at hrun
  have hM2 : Made w2 W.heap.size (xorS Y ms 0) := ⟨fun i hi => by obtain ⟨b, o, he, h5⟩ := hB2.cell (by omega); cases he; have := h5 i hi; rwa [Nat.zero_add] at this, fun i hi => hf2 i hi⟩
  rw [hsW] at hrun hM2
  have hcap := hB2.cap
  have hcapm := hB2.capm
  have HWE : Hid (W = _) := hWe
  clear hWe hYe hcs hs hG
  rw [HWE.out] at hrun
  obtain ⟨z0, z1, z2, z3, z4⟩ := box_cells hX
  rw [HWE.out] at z0 z1 z2 z3 z4 hc
  go_enter Tryd.func25, Tryd.ntmps25
  go_wp2
  go_loopw [9] (fun x wr => ∃ k : Nat, x = .int .i64 k ∧ k ≤ ms.length ∧ Made wr (w.heap.size + 2) (xorS Y ms k) ∧ Below (w.heap.size + 2) W wr) (fun x _ => ms.length - (intOf x).toNat)
  case atStart => exact ⟨0, rfl, Nat.zero_le _, hM2, hsW ▸ hb2⟩
  case round =>
    rename_i hrel
    rw [← HWE.out] at z0 z1 z2 z3 z4 hc hrun
    clear hM2 hB2 hf2 hrun
    obtain ⟨k, rfl, hk, hM, hbr⟩ := hrel
    have hXr := hX.stays (hsW ▸ hbr)
    have hYr := hY.stays (hsW ▸ hbr)
    have hb0r : Below w.heap.size w wr := hbW.trans (hbr.mono (by omega))
    have hxl := xorS_length Y ms k
    have hszr := hbr.size
    by_cases hlt : k < ms.length
    · have hlt' : (k : Int) < (ms.length : Int) := by omega
      have hlt2 : (k : Int) < 256 := by omega
      obtain ⟨mb, mo, rfl, hmc⟩ := (hB.stays hb0r).cell (by omega)
      have hck := hmc k hlt
      have hcl := hM.cell k (by omega)
      have hfl := hM.free k (by omega)
      have HST : Hid (xorS Y ms (k + 1) = (xorS Y ms k).set k (bits BinOp.xor IntKind.u8 ((xorS Y ms k).getD k 0) (ms.getD k 0))) := xorS_succ Y ms k
      have hset := fun y => hM.set (k := k) (by omega) y
      generalize (xorS Y ms k).getD k 0 = X0 at *
      generalize ms.getD k 0 = M0 at *
      clear hmc hxl
      go_wp2
      go_still_tail 12, (by kernel_rfl)
      go_wp2
      go_roundw
      case rel => exact ⟨k + 1, by go_num, by omega, by rw [HST.out]; exact (hset _).drew, (hbr.setCell (p := ⟨w.heap.size + 2, k, none⟩) (Nat.le_refl _) _).drew⟩
      case measure => simp [intOf]; omega
    · have hlt' : ¬ ((k : Int) < (ms.length : Int)) := by omega
      have hkk : k = ms.length := by omega
      rw [hkk] at hM hxl
      obtain ⟨R, hR⟩ : ∃ R, R = xorS Y ms ms.length := ⟨_, rfl⟩
      have hRr := xorS_rng (ms := ms) hsr ms.length
      rw [← hR] at hM hRr hxl HXO
      have h14 : ∀ o : Obj, (wr.alloc o).cell? ⟨w.heap.size, 0, none⟩ = some (.slice (some ⟨sb, so, none⟩) sn sc) := fun o => (hXr.alloc o).cell 0
      have hown0 : (wr.alloc (.cells #[] 9)).ownsRow wr.heap.size 9 1 (.slice (some ⟨wr.heap.size, 0, none⟩) 0 0) 0 [] := World.ownsRow_made wr #[] 0 (Nat.le_refl _) (by decide) rfl
      have hbA : Below wr.heap.size wr (wr.alloc (.cells #[] 9)) := (Below.refl _ _).alloc (Nat.le_refl _) _
      have HKK : Hid (k = ms.length) := hkk
      have HXX : Hid (secStrs (xorTo S.laid s ms ms.length) n = (secStrs S.laid n).set s (strOfNums R)) := HXO
      have hRl : R.length = 256 := by omega
      clear hkk hR HXO hxl
      go_wp2_with (at_builtin; go_must (refine wpList_append_ss (w0 := wr) (by rfl) (.tmp 50) (.tmp 52) (by rfl) wr.heap.size _ (by rfl) hown0 G (some ⟨sb, so, none⟩) sn sc (secStrs S.laid n) (by rfl) (by rw [HSN.out, secStrs_length]) (hSW.keep (G' := G) (by rw [secStrs_length]; omega) (fun k hg hl => ⟨(hbr.block k (by omega)).symm ▸ (hbA.block k (by omega)), hg⟩)) (by rw [secStrs_length]; omega) (by simp) hbA ?_); rw [secStrs_length]; intro v4 w4 hown4 hb4
                   obtain ⟨g, cg, hv4, hg4, _⟩ := ss_of_owns (xs := secStrs S.laid n) (by rw [secStrs_length]; exact hown4) (by rw [secStrs_length]; omega)
                   rw [secStrs_length, ← HSN.out] at hv4
                   subst hv4
                   have hM4 := hM.stays (by omega) hb4
                   have hcv := (hM4.bs hRr (c := c) (by omega) hcapm).conv (P := Tryd.prog) 256 hRl.symm 27 5 Tryd.underlying27 Tryd.underlying5 9 Tryd.underlying9
                   have hX4 := hXr.stays hb4
                   have hY4 := hYr.stays hb4
                   have hcs4 : ∃ u, w4.cell? ⟨g, s, none⟩ = some u := by
                     rw [HSN.out] at hown4
                     have h5 := hown4.cellAt s (by omega)
                     rw [List.getElem?_map, List.getElem?_eq_getElem (by rw [secStrs_length]; exact hsn)] at h5
                     exact ⟨_, h5⟩
                   obtain ⟨u4, hu4⟩ := hcs4
                   have hfz4 := (HSN.out ▸ hown4).frozenAt s
                   obtain ⟨x0, x1, x2, x3, x4⟩ := box_cells hX4
                   obtain ⟨y0, y1, y2, y3, y4⟩ := box_cells hY4
                   have fx := hX4.free
                   have fy := hY4.free
                   have hg5 : w.heap.size + 1 < g := by omega
                   have hgx : (g = w.heap.size) = False := eq_false (by omega)
                   have hgx' : (w.heap.size = g) = False := eq_false (by omega)
                   have hgy : (g = w.heap.size + 1) = False := eq_false (by omega)
                   have hgy' : (w.heap.size + 1 = g) = False := eq_false (by omega))
      have hsn2 := HSN.out
      subst hsn2
      have hst := (hown4.stored s (.string (strOfNums R))).1
      rw [← List.map_set, ← HXX.out] at hst
      obtain ⟨g', cg', hv, hg', hSS⟩ := ss_of_owns (xs := secStrs (xorTo S.laid s ms ms.length) sn) (by rw [secStrs_length]; exact hst) (by rw [secStrs_length]; omega)
      simp only [secStrs_length, Value.slice.injEq, Option.some.injEq, Addr.mk.injEq, and_true, true_and] at hv
      obtain ⟨rfl, rfl⟩ := hv
      have hb40 : Below w.heap.size w w4 := hb0r.trans (hb4.mono hb0r.size)
      have hA : But g w4 (w4.setCell ⟨g, s, none⟩ (.string (strOfNums R))) := (But.refl _ _).setCell _ _
      have hBt : But w.heap.size (w4.setCell ⟨g, s, none⟩ (.string (strOfNums R))) ((w4.setCell ⟨g, s, none⟩ (.string (strOfNums R))).setCell ⟨w.heap.size, 0, none⟩ (.slice (some ⟨g, 0, none⟩) sn cg)) := (But.refl _ _).setCell _ _
      have hCt := put5_but ((w4.setCell ⟨g, s, none⟩ (.string (strOfNums R))).setCell ⟨w.heap.size, 0, none⟩ (.slice (some ⟨g, 0, none⟩) sn cg)) (w.heap.size + 1) (.slice (some ⟨g, 0, none⟩) sn cg) (.slice wa wn wc) (.bool fused) (.int .i64 (left : Int)) (.bool off)
      refine bodyPost_ret (results_blk_tmp rfl _ _ _ rfl rAgg rSize (put5_same ((hY4.but hA (by omega)).but hBt (by omega)) (.slice (some ⟨g, 0, none⟩) sn cg) (.slice wa wn wc) (.bool fused) (.int .i64 (left : Int)) (.bool off)) rfl) rfl ?_
      have hbB : Below w.heap.size w _ := (hb40.trans (hA.below (by omega) hb40.size)).trans (hBt.below (Nat.le_refl _) (by simpa using hb40.size))
      refine ⟨_, ⟨_, rfl⟩, hSS.keep (by rw [secStrs_length]; omega) (fun k hg hl => ⟨?_, ?_⟩), hbB.trans (hCt.below (by omega) hbB.size)⟩
      · exact (hCt.block k (by omega) (by simpa using hl)).trans (hBt.block k (by omega) hl)
      · omega

theorem rrot_run {w : World} {cs : List Value} (h : Rf w G cs S) (i : Int) (ma : Option Addr) (mc : Nat) (ms : List Int) (hB : Bs w ma mc ms) :
    Calls Tryd.prog 25 #[.agg cs.toArray, .int .i64 i, .slice ma ms.length mc] w fun e w' => ∃ cs', e = .returned (.tuple #[.agg cs'.toArray, .int .i64 (S.rot i ms).2]) ∧ RThen G w w' cs' (S.rot i ms).1 := by
  have h0 := h
  obtain ⟨n, sa, sc, wa, wc, hok, rfl, hs, hw⟩ := h
  have hn : S.laid.length / 256 = n := by rw [hok.len]; omega
  have hhas : S.has i ↔ (0 ≤ i ∧ i < (n : Int)) := by unfold DS.has; rw [hn]
  unfold DS.rot
  by_cases h2 : S.has i ∧ ms.length ≤ 256
  · rw [if_neg (by simpa using h2)]
    obtain ⟨hh, hm⟩ := h2
    obtain ⟨hi0, hi1⟩ := hhas.1 hh
    obtain ⟨s, rfl⟩ : ∃ s : Nat, i = (s : Int) := ⟨i.toNat, by omega⟩
    unfold rcells at h0 ⊢
    refine (rrot_go (G := G) (S := S) (n := n) (sa := sa) (sc := sc) (wa := wa) (wc := wc) s ma mc ms n S.ws.length rfl S.fused S.off S.left w hok (by omega) hs hB hm).mono ?_
    rintro e w' ⟨sa', sc', rfl, hS', hb⟩
    simp only [Int.toNat_natCast]
    refine ⟨[.slice sa' n sc', .slice wa S.ws.length wc, .bool S.fused, .int .i64 (S.left : Int), .bool S.off], rfl, ⟨n, sa', sc', wa, wc, ⟨?_, hok.lo, hok.hi, xorTo_rng hok.rng _, hok.ws, hok.left⟩, rfl, hS'.mono (fun k hk => .inr hk), hw.keep (fun k hg hl => ⟨hb.block k hl, .inl hg⟩)⟩, hb⟩
    simp only
    rw [xorTo_length]
    exact hok.len
  · rw [if_pos (by simpa using h2)]
    unfold rcells at h0 ⊢
    refine (rrot_arg (sa := sa) (sc := sc) (wa := wa) (wc := wc) i ma ms.length mc n S.ws.length S.fused S.off S.left w (by rw [hhas] at h2; exact h2)).mono ?_
    rintro e w' ⟨rfl, hb⟩
    exact ⟨_, rfl, rthen_same h0 hb⟩

end
end Go.Proofs.YthbcphalokoknaaDoor

/-
  The program's disk and the document's one beside each other.
-/

namespace Go.Proofs.YthbcphalokoknaaDoor
set_option linter.unusedSimpArgs false
set_option linter.unusedVariables false
open Go.RowKit

/-- Both disks, the program's among the blocks from B on, with no block in common: the program's at p, with blocks of F, holds S; the document's in the cells cs, with blocks of G, holds T. -/
structure Pair (B : Nat) (w : World) (F G : Nat → Prop) (p : Nat) (S : DS) (cs : List Value) (T : DS) : Prop where
  low : ∀ k, F k → B ≤ k ∧ k < w.heap.size
  lowG : ∀ k, G k → k < w.heap.size
  dis : ∀ k, F k → G k → False
  dk : Dk w F p S
  rf : Rf w G cs T

section
variable {B p : Nat} {w w' : World} {F G : Nat → Prop} {S S' T T' : DS} {cs cs' : List Value}

theorem Pair.stays (h : Pair B w F G p S cs T) (hb : Below w.heap.size w w') : Pair B w' F G p S cs T :=
  ⟨fun k hk => ⟨(h.low k hk).1, Nat.lt_of_lt_of_le (h.low k hk).2 hb.size⟩, fun k hk => Nat.lt_of_lt_of_le (h.lowG k hk) hb.size, h.dis, h.dk.stays hb, h.rf.stays hb⟩

/-- A call of the program's disk. -/
theorem Pair.disk (h : Pair B w F G p S cs T) (hB : B ≤ w.heap.size) (ht : Then F w w' p S') :
    ∃ F', Pair B w' F' G p S' cs T ∧ (∀ k, F' k → F k ∨ w.heap.size ≤ k) ∧ Below B w w' := by
  refine ⟨fun k => (F k ∨ w.heap.size ≤ k) ∧ k < w'.heap.size, ⟨fun k hk => ⟨?_, hk.2⟩, fun k hk => Nat.lt_of_lt_of_le (h.lowG k hk) ht.2.size, fun k hk hg => ?_, ht.1.mono (fun k hk hl => ⟨hk, hl⟩), ?_⟩, fun k hk => hk.1, ht.2.below hB (fun k hk => (h.low k hk).1)⟩
  · rcases hk.1 with h1 | h1
    · exact (h.low k h1).1
    · omega
  · rcases hk.1 with h1 | h1
    · exact h.dis k h1 hg
    · have := h.lowG k hg
      omega
  · exact h.rf.keep (fun k hg hl => ⟨ht.2.block k (fun hf => h.dis k hf hg) hl, hg⟩)

/-- A call of the document's disk. -/
theorem Pair.ref (h : Pair B w F G p S cs T) (ht : RThen G w w' cs' T') : Pair B w' F (fun k => (G k ∨ w.heap.size ≤ k) ∧ k < w'.heap.size) p S cs' T' := by
  refine ⟨fun k hk => ⟨(h.low k hk).1, Nat.lt_of_lt_of_le (h.low k hk).2 ht.2.size⟩, fun k hk => hk.2, fun k hk hg => ?_, h.dk.stays ht.2, ht.1.keep (fun k hg hl => ⟨rfl, hg, hl⟩)⟩
  rcases hg.1 with hg | hg
  · exact h.dis k hk hg
  · have := (h.low k hk).2
    omega

/-- Both disks stay where a block turns that is neither's. -/
theorem Pair.but {g : Nat} (h : Pair B w F G p S cs T) (hb : But g w w') (hF : ¬ F g) (hG : ¬ G g) : Pair B w' F G p S cs T :=
  ⟨fun k hk => ⟨(h.low k hk).1, Nat.lt_of_lt_of_le (h.low k hk).2 hb.size⟩, fun k hk => Nat.lt_of_lt_of_le (h.lowG k hk) hb.size, h.dis, h.dk.keep (fun k hk hl => hb.block k (fun e => hF (e ▸ hk)) hl), h.rf.keep (fun k hk hl => ⟨hb.block k (fun e => hG (e ▸ hk)) hl, hk⟩)⟩

end

/-- A block that is not the disk's stays. -/
theorem box_keep {X : Nat} {w w' : World} {F : Nat → Prop} {t : TypeId} {vs : List Value} (hf : Frm F w w') (hX : Blk t w X vs) (hn : ¬ F X) : Blk t w' X vs := by
  have hl := hX.lt
  unfold Blk at *
  rw [hf.block X hn hl]
  exact hX

end Go.Proofs.YthbcphalokoknaaDoor

/-
  The walk over label.Choose.
-/

namespace Go.Proofs.YthbcphalokoknaaDoor
set_option linter.unusedSimpArgs false
set_option linter.unusedVariables false
set_option maxRecDepth 100000
open Go.RowKit

/-- What a sector's bytes make of what was the best till then. -/
def stepC (i : Nat) (xs : List Int) (s : Lb × Nat) : Lb × Nat :=
  if ¬ (decL xs).2 = 0 then s else if plcd (decL xs).1.t i = false then s
  else if s.2 = 0 then ((decL xs).1, 1) else if s.1.t < (decL xs).1.t then ((decL xs).1, 1) else if (decL xs).1.t = s.1.t then (s.1, s.2 + 1) else s
def scanC (S : DS) : Nat → Lb × Nat
  | 0 => (Lb.zero, 0)
  | k + 1 => stepC k (readW S.laid S.ws k) (scanC S k)
/-- Choose's answer: the label, how many there are, the error. -/
def chooseL (S : DS) : (Lb × Nat) × Nat := if S.off then ((Lb.zero, 0), 8) else if (scanC S 4).2 = 0 then ((Lb.zero, 0), 15) else (scanC S 4, 0)

theorem stepC_ok {i : Nat} {xs : List Int} {s : Lb × Nat} (hr : ∀ x ∈ xs, 0 ≤ x ∧ x ≤ 255) (hs : s.1.ok) : (stepC i xs s).1.ok := by
  unfold stepC
  split
  · exact hs
  · split
    · exact hs
    · split
      · exact decL_ok hr
      · split
        · exact decL_ok hr
        · split
          · exact hs
          · exact hs
theorem stepC_le {i : Nat} {xs : List Int} {s : Lb × Nat} {n : Nat} (hs : s.2 ≤ n) : (stepC i xs s).2 ≤ n + 1 := by
  unfold stepC
  repeat' split
  all_goals (try simp only) <;> omega
theorem scanC_ok {S : DS} {n : Nat} (h : S.Ok n) : ∀ k, k ≤ 4 → (scanC S k).1.ok
  | 0, _ => Lb.zero_ok
  | k + 1, hk => stepC_ok (readW_ok h (by have := h.lo; omega)).2 (scanC_ok h k (by omega))
theorem scanC_le (S : DS) : ∀ k, (scanC S k).2 ≤ k
  | 0 => Nat.le_refl _
  | k + 1 => stepC_le (scanC_le S k)
theorem chooseL_ok {S : DS} {n : Nat} (h : S.Ok n) : (chooseL S).1.1.ok := by
  unfold chooseL
  split
  · exact Lb.zero_ok
  · split
    · exact Lb.zero_ok
    · exact scanC_ok h 4 (by omega)

theorem DS.read_at {S : DS} {n k : Nat} (h : S.Ok n) (hoff : S.off = false) (hk : k < n) : S.read (k : Int) = (readW S.laid S.ws k, 0) := by
  have hh : S.has (k : Int) := by
    unfold DS.has
    rw [h.len, Nat.mul_div_cancel_left _ (by omega)]
    omega
  unfold DS.read
  rw [hoff, if_neg (by decide), if_neg (by simpa using hh)]
  simp

section
variable {w : World} {F : Nat → Prop} {p : Nat} {S : DS}

set_option maxHeartbeats 8000000 in
theorem choose_off (h : Dk w F p S) (hl : S.ws.length ≤ 1000000) (hoff : S.off = true) :
    Calls Tryd.prog 28 #[.pointer (some ⟨p, 0, none⟩)] w fun e w' => e = .returned (.tuple #[.agg (Lb.zero.vs none 0).toArray, .int .i64 0, .int .i64 8]) ∧ Below w.heap.size w w' := by
  have hzl := zero_vs_len
  obtain ⟨zs, hzs⟩ : ∃ zs, zs = Lb.zero.vs none 0 := ⟨_, rfl⟩
  have HBU : Hid (∀ w : World, (Instr.build 29 #[]).run Tryd.prog w = .ok (.agg zs.toArray) w) := by rw [hzs]; exact build_label0
  have HAL : Hid (∀ w : World, (Instr.alloc 29 true (.tuple #[])).run Tryd.prog w = .ok (.pointer (some ⟨w.heap.size, 0, none⟩)) (w.alloc (.cells zs.toArray 29))) := by rw [hzs]; exact alloc_label0
  have hzo : ∀ v ∈ zs, v.oneCell' = true := by rw [hzs]; exact Lb.vs_one _ _ _
  have HZS : Hid (zs = Lb.zero.vs none 0) := hzs
  rw [← hzs] at hzl
  clear hzs
  have hread : ∀ u, Below w.heap.size w u → Calls Tryd.prog 32 #[.pointer (some ⟨p, 0, none⟩), .int .i64 0] u fun e w' => ∃ a c, e = .returned (.tuple #[.slice a 0 c, .int .i64 8]) ∧ Below u.heap.size u w' := fun u hu => by
    refine (dk_read (h.stays hu) hl 0).mono ?_
    rintro e w' ⟨a, c, rfl, _, hb⟩
    have : S.read 0 = ([], 8) := by unfold DS.read; rw [hoff]; rfl
    rw [this]
    exact ⟨a, c, rfl, hb⟩
  have hE : Hid (∀ w', Below w.heap.size w w' → True) := fun _ _ => trivial
  rw [← HZS.out]
  go_enter Tryd.func28, Tryd.ntmps28
  go_wp2_with (first
    | ((with_reducible show wpList _ _ _ (Oper.mk _ (Op.alloc _) _ _ _ _ :: _) _ _); refine wpList_alloc0 (by rfl) 29 (by rfl) (some 2) (by rfl) _ HAL.out ?_; intro w1 hR1 hb1 hs1)
    | ((with_reducible show wpList _ _ _ (Oper.mk _ (Op.alloc _) _ _ _ _ :: _) _ _); refine wpList_alloc0 (by rfl) 29 (by rfl) (some 5) (by rfl) _ HAL.out ?_; intro w2 hT2 hb2 hs2
       have hR2 := hR1.stays hb2
       have hb2' := below_then hb1 hb2
       rw [hs1] at hT2))
  go_loopw [6, 11] (fun n i wr => n = .int .i64 0 ∧ i = .int .i64 0 ∧ wr = w2) (fun _ _ _ => 0)
  case atStart => exact ⟨rfl, rfl, rfl⟩
  case round =>
    rename_i hrel
    obtain ⟨rfl, rfl, rfl⟩ := hrel
    have hrd := hread _ hb2'
    go_wp2_with (first
      | (go_at_call 32; go_must (refine hrd.mono ?_); rintro e w3 ⟨a3, c3, rfl, hb3⟩
         have hR3 := hR2.stays hb3)
      | ((with_reducible show wpList _ _ _ (Oper.mk _ (Op.build _ _) _ _ _ _ :: _) _ _); refine wpList_build0 (by rfl) 29 (by rfl) _ HBU.out ?_)
      | ((with_reducible show wpList _ _ _ (Oper.mk _ (Op.store _ _ _) _ _ _ _ :: _) _ _); refine wpList_store_blk (by rfl) (.tmp 2) (.tmp 22) 29 (by rfl) _ 0 37 (by rfl) zs (by rfl) size_label hR3 hzl (by omega) hzo _ (whole_store hzl) ?_
         intro wZ hRZ hbutZ hsZ))
    have hb3' := below_then hb2' hb3
    exact bodyPost_ret_blk3 rfl rfl (by rfl) (by rfl) (by rfl) agg_label size_label hRZ hzl ⟨rfl, hb3'.trans (hbutZ.below (Nat.le_refl _) hb3'.size)⟩

set_option maxHeartbeats 40000000 in
theorem choose_on (h : Dk w F p S) (hl : S.ws.length ≤ 1000000) (hoff : S.off = false) (hV : Vars w) :
    Calls Tryd.prog 28 #[.pointer (some ⟨p, 0, none⟩)] w fun e w' => ∃ a c, e = .returned (.tuple #[.agg ((chooseL S).1.1.vs a c).toArray, .int .i64 ((chooseL S).1.2 : Int), .int .i64 ((chooseL S).2 : Int)]) ∧ Bs w' a c (chooseL S).1.1.m ∧ Below w.heap.size w w' := by
  obtain ⟨n, hok⟩ := h.ok
  have hzl := zero_vs_len
  obtain ⟨zs, hzs⟩ : ∃ zs, zs = Lb.zero.vs none 0 := ⟨_, rfl⟩
  have HBU : Hid (∀ w : World, (Instr.build 29 #[]).run Tryd.prog w = .ok (.agg zs.toArray) w) := by rw [hzs]; exact build_label0
  have HAL : Hid (∀ w : World, (Instr.alloc 29 true (.tuple #[])).run Tryd.prog w = .ok (.pointer (some ⟨w.heap.size, 0, none⟩)) (w.alloc (.cells zs.toArray 29))) := by rw [hzs]; exact alloc_label0
  have hzo : ∀ v ∈ zs, v.oneCell' = true := by rw [hzs]; exact Lb.vs_one _ _ _
  have HZS : Hid (zs = Lb.zero.vs none 0) := hzs
  rw [← hzs] at hzl
  clear hzs
  have hread : ∀ (u : World) (k : Nat), k < 4 → Below w.heap.size w u → Calls Tryd.prog 32 #[.pointer (some ⟨p, 0, none⟩), .int .i64 (k : Int)] u fun e w' => ∃ a c, e = .returned (.tuple #[.slice a 256 c, .int .i64 0]) ∧ Bs w' a c (readW S.laid S.ws k) ∧ Below u.heap.size u w' := fun u k hk hu => by
    have hk' : k < n := by have := hok.lo; omega
    refine (dk_read (h.stays hu) hl k).mono ?_
    rintro e w' ⟨a, c, rfl, ho, hb⟩
    rw [DS.read_at hok hoff hk'] at ho ⊢
    obtain ⟨h1, h2⟩ := readW_ok hok hk'
    simp only at ho ⊢
    rw [h1] at ho ⊢
    exact ⟨a, c, rfl, (Out.bs ho h2).2.1, hb⟩
  go_enter Tryd.func28, Tryd.ntmps28
  go_wp2_with (first
    | ((with_reducible show wpList _ _ _ (Oper.mk _ (Op.alloc _) _ _ _ _ :: _) _ _); refine wpList_alloc0 (by rfl) 29 (by rfl) (some 2) (by rfl) _ HAL.out ?_; intro w1 hR1 hb1 hs1)
    | ((with_reducible show wpList _ _ _ (Oper.mk _ (Op.alloc _) _ _ _ _ :: _) _ _); refine wpList_alloc0 (by rfl) 29 (by rfl) (some 5) (by rfl) _ HAL.out ?_; intro w2 hT2 hb2 hs2
       have hR2 := hR1.stays hb2
       have hb2' := below_then hb1 hb2
       rw [hs1] at hT2))
  go_loopw [6, 11] (fun c i wr => ∃ k : Nat, k ≤ 4 ∧ i = .int .i64 k ∧ c = .int .i64 ((scanC S k).2 : Int) ∧ ∃ aB cB, Blk 29 wr (w.heap.size + 1) ((scanC S k).1.vs aB cB) ∧ (Bs wr aB cB (scanC S k).1.m ∧ ∀ x, aB = some x → w.heap.size + 2 ≤ x.block) ∧ Blk 29 wr w.heap.size zs ∧ Below w.heap.size w wr) (fun _ i _ => 4 - (intOf i).toNat)
  case atStart => exact ⟨0, by omega, rfl, rfl, none, 0, by rw [HZS.out] at hT2; exact hT2, ⟨Bs.empty _, fun x hx => by cases hx⟩, hR2, hb2'⟩
  case round =>
    rename_i hrel
    obtain ⟨k, hk, rfl, rfl, aB, cB, hTr, ⟨hMr, hMne⟩, hRr, hbr⟩ := hrel
    have hBok := scanC_ok hok k hk
    have hcle := scanC_le S k
    obtain ⟨C, hC⟩ : ∃ C, C = (scanC S k).2 := ⟨_, rfl⟩
    obtain ⟨B, hB⟩ : ∃ B, B = (scanC S k).1 := ⟨_, rfl⟩
    have HS : Hid (scanC S k = (B, C)) := by show _ = _; rw [hB, hC]
    rw [← hC] at hcle ⊢
    rw [← hB] at hTr hMr hBok
    clear hC hB hT2 hR2
    by_cases hlt : k < 4
    · have hd4 : decide ((k : Int) < 4) = true := by simp; omega
      obtain ⟨X, hX⟩ : ∃ X, X = readW S.laid S.ws k := ⟨_, rfl⟩
      have hrd := hread _ k hlt hbr
      obtain ⟨hX3, hXr⟩ := readW_ok hok (show k < n by have := hok.lo; omega)
      rw [← hX] at hrd hX3 hXr
      have hDok := decL_ok hXr
      obtain ⟨D, hD⟩ : ∃ D, D = (decL X).1 := ⟨_, rfl⟩
      obtain ⟨E, hE⟩ : ∃ E, E = (decL X).2 := ⟨_, rfl⟩
      have HD : Hid (D = (decL X).1) := hD
      have HEE : Hid (E = (decL X).2) := hE
      have hnx : scanC S (k + 1) = stepC k X (B, C) := by rw [hX]; show stepC k _ (scanC S k) = _; rw [HS.out]
      unfold stepC at hnx
      rw [← hD, ← hE] at hnx
      have hDok' : D.ok := by rw [hD]; exact hDok
      simp only at hnx
      have HNX : Hid (scanC S (k + 1) = if ¬ E = 0 then (B, C) else if plcd D.t k = false then (B, C) else if C = 0 then (D, 1) else if B.t < D.t then (D, 1) else if D.t = B.t then (B, C + 1) else (B, C)) := hnx
      clear hX hD hE hnx hread HS
      by_cases hE0 : E = 0
      · have heE : ((E : Int) != 0) = false := by rw [hE0]; rfl
        have HE0 : Hid (E = 0) := hE0
        clear hE0
        cases hpl : plcd D.t k
        · have hnext : scanC S (k + 1) = (B, C) := by rw [HNX.out, if_neg (fun h => h HE0.out), if_pos hpl]
          go_wp2_with (first
                  | (go_at_call 32; go_must (refine hrd.mono ?_); rintro e w3 ⟨a3, c3, rfl, hB3, hb3⟩
                     have hR3 := hRr.stays hb3
                     have hT3 := hTr.stays hb3
                     have hM3 := hMr.stays hb3
                     have hdc := ldecode_run a3 c3 256 X w3 hX3.symm hB3 (hV.stays (below_then hbr hb3)))
                  | (go_at_call 13; go_must (refine hdc.mono ?_); rintro e w4 ⟨a4, c4, rfl, hO4, hb4⟩
                     have hR4 := hR3.stays hb4
                     have hT4 := hT3.stays hb4
                     have hM4 := hM3.stays hb4
                     have hD4 := (Out.bs hO4 hDok.m).2.1
                     have hDne : ∀ x, a4 = some x → w.heap.size + 2 ≤ x.block := fun x hx => by have := (Out.bs hO4 hDok.m).2.2 x hx; have := hTr.lt; have := hb3.size; omega
                     rw [← HD.out] at hD4
                     rw [← HD.out, ← HEE.out])
                  | ((with_reducible show wpList _ _ _ (Oper.mk _ (Op.alloc _) _ _ _ _ :: _) _ _); refine wpList_alloc0 (by rfl) 29 (by rfl) (some 10) (by rfl) _ HAL.out ?_; intro w5 hN5 hb5 hs5
                     have hR5 := hR4.stays hb5
                     have hT5 := hT4.stays hb5)
                  | ((with_reducible show wpList _ _ _ (Oper.mk _ (Op.store _ _ _) _ _ _ _ :: _) _ _); refine wpList_store_blk (by rfl) (.tmp 10) (.tmp 27) 29 (by rfl) _ 0 37 (by rfl) (D.vs a4 c4) (by rfl) size_label hN5 (Lb.vs_len hDok'.p a4 c4) (by omega) (Lb.vs_one _ _ _) _ (whole_store hzl) ?_
                     intro w6 hN6 hbut6 hs6
                     have hR6 := hR5.but hbut6 (by have := hR4.lt; omega)
                     have hT6 := hT5.but hbut6 (by have := hT4.lt; omega)
                     have hb6 : Below w.heap.size w w6 := by
                       have h1 := below_then (below_then (below_then hbr hb3) hb4) hb5
                       exact h1.trans (hbut6.below (B := w.heap.size) (by have := (below_then (below_then hbr hb3) hb4).size; omega) h1.size)
                     have hM6 := (hM4.stays hb5).but hbut6 (fun h0 b hb => by have := hM4.lt h0 hb; omega)
                     have hD6 := (hD4.stays hb5).but hbut6 (fun h0 b hb => by have := hD4.lt h0 hb; omega)
                     have cn6 : w6.cell? ⟨w4.heap.size, 0, none⟩ = some (.int .u32 (D.t : Int)) := hN6.cell 0
                     have ct6 : w6.cell? ⟨w.heap.size + 1, 0, none⟩ = some (.int .u32 (B.t : Int)) := hT6.cell 0)
                  | ((with_reducible show wpList _ _ _ (Oper.mk _ (Op.load _ _) _ _ _ _ :: _) _ _); refine wpList_load_guard7 (.tmp 10) 29 (by rfl) (by kernel_rfl) _ 0 37 (by rfl) agg_label size_label hN6 _ (whole_load (Lb.vs_len hDok'.p a4 c4)) (Lb.vs_len hDok'.p a4 c4) ?_
                     have hpc := placed_run D hDok' a4 c4 k hlt w6
                     rw [hpl] at hpc)
                  | (go_at_call 59; go_must (refine hpc.mono ?_); rintro e w7 ⟨rfl, hb7⟩
                     have hR7 := hR6.stays hb7
                     have hT7 := hT6.stays hb7
                     have hN7 := hN6.stays hb7
                     have hM7 := hM6.stays hb7
                     have hD7 := hD6.stays hb7
                     have hb7' := below_then hb6 hb7
                     have cn7 : w7.cell? ⟨w4.heap.size, 0, none⟩ = some (.int .u32 (D.t : Int)) := hN7.cell 0
                     have ct7 : w7.cell? ⟨w.heap.size + 1, 0, none⟩ = some (.int .u32 (B.t : Int)) := hT7.cell 0))
          exact ⟨⟨k + 1, by omega, by go_num, by rw [hnext], aB, cB, by rw [hnext]; exact hT7, by rw [hnext]; exact ⟨hM7, hMne⟩, hR7, hb7'⟩, by simp [intOf]; omega⟩
        · by_cases hC0 : C = 0
          · have hnext : scanC S (k + 1) = (D, 1) := by rw [HNX.out, if_neg (fun h => h HE0.out), if_neg (by rw [hpl]; decide), if_pos hC0]
            have hcC : ((C : Int) == 0) = true := by rw [hC0]; rfl
            clear hC0
            go_wp2_with (first
                    | (go_at_call 32; go_must (refine hrd.mono ?_); rintro e w3 ⟨a3, c3, rfl, hB3, hb3⟩
                       have hR3 := hRr.stays hb3
                       have hT3 := hTr.stays hb3
                       have hM3 := hMr.stays hb3
                       have hdc := ldecode_run a3 c3 256 X w3 hX3.symm hB3 (hV.stays (below_then hbr hb3)))
                    | (go_at_call 13; go_must (refine hdc.mono ?_); rintro e w4 ⟨a4, c4, rfl, hO4, hb4⟩
                       have hR4 := hR3.stays hb4
                       have hT4 := hT3.stays hb4
                       have hM4 := hM3.stays hb4
                       have hD4 := (Out.bs hO4 hDok.m).2.1
                       have hDne : ∀ x, a4 = some x → w.heap.size + 2 ≤ x.block := fun x hx => by have := (Out.bs hO4 hDok.m).2.2 x hx; have := hTr.lt; have := hb3.size; omega
                       rw [← HD.out] at hD4
                       rw [← HD.out, ← HEE.out])
                    | ((with_reducible show wpList _ _ _ (Oper.mk _ (Op.alloc _) _ _ _ _ :: _) _ _); refine wpList_alloc0 (by rfl) 29 (by rfl) (some 10) (by rfl) _ HAL.out ?_; intro w5 hN5 hb5 hs5
                       have hR5 := hR4.stays hb5
                       have hT5 := hT4.stays hb5)
                    | ((with_reducible show wpList _ _ _ (Oper.mk _ (Op.store _ _ _) _ _ _ _ :: _) _ _); refine wpList_store_blk (by rfl) (.tmp 10) (.tmp 27) 29 (by rfl) _ 0 37 (by rfl) (D.vs a4 c4) (by rfl) size_label hN5 (Lb.vs_len hDok'.p a4 c4) (by omega) (Lb.vs_one _ _ _) _ (whole_store hzl) ?_
                       intro w6 hN6 hbut6 hs6
                       have hR6 := hR5.but hbut6 (by have := hR4.lt; omega)
                       have hT6 := hT5.but hbut6 (by have := hT4.lt; omega)
                       have hb6 : Below w.heap.size w w6 := by
                         have h1 := below_then (below_then (below_then hbr hb3) hb4) hb5
                         exact h1.trans (hbut6.below (B := w.heap.size) (by have := (below_then (below_then hbr hb3) hb4).size; omega) h1.size)
                       have hM6 := (hM4.stays hb5).but hbut6 (fun h0 b hb => by have := hM4.lt h0 hb; omega)
                       have hD6 := (hD4.stays hb5).but hbut6 (fun h0 b hb => by have := hD4.lt h0 hb; omega)
                       have cn6 : w6.cell? ⟨w4.heap.size, 0, none⟩ = some (.int .u32 (D.t : Int)) := hN6.cell 0
                       have ct6 : w6.cell? ⟨w.heap.size + 1, 0, none⟩ = some (.int .u32 (B.t : Int)) := hT6.cell 0)
                    | ((with_reducible show wpList _ _ _ (Oper.mk _ (Op.load _ _) _ _ _ _ :: _) _ _); refine wpList_load_guard7 (.tmp 10) 29 (by rfl) (by kernel_rfl) _ 0 37 (by rfl) agg_label size_label hN6 _ (whole_load (Lb.vs_len hDok'.p a4 c4)) (Lb.vs_len hDok'.p a4 c4) ?_
                       have hpc := placed_run D hDok' a4 c4 k hlt w6
                       rw [hpl] at hpc)
                    | (go_at_call 59; go_must (refine hpc.mono ?_); rintro e w7 ⟨rfl, hb7⟩
                       have hR7 := hR6.stays hb7
                       have hT7 := hT6.stays hb7
                       have hN7 := hN6.stays hb7
                       have hM7 := hM6.stays hb7
                       have hD7 := hD6.stays hb7
                       have hb7' := below_then hb6 hb7
                       have cn7 : w7.cell? ⟨w4.heap.size, 0, none⟩ = some (.int .u32 (D.t : Int)) := hN7.cell 0
                       have ct7 : w7.cell? ⟨w.heap.size + 1, 0, none⟩ = some (.int .u32 (B.t : Int)) := hT7.cell 0)
                    | ((with_reducible show wpList _ _ _ (Oper.mk _ (Op.load _ _) _ _ _ _ :: _) _ _); refine wpList_load_blk (by rfl) (.tmp 10) 29 (by rfl) _ 0 37 (by rfl) agg_label size_label hN7 _ (whole_load (Lb.vs_len hDok'.p a4 c4)) (Lb.vs_len hDok'.p a4 c4) ?_)
                    | ((with_reducible show wpList _ _ _ (Oper.mk _ (Op.store _ _ _) _ _ _ _ :: _) _ _); refine wpList_store_blk (by rfl) (.tmp 5) (.tmp 46) 29 (by rfl) _ 0 37 (by rfl) (D.vs a4 c4) (by rfl) size_label hT7 (Lb.vs_len hDok'.p a4 c4) (by rw [Lb.vs_len hBok.p]; omega) (Lb.vs_one _ _ _) _ (whole_store (Lb.vs_len hBok.p aB cB)) ?_
                       intro w8 hT8 hbut8 hs8
                       have hN8 := hN7.but hbut8 (by have := hT4.lt; omega)
                       have hR8 := hR7.but hbut8 (by omega)
                       have hD8 := hD7.but hbut8 (fun h0 b hb => by have := hDne b hb; omega)
                       have hb8 := hb7'.trans (hbut8.below (B := w.heap.size) (by omega) hb7'.size)
                       have cn8 : w8.cell? ⟨w4.heap.size, 0, none⟩ = some (.int .u32 (D.t : Int)) := hN8.cell 0
                       have ct8 : w8.cell? ⟨w.heap.size + 1, 0, none⟩ = some (.int .u32 (D.t : Int)) := hT8.cell 0))
            exact ⟨⟨k + 1, by omega, by go_num, by rw [hnext]; rfl, a4, c4, by rw [hnext]; exact hT8, by rw [hnext]; exact ⟨hD8, hDne⟩, hR8, hb8⟩, by simp [intOf]; omega⟩
          · have hcC : ((C : Int) == 0) = false := by simp; omega
            by_cases hlt2 : B.t < D.t
            · have hnext : scanC S (k + 1) = (D, 1) := by rw [HNX.out, if_neg (fun h => h HE0.out), if_neg (by rw [hpl]; decide), if_neg hC0, if_pos hlt2]
              clear hC0
              go_wp2_with (first
                      | (go_at_call 32; go_must (refine hrd.mono ?_); rintro e w3 ⟨a3, c3, rfl, hB3, hb3⟩
                         have hR3 := hRr.stays hb3
                         have hT3 := hTr.stays hb3
                         have hM3 := hMr.stays hb3
                         have hdc := ldecode_run a3 c3 256 X w3 hX3.symm hB3 (hV.stays (below_then hbr hb3)))
                      | (go_at_call 13; go_must (refine hdc.mono ?_); rintro e w4 ⟨a4, c4, rfl, hO4, hb4⟩
                         have hR4 := hR3.stays hb4
                         have hT4 := hT3.stays hb4
                         have hM4 := hM3.stays hb4
                         have hD4 := (Out.bs hO4 hDok.m).2.1
                         have hDne : ∀ x, a4 = some x → w.heap.size + 2 ≤ x.block := fun x hx => by have := (Out.bs hO4 hDok.m).2.2 x hx; have := hTr.lt; have := hb3.size; omega
                         rw [← HD.out] at hD4
                         rw [← HD.out, ← HEE.out])
                      | ((with_reducible show wpList _ _ _ (Oper.mk _ (Op.alloc _) _ _ _ _ :: _) _ _); refine wpList_alloc0 (by rfl) 29 (by rfl) (some 10) (by rfl) _ HAL.out ?_; intro w5 hN5 hb5 hs5
                         have hR5 := hR4.stays hb5
                         have hT5 := hT4.stays hb5)
                      | ((with_reducible show wpList _ _ _ (Oper.mk _ (Op.store _ _ _) _ _ _ _ :: _) _ _); refine wpList_store_blk (by rfl) (.tmp 10) (.tmp 27) 29 (by rfl) _ 0 37 (by rfl) (D.vs a4 c4) (by rfl) size_label hN5 (Lb.vs_len hDok'.p a4 c4) (by omega) (Lb.vs_one _ _ _) _ (whole_store hzl) ?_
                         intro w6 hN6 hbut6 hs6
                         have hR6 := hR5.but hbut6 (by have := hR4.lt; omega)
                         have hT6 := hT5.but hbut6 (by have := hT4.lt; omega)
                         have hb6 : Below w.heap.size w w6 := by
                           have h1 := below_then (below_then (below_then hbr hb3) hb4) hb5
                           exact h1.trans (hbut6.below (B := w.heap.size) (by have := (below_then (below_then hbr hb3) hb4).size; omega) h1.size)
                         have hM6 := (hM4.stays hb5).but hbut6 (fun h0 b hb => by have := hM4.lt h0 hb; omega)
                         have hD6 := (hD4.stays hb5).but hbut6 (fun h0 b hb => by have := hD4.lt h0 hb; omega)
                         have cn6 : w6.cell? ⟨w4.heap.size, 0, none⟩ = some (.int .u32 (D.t : Int)) := hN6.cell 0
                         have ct6 : w6.cell? ⟨w.heap.size + 1, 0, none⟩ = some (.int .u32 (B.t : Int)) := hT6.cell 0)
                      | ((with_reducible show wpList _ _ _ (Oper.mk _ (Op.load _ _) _ _ _ _ :: _) _ _); refine wpList_load_guard7 (.tmp 10) 29 (by rfl) (by kernel_rfl) _ 0 37 (by rfl) agg_label size_label hN6 _ (whole_load (Lb.vs_len hDok'.p a4 c4)) (Lb.vs_len hDok'.p a4 c4) ?_
                         have hpc := placed_run D hDok' a4 c4 k hlt w6
                         rw [hpl] at hpc)
                      | (go_at_call 59; go_must (refine hpc.mono ?_); rintro e w7 ⟨rfl, hb7⟩
                         have hR7 := hR6.stays hb7
                         have hT7 := hT6.stays hb7
                         have hN7 := hN6.stays hb7
                         have hM7 := hM6.stays hb7
                         have hD7 := hD6.stays hb7
                         have hb7' := below_then hb6 hb7
                         have cn7 : w7.cell? ⟨w4.heap.size, 0, none⟩ = some (.int .u32 (D.t : Int)) := hN7.cell 0
                         have ct7 : w7.cell? ⟨w.heap.size + 1, 0, none⟩ = some (.int .u32 (B.t : Int)) := hT7.cell 0)
                      | ((with_reducible show wpList _ _ _ (Oper.mk _ (Op.load _ _) _ _ _ _ :: _) _ _); refine wpList_load_blk (by rfl) (.tmp 10) 29 (by rfl) _ 0 37 (by rfl) agg_label size_label hN7 _ (whole_load (Lb.vs_len hDok'.p a4 c4)) (Lb.vs_len hDok'.p a4 c4) ?_)
                      | ((with_reducible show wpList _ _ _ (Oper.mk _ (Op.store _ _ _) _ _ _ _ :: _) _ _); refine wpList_store_blk (by rfl) (.tmp 5) (.tmp 46) 29 (by rfl) _ 0 37 (by rfl) (D.vs a4 c4) (by rfl) size_label hT7 (Lb.vs_len hDok'.p a4 c4) (by rw [Lb.vs_len hBok.p]; omega) (Lb.vs_one _ _ _) _ (whole_store (Lb.vs_len hBok.p aB cB)) ?_
                         intro w8 hT8 hbut8 hs8
                         have hN8 := hN7.but hbut8 (by have := hT4.lt; omega)
                         have hR8 := hR7.but hbut8 (by omega)
                         have hD8 := hD7.but hbut8 (fun h0 b hb => by have := hDne b hb; omega)
                         have hb8 := hb7'.trans (hbut8.below (B := w.heap.size) (by omega) hb7'.size)
                         have cn8 : w8.cell? ⟨w4.heap.size, 0, none⟩ = some (.int .u32 (D.t : Int)) := hN8.cell 0
                         have ct8 : w8.cell? ⟨w.heap.size + 1, 0, none⟩ = some (.int .u32 (D.t : Int)) := hT8.cell 0))
              exact ⟨⟨k + 1, by omega, by go_num, by rw [hnext]; rfl, a4, c4, by rw [hnext]; exact hT8, by rw [hnext]; exact ⟨hD8, hDne⟩, hR8, hb8⟩, by simp [intOf]; omega⟩
            · by_cases heq2 : D.t = B.t
              · have hnext : scanC S (k + 1) = (B, C + 1) := by rw [HNX.out, if_neg (fun h => h HE0.out), if_neg (by rw [hpl]; decide), if_neg hC0, if_neg hlt2, if_pos heq2]
                have he2 : ((D.t : Int) == (B.t : Int)) = true := by rw [heq2]; simp
                clear hC0 heq2
                go_wp2_with (first
                        | (go_at_call 32; go_must (refine hrd.mono ?_); rintro e w3 ⟨a3, c3, rfl, hB3, hb3⟩
                           have hR3 := hRr.stays hb3
                           have hT3 := hTr.stays hb3
                           have hM3 := hMr.stays hb3
                           have hdc := ldecode_run a3 c3 256 X w3 hX3.symm hB3 (hV.stays (below_then hbr hb3)))
                        | (go_at_call 13; go_must (refine hdc.mono ?_); rintro e w4 ⟨a4, c4, rfl, hO4, hb4⟩
                           have hR4 := hR3.stays hb4
                           have hT4 := hT3.stays hb4
                           have hM4 := hM3.stays hb4
                           have hD4 := (Out.bs hO4 hDok.m).2.1
                           have hDne : ∀ x, a4 = some x → w.heap.size + 2 ≤ x.block := fun x hx => by have := (Out.bs hO4 hDok.m).2.2 x hx; have := hTr.lt; have := hb3.size; omega
                           rw [← HD.out] at hD4
                           rw [← HD.out, ← HEE.out])
                        | ((with_reducible show wpList _ _ _ (Oper.mk _ (Op.alloc _) _ _ _ _ :: _) _ _); refine wpList_alloc0 (by rfl) 29 (by rfl) (some 10) (by rfl) _ HAL.out ?_; intro w5 hN5 hb5 hs5
                           have hR5 := hR4.stays hb5
                           have hT5 := hT4.stays hb5)
                        | ((with_reducible show wpList _ _ _ (Oper.mk _ (Op.store _ _ _) _ _ _ _ :: _) _ _); refine wpList_store_blk (by rfl) (.tmp 10) (.tmp 27) 29 (by rfl) _ 0 37 (by rfl) (D.vs a4 c4) (by rfl) size_label hN5 (Lb.vs_len hDok'.p a4 c4) (by omega) (Lb.vs_one _ _ _) _ (whole_store hzl) ?_
                           intro w6 hN6 hbut6 hs6
                           have hR6 := hR5.but hbut6 (by have := hR4.lt; omega)
                           have hT6 := hT5.but hbut6 (by have := hT4.lt; omega)
                           have hb6 : Below w.heap.size w w6 := by
                             have h1 := below_then (below_then (below_then hbr hb3) hb4) hb5
                             exact h1.trans (hbut6.below (B := w.heap.size) (by have := (below_then (below_then hbr hb3) hb4).size; omega) h1.size)
                           have hM6 := (hM4.stays hb5).but hbut6 (fun h0 b hb => by have := hM4.lt h0 hb; omega)
                           have hD6 := (hD4.stays hb5).but hbut6 (fun h0 b hb => by have := hD4.lt h0 hb; omega)
                           have cn6 : w6.cell? ⟨w4.heap.size, 0, none⟩ = some (.int .u32 (D.t : Int)) := hN6.cell 0
                           have ct6 : w6.cell? ⟨w.heap.size + 1, 0, none⟩ = some (.int .u32 (B.t : Int)) := hT6.cell 0)
                        | ((with_reducible show wpList _ _ _ (Oper.mk _ (Op.load _ _) _ _ _ _ :: _) _ _); refine wpList_load_guard7 (.tmp 10) 29 (by rfl) (by kernel_rfl) _ 0 37 (by rfl) agg_label size_label hN6 _ (whole_load (Lb.vs_len hDok'.p a4 c4)) (Lb.vs_len hDok'.p a4 c4) ?_
                           have hpc := placed_run D hDok' a4 c4 k hlt w6
                           rw [hpl] at hpc)
                        | (go_at_call 59; go_must (refine hpc.mono ?_); rintro e w7 ⟨rfl, hb7⟩
                           have hR7 := hR6.stays hb7
                           have hT7 := hT6.stays hb7
                           have hN7 := hN6.stays hb7
                           have hM7 := hM6.stays hb7
                           have hD7 := hD6.stays hb7
                           have hb7' := below_then hb6 hb7
                           have cn7 : w7.cell? ⟨w4.heap.size, 0, none⟩ = some (.int .u32 (D.t : Int)) := hN7.cell 0
                           have ct7 : w7.cell? ⟨w.heap.size + 1, 0, none⟩ = some (.int .u32 (B.t : Int)) := hT7.cell 0))
                exact ⟨⟨k + 1, by omega, by go_num, by rw [hnext]; go_num, aB, cB, by rw [hnext]; exact hT7, by rw [hnext]; exact ⟨hM7, hMne⟩, hR7, hb7'⟩, by simp [intOf]; omega⟩
              · have hnext : scanC S (k + 1) = (B, C) := by rw [HNX.out, if_neg (fun h => h HE0.out), if_neg (by rw [hpl]; decide), if_neg hC0, if_neg hlt2, if_neg heq2]
                have he2 : ((D.t : Int) == (B.t : Int)) = false := by simp; omega
                clear hC0 heq2
                go_wp2_with (first
                        | (go_at_call 32; go_must (refine hrd.mono ?_); rintro e w3 ⟨a3, c3, rfl, hB3, hb3⟩
                           have hR3 := hRr.stays hb3
                           have hT3 := hTr.stays hb3
                           have hM3 := hMr.stays hb3
                           have hdc := ldecode_run a3 c3 256 X w3 hX3.symm hB3 (hV.stays (below_then hbr hb3)))
                        | (go_at_call 13; go_must (refine hdc.mono ?_); rintro e w4 ⟨a4, c4, rfl, hO4, hb4⟩
                           have hR4 := hR3.stays hb4
                           have hT4 := hT3.stays hb4
                           have hM4 := hM3.stays hb4
                           have hD4 := (Out.bs hO4 hDok.m).2.1
                           have hDne : ∀ x, a4 = some x → w.heap.size + 2 ≤ x.block := fun x hx => by have := (Out.bs hO4 hDok.m).2.2 x hx; have := hTr.lt; have := hb3.size; omega
                           rw [← HD.out] at hD4
                           rw [← HD.out, ← HEE.out])
                        | ((with_reducible show wpList _ _ _ (Oper.mk _ (Op.alloc _) _ _ _ _ :: _) _ _); refine wpList_alloc0 (by rfl) 29 (by rfl) (some 10) (by rfl) _ HAL.out ?_; intro w5 hN5 hb5 hs5
                           have hR5 := hR4.stays hb5
                           have hT5 := hT4.stays hb5)
                        | ((with_reducible show wpList _ _ _ (Oper.mk _ (Op.store _ _ _) _ _ _ _ :: _) _ _); refine wpList_store_blk (by rfl) (.tmp 10) (.tmp 27) 29 (by rfl) _ 0 37 (by rfl) (D.vs a4 c4) (by rfl) size_label hN5 (Lb.vs_len hDok'.p a4 c4) (by omega) (Lb.vs_one _ _ _) _ (whole_store hzl) ?_
                           intro w6 hN6 hbut6 hs6
                           have hR6 := hR5.but hbut6 (by have := hR4.lt; omega)
                           have hT6 := hT5.but hbut6 (by have := hT4.lt; omega)
                           have hb6 : Below w.heap.size w w6 := by
                             have h1 := below_then (below_then (below_then hbr hb3) hb4) hb5
                             exact h1.trans (hbut6.below (B := w.heap.size) (by have := (below_then (below_then hbr hb3) hb4).size; omega) h1.size)
                           have hM6 := (hM4.stays hb5).but hbut6 (fun h0 b hb => by have := hM4.lt h0 hb; omega)
                           have hD6 := (hD4.stays hb5).but hbut6 (fun h0 b hb => by have := hD4.lt h0 hb; omega)
                           have cn6 : w6.cell? ⟨w4.heap.size, 0, none⟩ = some (.int .u32 (D.t : Int)) := hN6.cell 0
                           have ct6 : w6.cell? ⟨w.heap.size + 1, 0, none⟩ = some (.int .u32 (B.t : Int)) := hT6.cell 0)
                        | ((with_reducible show wpList _ _ _ (Oper.mk _ (Op.load _ _) _ _ _ _ :: _) _ _); refine wpList_load_guard7 (.tmp 10) 29 (by rfl) (by kernel_rfl) _ 0 37 (by rfl) agg_label size_label hN6 _ (whole_load (Lb.vs_len hDok'.p a4 c4)) (Lb.vs_len hDok'.p a4 c4) ?_
                           have hpc := placed_run D hDok' a4 c4 k hlt w6
                           rw [hpl] at hpc)
                        | (go_at_call 59; go_must (refine hpc.mono ?_); rintro e w7 ⟨rfl, hb7⟩
                           have hR7 := hR6.stays hb7
                           have hT7 := hT6.stays hb7
                           have hN7 := hN6.stays hb7
                           have hM7 := hM6.stays hb7
                           have hD7 := hD6.stays hb7
                           have hb7' := below_then hb6 hb7
                           have cn7 : w7.cell? ⟨w4.heap.size, 0, none⟩ = some (.int .u32 (D.t : Int)) := hN7.cell 0
                           have ct7 : w7.cell? ⟨w.heap.size + 1, 0, none⟩ = some (.int .u32 (B.t : Int)) := hT7.cell 0))
                exact ⟨⟨k + 1, by omega, by go_num, by rw [hnext], aB, cB, by rw [hnext]; exact hT7, by rw [hnext]; exact ⟨hM7, hMne⟩, hR7, hb7'⟩, by simp [intOf]; omega⟩
      · have hnext : scanC S (k + 1) = (B, C) := by rw [HNX.out, if_pos hE0]
        have heE : ((E : Int) != 0) = true := by simp; omega
        clear hE0
        go_wp2_with (first
                | (go_at_call 32; go_must (refine hrd.mono ?_); rintro e w3 ⟨a3, c3, rfl, hB3, hb3⟩
                   have hR3 := hRr.stays hb3
                   have hT3 := hTr.stays hb3
                   have hM3 := hMr.stays hb3
                   have hdc := ldecode_run a3 c3 256 X w3 hX3.symm hB3 (hV.stays (below_then hbr hb3)))
                | (go_at_call 13; go_must (refine hdc.mono ?_); rintro e w4 ⟨a4, c4, rfl, hO4, hb4⟩
                   have hR4 := hR3.stays hb4
                   have hT4 := hT3.stays hb4
                   have hM4 := hM3.stays hb4
                   have hD4 := (Out.bs hO4 hDok.m).2.1
                   have hDne : ∀ x, a4 = some x → w.heap.size + 2 ≤ x.block := fun x hx => by have := (Out.bs hO4 hDok.m).2.2 x hx; have := hTr.lt; have := hb3.size; omega
                   rw [← HD.out] at hD4
                   rw [← HD.out, ← HEE.out])
                | ((with_reducible show wpList _ _ _ (Oper.mk _ (Op.alloc _) _ _ _ _ :: _) _ _); refine wpList_alloc0 (by rfl) 29 (by rfl) (some 10) (by rfl) _ HAL.out ?_; intro w5 hN5 hb5 hs5
                   have hR5 := hR4.stays hb5
                   have hT5 := hT4.stays hb5)
                | ((with_reducible show wpList _ _ _ (Oper.mk _ (Op.store _ _ _) _ _ _ _ :: _) _ _); refine wpList_store_blk (by rfl) (.tmp 10) (.tmp 27) 29 (by rfl) _ 0 37 (by rfl) (D.vs a4 c4) (by rfl) size_label hN5 (Lb.vs_len hDok'.p a4 c4) (by omega) (Lb.vs_one _ _ _) _ (whole_store hzl) ?_
                   intro w6 hN6 hbut6 hs6
                   have hR6 := hR5.but hbut6 (by have := hR4.lt; omega)
                   have hT6 := hT5.but hbut6 (by have := hT4.lt; omega)
                   have hb6 : Below w.heap.size w w6 := by
                     have h1 := below_then (below_then (below_then hbr hb3) hb4) hb5
                     exact h1.trans (hbut6.below (B := w.heap.size) (by have := (below_then (below_then hbr hb3) hb4).size; omega) h1.size)
                   have hM6 := (hM4.stays hb5).but hbut6 (fun h0 b hb => by have := hM4.lt h0 hb; omega)
                   have hD6 := (hD4.stays hb5).but hbut6 (fun h0 b hb => by have := hD4.lt h0 hb; omega)
                   have cn6 : w6.cell? ⟨w4.heap.size, 0, none⟩ = some (.int .u32 (D.t : Int)) := hN6.cell 0
                   have ct6 : w6.cell? ⟨w.heap.size + 1, 0, none⟩ = some (.int .u32 (B.t : Int)) := hT6.cell 0))
        exact ⟨⟨k + 1, by omega, by go_num, by rw [hnext], aB, cB, by rw [hnext]; exact hT6, by rw [hnext]; exact ⟨hM6, hMne⟩, hR6, hb6⟩, by simp [intOf]; omega⟩
    · have hk4 : k = 4 := by omega
      subst hk4
      have hd4 : decide (((4 : Nat) : Int) < 4) = false := rfl
      by_cases hC0 : C = 0
      · have hch : chooseL S = ((Lb.zero, 0), 15) := by unfold chooseL; rw [hoff, if_neg (by decide), HS.out, if_pos hC0]
        have hcC : ((C : Int) == 0) = true := by rw [hC0]; rfl
        clear hC0
        go_wp2_with (first
          | ((with_reducible show wpList _ _ _ (Oper.mk _ (Op.build _ _) _ _ _ _ :: _) _ _); refine wpList_build0 (by rfl) 29 (by rfl) _ HBU.out ?_)
          | ((with_reducible show wpList _ _ _ (Oper.mk _ (Op.store _ _ _) _ _ _ _ :: _) _ _); refine wpList_store_blk (by rfl) (.tmp 2) (.tmp 57) 29 (by rfl) _ 0 37 (by rfl) zs (by rfl) size_label hRr hzl (by omega) hzo _ (whole_store hzl) ?_
             intro wZ hRZ hbutZ hsZ))
        refine bodyPost_ret_blk3 rfl rfl (by rfl) (by rfl) (by rfl) agg_label size_label hRZ hzl ?_
        rw [hch, HZS.out]
        exact ⟨none, 0, rfl, Bs.empty _, hbr.trans (hbutZ.below (Nat.le_refl _) hbr.size)⟩
      · have hch : chooseL S = ((B, C), 0) := by unfold chooseL; rw [hoff, if_neg (by decide), HS.out, if_neg hC0]
        have hcC : ((C : Int) == 0) = false := by simp; omega
        clear hC0
        go_wp2_with (first
          | ((with_reducible show wpList _ _ _ (Oper.mk _ (Op.load _ _) _ _ _ _ :: _) _ _); refine wpList_load_blk (by rfl) (.tmp 5) 29 (by rfl) _ 0 37 (by rfl) agg_label size_label hTr _ (whole_load (Lb.vs_len hBok.p aB cB)) (Lb.vs_len hBok.p aB cB) ?_)
          | ((with_reducible show wpList _ _ _ (Oper.mk _ (Op.store _ _ _) _ _ _ _ :: _) _ _); refine wpList_store_blk (by rfl) (.tmp 2) (.tmp 58) 29 (by rfl) _ 0 37 (by rfl) (B.vs aB cB) (by rfl) size_label hRr (Lb.vs_len hBok.p aB cB) (by omega) (Lb.vs_one _ _ _) _ (whole_store hzl) ?_
             intro wZ hRZ hbutZ hsZ))
        refine bodyPost_ret_blk3 rfl rfl (by rfl) (by rfl) (by rfl) agg_label size_label hRZ (Lb.vs_len hBok.p aB cB) ?_
        rw [hch]
        exact ⟨aB, cB, rfl, hMr.but hbutZ (fun h0 b hb => by have := hMne b hb; omega), hbr.trans (hbutZ.below (Nat.le_refl _) hbr.size)⟩

end

end Go.Proofs.YthbcphalokoknaaDoor
