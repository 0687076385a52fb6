/-
 The document's disk: Rot.
-/
import Derived.Test.YthbldjnpnligpaaDoorB25
namespace Go.Proofs.YthbldjnpnligpaaDoor
set_option linter.unusedSimpArgs false
set_option linter.unusedVariables false
set_option maxRecDepth 100000
open Go.RowKit
def xorS (xs ms : List Int) (k : Nat) : List Int := (List.range k).foldl (fun l j => l.set j (xorB (l.getD j 0) (ms.getD j 0))) xs
theorem xorS_succ (xs ms : List Int) (k : Nat) : xorS xs ms (k + 1) = (xorS xs ms k).set k (xorB ((xorS xs ms k).getD k 0) (ms.getD k 0)) := by
 simp [xorS, List.range_succ]
theorem xorS_length (xs ms : List Int) (k : Nat) : (xorS xs ms k).length = xs.length := by
 induction k with
 | zero => rfl
 | succ k ih => rw [xorS_succ, List.length_set, ih]
theorem xorS_rng {xs ms : List Int} (h : ∀ x ∈ xs, 0 ≤ x ∧ x ≤ 255) (k : Nat) : ∀ x ∈ xorS xs ms k, 0 ≤ x ∧ x ≤ 255 := by
 induction k with
 | zero => exact h
 | succ k ih =>
   intro x hx
   rw [xorS_succ] at hx
   rcases List.mem_or_eq_of_mem_set hx with hx | rfl
   · exact ih x hx
   · exact bits_within .xor .u8 _ _
theorem secOf_set {laid : List Int} {s t j : Nat} (hj : j < 256) (y : Int) : secOf (laid.set (256 * s + j) y) t = if s = t then (secOf laid t).set j y else secOf laid t := by
 apply List.ext_getElem?
 intro i
 by_cases hst : s = t
 · subst hst
   rw [if_pos rfl, secOf_get, List.getElem?_set, List.getElem?_set, secOf_get]
   by_cases hij : j = i
   · subst hij
     have hl : (j < (secOf laid s).length) ↔ (256 * s + j < laid.length) := by unfold secOf; simp; omega
     simp only [hj, if_true, hl]
   · simp only [hij, if_false]
     split
     · rw [if_neg (by omega)]
     · rfl
 · rw [if_neg hst, secOf_get, secOf_get]
   split
   · rw [List.getElem?_set, if_neg (by omega)]
   · rfl
theorem secOf_xorTo (laid : List Int) (s t : Nat) (ms : List Int) (k : Nat) (hk : k ≤ 256) : secOf (xorTo laid s ms k) t = if s = t then xorS (secOf laid t) ms k else secOf laid t := by
 induction k with
 | zero => split <;> rfl
 | succ k ih =>
   rw [xorTo_succ, secOf_set (by omega), ih (by omega)]
   by_cases hst : s = t
   · subst hst
     simp only [if_true]
     rw [xorS_succ]
     congr 2
     have h1 := ih (by omega)
     rw [if_pos rfl] at h1
     rw [← h1, List.getD_eq_getElem?_getD, List.getD_eq_getElem?_getD, secOf_get, if_pos (by omega)]
   · simp only [hst, if_false]
theorem secStrs_xor {laid : List Int} {n s : Nat} {ms : List Int} {k : Nat} (hs : s < n) (hk : k ≤ 256) : secStrs (xorTo laid s ms k) n = (secStrs laid n).set s (strOfNums (xorS (secOf laid s) ms k)) := by
 apply List.ext_getElem?
 intro i
 rw [List.getElem?_set]
 unfold secStrs
 by_cases hi : i < n
 · by_cases he : s = i
   · subst he
     simp [hs, secOf_xorTo _ _ _ _ _ hk]
   · simp [he, hi, secOf_xorTo _ _ _ _ _ hk]
 · simp [hi]
   intro he
   omega
structure Made (w : World) (g : Nat) (xs : List Int) : Prop where
 cell : ∀ i, i < xs.length → w.cell? ⟨g, i, none⟩ = some (.int .u8 (xs.getD i 0))
 free : ∀ i, i < xs.length → w.frozen? ⟨g, i, none⟩ = false
theorem Made.set {w : World} {g : Nat} {xs : List Int} (h : Made w g xs) {k : Nat} (hk : k < xs.length) (y : Int) : Made (w.setCell ⟨g, k, none⟩ (.int .u8 y)) g (xs.set k y) := by
 refine ⟨fun i hi => ?_, fun i hi => ?_⟩
 · rw [List.length_set] at hi
   by_cases he : i = k
   · subst he
     rw [World.cell?_setCell_same' _ _ _ (by rw [h.cell i hi]; rfl)]
     simp [List.getD, hi]
   · have h1 := h.cell i hi
     have h2 : (w.setCell ⟨g, k, none⟩ (.int .u8 y)).cell? ⟨g, i, none⟩ = w.cell? ⟨g, i, none⟩ := World.cell?_setCell_other w ⟨g, k, none⟩ ⟨g, i, none⟩ (.int .u8 y) (fun h => he (by cases h; rfl))
     rw [h2, h1]
     simp [List.getD, List.getElem?_set, Ne.symm he]
 · rw [List.length_set] at hi
   rw [World.frozen?_setCell]
   exact h.free i hi
theorem Made.drew {w : World} {g : Nat} {xs : List Int} (h : Made w g xs) : Made w.drew g xs := ⟨h.cell, h.free⟩
theorem Made.stays {w w' : World} {g : Nat} {xs : List Int} (h : Made w g xs) (h0 : 0 < xs.length) (hb : Below w.heap.size w w') : Made w' g xs := by
 have hlt := World.block_lt_of_cell? _ _ (h.cell 0 h0)
 exact ⟨fun i hi => (hb.cell (p := ⟨g, i, none⟩) hlt).trans (h.cell i hi), fun i hi => by rw [World.frozen?_of_block (w := w) (hb.block g hlt)]; exact h.free i hi⟩
theorem Made.bs {w : World} {g c : Nat} {xs : List Int} (h : Made w g xs) (hr : ∀ x ∈ xs, 0 ≤ x ∧ x ≤ 255) (hc : xs.length ≤ c) (hm : c ≤ maxLen) : Bs w (some ⟨g, 0, none⟩) c xs :=
 ⟨hr, hc, hm, by simp, .inr ⟨g, 0, rfl, fun i hi => by rw [Nat.zero_add]; exact h.cell i hi⟩⟩
section
variable {G : Nat → Prop} {S : DS} {sa : Option Addr} {sc : Nat} {wa : Option Addr} {wc n : Nat}
set_option maxRecDepth 100000 in
set_option maxHeartbeats 600000 in
theorem rrot_arg (i : Int) (ba : Option Addr) (bn bc : Nat) (sn : Nat) (wn : Nat) (fused off : Bool) (left : Nat) (w : World) (hi : ¬ ((0 ≤ i ∧ i < (sn : Int)) ∧ bn ≤ 256)) :
 Calls Tryd.prog 63 #[.agg #[.slice sa sn sc, .slice wa wn wc, .bool fused, .int .i64 (left : Int), .bool off], .int .i64 i, .slice ba bn bc] w fun e w' =>
  e = .returned (.tuple #[.agg #[.slice sa sn sc, .slice wa wn wc, .bool fused, .int .i64 (left : Int), .bool off], .int .i64 1]) ∧ Below w.heap.size w w' := by
 rcases (by omega : i < 0 ∨ 0 ≤ i ∧ (sn : Int) ≤ i ∨ 0 ≤ i ∧ i < (sn : Int) ∧ 256 < bn) with h | ⟨h1, h2⟩ | ⟨h1, h2, h3⟩
 · clear hi
   go_enter Tryd.func63, Tryd.ntmps63
   go_wp2
   refine bodyPost_ret (results_blk_tmp rfl _ _ _ rfl rAgg rSize (Blk.newAt (by simp) rfl) rfl) rfl ?_
   exact ⟨rfl, ((Below.refl _ _).alloc (Nat.le_refl _) _).alloc (by simp) _⟩
 · clear hi
   have h1' : ¬ (i < 0) := by omega
   go_enter Tryd.func63, Tryd.ntmps63
   go_wp2
   refine bodyPost_ret (results_blk_tmp rfl _ _ _ rfl rAgg rSize (Blk.newAt (by simp) rfl) rfl) rfl ?_
   exact ⟨rfl, ((Below.refl _ _).alloc (Nat.le_refl _) _).alloc (by simp) _⟩
 · clear hi
   have h1' : ¬ (i < 0) := by omega
   have h2' : ¬ ((sn : Int) ≤ i) := by omega
   have h3' : (256 : Int) < (bn : Int) := by omega
   clear h3
   go_enter Tryd.func63, Tryd.ntmps63
   go_wp2
   refine bodyPost_ret (results_blk_tmp rfl _ _ _ rfl rAgg rSize (Blk.newAt (by simp) rfl) rfl) rfl ?_
   exact ⟨rfl, ((Below.refl _ _).alloc (Nat.le_refl _) _).alloc (by simp) _⟩
set_option maxRecDepth 100000 in
set_option maxHeartbeats 1000000 in
theorem rrot_go (s : Nat) (ma : Option Addr) (mc : Nat) (ms : List Int) (sn wn : Nat) (HSN : Hid (sn = n)) (fused off : Bool) (left : Nat) (w : World) (hok : S.Ok n) (hsn : s < n) (hs : SsAt w G sa (secStrs S.laid n)) (hB : Bs w ma mc ms) (hm : ms.length ≤ 256) :
 Calls Tryd.prog 63 #[.agg #[.slice sa sn sc, .slice wa wn wc, .bool fused, .int .i64 (left : Int), .bool off], .int .i64 (s : Int), .slice ma ms.length mc] w fun e w' =>
  ∃ sa' sc', e = .returned (.tuple #[.agg #[.slice sa' sn sc', .slice wa wn wc, .bool fused, .int .i64 (left : Int), .bool off], .int .i64 0]) ∧ SsAt w' (fun k => w.heap.size ≤ k) sa' (secStrs (xorTo S.laid s ms ms.length) n) ∧ Below w.heap.size w w' := by
 have h1' : ¬ ((s : Int) < 0) := by omega
 have h2' : ¬ ((sn : Int) ≤ (s : Int)) := by have := HSN.out; omega
 have h2'' : (s : Int) < (sn : Int) := by have := HSN.out; omega
 have h3' : ¬ ((256 : Int) < (ms.length : Int)) := by omega
 obtain ⟨W, hWe⟩ : ∃ W, W = (w.alloc (.cells #[.slice sa sn sc, .slice wa wn wc, .bool fused, .int .i64 (left : Int), .bool off] 30)).alloc (.cells #[.slice none 0 0, .slice none 0 0, .bool false, .int .i64 0, .bool false] 30) := ⟨_, rfl⟩
 have hbW : Below w.heap.size w W := by rw [hWe]; exact ((Below.refl _ _).alloc (Nat.le_refl _) _).alloc (by simp) _
 have hX : Blk 30 W w.heap.size [.slice sa sn sc, .slice wa wn wc, .bool fused, .int .i64 (left : Int), .bool off] := by rw [hWe]; exact (Blk.newAt rfl rfl).alloc _
 have hY : Blk 30 W (w.heap.size + 1) [.slice none 0 0, .slice none 0 0, .bool false, .int .i64 0, .bool false] := by rw [hWe]; exact Blk.newAt (by simp) rfl
 have hsW : W.heap.size = w.heap.size + 2 := by rw [hWe]; simp
 have hn16 := hok.lo
 have hn512 := hok.hi
 obtain ⟨sb, so, rfl, hG, hcs⟩ := hs.keep (w' := W) (G' := G) (by rw [secStrs_length]; omega) (fun k hg hl => ⟨hbW.block k hl, hg⟩)
 have hc : W.cell? ⟨sb, so + s, none⟩ = some (.string (strOfNums (secOf S.laid s))) := by
  rw [hcs s (by rw [secStrs_length]; exact hsn)]
  simp [secStrs, List.getD, hsn]
 have hsl : (secOf S.laid s).length = 256 := secOf_length (by have := hok.len; omega)
 have hsr : ∀ x ∈ secOf S.laid s, 0 ≤ x ∧ x ≤ 255 := fun x hx => hok.rng x (List.mem_of_mem_drop (List.mem_of_mem_take hx))
 have hSW : SsAt W G (some ⟨sb, so, none⟩) (secStrs S.laid n) := ⟨sb, so, rfl, hG, hcs⟩
 have HXO := secStrs_xor (laid := S.laid) (ms := ms) hsn hm
 obtain ⟨Y, hYe⟩ : ∃ Y, Y = secOf S.laid s := ⟨_, rfl⟩
 rw [← hYe] at hc hsl hsr HXO
 obtain ⟨c, w2, hrun, hB2, hb2, hf2⟩ := conv_bs Y hsr (by omega) W
 rw [hsl] at hrun
 have hM2 : Made w2 W.heap.size (xorS Y ms 0) := ⟨fun i hi => by obtain ⟨b, o, he, h5⟩ := hB2.cell (by omega); cases he; have := h5 i hi; rwa [Nat.zero_add] at this, fun i hi => hf2 i hi⟩
 rw [hsW] at hrun hM2
 have hcap := hB2.cap
 have hcapm := hB2.capm
 have HWE : Hid (W = _) := hWe
 clear hWe hYe hcs hs hG
 rw [HWE.out] at hrun
 obtain ⟨z0, z1, z2, z3, z4⟩ := box_cells hX
 rw [HWE.out] at z0 z1 z2 z3 z4 hc
 go_enter Tryd.func63, Tryd.ntmps63
 go_wp2
 go_loopw [9] (fun x wr => ∃ k : Nat, x = .int .i64 k ∧ k ≤ ms.length ∧ Made wr (w.heap.size + 2) (xorS Y ms k) ∧ Below (w.heap.size + 2) W wr) (fun x _ => ms.length - (intOf x).toNat)
 case atStart => exact ⟨0, rfl, Nat.zero_le _, hM2, hsW ▸ hb2⟩
 case round =>
  rename_i hrel
  rw [← HWE.out] at z0 z1 z2 z3 z4 hc hrun
  clear hM2 hB2 hf2 hrun
  obtain ⟨k, rfl, hk, hM, hbr⟩ := hrel
  have hXr := hX.stays (hsW ▸ hbr)
  have hYr := hY.stays (hsW ▸ hbr)
  have hb0r : Below w.heap.size w wr := hbW.trans (hbr.mono (by omega))
  have hxl := xorS_length Y ms k
  have hszr := hbr.size
  by_cases hlt : k < ms.length
  · have hlt' : (k : Int) < (ms.length : Int) := by omega
    have hlt2 : (k : Int) < 256 := by omega
    obtain ⟨mb, mo, rfl, hmc⟩ := (hB.stays hb0r).cell (by omega)
    have hck := hmc k hlt
    have hcl := hM.cell k (by omega)
    have hfl := hM.free k (by omega)
    have HST : Hid (xorS Y ms (k + 1) = (xorS Y ms k).set k (bits BinOp.xor IntKind.u8 ((xorS Y ms k).getD k 0) (ms.getD k 0))) := xorS_succ Y ms k
    have hset := fun y => hM.set (k := k) (by omega) y
    generalize (xorS Y ms k).getD k 0 = X0 at *
    generalize ms.getD k 0 = M0 at *
    clear hmc hxl
    go_wp2
    go_still_tail 12, (by kernel_rfl)
    go_wp2
    go_roundw
    case rel => exact ⟨k + 1, by go_num, by omega, by rw [HST.out]; exact (hset _).drew, (hbr.setCell (p := ⟨w.heap.size + 2, k, none⟩) (Nat.le_refl _) _).drew⟩
    case measure => simp [intOf]; omega
  · have hlt' : ¬ ((k : Int) < (ms.length : Int)) := by omega
    have hkk : k = ms.length := by omega
    rw [hkk] at hM hxl
    obtain ⟨R, hR⟩ : ∃ R, R = xorS Y ms ms.length := ⟨_, rfl⟩
    have hRr := xorS_rng (ms := ms) hsr ms.length
    rw [← hR] at hM hRr hxl HXO
    have h14 : ∀ o : Obj, (wr.alloc o).cell? ⟨w.heap.size, 0, none⟩ = some (.slice (some ⟨sb, so, none⟩) sn sc) := fun o => (hXr.alloc o).cell 0
    have hown0 : (wr.alloc (.cells #[] 9)).ownsRow wr.heap.size 9 1 (.slice (some ⟨wr.heap.size, 0, none⟩) 0 0) 0 [] := World.ownsRow_made wr #[] 0 (Nat.le_refl _) (by decide) rfl
    have hbA : Below wr.heap.size wr (wr.alloc (.cells #[] 9)) := (Below.refl _ _).alloc (Nat.le_refl _) _
    have HKK : Hid (k = ms.length) := hkk
    have HXX : Hid (secStrs (xorTo S.laid s ms ms.length) n = (secStrs S.laid n).set s (strOfNums R)) := HXO
    have hRl : R.length = 256 := by omega
    clear hkk hR HXO hxl
    go_wp2_with (at_builtin; go_must (refine wpList_append_ss (w0 := wr) (by rfl) (.tmp 50) (.tmp 52) (by rfl) wr.heap.size _ (by rfl) hown0 G (some ⟨sb, so, none⟩) sn sc (secStrs S.laid n) (by rfl) (by rw [HSN.out, secStrs_length]) (hSW.keep (G' := G) (by rw [secStrs_length]; omega) (fun k hg hl => ⟨(hbr.block k (by omega)).symm ▸ (hbA.block k (by omega)), hg⟩)) (by rw [secStrs_length]; omega) (by simp) hbA ?_); rw [secStrs_length]; intro v4 w4 hown4 hb4
                 obtain ⟨g, cg, hv4, hg4, _⟩ := ss_of_owns (xs := secStrs S.laid n) (by rw [secStrs_length]; exact hown4) (by rw [secStrs_length]; omega)
                 rw [secStrs_length, ← HSN.out] at hv4
                 subst hv4
                 have hM4 := hM.stays (by omega) hb4
                 have hcv := (hM4.bs hRr (c := c) (by omega) hcapm).conv (P := Tryd.prog) 256 hRl.symm 43 5 Tryd.underlying43 Tryd.underlying5 9 Tryd.underlying9
                 have hX4 := hXr.stays hb4
                 have hY4 := hYr.stays hb4
                 have hcs4 : ∃ u, w4.cell? ⟨g, s, none⟩ = some u := by
                   rw [HSN.out] at hown4
                   have h5 := hown4.cellAt s (by omega)
                   rw [List.getElem?_map, List.getElem?_eq_getElem (by rw [secStrs_length]; exact hsn)] at h5
                   exact ⟨_, h5⟩
                 obtain ⟨u4, hu4⟩ := hcs4
                 have hfz4 := (HSN.out ▸ hown4).frozenAt s
                 obtain ⟨x0, x1, x2, x3, x4⟩ := box_cells hX4
                 obtain ⟨y0, y1, y2, y3, y4⟩ := box_cells hY4
                 have fx := hX4.free
                 have fy := hY4.free
                 have hg5 : w.heap.size + 1 < g := by omega
                 have hgx : (g = w.heap.size) = False := eq_false (by omega)
                 have hgx' : (w.heap.size = g) = False := eq_false (by omega)
                 have hgy : (g = w.heap.size + 1) = False := eq_false (by omega)
                 have hgy' : (w.heap.size + 1 = g) = False := eq_false (by omega))
    have hsn2 := HSN.out
    subst hsn2
    have hst := (hown4.stored s (.string (strOfNums R))).1
    rw [← List.map_set, ← HXX.out] at hst
    obtain ⟨g', cg', hv, hg', hSS⟩ := ss_of_owns (xs := secStrs (xorTo S.laid s ms ms.length) sn) (by rw [secStrs_length]; exact hst) (by rw [secStrs_length]; omega)
    simp only [secStrs_length, Value.slice.injEq, Option.some.injEq, Addr.mk.injEq, and_true, true_and] at hv
    obtain ⟨rfl, rfl⟩ := hv
    have hb40 : Below w.heap.size w w4 := hb0r.trans (hb4.mono hb0r.size)
    have hA : But g w4 (w4.setCell ⟨g, s, none⟩ (.string (strOfNums R))) := (But.refl _ _).setCell _ _
    have hBt : But w.heap.size (w4.setCell ⟨g, s, none⟩ (.string (strOfNums R))) ((w4.setCell ⟨g, s, none⟩ (.string (strOfNums R))).setCell ⟨w.heap.size, 0, none⟩ (.slice (some ⟨g, 0, none⟩) sn cg)) := (But.refl _ _).setCell _ _
    have hCt := put5_but ((w4.setCell ⟨g, s, none⟩ (.string (strOfNums R))).setCell ⟨w.heap.size, 0, none⟩ (.slice (some ⟨g, 0, none⟩) sn cg)) (w.heap.size + 1) (.slice (some ⟨g, 0, none⟩) sn cg) (.slice wa wn wc) (.bool fused) (.int .i64 (left : Int)) (.bool off)
    refine bodyPost_ret (results_blk_tmp rfl _ _ _ rfl rAgg rSize (put5_same ((hY4.but hA (by omega)).but hBt (by omega)) (.slice (some ⟨g, 0, none⟩) sn cg) (.slice wa wn wc) (.bool fused) (.int .i64 (left : Int)) (.bool off)) rfl) rfl ?_
    have hbB : Below w.heap.size w _ := (hb40.trans (hA.below (by omega) hb40.size)).trans (hBt.below (Nat.le_refl _) (by simpa using hb40.size))
    refine ⟨_, ⟨_, rfl⟩, hSS.keep (by rw [secStrs_length]; omega) (fun k hg hl => ⟨?_, ?_⟩), hbB.trans (hCt.below (by omega) hbB.size)⟩
    · exact (hCt.block k (by omega) (by simpa using hl)).trans (hBt.block k (by omega) hl)
    · omega
theorem rrot_run {w : World} {cs : List Value} (h : Rf w G cs S) (i : Int) (ma : Option Addr) (mc : Nat) (ms : List Int) (hB : Bs w ma mc ms) :
 Calls Tryd.prog 63 #[.agg cs.toArray, .int .i64 i, .slice ma ms.length mc] w fun e w' => ∃ cs', e = .returned (.tuple #[.agg cs'.toArray, .int .i64 (S.rot i ms).2]) ∧ RThen G w w' cs' (S.rot i ms).1 := by
 have h0 := h
 obtain ⟨n, sa, sc, wa, wc, hok, rfl, hs, hw⟩ := h
 have hn : S.laid.length / 256 = n := by rw [hok.len]; omega
 have hhas : S.has i ↔ (0 ≤ i ∧ i < (n : Int)) := by unfold DS.has; rw [hn]
 unfold DS.rot
 by_cases h2 : S.has i ∧ ms.length ≤ 256
 · rw [if_neg (by simpa using h2)]
   obtain ⟨hh, hm⟩ := h2
   obtain ⟨hi0, hi1⟩ := hhas.1 hh
   obtain ⟨s, rfl⟩ : ∃ s : Nat, i = (s : Int) := ⟨i.toNat, by omega⟩
   unfold rcells at h0 ⊢
   refine (rrot_go (G := G) (S := S) (n := n) (sa := sa) (sc := sc) (wa := wa) (wc := wc) s ma mc ms n S.ws.length rfl S.fused S.off S.left w hok (by omega) hs hB hm).mono ?_
   rintro e w' ⟨sa', sc', rfl, hS', hb⟩
   simp only [Int.toNat_natCast]
   refine ⟨[.slice sa' n sc', .slice wa S.ws.length wc, .bool S.fused, .int .i64 (S.left : Int), .bool S.off], rfl, ⟨n, sa', sc', wa, wc, ⟨?_, hok.lo, hok.hi, xorTo_rng hok.rng _, hok.ws, hok.left⟩, rfl, hS'.mono (fun k hk => .inr hk), hw.keep (fun k hg hl => ⟨hb.block k hl, .inl hg⟩)⟩, hb⟩
   simp only
   rw [xorTo_length]
   exact hok.len
 · rw [if_pos (by simpa using h2)]
   unfold rcells at h0 ⊢
   refine (rrot_arg (sa := sa) (sc := sc) (wa := wa) (wc := wc) i ma ms.length mc n S.ws.length S.fused S.off S.left w (by rw [hhas] at h2; exact h2)).mono ?_
   rintro e w' ⟨rfl, hb⟩
   exact ⟨_, rfl, rthen_same h0 hb⟩
end
end Go.Proofs.YthbldjnpnligpaaDoor

/-
 The program's disk and the document's one beside each other.
-/

namespace Go.Proofs.YthbldjnpnligpaaDoor
set_option linter.unusedSimpArgs false
set_option linter.unusedVariables false
set_option maxRecDepth 100000
open Go.RowKit
structure Pair (B : Nat) (w : World) (F G : Nat → Prop) (p : Nat) (S : DS) (cs : List Value) (T : DS) : Prop where
 low : ∀ k, F k → B ≤ k ∧ k < w.heap.size
 lowG : ∀ k, G k → k < w.heap.size
 dis : ∀ k, F k → G k → False
 dk : Dk w F p S
 rf : Rf w G cs T
section
variable {B p : Nat} {w w' : World} {F G : Nat → Prop} {S S' T T' : DS} {cs cs' : List Value}
theorem Pair.stays (h : Pair B w F G p S cs T) (hb : Below w.heap.size w w') : Pair B w' F G p S cs T :=
 ⟨fun k hk => ⟨(h.low k hk).1, Nat.lt_of_lt_of_le (h.low k hk).2 hb.size⟩, fun k hk => Nat.lt_of_lt_of_le (h.lowG k hk) hb.size, h.dis, h.dk.stays hb, h.rf.stays hb⟩
theorem Pair.disk (h : Pair B w F G p S cs T) (hB : B ≤ w.heap.size) (ht : Then F w w' p S') :
 ∃ F', Pair B w' F' G p S' cs T ∧ (∀ k, F' k → F k ∨ w.heap.size ≤ k) ∧ Below B w w' := by
 refine ⟨fun k => (F k ∨ w.heap.size ≤ k) ∧ k < w'.heap.size, ⟨fun k hk => ⟨?_, hk.2⟩, fun k hk => Nat.lt_of_lt_of_le (h.lowG k hk) ht.2.size, fun k hk hg => ?_, ht.1.mono (fun k hk hl => ⟨hk, hl⟩), ?_⟩, fun k hk => hk.1, ht.2.below hB (fun k hk => (h.low k hk).1)⟩
 · rcases hk.1 with h1 | h1
   · exact (h.low k h1).1
   · omega
 · rcases hk.1 with h1 | h1
   · exact h.dis k h1 hg
   · have := h.lowG k hg
     omega
 · exact h.rf.keep (fun k hg hl => ⟨ht.2.block k (fun hf => h.dis k hf hg) hl, hg⟩)
theorem Pair.but {g : Nat} (h : Pair B w F G p S cs T) (hb : But g w w') (hF : ¬ F g) (hG : ¬ G g) : Pair B w' F G p S cs T :=
 ⟨fun k hk => ⟨(h.low k hk).1, Nat.lt_of_lt_of_le (h.low k hk).2 hb.size⟩, fun k hk => Nat.lt_of_lt_of_le (h.lowG k hk) hb.size, h.dis, h.dk.keep (fun k hk hl => hb.block k (fun e => hF (e ▸ hk)) hl), h.rf.keep (fun k hk hl => ⟨hb.block k (fun e => hG (e ▸ hk)) hl, hk⟩)⟩
end
theorem box_keep {X : Nat} {w w' : World} {F : Nat → Prop} {t : TypeId} {vs : List Value} (hf : Frm F w w') (hX : Blk t w X vs) (hn : ¬ F X) : Blk t w' X vs := by
 have hl := hX.lt
 unfold Blk at *
 rw [hf.block X hn hl]
 exact hX
end Go.Proofs.YthbldjnpnligpaaDoor

/-
 The document's Read: its bytes are new.
-/

namespace Go.Proofs.YthbldjnpnligpaaDoor
set_option linter.unusedSimpArgs false
set_option linter.unusedVariables false
set_option maxRecDepth 100000
open Go.RowKit
section
variable {G : Nat → Prop} {S : DS} {sa : Option Addr} {sc : Nat} {wa : Option Addr} {wc n : Nat}
set_option maxRecDepth 100000 in
set_option maxHeartbeats 600000 in
theorem rread_go_new (s : Nat) (sn wn : Nat) (HSN : Hid (sn = n)) (HWN : Hid (wn = S.ws.length)) (fused : Bool) (left : Nat) (w : World) (hok : S.Ok n) (hsn : s < n) (hs : SsAt w G sa (secStrs S.laid n)) (hW : WsAt w G wa wc S.ws) (hlen : S.ws.length ≤ 900000) :
 Calls Tryd.prog 153 #[.agg #[.slice sa sn sc, .slice wa wn wc, .bool fused, .int .i64 (left : Int), .bool false], .int .i64 (s : Int)] w fun e w' =>
  ∃ a c, e = .returned (.tuple #[.slice a 256 c, .int .i64 0]) ∧ (Bs w' a c (readW S.laid S.ws s) ∧ ∀ x, a = some x → w.heap.size ≤ x.block) ∧ Below w.heap.size w w' := by
 have h1' : ¬ ((s : Int) < 0) := by omega
 have hsn2 := HSN.out
 have hwn2 := HWN.out
 have h2' : ¬ ((sn : Int) ≤ (s : Int)) := by omega
 have h2'' : (s : Int) < (sn : Int) := by omega
 have hX : Blk 30 (w.alloc (.cells #[.slice sa sn sc, .slice wa wn wc, .bool fused, .int .i64 (left : Int), .bool false] 30)) w.heap.size [.slice sa sn sc, .slice wa wn wc, .bool fused, .int .i64 (left : Int), .bool false] := Blk.newAt rfl rfl
 obtain ⟨W, hWe⟩ : ∃ W, W = w.alloc (.cells #[.slice sa sn sc, .slice wa wn wc, .bool fused, .int .i64 (left : Int), .bool false] 30) := ⟨_, rfl⟩
 have hbW : Below w.heap.size w W := by rw [hWe]; exact (Below.refl _ _).alloc (Nat.le_refl _) _
 rw [← hWe] at hX
 obtain ⟨z0, z1, z2, z3, z4⟩ := box_cells hX
 obtain ⟨sb, so, rfl, _, hcs⟩ := hs.keep (w' := W) (G' := G) (by rw [secStrs_length]; omega) (fun k hg hl => ⟨hbW.block k hl, hg⟩)
 have hc := hcs s (by rw [secStrs_length]; exact hsn)
 have hgd : (secStrs S.laid n).getD s .empty = strOfNums (readW S.laid (S.ws.take 0) s) := by
  simp [secStrs, List.getD, hsn, readW]
 rw [hgd] at hc
 have HWE : Hid (W = _) := hWe
 have hWW := hW.keep (w' := W) (G' := G) (fun k hg hl => ⟨hbW.block k hl, hg⟩)
 have hall : ∀ k, k ≤ S.ws.length → (readW S.laid (S.ws.take k) s).length = 256 ∧ ∀ x ∈ readW S.laid (S.ws.take k) s, 0 ≤ x ∧ x ≤ 255 := fun k hk =>
  readW_ok (S := { S with ws := S.ws.take k }) (n := n) ⟨hok.len, hok.lo, hok.hi, hok.rng, fun q hq => hok.ws q (List.mem_of_mem_take hq), hok.left⟩ hsn
 clear hWe hcs hgd hsn2 hwn2
 rw [HWE.out] at z0 z1 z2 z3 z4 hc
 go_enter Tryd.func153, Tryd.ntmps153
 go_wp2
 go_loopw [6, 7] (fun v x wr => ∃ k : Nat, x = .int .i64 k ∧ k ≤ S.ws.length ∧ v = .string (strOfNums (readW S.laid (S.ws.take k) s)) ∧ wr = W) (fun _ x _ => S.ws.length - (intOf x).toNat)
 case atStart => exact ⟨0, rfl, Nat.zero_le _, rfl, HWE.out.symm⟩
 case round =>
  rename_i hrel
  rw [← HWE.out] at z0 z1 z2 z3 z4 hc
  obtain ⟨k, rfl, hk, rfl, rfl⟩ := hrel
  by_cases hlt : k < S.ws.length
  · have hlt' : (k : Int) < (wn : Int) := by have := HWN.out; omega
    obtain ⟨b, off, rfl, hc0, hc1⟩ := hWW.at hlt
    have hru := readW_upto S.laid (S.ws.take k) (S.ws.getD k (0, [])) s
    rw [← take_succ_getD hlt] at hru
    obtain ⟨t, hte⟩ : ∃ t, t = (S.ws.getD k (0, [])).1 := ⟨_, rfl⟩
    obtain ⟨y, hye⟩ : ∃ y, y = (S.ws.getD k (0, [])).2 := ⟨_, rfl⟩
    rw [← hte] at hc0 hru
    rw [← hye] at hc1 hru
    have e2 : off + 2 * k = off + k * 2 := by omega
    rw [e2] at hc0 hc1
    have HRU : Hid (readW S.laid (S.ws.take (k + 1)) s = if t = s then y else readW S.laid (S.ws.take k) s) := hru
    clear hte hye e2 hru
    by_cases hts : t = s
    · have hts' : ((t : Int) = (s : Int)) = True := eq_true (by omega)
      go_wp2
      go_roundw
      case rel => exact ⟨k + 1, by go_num, by omega, by rw [HRU.out, if_pos hts], trivial⟩
      case measure => simp [intOf]; omega
    · have hts' : ((t : Int) = (s : Int)) = False := eq_false (by omega)
      go_wp2
      go_roundw
      case rel => exact ⟨k + 1, by go_num, by omega, by rw [HRU.out, if_neg hts], trivial⟩
      case measure => simp [intOf]; omega
  · have hlt' : ¬ ((k : Int) < (wn : Int)) := by have := HWN.out; omega
    have hkk : k = S.ws.length := by omega
    obtain ⟨hl, hr⟩ := hall k hk
    obtain ⟨c, w', hrun, hB, hb, _⟩ := conv_bs _ hr (by omega) wr
    rw [hl] at hrun
    have hfin : (Bs w' (some ⟨wr.heap.size, 0, none⟩) c (readW S.laid S.ws s) ∧ ∀ x, some (⟨wr.heap.size, 0, none⟩ : Addr) = some x → w.heap.size ≤ x.block) ∧ Below w.heap.size w w' := by
        refine ⟨⟨?_, fun x hx => by cases hx; exact hbW.size⟩, hbW.trans (hb.mono hbW.size)⟩
        rw [hkk, List.take_length] at hB
        exact hB
    generalize readW S.laid (S.ws.take k) s = R at *
    clear hkk
    go_wp2
    refine bodyPost_ret (results_tmp2 rfl _ _ _) rfl ?_
    exact ⟨_, _, rfl, hfin⟩
theorem rread_new {w : World} {cs : List Value} (h : Rf w G cs S) (i : Int) (hl : S.ws.length ≤ 900000) :
 Calls Tryd.prog 153 #[.agg cs.toArray, .int .i64 i] w fun e w' => ∃ a c, e = .returned (.tuple #[.slice a (S.read i).1.length c, .int .i64 (S.read i).2]) ∧ (Bs w' a c (S.read i).1 ∧ ∀ x, a = some x → w.heap.size ≤ x.block) ∧ Below w.heap.size w w' := by
 obtain ⟨n, sa, sc, wa, wc, hok, rfl, hs, hw⟩ := h
 have hn : S.laid.length / 256 = n := by rw [hok.len]; omega
 have hhas : S.has i ↔ (0 ≤ i ∧ i < (n : Int)) := by unfold DS.has; rw [hn]
 unfold DS.read
 by_cases h1 : S.off = true
 · rw [if_pos h1]
   unfold rcells
   refine (rread_err (sa := sa) (sc := sc) (wa := wa) (wc := wc) i n S.ws.length S.fused S.off S.left w (.inl h1)).mono ?_
   rintro e w' ⟨rfl, hb⟩
   rw [if_pos h1]
   exact ⟨none, 0, rfl, ⟨Bs.empty _, fun x hx => by cases hx⟩, hb⟩
 · rw [if_neg h1]
   have hoff : S.off = false := by simpa using h1
   by_cases h2 : S.has i
   · rw [if_neg (by simpa using h2)]
     obtain ⟨hi0, hi1⟩ := hhas.1 h2
     obtain ⟨s, rfl⟩ : ∃ s : Nat, i = (s : Int) := ⟨i.toNat, by omega⟩
     have hr := readW_ok hok (s := s) (by omega)
     unfold rcells
     rw [hoff]
     refine (rread_go_new (G := G) (S := S) (n := n) (sa := sa) (sc := sc) (wa := wa) (wc := wc) s n S.ws.length rfl rfl S.fused S.left w hok (by omega) hs hw hl).mono ?_
     rintro e w' ⟨a, c, rfl, hB, hb⟩
     simp only [Int.toNat_natCast]
     rw [hr.1]
     exact ⟨a, c, rfl, hB, hb⟩
   · rw [if_pos (by simpa using h2)]
     unfold rcells
     refine (rread_err (sa := sa) (sc := sc) (wa := wa) (wc := wc) i n S.ws.length S.fused S.off S.left w (.inr ⟨hoff, by rw [hhas] at h2; exact h2⟩)).mono ?_
     rintro e w' ⟨rfl, hb⟩
     rw [if_neg h1]
     exact ⟨none, 0, rfl, ⟨Bs.empty _, fun x hx => by cases hx⟩, hb⟩
end
end Go.Proofs.YthbldjnpnligpaaDoor
