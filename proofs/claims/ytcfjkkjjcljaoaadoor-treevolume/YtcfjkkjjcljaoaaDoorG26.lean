/-
  The document's disk: lay, Crash.
-/
import Derived.Test.YtcfjkkjjcljaoaaDoorG25
namespace Go.Proofs.YtcfjkkjjcljaoaaDoor
set_option linter.unusedSimpArgs false
set_option linter.unusedVariables false
set_option maxRecDepth 100000
open Go.RowKit

theorem str_take (xs : List Int) (n : Nat) (h : n ≤ xs.length) : (strOfNums xs).extract 0 n = strOfNums (xs.take n) := by
  apply ByteArray.ext
  simp [strOfNums, ByteArray.data_extract]

theorem str_drop (xs : List Int) (n : Nat) : (strOfNums xs).extract n xs.length = strOfNums (xs.drop n) := by
  apply ByteArray.ext
  simp [strOfNums, ByteArray.data_extract]
  rw [List.take_of_length_le (by simp)]

theorem str_append (xs ys : List Int) : strOfNums xs ++ strOfNums ys = strOfNums (xs ++ ys) := by
  apply ByteArray.ext
  simp [strOfNums, ByteArray.data_append]

set_option maxHeartbeats 600000 in
theorem rlay_run (s b : List Int) (m : Nat) (hs : s.length = 256) (hb : b.length = 256) (hm : m ≤ 256) (w : World) :
    Calls Tryd.prog 83 #[.string (strOfNums s), .string (strOfNums b), .int .i64 (m : Int)] w fun e w' => e = .returned (.string (strOfNums (b.take m ++ s.drop m))) ∧ Below w.heap.size w w' := by
  have h1 : (strOfNums s).size = 256 := by rw [strOfNums_size]; exact hs
  have h2 : (strOfNums b).size = 256 := by rw [strOfNums_size]; exact hb
  have hm' : (m : Int) ≤ 256 := by omega
  have e1 := str_take b m (by omega)
  have e2 := str_drop s m
  rw [hs] at e2
  have e3 := str_append (b.take m) (s.drop m)
  go_enter Tryd.func83, Tryd.ntmps83
  go_wp2
  have hsum : ¬ (9223372036854775807 < (strOfNums (b.take m)).size + (strOfNums (s.drop m)).size) := by rw [strOfNums_size, strOfNums_size]; simp; omega
  go_region
  all_goals (go_wp2; go_ret)
  all_goals exact ⟨rfl, (Below.refl _ _).drew⟩

theorem owns_stays6 {w w' : World} {base : Nat} {e : TypeId} {s : Nat} {v : Value} {n : Nat} {xs : List Value} (h : w.ownsRow base e s v n xs) (hb : Below w.heap.size w w') : w'.ownsRow base e s v n xs :=
  owns_keep h (fun k e => hb.block k (h.lt k e).2)

section
variable {G : Nat → Prop} {S : DS} {sa : Option Addr} {sc : Nat} {wa : Option Addr} {wc n : Nat}

set_option maxRecDepth 100000 in
set_option maxHeartbeats 2000000 in
theorem rcrash_go (ka : Option Addr) (kc : Nat) (ks : List Int) (sn wn : Nat) (HSN : Hid (sn = n)) (HWN : Hid (wn = S.ws.length)) (fused off : Bool) (left : Nat) (w : World) (hok : S.Ok n) (hs : SsAt w G sa (secStrs S.laid n)) (hW : WsAt w G wa wc S.ws) (hlen : S.ws.length ≤ 900000) (hK : Is w ka ks) (hkl : ks.length ≤ 900000) :
    Calls Tryd.prog 47 #[.agg #[.slice sa sn sc, .slice wa wn wc, .bool fused, .int .i64 (left : Int), .bool off], .slice ka ks.length kc] w fun e w' =>
      ∃ sa' sc', e = .returned (.agg #[.slice sa' sn sc', .slice none 0 0, .bool false, .int .i64 0, .bool false]) ∧ SsAt w' (fun k => w.heap.size ≤ k) sa' (secStrs (layW S.laid S.ws (fun k => ks.getD k 0) (min S.ws.length ks.length)) n) ∧ Below w.heap.size w w' := by
  obtain ⟨W, hWe⟩ : ∃ W, W = (w.alloc (.cells #[.slice sa sn sc, .slice wa wn wc, .bool fused, .int .i64 (left : Int), .bool off] 30)).alloc (.cells #[.slice none 0 0, .slice none 0 0, .bool false, .int .i64 0, .bool false] 30) := ⟨_, rfl⟩
  have hbW : Below w.heap.size w W := by rw [hWe]; exact ((Below.refl _ _).alloc (Nat.le_refl _) _).alloc (by simp) _
  have hX : Blk 30 W w.heap.size [.slice sa sn sc, .slice wa wn wc, .bool fused, .int .i64 (left : Int), .bool off] := by rw [hWe]; exact (Blk.newAt rfl rfl).alloc _
  have hY : Blk 30 W (w.heap.size + 1) [.slice none 0 0, .slice none 0 0, .bool false, .int .i64 0, .bool false] := by rw [hWe]; exact Blk.newAt (by simp) rfl
  have hsW : W.heap.size = w.heap.size + 2 := by rw [hWe]; simp
  have hown0 : (W.alloc (.cells #[] 9)).ownsRow (w.heap.size + 2) 9 1 (.slice (some ⟨w.heap.size + 2, 0, none⟩) 0 0) 0 [] := by
    rw [← hsW]
    exact World.ownsRow_made W #[] 0 (Nat.le_refl _) (by decide) rfl
  have hbA : Below (w.heap.size + 2) W (W.alloc (.cells #[] 9)) := by rw [← hsW]; exact (Below.refl _ _).alloc (Nat.le_refl _) _
  have hn16 := hok.lo
  have hn512 := hok.hi
  have HWE : Hid (W = _) := hWe
  clear hWe
  go_enter Tryd.func47, Tryd.ntmps47
  go_wp2_with (at_builtin; rw [← HWE.out]; go_must (refine wpList_append_ss (w0 := W) (by rfl) (.tmp 9) (.tmp 11) (by rfl) (w.heap.size + 2) _ (by rfl) hown0 G sa sn sc (secStrs S.laid n) (by rfl) (by rw [HSN.out, secStrs_length]) (hs.keep (G' := G) (by rw [secStrs_length]; omega) (fun k hg hl => ⟨(hbW.trans (hbA.mono (by omega))).block k hl, hg⟩)) (by rw [secStrs_length]; omega) (by simp [hsW]) hbA ?_); rw [secStrs_length]; intro v4 w4 hown4 hb4)
  obtain ⟨g, cg, hv4, hg4, _⟩ := ss_of_owns (xs := secStrs S.laid n) (by rw [secStrs_length]; exact hown4) (by rw [secStrs_length]; omega)
  rw [secStrs_length] at hv4
  subst hv4
  have hws : ∀ q ∈ S.ws, q.1 < n ∧ q.2.length = 256 := fun q hq => ⟨(hok.ws q hq).1, (hok.ws q hq).2.1⟩
  go_loopw [6] (fun x wr => ∃ k : Nat, x = .int .i64 k ∧ k ≤ S.ws.length ∧ k ≤ ks.length ∧ wr.ownsRow (w.heap.size + 2) 9 1 (.slice (some ⟨g, 0, none⟩) n cg) n ((secStrs (layW S.laid S.ws (fun k => ks.getD k 0) k) n).map Value.string) ∧ Below (w.heap.size + 2) W wr) (fun x _ => S.ws.length - (intOf x).toNat)
  case atStart => exact ⟨0, rfl, Nat.zero_le _, Nat.zero_le _, hown4, hb4⟩
  case round =>
    rename_i hrel
    clear hown4 hb4 hown0 hbA
    obtain ⟨k, rfl, hk, hkk, hown, hbr⟩ := hrel
    have hXr := hX.stays (hsW ▸ hbr)
    have hYr := hY.stays (hsW ▸ hbr)
    obtain ⟨z0, z1, z2, z3, z4⟩ := box_cells hXr
    have hb0r : Below w.heap.size w wr := hbW.trans (hbr.mono (by omega))
    by_cases hlt : k < S.ws.length ∧ k < ks.length
    · obtain ⟨hltw, hltk⟩ := hlt
      have hlt' : (k : Int) < (wn : Int) := by have := HWN.out; omega
      have hltk' : (k : Int) < (ks.length : Int) := by omega
      obtain ⟨b, o, rfl, hc0, hc1⟩ := (hW.keep (w' := wr) (G' := G) (fun k hg hl => ⟨hb0r.block k hl, hg⟩)).at hltw
      obtain ⟨kb, ko, rfl, hkc⟩ := (hK.stays hb0r).at hltk
      have hq : S.ws.getD k (0, []) ∈ S.ws := by simp [List.getD, hltw]
      obtain ⟨q1, q2⟩ := hws _ hq
      obtain ⟨s, hse⟩ : ∃ s, s = (S.ws.getD k (0, [])).1 := ⟨_, rfl⟩
      obtain ⟨y, hye⟩ : ∃ y, y = (S.ws.getD k (0, [])).2 := ⟨_, rfl⟩
      obtain ⟨kn, hkn⟩ : ∃ kn, kn = ks.getD k 0 := ⟨_, rfl⟩
      rw [← hse] at hc0 q1
      rw [← hye] at hc1 q2
      rw [← hkn] at hkc
      have hll := layW_length hok.len hws (fun k => ks.getD k 0) k (by omega)
      have hl := hok.len
      obtain ⟨L, hL⟩ : ∃ L, L = layW S.laid S.ws (fun k => ks.getD k 0) k := ⟨_, rfl⟩
      rw [← hL] at hown hll
      have hsl : (secOf L s).length = 256 := secOf_length (by omega)
      have HST : Hid (secStrs (layW S.laid S.ws (fun k => ks.getD k 0) (k + 1)) n = (secStrs L n).set s (strOfNums (y.take (clamp kn) ++ (secOf L s).drop (clamp kn)))) := by
        unfold Hid
        have hcl := clamp_le kn
        rw [layW_succ, ← hse, ← hye, ← hkn, ← hL, secStrs_lay (by omega) q1 (by simp; omega)]
        congr 4
        simp
        omega
      have e2 : o + 2 * k = o + k * 2 := by omega
      rw [e2] at hc0 hc1
      have hq1' : (s : Int) < (n : Int) := by omega
      have hcs : wr.cell? ⟨g, s, none⟩ = some (.string (strOfNums (secOf L s))) := by
        have h5 := hown.cellAt s (by omega)
        rw [List.getElem?_map] at h5
        rw [h5]
        simp [secStrs, q1]
      have hfz := hown.frozenAt s
      obtain ⟨Y, hYe⟩ : ∃ Y, Y = secOf L s := ⟨_, rfl⟩
      rw [← hYe] at hcs hsl HST
      have hcall := fun (m : Nat) (hm : m ≤ 256) (u : World) => rlay_run Y y m hsl q2 hm u
      clear hse hye hkn e2 hq hYe hL hll hl
      rcases (by omega : kn < 0 ∨ (0 ≤ kn ∧ kn ≤ 256) ∨ 256 < kn) with hn0 | ⟨hn1, hn2⟩ | hn3
      · have hcl : clamp kn = 0 := by unfold clamp; omega
        rw [hcl] at HST
        have hc := hcall 0 (by omega) wr.drew
        clear hcall hcl
        go_wp2
        go_region_law (refine step_call rfl 83 #[.string (strOfNums Y), .string (strOfNums y), .int .i64 0] (by go_simp) hc ?_; rintro e w6 ⟨rfl, hb6⟩; refine ⟨_, rfl, ?_⟩; have hcs6 : w6.cell? ⟨g, s, none⟩ = some (.string (strOfNums Y)) := (hb6.cell (World.block_lt_of_cell? wr _ hcs)).trans hcs; have hfz6 := (owns_stays6 hown.drew hb6).frozenAt s)
        all_goals go_wp2
        all_goals go_roundw
        all_goals first
          | exact ⟨k + 1, by go_num, by omega, by omega, by rw [HST.out, List.map_set]; exact ((owns_stays6 hown.drew hb6).stored s _).1, (hbr.drew.trans (hb6.mono (by have := hbr.size; simp; omega))).setCell (p := ⟨g, s, none⟩) hg4 _⟩
          | (simp [intOf]; omega)
      · obtain ⟨m, rfl⟩ : ∃ m : Nat, kn = (m : Int) := ⟨kn.toNat, by omega⟩
        have hcl : clamp (m : Int) = m := by unfold clamp; omega
        rw [hcl] at HST
        have hc := hcall m (by omega) wr.drew
        clear hcall hcl
        go_wp2
        go_region_law (refine step_call rfl 83 #[.string (strOfNums Y), .string (strOfNums y), .int .i64 (m : Int)] (by go_simp) hc ?_; rintro e w6 ⟨rfl, hb6⟩; refine ⟨_, rfl, ?_⟩; have hcs6 : w6.cell? ⟨g, s, none⟩ = some (.string (strOfNums Y)) := (hb6.cell (World.block_lt_of_cell? wr _ hcs)).trans hcs; have hfz6 := (owns_stays6 hown.drew hb6).frozenAt s)
        all_goals go_wp2
        all_goals go_roundw
        all_goals first
          | exact ⟨k + 1, by go_num, by omega, by omega, by rw [HST.out, List.map_set]; exact ((owns_stays6 hown.drew hb6).stored s _).1, (hbr.drew.trans (hb6.mono (by have := hbr.size; simp; omega))).setCell (p := ⟨g, s, none⟩) hg4 _⟩
          | (simp [intOf]; omega)
      · have hcl : clamp kn = 256 := by unfold clamp; omega
        rw [hcl] at HST
        have hc := hcall 256 (by omega) wr.drew
        clear hcall hcl
        go_wp2
        go_region_law (refine step_call rfl 83 #[.string (strOfNums Y), .string (strOfNums y), .int .i64 256] (by go_simp) hc ?_; rintro e w6 ⟨rfl, hb6⟩; refine ⟨_, rfl, ?_⟩; have hcs6 : w6.cell? ⟨g, s, none⟩ = some (.string (strOfNums Y)) := (hb6.cell (World.block_lt_of_cell? wr _ hcs)).trans hcs; have hfz6 := (owns_stays6 hown.drew hb6).frozenAt s)
        all_goals go_wp2
        all_goals go_roundw
        all_goals first
          | exact ⟨k + 1, by go_num, by omega, by omega, by rw [HST.out, List.map_set]; exact ((owns_stays6 hown.drew hb6).stored s _).1, (hbr.drew.trans (hb6.mono (by have := hbr.size; simp; omega))).setCell (p := ⟨g, s, none⟩) hg4 _⟩
          | (simp [intOf]; omega)
    · have hkk2 : k = min S.ws.length ks.length := by omega
      rw [hkk2] at hown
      obtain ⟨q0, q1, q2, q3, q4⟩ := box_cells hYr
      have gy := hYr.free
      have hend : ∀ u, But (w.heap.size + 1) wr u → SsAt u (fun k => w.heap.size ≤ k) (some ⟨g, 0, none⟩) (secStrs (layW S.laid S.ws (fun k => ks.getD k 0) (min S.ws.length ks.length)) n) ∧ Below w.heap.size w u := fun u hu => by
        obtain ⟨g', cg', hv, hg', hSS⟩ := ss_of_owns (xs := secStrs (layW S.laid S.ws (fun k => ks.getD k 0) (min S.ws.length ks.length)) n) (by rw [secStrs_length]; exact hown) (by rw [secStrs_length]; omega)
        simp only [secStrs_length, Value.slice.injEq, Option.some.injEq, Addr.mk.injEq, and_true, true_and] at hv
        obtain ⟨rfl, rfl⟩ := hv
        exact ⟨hSS.keep (by rw [secStrs_length]; omega) (fun k hg hl => ⟨hu.block k (by omega) hl, by omega⟩), hb0r.trans (hu.below (by omega) hb0r.size)⟩
      have hsn := HSN.out
      subst hsn
      clear hkk2
      by_cases hlw : k < S.ws.length
      · have h1 : (k : Int) < (wn : Int) := by have := HWN.out; omega
        have h2 : ¬ ((k : Int) < (ks.length : Int)) := by omega
        go_wp2
        refine bodyPost_ret (results_blk rfl _ _ _ rfl rAgg rSize (put5_same hYr (.slice (some ⟨g, 0, none⟩) sn cg) (.slice none 0 0) (.bool false) (.int .i64 0) (.bool false)) rfl) rfl ?_
        obtain ⟨e1, e2⟩ := hend _ (put5_but wr (w.heap.size + 1) (.slice (some ⟨g, 0, none⟩) sn cg) (.slice none 0 0) (.bool false) (.int .i64 0) (.bool false))
        exact ⟨_, ⟨_, rfl⟩, e1, e2⟩
      · have h1 : ¬ ((k : Int) < (wn : Int)) := by have := HWN.out; omega
        go_wp2
        refine bodyPost_ret (results_blk rfl _ _ _ rfl rAgg rSize (put5_same hYr (.slice (some ⟨g, 0, none⟩) sn cg) (.slice none 0 0) (.bool false) (.int .i64 0) (.bool false)) rfl) rfl ?_
        obtain ⟨e1, e2⟩ := hend _ (put5_but wr (w.heap.size + 1) (.slice (some ⟨g, 0, none⟩) sn cg) (.slice none 0 0) (.bool false) (.int .i64 0) (.bool false))
        exact ⟨_, ⟨_, rfl⟩, e1, e2⟩

theorem rcrash_run {w : World} {cs : List Value} (h : Rf w G cs S) (hl : S.ws.length ≤ 900000) (ka : Option Addr) (kc : Nat) (ks : List Int) (hK : Is w ka ks) (hkl : ks.length ≤ 900000) :
    Calls Tryd.prog 47 #[.agg cs.toArray, .slice ka ks.length kc] w fun e w' => ∃ cs', e = .returned (.agg cs'.toArray) ∧ RThen G w w' cs' (S.crash ks) := by
  obtain ⟨n, sa, sc, wa, wc, hok, rfl, hs, hw⟩ := h
  unfold rcells
  have hws : ∀ q ∈ S.ws, q.1 < n ∧ q.2.length = 256 := fun q hq => ⟨(hok.ws q hq).1, (hok.ws q hq).2.1⟩
  refine (rcrash_go (G := G) (S := S) (n := n) (sa := sa) (sc := sc) (wa := wa) (wc := wc) ka kc ks n S.ws.length rfl rfl S.fused S.off S.left w hok hs hw hl hK hkl).mono ?_
  rintro e w' ⟨sa', sc', rfl, hS', hb⟩
  refine ⟨[.slice sa' n sc', .slice none 0 0, .bool false, .int .i64 0, .bool false], rfl, ⟨n, sa', sc', none, 0, ⟨?_, hok.lo, hok.hi, layW_rng hok _ _ (by omega), (fun q hq => by cases hq), (show (0 : Nat) < 9223372036854775808 by decide)⟩, rfl, hS'.mono (fun k hk => .inr hk), .inl ⟨rfl, fun _ => rfl⟩⟩, hb⟩
  simp only [DS.crash]
  rw [layW_length hok.len hws _ _ (by omega)]
  exact hok.len

end
end Go.Proofs.YtcfjkkjjcljaoaaDoor

/-
  The document's disk: blank, New.
-/

namespace Go.Proofs.YtcfjkkjjcljaoaaDoor
set_option linter.unusedSimpArgs false
set_option linter.unusedVariables false
set_option maxRecDepth 100000
open Go.RowKit

def noughts : List Int := List.replicate 256 0

theorem noughts_length : noughts.length = 256 := List.length_replicate
theorem zeros_rng (n : Nat) : ∀ x ∈ List.replicate n (0 : Int), 0 ≤ x ∧ x ≤ 255 := by
  intro x hx
  obtain ⟨_, rfl⟩ := List.mem_replicate.1 hx
  omega
theorem noughts_rng : ∀ x ∈ noughts, 0 ≤ x ∧ x ≤ 255 := zeros_rng 256

theorem blank_run (w : World) : Calls Tryd.prog 61 #[] w fun e w' => e = .returned (.string (strOfNums noughts)) ∧ Below w.heap.size w w' := by
  have hi : (Tryd.prog.info? 5).map (fun i => (i.zero, i.size, i.bytes)) = some (some (.int .u8 0), 1, 1) := by kernel_rfl
  obtain ⟨i0, hi0, hz0, hz1, hz2⟩ := info_parts hi
  have HN : Hid (noughts = List.replicate 256 0) := rfl
  have hnl := noughts_length
  have hnr := noughts_rng
  generalize noughts = N at *
  go_enter Tryd.func61, Tryd.ntmps61
  go_wp2_with (first
    | (refine wpList_make_bytes (w0 := w) (by rfl) (.const (.int .i64 256)) (.const (.int .i64 256)) 43 (by rfl) w.heap.size 5 i0 Tryd.underlying43 hi0 hz0 hz1 hz2 .i64 .i64 256 256 256 (by rfl) (by rfl) (by omega) (by omega) (by omega) (Nat.le_refl _) (Below.refl _ _) ?_; intro w2 hrow2 hb2
       rw [← HN.out] at hrow2
       have hB := hrow2.bs hnr (by rw [hnl]; decide)
       have hcv := hB.conv (P := Tryd.prog) 256 hnl.symm 43 5 Tryd.underlying43 Tryd.underlying5 9 Tryd.underlying9
       rw [hnl] at hcv))
  go_ret
  exact ⟨rfl, hb2⟩

theorem rnew_arg (n : Int) (w : World) (hn : n < 16 ∨ 512 < n) :
    Calls Tryd.prog 28 #[.int .i64 n] w fun e w' => ∃ v, e = .returned (.tuple #[v, .int .i64 1]) ∧ (∃ x0 x1 x2 x3 x4, v = .agg #[x0, x1, x2, x3, x4]) ∧ Below w.heap.size w w' := by
  rcases hn with hn | hn
  · go_enter Tryd.func28, Tryd.ntmps28
    go_wp2
    refine bodyPost_ret (results_blk_tmp rfl _ _ _ rfl rAgg rSize (Blk.newAt (by simp) rfl) rfl) rfl ?_
    exact ⟨_, rfl, ⟨_, _, _, _, _, rfl⟩, (Below.refl _ _).alloc (Nat.le_refl _) _⟩
  · have hn' : ¬ n < 16 := by omega
    go_enter Tryd.func28, Tryd.ntmps28
    go_wp2
    refine bodyPost_ret (results_blk_tmp rfl _ _ _ rfl rAgg rSize (Blk.newAt (by simp) rfl) rfl) rfl ?_
    exact ⟨_, rfl, ⟨_, _, _, _, _, rfl⟩, (Below.refl _ _).alloc (Nat.le_refl _) _⟩

theorem new_ok (n : Nat) (h1 : 16 ≤ n) (h2 : n ≤ 512) : (DS.new n).Ok n :=
  ⟨List.length_replicate, h1, h2, zeros_rng _, (fun q hq => by cases hq), (show (0 : Nat) < 9223372036854775808 by decide)⟩

theorem sec_noughts {n s : Nat} (hs : s < n) : secOf (List.replicate (256 * n) 0) s = noughts := by
  apply List.ext_getElem?
  intro j
  rw [secOf_get]
  unfold noughts
  by_cases hj : j < 256
  · rw [if_pos hj, List.getElem?_replicate, List.getElem?_replicate, if_pos (by omega), if_pos hj]
  · rw [if_neg hj, List.getElem?_replicate, if_neg hj]

theorem sec_strs_new (n : Nat) : secStrs (DS.new n).laid n = List.replicate n (strOfNums noughts) := by
  apply List.ext_getElem?
  intro i
  unfold secStrs
  rw [List.getElem?_map, List.getElem?_replicate]
  by_cases hi : i < n
  · rw [List.getElem?_range hi, if_pos hi]
    simp only [Option.map_some, DS.new]
    rw [sec_noughts hi]
  · rw [if_neg hi, List.getElem?_eq_none (by simpa using hi)]
    rfl

set_option maxRecDepth 100000 in
set_option maxHeartbeats 600000 in
theorem rnew_run (n : Nat) (w : World) (hn1 : 16 ≤ n) (hn2 : n ≤ 512) :
    Calls Tryd.prog 28 #[.int .i64 (n : Int)] w fun e w' => ∃ cs, e = .returned (.tuple #[.agg cs.toArray, .int .i64 0]) ∧ Rf w' (fun k => w.heap.size ≤ k) cs (DS.new n) ∧ Below w.heap.size w w' := by
  have hi : (Tryd.prog.info? 9).map (fun i => (i.zero, i.size, i.bytes)) = some (some (.string .empty), 1, 16) := by kernel_rfl
  obtain ⟨i0, hi0, hz0, hz1, hz2⟩ := info_parts hi
  have h1 : ¬ ((n : Int) < 16) := by omega
  have h2 : ¬ ((512 : Int) < (n : Int)) := by omega
  obtain ⟨N, hN⟩ : ∃ N, N = strOfNums noughts := ⟨_, rfl⟩
  have hbl := blank_run
  rw [← hN] at hbl
  obtain ⟨W, hWe⟩ : ∃ W, W = w.alloc (.cells #[.slice none 0 0, .slice none 0 0, .bool false, .int .i64 0, .bool false] 30) := ⟨_, rfl⟩
  have hbW : Below w.heap.size w W := by rw [hWe]; exact (Below.refl _ _).alloc (Nat.le_refl _) _
  have hY : Blk 30 W w.heap.size [.slice none 0 0, .slice none 0 0, .bool false, .int .i64 0, .bool false] := by rw [hWe]; exact Blk.newAt rfl rfl
  have hsW : W.heap.size = w.heap.size + 1 := by rw [hWe]; simp
  have HWE : Hid (W = w.alloc (.cells #[.slice none 0 0, .slice none 0 0, .bool false, .int .i64 0, .bool false] 30)) := hWe
  have HN : Hid (N = strOfNums noughts) := hN
  clear hWe hN
  go_enter Tryd.func28, Tryd.ntmps28
  go_wp2_with (first
    | (rw [← HWE.out]; refine wpList_make_full W (by rfl) (.tmp 13) (.tmp 13) 27 (by rfl) (w.heap.size + 1) 9 i0 (.string .empty) 1 Tryd.underlying27 hi0 hz0 hz1 .i64 .i64 (n : Int) (n : Int) n (by rfl) (by rfl) rfl rfl (by rw [hz2]; omega) (by unfold maxLen; omega) (by omega) ?_; intro w2 hown2 hg2))
  have hb2 : Below (w.heap.size + 1) W w2 := (Below.refl _ _).grown hg2 (by omega) (by simp)
  have hmade : (madeCells (Value.string ByteArray.empty).cells (n * 1)).toList = (List.replicate 0 N ++ List.replicate (n - 0) ByteArray.empty).map Value.string := by
    have e2 : (Value.string ByteArray.empty).cells = #[.string .empty] := rfl
    rw [e2, Nat.mul_one, toList_madeCells_one]
    simp
  rw [hmade, hsW] at hown2
  clear hmade
  go_loopw [5] (fun x wr => ∃ k : Nat, x = .int .i64 k ∧ k ≤ n ∧ wr.ownsRow (w.heap.size + 1) 9 1 (.slice (some ⟨w.heap.size + 1, 0, none⟩) n n) n ((List.replicate k N ++ List.replicate (n - k) ByteArray.empty).map Value.string) ∧ Below (w.heap.size + 1) W wr) (fun x _ => n - (intOf x).toNat)
  case atStart => exact ⟨0, rfl, Nat.zero_le _, hown2, hb2⟩
  case round =>
    rename_i hrel
    clear hown2 hb2 hg2
    obtain ⟨k, rfl, hk, hown, hbr⟩ := hrel
    have hYr := hY.stays (hsW ▸ hbr)
    have hb0r : Below w.heap.size w wr := hbW.trans (hbr.mono (by omega))
    by_cases hlt : k < n
    · have hlt' : (k : Int) < (n : Int) := by omega
      have HST : Hid (List.replicate (k + 1) N ++ List.replicate (n - (k + 1)) ByteArray.empty = (List.replicate k N ++ List.replicate (n - k) ByteArray.empty).set k N) := by
        unfold Hid
        have e : n - k = (n - (k + 1)) + 1 := by omega
        rw [e, List.replicate_succ (a := ByteArray.empty), set_at _ _ _ _ _ (by simp), List.replicate_succ' (a := N)]
      have hcs : ∃ u, wr.cell? ⟨w.heap.size + 1, k, none⟩ = some u := by
        have h5 := hown.cellAt k (by omega)
        rw [List.getElem?_map, List.getElem?_eq_getElem (by simp; omega)] at h5
        exact ⟨_, h5⟩
      obtain ⟨u, hu⟩ := hcs
      go_wp2_with (go_at_call 61; refine (hbl _).mono ?_; rintro e w3 ⟨rfl, hb3⟩; have hu3 := (hb3.cell (World.block_lt_of_cell? _ _ hu)).trans hu; have hf3 := (owns_stays6 hown hb3).frozenAt k)
      go_roundw
      case rel => exact ⟨k + 1, by go_num, by omega, by rw [HST.out, List.map_set]; exact ((owns_stays6 hown hb3).stored k _).1, (hbr.trans (hb3.mono (by have := hbr.size; omega))).setCell (p := ⟨w.heap.size + 1, k, none⟩) (Nat.le_refl _) _⟩
      case measure => simp [intOf]; omega
    · have hlt' : ¬ ((k : Int) < (n : Int)) := by omega
      have hkn : k = n := by omega
      obtain ⟨q0, q1, q2, q3, q4⟩ := box_cells hYr
      have gy := hYr.free
      have hend : ∀ u, But w.heap.size wr u → SsAt u (fun k => w.heap.size ≤ k) (some ⟨w.heap.size + 1, 0, none⟩) (secStrs (DS.new n).laid n) ∧ Below w.heap.size w u := fun u hu => by
        rw [sec_strs_new, ← HN.out]
        rw [hkn, Nat.sub_self, List.replicate_zero, List.append_nil] at hown
        have hl : (List.replicate n N).length = n := List.length_replicate
        obtain ⟨g', cg', hv, hg', hSS⟩ := ss_of_owns (xs := List.replicate n N) (by rw [hl]; exact hown) (by rw [hl]; omega)
        simp only [hl, Value.slice.injEq, Option.some.injEq, Addr.mk.injEq, and_true, true_and] at hv
        obtain ⟨rfl, rfl⟩ := hv
        exact ⟨hSS.keep (by rw [hl]; omega) (fun k hg hl => ⟨hu.block k (by omega) hl, by omega⟩), hb0r.trans (hu.below (Nat.le_refl _) hb0r.size)⟩
      clear hkn
      go_wp2
      refine bodyPost_ret (results_blk_tmp rfl _ _ _ rfl rAgg rSize (put5_same hYr (.slice (some ⟨w.heap.size + 1, 0, none⟩) n n) (.slice none 0 0) (.bool false) (.int .i64 0) (.bool false)) rfl) rfl ?_
      obtain ⟨e1, e2⟩ := hend _ (put5_but wr w.heap.size (.slice (some ⟨w.heap.size + 1, 0, none⟩) n n) (.slice none 0 0) (.bool false) (.int .i64 0) (.bool false))
      exact ⟨[.slice (some ⟨w.heap.size + 1, 0, none⟩) n n, .slice none 0 0, .bool false, .int .i64 0, .bool false], rfl, ⟨n, _, _, none, 0, new_ok n hn1 hn2, rfl, e1, .inl ⟨rfl, fun _ => rfl⟩⟩, e2⟩

end Go.Proofs.YtcfjkkjjcljaoaaDoor

/-
  The document's disk: Rot.
-/

namespace Go.Proofs.YtcfjkkjjcljaoaaDoor
set_option linter.unusedSimpArgs false
set_option linter.unusedVariables false
set_option maxRecDepth 100000
open Go.RowKit

def xorS (xs ms : List Int) (k : Nat) : List Int := (List.range k).foldl (fun l j => l.set j (xorB (l.getD j 0) (ms.getD j 0))) xs

theorem xorS_succ (xs ms : List Int) (k : Nat) : xorS xs ms (k + 1) = (xorS xs ms k).set k (xorB ((xorS xs ms k).getD k 0) (ms.getD k 0)) := by
  simp [xorS, List.range_succ]

theorem xorS_length (xs ms : List Int) (k : Nat) : (xorS xs ms k).length = xs.length := by
  induction k with
  | zero => rfl
  | succ k ih => rw [xorS_succ, List.length_set, ih]

theorem xorS_rng {xs ms : List Int} (h : ∀ x ∈ xs, 0 ≤ x ∧ x ≤ 255) (k : Nat) : ∀ x ∈ xorS xs ms k, 0 ≤ x ∧ x ≤ 255 := by
  induction k with
  | zero => exact h
  | succ k ih =>
    intro x hx
    rw [xorS_succ] at hx
    rcases List.mem_or_eq_of_mem_set hx with hx | rfl
    · exact ih x hx
    · exact bits_within .xor .u8 _ _

theorem secOf_set {laid : List Int} {s t j : Nat} (hj : j < 256) (y : Int) : secOf (laid.set (256 * s + j) y) t = if s = t then (secOf laid t).set j y else secOf laid t := by
  apply List.ext_getElem?
  intro i
  by_cases hst : s = t
  · subst hst
    rw [if_pos rfl, secOf_get, List.getElem?_set, List.getElem?_set, secOf_get]
    by_cases hij : j = i
    · subst hij
      have hl : (j < (secOf laid s).length) ↔ (256 * s + j < laid.length) := by unfold secOf; simp; omega
      simp only [hj, if_true, hl]
    · simp only [hij, if_false]
      split
      · rw [if_neg (by omega)]
      · rfl
  · rw [if_neg hst, secOf_get, secOf_get]
    split
    · rw [List.getElem?_set, if_neg (by omega)]
    · rfl

theorem secOf_xorTo (laid : List Int) (s t : Nat) (ms : List Int) (k : Nat) (hk : k ≤ 256) : secOf (xorTo laid s ms k) t = if s = t then xorS (secOf laid t) ms k else secOf laid t := by
  induction k with
  | zero => split <;> rfl
  | succ k ih =>
    rw [xorTo_succ, secOf_set (by omega), ih (by omega)]
    by_cases hst : s = t
    · subst hst
      simp only [if_true]
      rw [xorS_succ]
      congr 2
      have h1 := ih (by omega)
      rw [if_pos rfl] at h1
      rw [← h1, List.getD_eq_getElem?_getD, List.getD_eq_getElem?_getD, secOf_get, if_pos (by omega)]
    · simp only [hst, if_false]

theorem secStrs_xor {laid : List Int} {n s : Nat} {ms : List Int} {k : Nat} (hs : s < n) (hk : k ≤ 256) : secStrs (xorTo laid s ms k) n = (secStrs laid n).set s (strOfNums (xorS (secOf laid s) ms k)) := by
  apply List.ext_getElem?
  intro i
  rw [List.getElem?_set]
  unfold secStrs
  by_cases hi : i < n
  · by_cases he : s = i
    · subst he
      simp [hs, secOf_xorTo _ _ _ _ _ hk]
    · simp [he, hi, secOf_xorTo _ _ _ _ _ hk]
  · simp [hi]
    intro he
    omega

/-- A row of bytes that a conversion has made. -/
structure Made (w : World) (g : Nat) (xs : List Int) : Prop where
  cell : ∀ i, i < xs.length → w.cell? ⟨g, i, none⟩ = some (.int .u8 (xs.getD i 0))
  free : ∀ i, i < xs.length → w.frozen? ⟨g, i, none⟩ = false

theorem Made.set {w : World} {g : Nat} {xs : List Int} (h : Made w g xs) {k : Nat} (hk : k < xs.length) (y : Int) : Made (w.setCell ⟨g, k, none⟩ (.int .u8 y)) g (xs.set k y) := by
  refine ⟨fun i hi => ?_, fun i hi => ?_⟩
  · rw [List.length_set] at hi
    by_cases he : i = k
    · subst he
      rw [World.cell?_setCell_same' _ _ _ (by rw [h.cell i hi]; rfl)]
      simp [List.getD, hi]
    · have h1 := h.cell i hi
      have h2 : (w.setCell ⟨g, k, none⟩ (.int .u8 y)).cell? ⟨g, i, none⟩ = w.cell? ⟨g, i, none⟩ := World.cell?_setCell_other w ⟨g, k, none⟩ ⟨g, i, none⟩ (.int .u8 y) (fun h => he (by cases h; rfl))
      rw [h2, h1]
      simp [List.getD, List.getElem?_set, Ne.symm he]
  · rw [List.length_set] at hi
    rw [World.frozen?_setCell]
    exact h.free i hi

theorem Made.drew {w : World} {g : Nat} {xs : List Int} (h : Made w g xs) : Made w.drew g xs := ⟨h.cell, h.free⟩

theorem Made.stays {w w' : World} {g : Nat} {xs : List Int} (h : Made w g xs) (h0 : 0 < xs.length) (hb : Below w.heap.size w w') : Made w' g xs := by
  have hlt := World.block_lt_of_cell? _ _ (h.cell 0 h0)
  exact ⟨fun i hi => (hb.cell (p := ⟨g, i, none⟩) hlt).trans (h.cell i hi), fun i hi => by rw [World.frozen?_of_block (w := w) (hb.block g hlt)]; exact h.free i hi⟩

theorem Made.bs {w : World} {g c : Nat} {xs : List Int} (h : Made w g xs) (hr : ∀ x ∈ xs, 0 ≤ x ∧ x ≤ 255) (hc : xs.length ≤ c) (hm : c ≤ maxLen) : Bs w (some ⟨g, 0, none⟩) c xs :=
  ⟨hr, hc, hm, by simp, .inr ⟨g, 0, rfl, fun i hi => by rw [Nat.zero_add]; exact h.cell i hi⟩⟩

section
variable {G : Nat → Prop} {S : DS} {sa : Option Addr} {sc : Nat} {wa : Option Addr} {wc n : Nat}

set_option maxRecDepth 100000 in
set_option maxHeartbeats 600000 in
theorem rrot_arg (i : Int) (ba : Option Addr) (bn bc : Nat) (sn : Nat) (wn : Nat) (fused off : Bool) (left : Nat) (w : World) (hi : ¬ ((0 ≤ i ∧ i < (sn : Int)) ∧ bn ≤ 256)) :
    Calls Tryd.prog 45 #[.agg #[.slice sa sn sc, .slice wa wn wc, .bool fused, .int .i64 (left : Int), .bool off], .int .i64 i, .slice ba bn bc] w fun e w' =>
      e = .returned (.tuple #[.agg #[.slice sa sn sc, .slice wa wn wc, .bool fused, .int .i64 (left : Int), .bool off], .int .i64 1]) ∧ Below w.heap.size w w' := by
  rcases (by omega : i < 0 ∨ 0 ≤ i ∧ (sn : Int) ≤ i ∨ 0 ≤ i ∧ i < (sn : Int) ∧ 256 < bn) with h | ⟨h1, h2⟩ | ⟨h1, h2, h3⟩
  · clear hi
    go_enter Tryd.func45, Tryd.ntmps45
    go_wp2
    refine bodyPost_ret (results_blk_tmp rfl _ _ _ rfl rAgg rSize (Blk.newAt (by simp) rfl) rfl) rfl ?_
    exact ⟨rfl, ((Below.refl _ _).alloc (Nat.le_refl _) _).alloc (by simp) _⟩
  · clear hi
    have h1' : ¬ (i < 0) := by omega
    go_enter Tryd.func45, Tryd.ntmps45
    go_wp2
    refine bodyPost_ret (results_blk_tmp rfl _ _ _ rfl rAgg rSize (Blk.newAt (by simp) rfl) rfl) rfl ?_
    exact ⟨rfl, ((Below.refl _ _).alloc (Nat.le_refl _) _).alloc (by simp) _⟩
  · clear hi
    have h1' : ¬ (i < 0) := by omega
    have h2' : ¬ ((sn : Int) ≤ i) := by omega
    have h3' : (256 : Int) < (bn : Int) := by omega
    clear h3
    go_enter Tryd.func45, Tryd.ntmps45
    go_wp2
    refine bodyPost_ret (results_blk_tmp rfl _ _ _ rfl rAgg rSize (Blk.newAt (by simp) rfl) rfl) rfl ?_
    exact ⟨rfl, ((Below.refl _ _).alloc (Nat.le_refl _) _).alloc (by simp) _⟩

set_option maxRecDepth 100000 in
set_option maxHeartbeats 1000000 in
theorem rrot_go (s : Nat) (ma : Option Addr) (mc : Nat) (ms : List Int) (sn wn : Nat) (HSN : Hid (sn = n)) (fused off : Bool) (left : Nat) (w : World) (hok : S.Ok n) (hsn : s < n) (hs : SsAt w G sa (secStrs S.laid n)) (hB : Bs w ma mc ms) (hm : ms.length ≤ 256) :
    Calls Tryd.prog 45 #[.agg #[.slice sa sn sc, .slice wa wn wc, .bool fused, .int .i64 (left : Int), .bool off], .int .i64 (s : Int), .slice ma ms.length mc] w fun e w' =>
      ∃ sa' sc', e = .returned (.tuple #[.agg #[.slice sa' sn sc', .slice wa wn wc, .bool fused, .int .i64 (left : Int), .bool off], .int .i64 0]) ∧ SsAt w' (fun k => w.heap.size ≤ k) sa' (secStrs (xorTo S.laid s ms ms.length) n) ∧ Below w.heap.size w w' := by
  have h1' : ¬ ((s : Int) < 0) := by omega
  have h2' : ¬ ((sn : Int) ≤ (s : Int)) := by have := HSN.out; omega
  have h2'' : (s : Int) < (sn : Int) := by have := HSN.out; omega
  have h3' : ¬ ((256 : Int) < (ms.length : Int)) := by omega
  obtain ⟨W, hWe⟩ : ∃ W, W = (w.alloc (.cells #[.slice sa sn sc, .slice wa wn wc, .bool fused, .int .i64 (left : Int), .bool off] 30)).alloc (.cells #[.slice none 0 0, .slice none 0 0, .bool false, .int .i64 0, .bool false] 30) := ⟨_, rfl⟩
  have hbW : Below w.heap.size w W := by rw [hWe]; exact ((Below.refl _ _).alloc (Nat.le_refl _) _).alloc (by simp) _
  have hX : Blk 30 W w.heap.size [.slice sa sn sc, .slice wa wn wc, .bool fused, .int .i64 (left : Int), .bool off] := by rw [hWe]; exact (Blk.newAt rfl rfl).alloc _
  have hY : Blk 30 W (w.heap.size + 1) [.slice none 0 0, .slice none 0 0, .bool false, .int .i64 0, .bool false] := by rw [hWe]; exact Blk.newAt (by simp) rfl
  have hsW : W.heap.size = w.heap.size + 2 := by rw [hWe]; simp
  have hn16 := hok.lo
  have hn512 := hok.hi
  obtain ⟨sb, so, rfl, hG, hcs⟩ := hs.keep (w' := W) (G' := G) (by rw [secStrs_length]; omega) (fun k hg hl => ⟨hbW.block k hl, hg⟩)
  have hc : W.cell? ⟨sb, so + s, none⟩ = some (.string (strOfNums (secOf S.laid s))) := by
    rw [hcs s (by rw [secStrs_length]; exact hsn)]
    simp [secStrs, List.getD, hsn]
  have hsl : (secOf S.laid s).length = 256 := secOf_length (by have := hok.len; omega)
  have hsr : ∀ x ∈ secOf S.laid s, 0 ≤ x ∧ x ≤ 255 := fun x hx => hok.rng x (List.mem_of_mem_drop (List.mem_of_mem_take hx))
  have hSW : SsAt W G (some ⟨sb, so, none⟩) (secStrs S.laid n) := ⟨sb, so, rfl, hG, hcs⟩
  have HXO := secStrs_xor (laid := S.laid) (ms := ms) hsn hm
  obtain ⟨Y, hYe⟩ : ∃ Y, Y = secOf S.laid s := ⟨_, rfl⟩
  rw [← hYe] at hc hsl hsr HXO
  obtain ⟨c, w2, hrun, hB2, hb2, hf2⟩ := conv_bs Y hsr (by omega) W
  rw [hsl] at hrun
  have hM2 : Made w2 W.heap.size (xorS Y ms 0) := ⟨fun i hi => by obtain ⟨b, o, he, h5⟩ := hB2.cell (by omega); cases he; have := h5 i hi; rwa [Nat.zero_add] at this, fun i hi => hf2 i hi⟩
  rw [hsW] at hrun hM2
  have hcap := hB2.cap
  have hcapm := hB2.capm
  have HWE : Hid (W = _) := hWe
  clear hWe hYe hcs hs hG
  rw [HWE.out] at hrun
  obtain ⟨z0, z1, z2, z3, z4⟩ := box_cells hX
  rw [HWE.out] at z0 z1 z2 z3 z4 hc
  go_enter Tryd.func45, Tryd.ntmps45
  go_wp2
  go_loopw [9] (fun x wr => ∃ k : Nat, x = .int .i64 k ∧ k ≤ ms.length ∧ Made wr (w.heap.size + 2) (xorS Y ms k) ∧ Below (w.heap.size + 2) W wr) (fun x _ => ms.length - (intOf x).toNat)
  case atStart => exact ⟨0, rfl, Nat.zero_le _, hM2, hsW ▸ hb2⟩
  case round =>
    rename_i hrel
    rw [← HWE.out] at z0 z1 z2 z3 z4 hc hrun
    clear hM2 hB2 hf2 hrun
    obtain ⟨k, rfl, hk, hM, hbr⟩ := hrel
    have hXr := hX.stays (hsW ▸ hbr)
    have hYr := hY.stays (hsW ▸ hbr)
    have hb0r : Below w.heap.size w wr := hbW.trans (hbr.mono (by omega))
    have hxl := xorS_length Y ms k
    have hszr := hbr.size
    by_cases hlt : k < ms.length
    · have hlt' : (k : Int) < (ms.length : Int) := by omega
      have hlt2 : (k : Int) < 256 := by omega
      obtain ⟨mb, mo, rfl, hmc⟩ := (hB.stays hb0r).cell (by omega)
      have hck := hmc k hlt
      have hcl := hM.cell k (by omega)
      have hfl := hM.free k (by omega)
      have HST : Hid (xorS Y ms (k + 1) = (xorS Y ms k).set k (bits BinOp.xor IntKind.u8 ((xorS Y ms k).getD k 0) (ms.getD k 0))) := xorS_succ Y ms k
      have hset := fun y => hM.set (k := k) (by omega) y
      generalize (xorS Y ms k).getD k 0 = X0 at *
      generalize ms.getD k 0 = M0 at *
      clear hmc hxl
      go_wp2
      go_still_tail 12, (by kernel_rfl)
      go_wp2
      go_roundw
      case rel => exact ⟨k + 1, by go_num, by omega, by rw [HST.out]; exact (hset _).drew, (hbr.setCell (p := ⟨w.heap.size + 2, k, none⟩) (Nat.le_refl _) _).drew⟩
      case measure => simp [intOf]; omega
    · have hlt' : ¬ ((k : Int) < (ms.length : Int)) := by omega
      have hkk : k = ms.length := by omega
      rw [hkk] at hM hxl
      obtain ⟨R, hR⟩ : ∃ R, R = xorS Y ms ms.length := ⟨_, rfl⟩
      have hRr := xorS_rng (ms := ms) hsr ms.length
      rw [← hR] at hM hRr hxl HXO
      have h14 : ∀ o : Obj, (wr.alloc o).cell? ⟨w.heap.size, 0, none⟩ = some (.slice (some ⟨sb, so, none⟩) sn sc) := fun o => (hXr.alloc o).cell 0
      have hown0 : (wr.alloc (.cells #[] 9)).ownsRow wr.heap.size 9 1 (.slice (some ⟨wr.heap.size, 0, none⟩) 0 0) 0 [] := World.ownsRow_made wr #[] 0 (Nat.le_refl _) (by decide) rfl
      have hbA : Below wr.heap.size wr (wr.alloc (.cells #[] 9)) := (Below.refl _ _).alloc (Nat.le_refl _) _
      have HKK : Hid (k = ms.length) := hkk
      have HXX : Hid (secStrs (xorTo S.laid s ms ms.length) n = (secStrs S.laid n).set s (strOfNums R)) := HXO
      have hRl : R.length = 256 := by omega
      clear hkk hR HXO hxl
      go_wp2_with (at_builtin; go_must (refine wpList_append_ss (w0 := wr) (by rfl) (.tmp 50) (.tmp 52) (by rfl) wr.heap.size _ (by rfl) hown0 G (some ⟨sb, so, none⟩) sn sc (secStrs S.laid n) (by rfl) (by rw [HSN.out, secStrs_length]) (hSW.keep (G' := G) (by rw [secStrs_length]; omega) (fun k hg hl => ⟨(hbr.block k (by omega)).symm ▸ (hbA.block k (by omega)), hg⟩)) (by rw [secStrs_length]; omega) (by simp) hbA ?_); rw [secStrs_length]; intro v4 w4 hown4 hb4
                   obtain ⟨g, cg, hv4, hg4, _⟩ := ss_of_owns (xs := secStrs S.laid n) (by rw [secStrs_length]; exact hown4) (by rw [secStrs_length]; omega)
                   rw [secStrs_length, ← HSN.out] at hv4
                   subst hv4
                   have hM4 := hM.stays (by omega) hb4
                   have hcv := (hM4.bs hRr (c := c) (by omega) hcapm).conv (P := Tryd.prog) 256 hRl.symm 43 5 Tryd.underlying43 Tryd.underlying5 9 Tryd.underlying9
                   have hX4 := hXr.stays hb4
                   have hY4 := hYr.stays hb4
                   have hcs4 : ∃ u, w4.cell? ⟨g, s, none⟩ = some u := by
                     rw [HSN.out] at hown4
                     have h5 := hown4.cellAt s (by omega)
                     rw [List.getElem?_map, List.getElem?_eq_getElem (by rw [secStrs_length]; exact hsn)] at h5
                     exact ⟨_, h5⟩
                   obtain ⟨u4, hu4⟩ := hcs4
                   have hfz4 := (HSN.out ▸ hown4).frozenAt s
                   obtain ⟨x0, x1, x2, x3, x4⟩ := box_cells hX4
                   obtain ⟨y0, y1, y2, y3, y4⟩ := box_cells hY4
                   have fx := hX4.free
                   have fy := hY4.free
                   have hg5 : w.heap.size + 1 < g := by omega
                   have hgx : (g = w.heap.size) = False := eq_false (by omega)
                   have hgx' : (w.heap.size = g) = False := eq_false (by omega)
                   have hgy : (g = w.heap.size + 1) = False := eq_false (by omega)
                   have hgy' : (w.heap.size + 1 = g) = False := eq_false (by omega))
      have hsn2 := HSN.out
      subst hsn2
      have hst := (hown4.stored s (.string (strOfNums R))).1
      rw [← List.map_set, ← HXX.out] at hst
      obtain ⟨g', cg', hv, hg', hSS⟩ := ss_of_owns (xs := secStrs (xorTo S.laid s ms ms.length) sn) (by rw [secStrs_length]; exact hst) (by rw [secStrs_length]; omega)
      simp only [secStrs_length, Value.slice.injEq, Option.some.injEq, Addr.mk.injEq, and_true, true_and] at hv
      obtain ⟨rfl, rfl⟩ := hv
      have hb40 : Below w.heap.size w w4 := hb0r.trans (hb4.mono hb0r.size)
      have hA : But g w4 (w4.setCell ⟨g, s, none⟩ (.string (strOfNums R))) := (But.refl _ _).setCell _ _
      have hBt : But w.heap.size (w4.setCell ⟨g, s, none⟩ (.string (strOfNums R))) ((w4.setCell ⟨g, s, none⟩ (.string (strOfNums R))).setCell ⟨w.heap.size, 0, none⟩ (.slice (some ⟨g, 0, none⟩) sn cg)) := (But.refl _ _).setCell _ _
      have hCt := put5_but ((w4.setCell ⟨g, s, none⟩ (.string (strOfNums R))).setCell ⟨w.heap.size, 0, none⟩ (.slice (some ⟨g, 0, none⟩) sn cg)) (w.heap.size + 1) (.slice (some ⟨g, 0, none⟩) sn cg) (.slice wa wn wc) (.bool fused) (.int .i64 (left : Int)) (.bool off)
      refine bodyPost_ret (results_blk_tmp rfl _ _ _ rfl rAgg rSize (put5_same ((hY4.but hA (by omega)).but hBt (by omega)) (.slice (some ⟨g, 0, none⟩) sn cg) (.slice wa wn wc) (.bool fused) (.int .i64 (left : Int)) (.bool off)) rfl) rfl ?_
      have hbB : Below w.heap.size w _ := (hb40.trans (hA.below (by omega) hb40.size)).trans (hBt.below (Nat.le_refl _) (by simpa using hb40.size))
      refine ⟨_, ⟨_, rfl⟩, hSS.keep (by rw [secStrs_length]; omega) (fun k hg hl => ⟨?_, ?_⟩), hbB.trans (hCt.below (by omega) hbB.size)⟩
      · exact (hCt.block k (by omega) (by simpa using hl)).trans (hBt.block k (by omega) hl)
      · omega

theorem rrot_run {w : World} {cs : List Value} (h : Rf w G cs S) (i : Int) (ma : Option Addr) (mc : Nat) (ms : List Int) (hB : Bs w ma mc ms) :
    Calls Tryd.prog 45 #[.agg cs.toArray, .int .i64 i, .slice ma ms.length mc] w fun e w' => ∃ cs', e = .returned (.tuple #[.agg cs'.toArray, .int .i64 (S.rot i ms).2]) ∧ RThen G w w' cs' (S.rot i ms).1 := by
  have h0 := h
  obtain ⟨n, sa, sc, wa, wc, hok, rfl, hs, hw⟩ := h
  have hn : S.laid.length / 256 = n := by rw [hok.len]; omega
  have hhas : S.has i ↔ (0 ≤ i ∧ i < (n : Int)) := by unfold DS.has; rw [hn]
  unfold DS.rot
  by_cases h2 : S.has i ∧ ms.length ≤ 256
  · rw [if_neg (by simpa using h2)]
    obtain ⟨hh, hm⟩ := h2
    obtain ⟨hi0, hi1⟩ := hhas.1 hh
    obtain ⟨s, rfl⟩ : ∃ s : Nat, i = (s : Int) := ⟨i.toNat, by omega⟩
    unfold rcells at h0 ⊢
    refine (rrot_go (G := G) (S := S) (n := n) (sa := sa) (sc := sc) (wa := wa) (wc := wc) s ma mc ms n S.ws.length rfl S.fused S.off S.left w hok (by omega) hs hB hm).mono ?_
    rintro e w' ⟨sa', sc', rfl, hS', hb⟩
    simp only [Int.toNat_natCast]
    refine ⟨[.slice sa' n sc', .slice wa S.ws.length wc, .bool S.fused, .int .i64 (S.left : Int), .bool S.off], rfl, ⟨n, sa', sc', wa, wc, ⟨?_, hok.lo, hok.hi, xorTo_rng hok.rng _, hok.ws, hok.left⟩, rfl, hS'.mono (fun k hk => .inr hk), hw.keep (fun k hg hl => ⟨hb.block k hl, .inl hg⟩)⟩, hb⟩
    simp only
    rw [xorTo_length]
    exact hok.len
  · rw [if_pos (by simpa using h2)]
    unfold rcells at h0 ⊢
    refine (rrot_arg (sa := sa) (sc := sc) (wa := wa) (wc := wc) i ma ms.length mc n S.ws.length S.fused S.off S.left w (by rw [hhas] at h2; exact h2)).mono ?_
    rintro e w' ⟨rfl, hb⟩
    exact ⟨_, rfl, rthen_same h0 hb⟩

end
end Go.Proofs.YtcfjkkjjcljaoaaDoor
