/-
  The document's disk: lay, Crash.
-/
import Derived.Test.YteocmmmnfbabaaaDoorRef4
namespace Go.Proofs.YteocmmmnfbabaaaDoor
set_option linter.unusedSimpArgs false
set_option linter.unusedVariables false
open Go.RowKit

theorem str_take (xs : List Int) (n : Nat) (h : n ≤ xs.length) : (strOfNums xs).extract 0 n = strOfNums (xs.take n) := by
  apply ByteArray.ext
  simp [strOfNums, ByteArray.data_extract]

theorem str_drop (xs : List Int) (n : Nat) : (strOfNums xs).extract n xs.length = strOfNums (xs.drop n) := by
  apply ByteArray.ext
  simp [strOfNums, ByteArray.data_extract]
  rw [List.take_of_length_le (by simp)]

theorem str_append (xs ys : List Int) : strOfNums xs ++ strOfNums ys = strOfNums (xs ++ ys) := by
  apply ByteArray.ext
  simp [strOfNums, ByteArray.data_append]

set_option maxHeartbeats 600000 in
theorem rlay_run (s b : List Int) (m : Nat) (hs : s.length = 256) (hb : b.length = 256) (hm : m ≤ 256) (w : World) :
    Calls Tryd.prog 58 #[.string (strOfNums s), .string (strOfNums b), .int .i64 (m : Int)] w fun e w' => e = .returned (.string (strOfNums (b.take m ++ s.drop m))) ∧ Below w.heap.size w w' := by
  have h1 : (strOfNums s).size = 256 := by rw [strOfNums_size]; exact hs
  have h2 : (strOfNums b).size = 256 := by rw [strOfNums_size]; exact hb
  have hm' : (m : Int) ≤ 256 := by omega
  have e1 := str_take b m (by omega)
  have e2 := str_drop s m
  rw [hs] at e2
  have e3 := str_append (b.take m) (s.drop m)
  go_enter Tryd.func58, Tryd.ntmps58
  go_wp2
  have hsum : ¬ (9223372036854775807 < (strOfNums (b.take m)).size + (strOfNums (s.drop m)).size) := by rw [strOfNums_size, strOfNums_size]; simp; omega
  go_region
  all_goals (go_wp2; go_ret)
  all_goals exact ⟨rfl, (Below.refl _ _).drew⟩

theorem owns_stays6 {w w' : World} {base : Nat} {e : TypeId} {s : Nat} {v : Value} {n : Nat} {xs : List Value} (h : w.ownsRow base e s v n xs) (hb : Below w.heap.size w w') : w'.ownsRow base e s v n xs :=
  owns_keep h (fun k e => hb.block k (h.lt k e).2)

section
variable {G : Nat → Prop} {S : DS} {sa : Option Addr} {sc : Nat} {wa : Option Addr} {wc n : Nat}

set_option maxRecDepth 100000 in
set_option maxHeartbeats 2000000 in
theorem rcrash_go (ka : Option Addr) (kc : Nat) (ks : List Int) (sn wn : Nat) (HSN : Hid (sn = n)) (HWN : Hid (wn = S.ws.length)) (fused off : Bool) (left : Nat) (w : World) (hok : S.Ok n) (hs : SsAt w G sa (secStrs S.laid n)) (hW : WsAt w G wa wc S.ws) (hlen : S.ws.length ≤ 900000) (hK : Is w ka ks) (hkl : ks.length ≤ 900000) :
    Calls Tryd.prog 27 #[.agg #[.slice sa sn sc, .slice wa wn wc, .bool fused, .int .i64 (left : Int), .bool off], .slice ka ks.length kc] w fun e w' =>
      ∃ sa' sc', e = .returned (.agg #[.slice sa' sn sc', .slice none 0 0, .bool false, .int .i64 0, .bool false]) ∧ SsAt w' (fun k => w.heap.size ≤ k) sa' (secStrs (layW S.laid S.ws (fun k => ks.getD k 0) (min S.ws.length ks.length)) n) ∧ Below w.heap.size w w' := by
  obtain ⟨W, hWe⟩ : ∃ W, W = (w.alloc (.cells #[.slice sa sn sc, .slice wa wn wc, .bool fused, .int .i64 (left : Int), .bool off] 48)).alloc (.cells #[.slice none 0 0, .slice none 0 0, .bool false, .int .i64 0, .bool false] 48) := ⟨_, rfl⟩
  have hbW : Below w.heap.size w W := by rw [hWe]; exact ((Below.refl _ _).alloc (Nat.le_refl _) _).alloc (by simp) _
  have hX : Blk 48 W w.heap.size [.slice sa sn sc, .slice wa wn wc, .bool fused, .int .i64 (left : Int), .bool off] := by rw [hWe]; exact (Blk.newAt rfl rfl).alloc _
  have hY : Blk 48 W (w.heap.size + 1) [.slice none 0 0, .slice none 0 0, .bool false, .int .i64 0, .bool false] := by rw [hWe]; exact Blk.newAt (by simp) rfl
  have hsW : W.heap.size = w.heap.size + 2 := by rw [hWe]; simp
  have hown0 : (W.alloc (.cells #[] 9)).ownsRow (w.heap.size + 2) 9 1 (.slice (some ⟨w.heap.size + 2, 0, none⟩) 0 0) 0 [] := by
    rw [← hsW]
    exact World.ownsRow_made W #[] 0 (Nat.le_refl _) (by decide) rfl
  have hbA : Below (w.heap.size + 2) W (W.alloc (.cells #[] 9)) := by rw [← hsW]; exact (Below.refl _ _).alloc (Nat.le_refl _) _
  have hn16 := hok.lo
  have hn512 := hok.hi
  have HWE : Hid (W = _) := hWe
  clear hWe
  go_enter Tryd.func27, Tryd.ntmps27
  go_wp2_with (at_builtin; rw [← HWE.out]; go_must (refine wpList_append_ss (w0 := W) (by rfl) (.tmp 9) (.tmp 11) (by rfl) (w.heap.size + 2) _ (by rfl) hown0 G sa sn sc (secStrs S.laid n) (by rfl) (by rw [HSN.out, secStrs_length]) (hs.keep (G' := G) (by rw [secStrs_length]; omega) (fun k hg hl => ⟨(hbW.trans (hbA.mono (by omega))).block k hl, hg⟩)) (by rw [secStrs_length]; omega) (by simp [hsW]) hbA ?_); rw [secStrs_length]; intro v4 w4 hown4 hb4)
  obtain ⟨g, cg, hv4, hg4, _⟩ := ss_of_owns (xs := secStrs S.laid n) (by rw [secStrs_length]; exact hown4) (by rw [secStrs_length]; omega)
  rw [secStrs_length] at hv4
  subst hv4
  have hws : ∀ q ∈ S.ws, q.1 < n ∧ q.2.length = 256 := fun q hq => ⟨(hok.ws q hq).1, (hok.ws q hq).2.1⟩
  go_loopw [6] (fun x wr => ∃ k : Nat, x = .int .i64 k ∧ k ≤ S.ws.length ∧ k ≤ ks.length ∧ wr.ownsRow (w.heap.size + 2) 9 1 (.slice (some ⟨g, 0, none⟩) n cg) n ((secStrs (layW S.laid S.ws (fun k => ks.getD k 0) k) n).map Value.string) ∧ Below (w.heap.size + 2) W wr) (fun x _ => S.ws.length - (intOf x).toNat)
  case atStart => exact ⟨0, rfl, Nat.zero_le _, Nat.zero_le _, hown4, hb4⟩
  case round =>
    rename_i hrel
    clear hown4 hb4 hown0 hbA
    obtain ⟨k, rfl, hk, hkk, hown, hbr⟩ := hrel
    have hXr := hX.stays (hsW ▸ hbr)
    have hYr := hY.stays (hsW ▸ hbr)
    obtain ⟨z0, z1, z2, z3, z4⟩ := box_cells hXr
    have hb0r : Below w.heap.size w wr := hbW.trans (hbr.mono (by omega))
    by_cases hlt : k < S.ws.length ∧ k < ks.length
    · obtain ⟨hltw, hltk⟩ := hlt
      have hlt' : (k : Int) < (wn : Int) := by have := HWN.out; omega
      have hltk' : (k : Int) < (ks.length : Int) := by omega
      obtain ⟨b, o, rfl, hc0, hc1⟩ := (hW.keep (w' := wr) (G' := G) (fun k hg hl => ⟨hb0r.block k hl, hg⟩)).at hltw
      obtain ⟨kb, ko, rfl, hkc⟩ := (hK.stays hb0r).at hltk
      have hq : S.ws.getD k (0, []) ∈ S.ws := by simp [List.getD, hltw]
      obtain ⟨q1, q2⟩ := hws _ hq
      obtain ⟨s, hse⟩ : ∃ s, s = (S.ws.getD k (0, [])).1 := ⟨_, rfl⟩
      obtain ⟨y, hye⟩ : ∃ y, y = (S.ws.getD k (0, [])).2 := ⟨_, rfl⟩
      obtain ⟨kn, hkn⟩ : ∃ kn, kn = ks.getD k 0 := ⟨_, rfl⟩
      rw [← hse] at hc0 q1
      rw [← hye] at hc1 q2
      rw [← hkn] at hkc
      have hll := layW_length hok.len hws (fun k => ks.getD k 0) k (by omega)
      have hl := hok.len
      obtain ⟨L, hL⟩ : ∃ L, L = layW S.laid S.ws (fun k => ks.getD k 0) k := ⟨_, rfl⟩
      rw [← hL] at hown hll
      have hsl : (secOf L s).length = 256 := secOf_length (by omega)
      have HST : Hid (secStrs (layW S.laid S.ws (fun k => ks.getD k 0) (k + 1)) n = (secStrs L n).set s (strOfNums (y.take (clamp kn) ++ (secOf L s).drop (clamp kn)))) := by
        unfold Hid
        have hcl := clamp_le kn
        rw [layW_succ, ← hse, ← hye, ← hkn, ← hL, secStrs_lay (by omega) q1 (by simp; omega)]
        congr 4
        simp
        omega
      have e2 : o + 2 * k = o + k * 2 := by omega
      rw [e2] at hc0 hc1
      have hq1' : (s : Int) < (n : Int) := by omega
      have hcs : wr.cell? ⟨g, s, none⟩ = some (.string (strOfNums (secOf L s))) := by
        have h5 := hown.cellAt s (by omega)
        rw [List.getElem?_map] at h5
        rw [h5]
        simp [secStrs, q1]
      have hfz := hown.frozenAt s
      obtain ⟨Y, hYe⟩ : ∃ Y, Y = secOf L s := ⟨_, rfl⟩
      rw [← hYe] at hcs hsl HST
      have hcall := fun (m : Nat) (hm : m ≤ 256) (u : World) => rlay_run Y y m hsl q2 hm u
      clear hse hye hkn e2 hq hYe hL hll hl
      rcases (by omega : kn < 0 ∨ (0 ≤ kn ∧ kn ≤ 256) ∨ 256 < kn) with hn0 | ⟨hn1, hn2⟩ | hn3
      · have hcl : clamp kn = 0 := by unfold clamp; omega
        rw [hcl] at HST
        have hc := hcall 0 (by omega) wr.drew
        clear hcall hcl
        go_wp2
        go_region_law (refine step_call rfl 58 #[.string (strOfNums Y), .string (strOfNums y), .int .i64 0] (by go_simp) hc ?_; rintro e w6 ⟨rfl, hb6⟩; refine ⟨_, rfl, ?_⟩; have hcs6 : w6.cell? ⟨g, s, none⟩ = some (.string (strOfNums Y)) := (hb6.cell (World.block_lt_of_cell? wr _ hcs)).trans hcs; have hfz6 := (owns_stays6 hown.drew hb6).frozenAt s)
        all_goals go_wp2
        all_goals go_roundw
        all_goals first
          | exact ⟨k + 1, by go_num, by omega, by omega, by rw [HST.out, List.map_set]; exact ((owns_stays6 hown.drew hb6).stored s _).1, (hbr.drew.trans (hb6.mono (by have := hbr.size; simp; omega))).setCell (p := ⟨g, s, none⟩) hg4 _⟩
          | (simp [intOf]; omega)
      · obtain ⟨m, rfl⟩ : ∃ m : Nat, kn = (m : Int) := ⟨kn.toNat, by omega⟩
        have hcl : clamp (m : Int) = m := by unfold clamp; omega
        rw [hcl] at HST
        have hc := hcall m (by omega) wr.drew
        clear hcall hcl
        go_wp2
        go_region_law (refine step_call rfl 58 #[.string (strOfNums Y), .string (strOfNums y), .int .i64 (m : Int)] (by go_simp) hc ?_; rintro e w6 ⟨rfl, hb6⟩; refine ⟨_, rfl, ?_⟩; have hcs6 : w6.cell? ⟨g, s, none⟩ = some (.string (strOfNums Y)) := (hb6.cell (World.block_lt_of_cell? wr _ hcs)).trans hcs; have hfz6 := (owns_stays6 hown.drew hb6).frozenAt s)
        all_goals go_wp2
        all_goals go_roundw
        all_goals first
          | exact ⟨k + 1, by go_num, by omega, by omega, by rw [HST.out, List.map_set]; exact ((owns_stays6 hown.drew hb6).stored s _).1, (hbr.drew.trans (hb6.mono (by have := hbr.size; simp; omega))).setCell (p := ⟨g, s, none⟩) hg4 _⟩
          | (simp [intOf]; omega)
      · have hcl : clamp kn = 256 := by unfold clamp; omega
        rw [hcl] at HST
        have hc := hcall 256 (by omega) wr.drew
        clear hcall hcl
        go_wp2
        go_region_law (refine step_call rfl 58 #[.string (strOfNums Y), .string (strOfNums y), .int .i64 256] (by go_simp) hc ?_; rintro e w6 ⟨rfl, hb6⟩; refine ⟨_, rfl, ?_⟩; have hcs6 : w6.cell? ⟨g, s, none⟩ = some (.string (strOfNums Y)) := (hb6.cell (World.block_lt_of_cell? wr _ hcs)).trans hcs; have hfz6 := (owns_stays6 hown.drew hb6).frozenAt s)
        all_goals go_wp2
        all_goals go_roundw
        all_goals first
          | exact ⟨k + 1, by go_num, by omega, by omega, by rw [HST.out, List.map_set]; exact ((owns_stays6 hown.drew hb6).stored s _).1, (hbr.drew.trans (hb6.mono (by have := hbr.size; simp; omega))).setCell (p := ⟨g, s, none⟩) hg4 _⟩
          | (simp [intOf]; omega)
    · have hkk2 : k = min S.ws.length ks.length := by omega
      rw [hkk2] at hown
      obtain ⟨q0, q1, q2, q3, q4⟩ := box_cells hYr
      have gy := hYr.free
      have hend : ∀ u, But (w.heap.size + 1) wr u → SsAt u (fun k => w.heap.size ≤ k) (some ⟨g, 0, none⟩) (secStrs (layW S.laid S.ws (fun k => ks.getD k 0) (min S.ws.length ks.length)) n) ∧ Below w.heap.size w u := fun u hu => by
        obtain ⟨g', cg', hv, hg', hSS⟩ := ss_of_owns (xs := secStrs (layW S.laid S.ws (fun k => ks.getD k 0) (min S.ws.length ks.length)) n) (by rw [secStrs_length]; exact hown) (by rw [secStrs_length]; omega)
        simp only [secStrs_length, Value.slice.injEq, Option.some.injEq, Addr.mk.injEq, and_true, true_and] at hv
        obtain ⟨rfl, rfl⟩ := hv
        exact ⟨hSS.keep (by rw [secStrs_length]; omega) (fun k hg hl => ⟨hu.block k (by omega) hl, by omega⟩), hb0r.trans (hu.below (by omega) hb0r.size)⟩
      have hsn := HSN.out
      subst hsn
      clear hkk2
      by_cases hlw : k < S.ws.length
      · have h1 : (k : Int) < (wn : Int) := by have := HWN.out; omega
        have h2 : ¬ ((k : Int) < (ks.length : Int)) := by omega
        go_wp2
        refine bodyPost_ret (results_blk rfl _ _ _ rfl rAgg rSize (put5_same hYr (.slice (some ⟨g, 0, none⟩) sn cg) (.slice none 0 0) (.bool false) (.int .i64 0) (.bool false)) rfl) rfl ?_
        obtain ⟨e1, e2⟩ := hend _ (put5_but wr (w.heap.size + 1) (.slice (some ⟨g, 0, none⟩) sn cg) (.slice none 0 0) (.bool false) (.int .i64 0) (.bool false))
        exact ⟨_, ⟨_, rfl⟩, e1, e2⟩
      · have h1 : ¬ ((k : Int) < (wn : Int)) := by have := HWN.out; omega
        go_wp2
        refine bodyPost_ret (results_blk rfl _ _ _ rfl rAgg rSize (put5_same hYr (.slice (some ⟨g, 0, none⟩) sn cg) (.slice none 0 0) (.bool false) (.int .i64 0) (.bool false)) rfl) rfl ?_
        obtain ⟨e1, e2⟩ := hend _ (put5_but wr (w.heap.size + 1) (.slice (some ⟨g, 0, none⟩) sn cg) (.slice none 0 0) (.bool false) (.int .i64 0) (.bool false))
        exact ⟨_, ⟨_, rfl⟩, e1, e2⟩

theorem rcrash_run {w : World} {cs : List Value} (h : Rf w G cs S) (hl : S.ws.length ≤ 900000) (ka : Option Addr) (kc : Nat) (ks : List Int) (hK : Is w ka ks) (hkl : ks.length ≤ 900000) :
    Calls Tryd.prog 27 #[.agg cs.toArray, .slice ka ks.length kc] w fun e w' => ∃ cs', e = .returned (.agg cs'.toArray) ∧ RThen G w w' cs' (S.crash ks) := by
  obtain ⟨n, sa, sc, wa, wc, hok, rfl, hs, hw⟩ := h
  unfold rcells
  have hws : ∀ q ∈ S.ws, q.1 < n ∧ q.2.length = 256 := fun q hq => ⟨(hok.ws q hq).1, (hok.ws q hq).2.1⟩
  refine (rcrash_go (G := G) (S := S) (n := n) (sa := sa) (sc := sc) (wa := wa) (wc := wc) ka kc ks n S.ws.length rfl rfl S.fused S.off S.left w hok hs hw hl hK hkl).mono ?_
  rintro e w' ⟨sa', sc', rfl, hS', hb⟩
  refine ⟨[.slice sa' n sc', .slice none 0 0, .bool false, .int .i64 0, .bool false], rfl, ⟨n, sa', sc', none, 0, ⟨?_, hok.lo, hok.hi, layW_rng hok _ _ (by omega), (fun q hq => by cases hq), (show (0 : Nat) < 9223372036854775808 by decide)⟩, rfl, hS'.mono (fun k hk => .inr hk), .inl ⟨rfl, fun _ => rfl⟩⟩, hb⟩
  simp only [DS.crash]
  rw [layW_length hok.len hws _ _ (by omega)]
  exact hok.len

end
end Go.Proofs.YteocmmmnfbabaaaDoor
