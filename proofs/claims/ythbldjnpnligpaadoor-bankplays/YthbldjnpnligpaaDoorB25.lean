/-
 The document's disk: Read, Dump.
-/
import Derived.Test.YthbldjnpnligpaaDoorB24
import Derived.Laws.IdiomStrings
import Derived.Lib.AppendStr
namespace Go.Proofs.YthbldjnpnligpaaDoor
set_option linter.unusedSimpArgs false
set_option linter.unusedVariables false
set_option maxRecDepth 100000
open Go.RowKit
theorem u8_back {x : Int} (h : 0 ≤ x ∧ x ≤ 255) : ((UInt8.ofNat x.toNat).toNat : Int) = x := by
 simp [UInt8.toNat_ofNat']
 omega
theorem strCells_nums {xs : List Int} (h : ∀ x ∈ xs, 0 ≤ x ∧ x ≤ 255) : Lib.strCells (strOfNums xs) = xs.map (Value.int .u8) := by
 unfold Lib.strCells
 rw [strOfNums_data, List.map_map]
 apply List.map_congr_left
 intro x hx
 simp only [Function.comp]
 rw [u8_back (h x hx)]
theorem conv_bs (xs : List Int) (hr : ∀ x ∈ xs, 0 ≤ x ∧ x ≤ 255) (hl : xs.length ≤ 1000000) (w : World) :
 ∃ c w', (convert 9 43 (.string (strOfNums xs))).run Tryd.prog w = .ok (.slice (some ⟨w.heap.size, 0, none⟩) xs.length c) w' ∧ Bs w' (some ⟨w.heap.size, 0, none⟩) c xs ∧ Below w.heap.size w w' ∧
   ∀ k, k < xs.length → w'.frozen? ⟨w.heap.size, k, none⟩ = false := by
 have hrun := run_bytes_of_string (P := Tryd.prog) w 9 43 5 (strOfNums xs) Tryd.underlying9 Tryd.underlying43 Tryd.underlying5
 rw [strOfNums_size] at hrun
 have hge := grownCap_ge w xs.length 0 5
 have hle := grownCap_le_maxLen w xs.length 0 5 (by unfold maxLen; omega)
 have hcell : ∀ k, k < xs.length → (bytesRow (strOfNums xs) (grownCap w xs.length 0 5))[k]? = some (.int .u8 (xs.getD k 0)) := fun k hk => by
  unfold bytesRow
  have hd : (strOfNums xs).data = (xs.map fun n => UInt8.ofNat n.toNat).toArray := rfl
  rw [Array.getElem?_append_left (by rw [hd]; simpa using hk), hd]
  simp [hk, List.getD]
  have := hr _ (List.getElem_mem hk)
  omega
 have hsz : (bytesRow (strOfNums xs) (grownCap w xs.length 0 5)).size ≥ xs.length := by
  unfold bytesRow
  have hd : (strOfNums xs).data = (xs.map fun n => UInt8.ofNat n.toNat).toArray := rfl
  rw [Array.size_append, hd]
  simp
 refine ⟨_, _, hrun, ⟨hr, hge, hle, by simp, .inr ⟨_, 0, rfl, fun i hi => ?_⟩⟩, ?_, fun k hk => ?_⟩
 · rw [Nat.zero_add]
   have hh := World.alloc_heap_new w.drew (.cells (bytesRow (strOfNums xs) (grownCap w xs.length 0 5)) 5 ((bytesRow (strOfNums xs) (grownCap w xs.length 0 5)).size, (bytesRow (strOfNums xs) (grownCap w xs.length 0 5)).size + 1))
   have hh' : w.drew.heap.size = w.heap.size := rfl
   rw [hh'] at hh
   unfold World.cell?
   simp only [hh]
   exact hcell i hi
 · exact ((Below.refl _ w).drew).alloc (Nat.le_refl _) _
 · have hh := World.alloc_heap_new w.drew (.cells (bytesRow (strOfNums xs) (grownCap w xs.length 0 5)) 5 ((bytesRow (strOfNums xs) (grownCap w xs.length 0 5)).size, (bytesRow (strOfNums xs) (grownCap w xs.length 0 5)).size + 1))
   have hh' : w.drew.heap.size = w.heap.size := rfl
   rw [hh'] at hh
   unfold World.frozen?
   simp only [hh]
   simp
   omega
section
variable {G : Nat → Prop} {S : DS} {sa : Option Addr} {sc : Nat} {wa : Option Addr} {wc n : Nat}
theorem readW_upto (laid : List Int) (ws : List (Nat × List Int)) (q : Nat × List Int) (s : Nat) : readW laid (ws ++ [q]) s = if q.1 = s then q.2 else readW laid ws s := by
 unfold readW
 rw [List.reverse_append]
 simp only [List.reverse_singleton, List.singleton_append, List.find?_cons]
 by_cases h : q.1 = s
 · simp [h]
 · have : (q.1 == s) = false := by simpa using h
   simp [this, h]
theorem take_succ_getD {ws : List (Nat × List Int)} {k : Nat} (hk : k < ws.length) : ws.take (k + 1) = ws.take k ++ [ws.getD k (0, [])] := by
 rw [List.take_add_one, List.getD_eq_getElem?_getD, List.getElem?_eq_getElem hk]
 rfl
set_option maxRecDepth 100000 in
set_option maxHeartbeats 600000 in
theorem rread_err (i : Int) (sn wn : Nat) (fused off : Bool) (left : Nat) (w : World) (h : off = true ∨ off = false ∧ ¬ (0 ≤ i ∧ i < (sn : Int))) :
 Calls Tryd.prog 153 #[.agg #[.slice sa sn sc, .slice wa wn wc, .bool fused, .int .i64 (left : Int), .bool off], .int .i64 i] w fun e w' =>
  e = .returned (.tuple #[.slice none 0 0, .int .i64 (if off then 8 else 1)]) ∧ Below w.heap.size w w' := by
 rcases h with rfl | ⟨rfl, h⟩
 · go_enter Tryd.func153, Tryd.ntmps153
   go_wp2
   refine bodyPost_ret (results_tmp2 rfl _ _ _) rfl ?_
   exact ⟨rfl, (Below.refl _ _).alloc (Nat.le_refl _) _⟩
 · rcases (by omega : i < 0 ∨ 0 ≤ i ∧ (sn : Int) ≤ i) with h1 | ⟨h1, h2⟩
   · clear h
     go_enter Tryd.func153, Tryd.ntmps153
     go_wp2
     refine bodyPost_ret (results_tmp2 rfl _ _ _) rfl ?_
     exact ⟨rfl, (Below.refl _ _).alloc (Nat.le_refl _) _⟩
   · clear h
     have h1' : ¬ (i < 0) := by omega
     go_enter Tryd.func153, Tryd.ntmps153
     go_wp2
     refine bodyPost_ret (results_tmp2 rfl _ _ _) rfl ?_
     exact ⟨rfl, (Below.refl _ _).alloc (Nat.le_refl _) _⟩
theorem secs_join {laid : List Int} {n : Nat} (h : laid.length = 256 * n) : (List.range n).flatMap (secOf laid) = laid := by
 induction n generalizing laid with
 | zero => simp [List.eq_nil_of_length_eq_zero (by simpa using h)]
 | succ n ih =>
   rw [List.range_succ, List.flatMap_append]
   have h1 : (List.range n).flatMap (secOf laid) = laid.take (256 * n) := by
    rw [← ih (laid := laid.take (256 * n)) (by simp; omega)]
    refine Go.Deep.flatMap_congr_range (fun i hi' => ?_)
    apply List.ext_getElem?
    intro j
    rw [secOf_get, secOf_get]
    split
    · rw [List.getElem?_take, if_pos (by omega)]
    · rfl
   rw [h1]
   simp only [List.flatMap_cons, List.flatMap_nil, List.append_nil]
   unfold secOf
   rw [List.take_of_length_le (l := laid.drop (256 * n)) (by simp; omega), List.take_append_drop]
set_option maxRecDepth 100000 in
set_option maxHeartbeats 600000 in
theorem rdump_run {w : World} {cs : List Value} (h : Rf w G cs S) :
 Calls Tryd.prog 15 #[.agg cs.toArray] w fun e w' => ∃ a c, e = .returned (.slice a S.laid.length c) ∧ Bs w' a c S.laid ∧ Below w.heap.size w w' := by
 obtain ⟨n, sa, sc, wa, wc, hok, rfl, hs, hw⟩ := h
 have hi : (Tryd.prog.info? 5).map (fun i => (i.zero, i.size, i.bytes)) = some (some (.int .u8 0), 1, 1) := by kernel_rfl
 obtain ⟨i0, hi0, hz0, hz1, hz2⟩ := info_parts hi
 unfold rcells
 have hn16 := hok.lo
 have hn512 := hok.hi
 obtain ⟨W, hWe⟩ : ∃ W, W = w.alloc (.cells #[.slice sa n sc, .slice wa S.ws.length wc, .bool S.fused, .int .i64 (S.left : Int), .bool S.off] 30) := ⟨_, rfl⟩
 have hbW : Below w.heap.size w W := by rw [hWe]; exact (Below.refl _ _).alloc (Nat.le_refl _) _
 have hX : Blk 30 W w.heap.size [.slice sa n sc, .slice wa S.ws.length wc, .bool S.fused, .int .i64 (S.left : Int), .bool S.off] := by rw [hWe]; exact Blk.newAt rfl rfl
 have hsW : W.heap.size = w.heap.size + 1 := by rw [hWe]; simp
 obtain ⟨sb, so, rfl, _, hcs⟩ := hs.keep (w' := W) (G' := G) (by rw [secStrs_length]; omega) (fun k hg hl => ⟨hbW.block k hl, hg⟩)
 have hsb : sb < W.heap.size := World.block_lt_of_cell? _ _ (hcs 0 (by rw [secStrs_length]; omega))
 have HWE : Hid (W = w.alloc (.cells #[.slice (some ⟨sb, so, none⟩) n sc, .slice wa S.ws.length wc, .bool S.fused, .int .i64 (S.left : Int), .bool S.off] 30)) := hWe
 clear hWe
 have hown0 : (W.alloc (.cells #[] 5)).ownsRow (w.heap.size + 1) 5 1 (.slice (some ⟨w.heap.size + 1, 0, none⟩) 0 0) ((List.range 0).flatMap (secOf S.laid)).length (((List.range 0).flatMap (secOf S.laid)).map (Value.int .u8)) := by
  rw [← hsW]
  exact World.ownsRow_made W #[] 0 (Nat.le_refl _) (by decide) rfl
 have hbA : Below (w.heap.size + 1) W (W.alloc (.cells #[] 5)) := by rw [← hsW]; exact (Below.refl _ _).alloc (Nat.le_refl _) _
 have hsl : ∀ k, k < n → (secOf S.laid k).length = 256 := fun k hk => secOf_length (by have := hok.len; omega)
 have hjl : ∀ k, k ≤ n → ((List.range k).flatMap (secOf S.laid)).length = 256 * k := fun k hk => by
  induction k with
  | zero => rfl
  | succ k ih => rw [List.range_succ, List.flatMap_append, List.length_append, ih (by omega)]; simp [hsl k (by omega)]; omega
 go_enter Tryd.func15, Tryd.ntmps15
 go_wp2
 go_loopw [3, 4] (fun v x wr => ∃ k : Nat, x = .int .i64 k ∧ k ≤ n ∧ wr.ownsRow (w.heap.size + 1) 5 1 v ((List.range k).flatMap (secOf S.laid)).length (((List.range k).flatMap (secOf S.laid)).map (Value.int .u8)) ∧ Below (w.heap.size + 1) W wr) (fun _ x _ => n - (intOf x).toNat)
 case atStart => exact ⟨0, rfl, Nat.zero_le _, by rw [← HWE.out]; exact hown0, by rw [← HWE.out]; exact hbA⟩
 case round =>
  rename_i hrel
  clear hown0 hbA
  obtain ⟨k, rfl, hk, hown, hbr⟩ := hrel
  obtain ⟨z0, z1, z2, z3, z4⟩ := box_cells (hX.stays (hsW ▸ hbr))
  have hsr := hbr.size
  by_cases hlt : k < n
  · have hlt' : (k : Int) < (n : Int) := by omega
    have hck : wr.cell? ⟨sb, so + k, none⟩ = some (.string (strOfNums (secOf S.laid k))) := by
        rw [hbr.cell (p := ⟨sb, so + k, none⟩) (by simp; omega), hcs k (by rw [secStrs_length]; exact hlt)]
        simp [secStrs, List.getD, hlt]
    obtain ⟨R, hR⟩ : ∃ R, R = (List.range k).flatMap (secOf S.laid) := ⟨_, rfl⟩
    have hRl := hjl k (by omega)
    have HR1 : Hid ((List.range (k + 1)).flatMap (secOf S.laid) = R ++ secOf S.laid k) := by unfold Hid; rw [List.range_succ, List.flatMap_append, hR]; simp
    have hstr := strCells_nums (xs := secOf S.laid k) (fun x hx => hok.rng x (List.mem_of_mem_drop (List.mem_of_mem_take hx)))
    have hsz : (strOfNums (secOf S.laid k)).size = 256 := by rw [strOfNums_size]; exact hsl k hlt
    rw [← hR] at hown hRl
    have HYl : Hid ((secOf S.laid k).length = 256) := hsl k hlt
    generalize secOf S.laid k = Y at *
    clear hR
    go_wp2_with (at_builtin; go_must (refine Lib.wpList_append_own_string _ (by rfl) (.tmp 13) (.tmp 18) 43 9 (by rfl) (w.heap.size + 1) 5 i0 Tryd.underlying43 Tryd.underlying9 hi0 hz0 hz1 hz2 _ R.length (R.map (Value.int .u8)) (by rfl) hown (strOfNums Y) (by rfl) (by unfold maxLen; omega) (by omega) (by omega) ?_); intro v5 w5 hown5 hgrow5 _)
    go_roundw
    case rel =>
        refine ⟨k + 1, by go_num, by omega, ?_, owns_below hown hbr (by omega) hgrow5⟩
        rw [HR1.out, List.length_append, List.map_append, ← hstr, HYl.out, ← hsz]
        exact hown5
    case measure => simp [intOf]; omega
  · have hlt' : ¬ ((k : Int) < (n : Int)) := by omega
    have hkn : k = n := by omega
    rw [hkn, secs_join hok.len] at hown
    obtain ⟨a, c, hv, hB⟩ := Bs.of_owns hown hok.rng
    have hb : Below w.heap.size w wr := hbW.trans (hbr.mono (by omega))
    subst hv
    clear hkn
    go_wp2
    go_ret
    exact ⟨a, c, rfl, hB, hb⟩
end
end Go.Proofs.YthbldjnpnligpaaDoor

/-
 The document's disk: lay, Crash.
-/

namespace Go.Proofs.YthbldjnpnligpaaDoor
set_option linter.unusedSimpArgs false
set_option linter.unusedVariables false
set_option maxRecDepth 100000
open Go.RowKit
theorem str_take (xs : List Int) (n : Nat) (h : n ≤ xs.length) : (strOfNums xs).extract 0 n = strOfNums (xs.take n) := by
 apply ByteArray.ext
 simp [strOfNums, ByteArray.data_extract]
theorem str_drop (xs : List Int) (n : Nat) : (strOfNums xs).extract n xs.length = strOfNums (xs.drop n) := by
 apply ByteArray.ext
 simp [strOfNums, ByteArray.data_extract]
 rw [List.take_of_length_le (by simp)]
theorem str_append (xs ys : List Int) : strOfNums xs ++ strOfNums ys = strOfNums (xs ++ ys) := by
 apply ByteArray.ext
 simp [strOfNums, ByteArray.data_append]
set_option maxHeartbeats 600000 in
theorem rlay_run (s b : List Int) (m : Nat) (hs : s.length = 256) (hb : b.length = 256) (hm : m ≤ 256) (w : World) :
 Calls Tryd.prog 116 #[.string (strOfNums s), .string (strOfNums b), .int .i64 (m : Int)] w fun e w' => e = .returned (.string (strOfNums (b.take m ++ s.drop m))) ∧ Below w.heap.size w w' := by
 have h1 : (strOfNums s).size = 256 := by rw [strOfNums_size]; exact hs
 have h2 : (strOfNums b).size = 256 := by rw [strOfNums_size]; exact hb
 have hm' : (m : Int) ≤ 256 := by omega
 have e1 := str_take b m (by omega)
 have e2 := str_drop s m
 rw [hs] at e2
 have e3 := str_append (b.take m) (s.drop m)
 go_enter Tryd.func116, Tryd.ntmps116
 go_wp2
 have hsum : ¬ (9223372036854775807 < (strOfNums (b.take m)).size + (strOfNums (s.drop m)).size) := by rw [strOfNums_size, strOfNums_size]; simp; omega
 go_region
 all_goals (go_wp2; go_ret)
 all_goals exact ⟨rfl, (Below.refl _ _).drew⟩
theorem owns_stays6 {w w' : World} {base : Nat} {e : TypeId} {s : Nat} {v : Value} {n : Nat} {xs : List Value} (h : w.ownsRow base e s v n xs) (hb : Below w.heap.size w w') : w'.ownsRow base e s v n xs :=
 owns_keep h (fun k e => hb.block k (h.lt k e).2)
section
variable {G : Nat → Prop} {S : DS} {sa : Option Addr} {sc : Nat} {wa : Option Addr} {wc n : Nat}
set_option maxRecDepth 100000 in
set_option maxHeartbeats 2000000 in
theorem rcrash_go (ka : Option Addr) (kc : Nat) (ks : List Int) (sn wn : Nat) (HSN : Hid (sn = n)) (HWN : Hid (wn = S.ws.length)) (fused off : Bool) (left : Nat) (w : World) (hok : S.Ok n) (hs : SsAt w G sa (secStrs S.laid n)) (hW : WsAt w G wa wc S.ws) (hlen : S.ws.length ≤ 900000) (hK : Is w ka ks) (hkl : ks.length ≤ 900000) :
 Calls Tryd.prog 65 #[.agg #[.slice sa sn sc, .slice wa wn wc, .bool fused, .int .i64 (left : Int), .bool off], .slice ka ks.length kc] w fun e w' =>
  ∃ sa' sc', e = .returned (.agg #[.slice sa' sn sc', .slice none 0 0, .bool false, .int .i64 0, .bool false]) ∧ SsAt w' (fun k => w.heap.size ≤ k) sa' (secStrs (layW S.laid S.ws (fun k => ks.getD k 0) (min S.ws.length ks.length)) n) ∧ Below w.heap.size w w' := by
 obtain ⟨W, hWe⟩ : ∃ W, W = (w.alloc (.cells #[.slice sa sn sc, .slice wa wn wc, .bool fused, .int .i64 (left : Int), .bool off] 30)).alloc (.cells #[.slice none 0 0, .slice none 0 0, .bool false, .int .i64 0, .bool false] 30) := ⟨_, rfl⟩
 have hbW : Below w.heap.size w W := by rw [hWe]; exact ((Below.refl _ _).alloc (Nat.le_refl _) _).alloc (by simp) _
 have hX : Blk 30 W w.heap.size [.slice sa sn sc, .slice wa wn wc, .bool fused, .int .i64 (left : Int), .bool off] := by rw [hWe]; exact (Blk.newAt rfl rfl).alloc _
 have hY : Blk 30 W (w.heap.size + 1) [.slice none 0 0, .slice none 0 0, .bool false, .int .i64 0, .bool false] := by rw [hWe]; exact Blk.newAt (by simp) rfl
 have hsW : W.heap.size = w.heap.size + 2 := by rw [hWe]; simp
 have hown0 : (W.alloc (.cells #[] 9)).ownsRow (w.heap.size + 2) 9 1 (.slice (some ⟨w.heap.size + 2, 0, none⟩) 0 0) 0 [] := by
  rw [← hsW]
  exact World.ownsRow_made W #[] 0 (Nat.le_refl _) (by decide) rfl
 have hbA : Below (w.heap.size + 2) W (W.alloc (.cells #[] 9)) := by rw [← hsW]; exact (Below.refl _ _).alloc (Nat.le_refl _) _
 have hn16 := hok.lo
 have hn512 := hok.hi
 have HWE : Hid (W = _) := hWe
 clear hWe
 go_enter Tryd.func65, Tryd.ntmps65
 go_wp2_with (at_builtin; rw [← HWE.out]; go_must (refine wpList_append_ss (w0 := W) (by rfl) (.tmp 9) (.tmp 11) (by rfl) (w.heap.size + 2) _ (by rfl) hown0 G sa sn sc (secStrs S.laid n) (by rfl) (by rw [HSN.out, secStrs_length]) (hs.keep (G' := G) (by rw [secStrs_length]; omega) (fun k hg hl => ⟨(hbW.trans (hbA.mono (by omega))).block k hl, hg⟩)) (by rw [secStrs_length]; omega) (by simp [hsW]) hbA ?_); rw [secStrs_length]; intro v4 w4 hown4 hb4)
 obtain ⟨g, cg, hv4, hg4, _⟩ := ss_of_owns (xs := secStrs S.laid n) (by rw [secStrs_length]; exact hown4) (by rw [secStrs_length]; omega)
 rw [secStrs_length] at hv4
 subst hv4
 have hws : ∀ q ∈ S.ws, q.1 < n ∧ q.2.length = 256 := fun q hq => ⟨(hok.ws q hq).1, (hok.ws q hq).2.1⟩
 go_loopw [6] (fun x wr => ∃ k : Nat, x = .int .i64 k ∧ k ≤ S.ws.length ∧ k ≤ ks.length ∧ wr.ownsRow (w.heap.size + 2) 9 1 (.slice (some ⟨g, 0, none⟩) n cg) n ((secStrs (layW S.laid S.ws (fun k => ks.getD k 0) k) n).map Value.string) ∧ Below (w.heap.size + 2) W wr) (fun x _ => S.ws.length - (intOf x).toNat)
 case atStart => exact ⟨0, rfl, Nat.zero_le _, Nat.zero_le _, hown4, hb4⟩
 case round =>
  rename_i hrel
  clear hown4 hb4 hown0 hbA
  obtain ⟨k, rfl, hk, hkk, hown, hbr⟩ := hrel
  have hXr := hX.stays (hsW ▸ hbr)
  have hYr := hY.stays (hsW ▸ hbr)
  obtain ⟨z0, z1, z2, z3, z4⟩ := box_cells hXr
  have hb0r : Below w.heap.size w wr := hbW.trans (hbr.mono (by omega))
  by_cases hlt : k < S.ws.length ∧ k < ks.length
  · obtain ⟨hltw, hltk⟩ := hlt
    have hlt' : (k : Int) < (wn : Int) := by have := HWN.out; omega
    have hltk' : (k : Int) < (ks.length : Int) := by omega
    obtain ⟨b, o, rfl, hc0, hc1⟩ := (hW.keep (w' := wr) (G' := G) (fun k hg hl => ⟨hb0r.block k hl, hg⟩)).at hltw
    obtain ⟨kb, ko, rfl, hkc⟩ := (hK.stays hb0r).at hltk
    have hq : S.ws.getD k (0, []) ∈ S.ws := by simp [List.getD, hltw]
    obtain ⟨q1, q2⟩ := hws _ hq
    obtain ⟨s, hse⟩ : ∃ s, s = (S.ws.getD k (0, [])).1 := ⟨_, rfl⟩
    obtain ⟨y, hye⟩ : ∃ y, y = (S.ws.getD k (0, [])).2 := ⟨_, rfl⟩
    obtain ⟨kn, hkn⟩ : ∃ kn, kn = ks.getD k 0 := ⟨_, rfl⟩
    rw [← hse] at hc0 q1
    rw [← hye] at hc1 q2
    rw [← hkn] at hkc
    have hll := layW_length hok.len hws (fun k => ks.getD k 0) k (by omega)
    have hl := hok.len
    obtain ⟨L, hL⟩ : ∃ L, L = layW S.laid S.ws (fun k => ks.getD k 0) k := ⟨_, rfl⟩
    rw [← hL] at hown hll
    have hsl : (secOf L s).length = 256 := secOf_length (by omega)
    have HST : Hid (secStrs (layW S.laid S.ws (fun k => ks.getD k 0) (k + 1)) n = (secStrs L n).set s (strOfNums (y.take (clamp kn) ++ (secOf L s).drop (clamp kn)))) := by
        unfold Hid
        have hcl := clamp_le kn
        rw [layW_succ, ← hse, ← hye, ← hkn, ← hL, secStrs_lay (by omega) q1 (by simp; omega)]
        congr 4
        simp
        omega
    have e2 : o + 2 * k = o + k * 2 := by omega
    rw [e2] at hc0 hc1
    have hq1' : (s : Int) < (n : Int) := by omega
    have hcs : wr.cell? ⟨g, s, none⟩ = some (.string (strOfNums (secOf L s))) := by
        have h5 := hown.cellAt s (by omega)
        rw [List.getElem?_map] at h5
        rw [h5]
        simp [secStrs, q1]
    have hfz := hown.frozenAt s
    obtain ⟨Y, hYe⟩ : ∃ Y, Y = secOf L s := ⟨_, rfl⟩
    rw [← hYe] at hcs hsl HST
    have hcall := fun (m : Nat) (hm : m ≤ 256) (u : World) => rlay_run Y y m hsl q2 hm u
    clear hse hye hkn e2 hq hYe hL hll hl
    rcases (by omega : kn < 0 ∨ (0 ≤ kn ∧ kn ≤ 256) ∨ 256 < kn) with hn0 | ⟨hn1, hn2⟩ | hn3
    · have hcl : clamp kn = 0 := by unfold clamp; omega
      rw [hcl] at HST
      have hc := hcall 0 (by omega) wr.drew
      clear hcall hcl
      go_wp2
      go_region_law (refine step_call rfl 116 #[.string (strOfNums Y), .string (strOfNums y), .int .i64 0] (by go_simp) hc ?_; rintro e w6 ⟨rfl, hb6⟩; refine ⟨_, rfl, ?_⟩; have hcs6 : w6.cell? ⟨g, s, none⟩ = some (.string (strOfNums Y)) := (hb6.cell (World.block_lt_of_cell? wr _ hcs)).trans hcs; have hfz6 := (owns_stays6 hown.drew hb6).frozenAt s)
      all_goals go_wp2
      all_goals go_roundw
      all_goals first
       | exact ⟨k + 1, by go_num, by omega, by omega, by rw [HST.out, List.map_set]; exact ((owns_stays6 hown.drew hb6).stored s _).1, (hbr.drew.trans (hb6.mono (by have := hbr.size; simp; omega))).setCell (p := ⟨g, s, none⟩) hg4 _⟩
       | (simp [intOf]; omega)
    · obtain ⟨m, rfl⟩ : ∃ m : Nat, kn = (m : Int) := ⟨kn.toNat, by omega⟩
      have hcl : clamp (m : Int) = m := by unfold clamp; omega
      rw [hcl] at HST
      have hc := hcall m (by omega) wr.drew
      clear hcall hcl
      go_wp2
      go_region_law (refine step_call rfl 116 #[.string (strOfNums Y), .string (strOfNums y), .int .i64 (m : Int)] (by go_simp) hc ?_; rintro e w6 ⟨rfl, hb6⟩; refine ⟨_, rfl, ?_⟩; have hcs6 : w6.cell? ⟨g, s, none⟩ = some (.string (strOfNums Y)) := (hb6.cell (World.block_lt_of_cell? wr _ hcs)).trans hcs; have hfz6 := (owns_stays6 hown.drew hb6).frozenAt s)
      all_goals go_wp2
      all_goals go_roundw
      all_goals first
       | exact ⟨k + 1, by go_num, by omega, by omega, by rw [HST.out, List.map_set]; exact ((owns_stays6 hown.drew hb6).stored s _).1, (hbr.drew.trans (hb6.mono (by have := hbr.size; simp; omega))).setCell (p := ⟨g, s, none⟩) hg4 _⟩
       | (simp [intOf]; omega)
    · have hcl : clamp kn = 256 := by unfold clamp; omega
      rw [hcl] at HST
      have hc := hcall 256 (by omega) wr.drew
      clear hcall hcl
      go_wp2
      go_region_law (refine step_call rfl 116 #[.string (strOfNums Y), .string (strOfNums y), .int .i64 256] (by go_simp) hc ?_; rintro e w6 ⟨rfl, hb6⟩; refine ⟨_, rfl, ?_⟩; have hcs6 : w6.cell? ⟨g, s, none⟩ = some (.string (strOfNums Y)) := (hb6.cell (World.block_lt_of_cell? wr _ hcs)).trans hcs; have hfz6 := (owns_stays6 hown.drew hb6).frozenAt s)
      all_goals go_wp2
      all_goals go_roundw
      all_goals first
       | exact ⟨k + 1, by go_num, by omega, by omega, by rw [HST.out, List.map_set]; exact ((owns_stays6 hown.drew hb6).stored s _).1, (hbr.drew.trans (hb6.mono (by have := hbr.size; simp; omega))).setCell (p := ⟨g, s, none⟩) hg4 _⟩
       | (simp [intOf]; omega)
  · have hkk2 : k = min S.ws.length ks.length := by omega
    rw [hkk2] at hown
    obtain ⟨q0, q1, q2, q3, q4⟩ := box_cells hYr
    have gy := hYr.free
    have hend : ∀ u, But (w.heap.size + 1) wr u → SsAt u (fun k => w.heap.size ≤ k) (some ⟨g, 0, none⟩) (secStrs (layW S.laid S.ws (fun k => ks.getD k 0) (min S.ws.length ks.length)) n) ∧ Below w.heap.size w u := fun u hu => by
        obtain ⟨g', cg', hv, hg', hSS⟩ := ss_of_owns (xs := secStrs (layW S.laid S.ws (fun k => ks.getD k 0) (min S.ws.length ks.length)) n) (by rw [secStrs_length]; exact hown) (by rw [secStrs_length]; omega)
        simp only [secStrs_length, Value.slice.injEq, Option.some.injEq, Addr.mk.injEq, and_true, true_and] at hv
        obtain ⟨rfl, rfl⟩ := hv
        exact ⟨hSS.keep (by rw [secStrs_length]; omega) (fun k hg hl => ⟨hu.block k (by omega) hl, by omega⟩), hb0r.trans (hu.below (by omega) hb0r.size)⟩
    have hsn := HSN.out
    subst hsn
    clear hkk2
    by_cases hlw : k < S.ws.length
    · have h1 : (k : Int) < (wn : Int) := by have := HWN.out; omega
      have h2 : ¬ ((k : Int) < (ks.length : Int)) := by omega
      go_wp2
      refine bodyPost_ret (results_blk rfl _ _ _ rfl rAgg rSize (put5_same hYr (.slice (some ⟨g, 0, none⟩) sn cg) (.slice none 0 0) (.bool false) (.int .i64 0) (.bool false)) rfl) rfl ?_
      obtain ⟨e1, e2⟩ := hend _ (put5_but wr (w.heap.size + 1) (.slice (some ⟨g, 0, none⟩) sn cg) (.slice none 0 0) (.bool false) (.int .i64 0) (.bool false))
      exact ⟨_, ⟨_, rfl⟩, e1, e2⟩
    · have h1 : ¬ ((k : Int) < (wn : Int)) := by have := HWN.out; omega
      go_wp2
      refine bodyPost_ret (results_blk rfl _ _ _ rfl rAgg rSize (put5_same hYr (.slice (some ⟨g, 0, none⟩) sn cg) (.slice none 0 0) (.bool false) (.int .i64 0) (.bool false)) rfl) rfl ?_
      obtain ⟨e1, e2⟩ := hend _ (put5_but wr (w.heap.size + 1) (.slice (some ⟨g, 0, none⟩) sn cg) (.slice none 0 0) (.bool false) (.int .i64 0) (.bool false))
      exact ⟨_, ⟨_, rfl⟩, e1, e2⟩
theorem rcrash_run {w : World} {cs : List Value} (h : Rf w G cs S) (hl : S.ws.length ≤ 900000) (ka : Option Addr) (kc : Nat) (ks : List Int) (hK : Is w ka ks) (hkl : ks.length ≤ 900000) :
 Calls Tryd.prog 65 #[.agg cs.toArray, .slice ka ks.length kc] w fun e w' => ∃ cs', e = .returned (.agg cs'.toArray) ∧ RThen G w w' cs' (S.crash ks) := by
 obtain ⟨n, sa, sc, wa, wc, hok, rfl, hs, hw⟩ := h
 unfold rcells
 have hws : ∀ q ∈ S.ws, q.1 < n ∧ q.2.length = 256 := fun q hq => ⟨(hok.ws q hq).1, (hok.ws q hq).2.1⟩
 refine (rcrash_go (G := G) (S := S) (n := n) (sa := sa) (sc := sc) (wa := wa) (wc := wc) ka kc ks n S.ws.length rfl rfl S.fused S.off S.left w hok hs hw hl hK hkl).mono ?_
 rintro e w' ⟨sa', sc', rfl, hS', hb⟩
 refine ⟨[.slice sa' n sc', .slice none 0 0, .bool false, .int .i64 0, .bool false], rfl, ⟨n, sa', sc', none, 0, ⟨?_, hok.lo, hok.hi, layW_rng hok _ _ (by omega), (fun q hq => by cases hq), (show (0 : Nat) < 9223372036854775808 by decide)⟩, rfl, hS'.mono (fun k hk => .inr hk), .inl ⟨rfl, fun _ => rfl⟩⟩, hb⟩
 simp only [DS.crash]
 rw [layW_length hok.len hws _ _ (by omega)]
 exact hok.len
end
end Go.Proofs.YthbldjnpnligpaaDoor

/-
 The document's disk: blank, New.
-/

namespace Go.Proofs.YthbldjnpnligpaaDoor
set_option linter.unusedSimpArgs false
set_option linter.unusedVariables false
set_option maxRecDepth 100000
open Go.RowKit
def noughts : List Int := List.replicate 256 0
theorem noughts_length : noughts.length = 256 := List.length_replicate
theorem zeros_rng (n : Nat) : ∀ x ∈ List.replicate n (0 : Int), 0 ≤ x ∧ x ≤ 255 := by
 intro x hx
 obtain ⟨_, rfl⟩ := List.mem_replicate.1 hx
 omega
theorem noughts_rng : ∀ x ∈ noughts, 0 ≤ x ∧ x ≤ 255 := zeros_rng 256
theorem blank_run (w : World) : Calls Tryd.prog 101 #[] w fun e w' => e = .returned (.string (strOfNums noughts)) ∧ Below w.heap.size w w' := by
 have hi : (Tryd.prog.info? 5).map (fun i => (i.zero, i.size, i.bytes)) = some (some (.int .u8 0), 1, 1) := by kernel_rfl
 obtain ⟨i0, hi0, hz0, hz1, hz2⟩ := info_parts hi
 have HN : Hid (noughts = List.replicate 256 0) := rfl
 have hnl := noughts_length
 have hnr := noughts_rng
 generalize noughts = N at *
 go_enter Tryd.func101, Tryd.ntmps101
 go_wp2_with (first
  | (refine wpList_make_bytes (w0 := w) (by rfl) (.const (.int .i64 256)) (.const (.int .i64 256)) 43 (by rfl) w.heap.size 5 i0 Tryd.underlying43 hi0 hz0 hz1 hz2 .i64 .i64 256 256 256 (by rfl) (by rfl) (by omega) (by omega) (by omega) (Nat.le_refl _) (Below.refl _ _) ?_; intro w2 hrow2 hb2
     rw [← HN.out] at hrow2
     have hB := hrow2.bs hnr (by rw [hnl]; decide)
     have hcv := hB.conv (P := Tryd.prog) 256 hnl.symm 43 5 Tryd.underlying43 Tryd.underlying5 9 Tryd.underlying9
     rw [hnl] at hcv))
 go_ret
 exact ⟨rfl, hb2⟩
theorem new_ok (n : Nat) (h1 : 16 ≤ n) (h2 : n ≤ 512) : (DS.new n).Ok n :=
 ⟨List.length_replicate, h1, h2, zeros_rng _, (fun q hq => by cases hq), (show (0 : Nat) < 9223372036854775808 by decide)⟩
theorem sec_noughts {n s : Nat} (hs : s < n) : secOf (List.replicate (256 * n) 0) s = noughts := by
 apply List.ext_getElem?
 intro j
 rw [secOf_get]
 unfold noughts
 by_cases hj : j < 256
 · rw [if_pos hj, List.getElem?_replicate, List.getElem?_replicate, if_pos (by omega), if_pos hj]
 · rw [if_neg hj, List.getElem?_replicate, if_neg hj]
theorem sec_strs_new (n : Nat) : secStrs (DS.new n).laid n = List.replicate n (strOfNums noughts) := by
 apply List.ext_getElem?
 intro i
 unfold secStrs
 rw [List.getElem?_map, List.getElem?_replicate]
 by_cases hi : i < n
 · rw [List.getElem?_range hi, if_pos hi]
   simp only [Option.map_some, DS.new]
   rw [sec_noughts hi]
 · rw [if_neg hi, List.getElem?_eq_none (by simpa using hi)]
   rfl
set_option maxRecDepth 100000 in
set_option maxHeartbeats 600000 in
theorem rnew_run (n : Nat) (w : World) (hn1 : 16 ≤ n) (hn2 : n ≤ 512) :
 Calls Tryd.prog 48 #[.int .i64 (n : Int)] w fun e w' => ∃ cs, e = .returned (.tuple #[.agg cs.toArray, .int .i64 0]) ∧ Rf w' (fun k => w.heap.size ≤ k) cs (DS.new n) ∧ Below w.heap.size w w' := by
 have hi : (Tryd.prog.info? 9).map (fun i => (i.zero, i.size, i.bytes)) = some (some (.string .empty), 1, 16) := by kernel_rfl
 obtain ⟨i0, hi0, hz0, hz1, hz2⟩ := info_parts hi
 have h1 : ¬ ((n : Int) < 16) := by omega
 have h2 : ¬ ((512 : Int) < (n : Int)) := by omega
 obtain ⟨N, hN⟩ : ∃ N, N = strOfNums noughts := ⟨_, rfl⟩
 have hbl := blank_run
 rw [← hN] at hbl
 obtain ⟨W, hWe⟩ : ∃ W, W = w.alloc (.cells #[.slice none 0 0, .slice none 0 0, .bool false, .int .i64 0, .bool false] 30) := ⟨_, rfl⟩
 have hbW : Below w.heap.size w W := by rw [hWe]; exact (Below.refl _ _).alloc (Nat.le_refl _) _
 have hY : Blk 30 W w.heap.size [.slice none 0 0, .slice none 0 0, .bool false, .int .i64 0, .bool false] := by rw [hWe]; exact Blk.newAt rfl rfl
 have hsW : W.heap.size = w.heap.size + 1 := by rw [hWe]; simp
 have HWE : Hid (W = w.alloc (.cells #[.slice none 0 0, .slice none 0 0, .bool false, .int .i64 0, .bool false] 30)) := hWe
 have HN : Hid (N = strOfNums noughts) := hN
 clear hWe hN
 go_enter Tryd.func48, Tryd.ntmps48
 go_wp2_with (first
  | (rw [← HWE.out]; refine wpList_make_full W (by rfl) (.tmp 13) (.tmp 13) 27 (by rfl) (w.heap.size + 1) 9 i0 (.string .empty) 1 Tryd.underlying27 hi0 hz0 hz1 .i64 .i64 (n : Int) (n : Int) n (by rfl) (by rfl) rfl rfl (by rw [hz2]; omega) (by unfold maxLen; omega) (by omega) ?_; intro w2 hown2 hg2))
 have hb2 : Below (w.heap.size + 1) W w2 := (Below.refl _ _).grown hg2 (by omega) (by simp)
 have hmade : (madeCells (Value.string ByteArray.empty).cells (n * 1)).toList = (List.replicate 0 N ++ List.replicate (n - 0) ByteArray.empty).map Value.string := by
  have e2 : (Value.string ByteArray.empty).cells = #[.string .empty] := rfl
  rw [e2, Nat.mul_one, toList_madeCells_one]
  simp
 rw [hmade, hsW] at hown2
 clear hmade
 go_loopw [5] (fun x wr => ∃ k : Nat, x = .int .i64 k ∧ k ≤ n ∧ wr.ownsRow (w.heap.size + 1) 9 1 (.slice (some ⟨w.heap.size + 1, 0, none⟩) n n) n ((List.replicate k N ++ List.replicate (n - k) ByteArray.empty).map Value.string) ∧ Below (w.heap.size + 1) W wr) (fun x _ => n - (intOf x).toNat)
 case atStart => exact ⟨0, rfl, Nat.zero_le _, hown2, hb2⟩
 case round =>
  rename_i hrel
  clear hown2 hb2 hg2
  obtain ⟨k, rfl, hk, hown, hbr⟩ := hrel
  have hYr := hY.stays (hsW ▸ hbr)
  have hb0r : Below w.heap.size w wr := hbW.trans (hbr.mono (by omega))
  by_cases hlt : k < n
  · have hlt' : (k : Int) < (n : Int) := by omega
    have HST : Hid (List.replicate (k + 1) N ++ List.replicate (n - (k + 1)) ByteArray.empty = (List.replicate k N ++ List.replicate (n - k) ByteArray.empty).set k N) := by
        unfold Hid
        have e : n - k = (n - (k + 1)) + 1 := by omega
        rw [e, List.replicate_succ (a := ByteArray.empty), set_at _ _ _ _ _ (by simp), List.replicate_succ' (a := N)]
    have hcs : ∃ u, wr.cell? ⟨w.heap.size + 1, k, none⟩ = some u := by
        have h5 := hown.cellAt k (by omega)
        rw [List.getElem?_map, List.getElem?_eq_getElem (by simp; omega)] at h5
        exact ⟨_, h5⟩
    obtain ⟨u, hu⟩ := hcs
    go_wp2_with (go_at_call 101; refine (hbl _).mono ?_; rintro e w3 ⟨rfl, hb3⟩; have hu3 := (hb3.cell (World.block_lt_of_cell? _ _ hu)).trans hu; have hf3 := (owns_stays6 hown hb3).frozenAt k)
    go_roundw
    case rel => exact ⟨k + 1, by go_num, by omega, by rw [HST.out, List.map_set]; exact ((owns_stays6 hown hb3).stored k _).1, (hbr.trans (hb3.mono (by have := hbr.size; omega))).setCell (p := ⟨w.heap.size + 1, k, none⟩) (Nat.le_refl _) _⟩
    case measure => simp [intOf]; omega
  · have hlt' : ¬ ((k : Int) < (n : Int)) := by omega
    have hkn : k = n := by omega
    obtain ⟨q0, q1, q2, q3, q4⟩ := box_cells hYr
    have gy := hYr.free
    have hend : ∀ u, But w.heap.size wr u → SsAt u (fun k => w.heap.size ≤ k) (some ⟨w.heap.size + 1, 0, none⟩) (secStrs (DS.new n).laid n) ∧ Below w.heap.size w u := fun u hu => by
        rw [sec_strs_new, ← HN.out]
        rw [hkn, Nat.sub_self, List.replicate_zero, List.append_nil] at hown
        have hl : (List.replicate n N).length = n := List.length_replicate
        obtain ⟨g', cg', hv, hg', hSS⟩ := ss_of_owns (xs := List.replicate n N) (by rw [hl]; exact hown) (by rw [hl]; omega)
        simp only [hl, Value.slice.injEq, Option.some.injEq, Addr.mk.injEq, and_true, true_and] at hv
        obtain ⟨rfl, rfl⟩ := hv
        exact ⟨hSS.keep (by rw [hl]; omega) (fun k hg hl => ⟨hu.block k (by omega) hl, by omega⟩), hb0r.trans (hu.below (Nat.le_refl _) hb0r.size)⟩
    clear hkn
    go_wp2
    refine bodyPost_ret (results_blk_tmp rfl _ _ _ rfl rAgg rSize (put5_same hYr (.slice (some ⟨w.heap.size + 1, 0, none⟩) n n) (.slice none 0 0) (.bool false) (.int .i64 0) (.bool false)) rfl) rfl ?_
    obtain ⟨e1, e2⟩ := hend _ (put5_but wr w.heap.size (.slice (some ⟨w.heap.size + 1, 0, none⟩) n n) (.slice none 0 0) (.bool false) (.int .i64 0) (.bool false))
    exact ⟨[.slice (some ⟨w.heap.size + 1, 0, none⟩) n n, .slice none 0 0, .bool false, .int .i64 0, .bool false], rfl, ⟨n, _, _, none, 0, new_ok n hn1 hn2, rfl, e1, .inl ⟨rfl, fun _ => rfl⟩⟩, e2⟩
end Go.Proofs.YthbldjnpnligpaaDoor
