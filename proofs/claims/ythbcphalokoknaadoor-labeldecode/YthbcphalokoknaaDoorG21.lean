/-
  The document's disk: Read, Dump.
-/
import Derived.Test.YthbcphalokoknaaDoorG20
import Derived.Test.YthbcphalokoknaaDoorG14
import Derived.Test.YthbcphalokoknaaDoorG15
import Derived.Laws.IdiomStrings
import Derived.Lib.AppendStr
namespace Go.Proofs.YthbcphalokoknaaDoor
set_option linter.unusedSimpArgs false
set_option linter.unusedVariables false
open Go.RowKit

theorem u8_back {x : Int} (h : 0 ≤ x ∧ x ≤ 255) : ((UInt8.ofNat x.toNat).toNat : Int) = x := by
  simp [UInt8.toNat_ofNat']
  omega

theorem strCells_nums {xs : List Int} (h : ∀ x ∈ xs, 0 ≤ x ∧ x ≤ 255) : Lib.strCells (strOfNums xs) = xs.map (Value.int .u8) := by
  unfold Lib.strCells
  rw [strOfNums_data, List.map_map]
  apply List.map_congr_left
  intro x hx
  simp only [Function.comp]
  rw [u8_back (h x hx)]

/-- []byte(s). -/
theorem conv_bs (xs : List Int) (hr : ∀ x ∈ xs, 0 ≤ x ∧ x ≤ 255) (hl : xs.length ≤ 1000000) (w : World) :
    ∃ c w', (convert 9 27 (.string (strOfNums xs))).run Tryd.prog w = .ok (.slice (some ⟨w.heap.size, 0, none⟩) xs.length c) w' ∧ Bs w' (some ⟨w.heap.size, 0, none⟩) c xs ∧ Below w.heap.size w w' ∧
      ∀ k, k < xs.length → w'.frozen? ⟨w.heap.size, k, none⟩ = false := by
  have hrun := run_bytes_of_string (P := Tryd.prog) w 9 27 5 (strOfNums xs) Tryd.underlying9 Tryd.underlying27 Tryd.underlying5
  rw [strOfNums_size] at hrun
  have hge := grownCap_ge w xs.length 0 5
  have hle := grownCap_le_maxLen w xs.length 0 5 (by unfold maxLen; omega)
  have hcell : ∀ k, k < xs.length → (bytesRow (strOfNums xs) (grownCap w xs.length 0 5))[k]? = some (.int .u8 (xs.getD k 0)) := fun k hk => by
    unfold bytesRow
    have hd : (strOfNums xs).data = (xs.map fun n => UInt8.ofNat n.toNat).toArray := rfl
    rw [Array.getElem?_append_left (by rw [hd]; simpa using hk), hd]
    simp [hk, List.getD]
    have := hr _ (List.getElem_mem hk)
    omega
  have hsz : (bytesRow (strOfNums xs) (grownCap w xs.length 0 5)).size ≥ xs.length := by
    unfold bytesRow
    have hd : (strOfNums xs).data = (xs.map fun n => UInt8.ofNat n.toNat).toArray := rfl
    rw [Array.size_append, hd]
    simp
  refine ⟨_, _, hrun, ⟨hr, hge, hle, by simp, .inr ⟨_, 0, rfl, fun i hi => ?_⟩⟩, ?_, fun k hk => ?_⟩
  · rw [Nat.zero_add]
    have hh := World.alloc_heap_new w.drew (.cells (bytesRow (strOfNums xs) (grownCap w xs.length 0 5)) 5 ((bytesRow (strOfNums xs) (grownCap w xs.length 0 5)).size, (bytesRow (strOfNums xs) (grownCap w xs.length 0 5)).size + 1))
    have hh' : w.drew.heap.size = w.heap.size := rfl
    rw [hh'] at hh
    unfold World.cell?
    simp only [hh]
    exact hcell i hi
  · exact ((Below.refl _ w).drew).alloc (Nat.le_refl _) _
  · have hh := World.alloc_heap_new w.drew (.cells (bytesRow (strOfNums xs) (grownCap w xs.length 0 5)) 5 ((bytesRow (strOfNums xs) (grownCap w xs.length 0 5)).size, (bytesRow (strOfNums xs) (grownCap w xs.length 0 5)).size + 1))
    have hh' : w.drew.heap.size = w.heap.size := rfl
    rw [hh'] at hh
    unfold World.frozen?
    simp only [hh]
    simp
    omega

section
variable {G : Nat → Prop} {S : DS} {sa : Option Addr} {sc : Nat} {wa : Option Addr} {wc n : Nat}

theorem readW_upto (laid : List Int) (ws : List (Nat × List Int)) (q : Nat × List Int) (s : Nat) : readW laid (ws ++ [q]) s = if q.1 = s then q.2 else readW laid ws s := by
  unfold readW
  rw [List.reverse_append]
  simp only [List.reverse_singleton, List.singleton_append, List.find?_cons]
  by_cases h : q.1 = s
  · simp [h]
  · have : (q.1 == s) = false := by simpa using h
    simp [this, h]

theorem take_succ_getD {ws : List (Nat × List Int)} {k : Nat} (hk : k < ws.length) : ws.take (k + 1) = ws.take k ++ [ws.getD k (0, [])] := by
  rw [List.take_add_one, List.getD_eq_getElem?_getD, List.getElem?_eq_getElem hk]
  rfl

set_option maxRecDepth 100000 in
set_option maxHeartbeats 600000 in
theorem rread_go (s : Nat) (sn wn : Nat) (HSN : Hid (sn = n)) (HWN : Hid (wn = S.ws.length)) (fused : Bool) (left : Nat) (w : World) (hok : S.Ok n) (hsn : s < n) (hs : SsAt w G sa (secStrs S.laid n)) (hW : WsAt w G wa wc S.ws) (hlen : S.ws.length ≤ 900000) :
    Calls Tryd.prog 60 #[.agg #[.slice sa sn sc, .slice wa wn wc, .bool fused, .int .i64 (left : Int), .bool false], .int .i64 (s : Int)] w fun e w' =>
      ∃ a c, e = .returned (.tuple #[.slice a 256 c, .int .i64 0]) ∧ Bs w' a c (readW S.laid S.ws s) ∧ Below w.heap.size w w' := by
  have h1' : ¬ ((s : Int) < 0) := by omega
  have hsn2 := HSN.out
  have hwn2 := HWN.out
  have h2' : ¬ ((sn : Int) ≤ (s : Int)) := by omega
  have h2'' : (s : Int) < (sn : Int) := by omega
  have hX : Blk 48 (w.alloc (.cells #[.slice sa sn sc, .slice wa wn wc, .bool fused, .int .i64 (left : Int), .bool false] 48)) w.heap.size [.slice sa sn sc, .slice wa wn wc, .bool fused, .int .i64 (left : Int), .bool false] := Blk.newAt rfl rfl
  obtain ⟨W, hWe⟩ : ∃ W, W = w.alloc (.cells #[.slice sa sn sc, .slice wa wn wc, .bool fused, .int .i64 (left : Int), .bool false] 48) := ⟨_, rfl⟩
  have hbW : Below w.heap.size w W := by rw [hWe]; exact (Below.refl _ _).alloc (Nat.le_refl _) _
  rw [← hWe] at hX
  obtain ⟨z0, z1, z2, z3, z4⟩ := box_cells hX
  obtain ⟨sb, so, rfl, _, hcs⟩ := hs.keep (w' := W) (G' := G) (by rw [secStrs_length]; omega) (fun k hg hl => ⟨hbW.block k hl, hg⟩)
  have hc := hcs s (by rw [secStrs_length]; exact hsn)
  have hgd : (secStrs S.laid n).getD s .empty = strOfNums (readW S.laid (S.ws.take 0) s) := by
    simp [secStrs, List.getD, hsn, readW]
  rw [hgd] at hc
  have HWE : Hid (W = _) := hWe
  have hWW := hW.keep (w' := W) (G' := G) (fun k hg hl => ⟨hbW.block k hl, hg⟩)
  have hall : ∀ k, k ≤ S.ws.length → (readW S.laid (S.ws.take k) s).length = 256 ∧ ∀ x ∈ readW S.laid (S.ws.take k) s, 0 ≤ x ∧ x ≤ 255 := fun k hk =>
    readW_ok (S := { S with ws := S.ws.take k }) (n := n) ⟨hok.len, hok.lo, hok.hi, hok.rng, fun q hq => hok.ws q (List.mem_of_mem_take hq), hok.left⟩ hsn
  clear hWe hcs hgd hsn2 hwn2
  rw [HWE.out] at z0 z1 z2 z3 z4 hc
  go_enter Tryd.func60, Tryd.ntmps60
  go_wp2
  go_loopw [6, 7] (fun v x wr => ∃ k : Nat, x = .int .i64 k ∧ k ≤ S.ws.length ∧ v = .string (strOfNums (readW S.laid (S.ws.take k) s)) ∧ wr = W) (fun _ x _ => S.ws.length - (intOf x).toNat)
  case atStart => exact ⟨0, rfl, Nat.zero_le _, rfl, HWE.out.symm⟩
  case round =>
    rename_i hrel
    rw [← HWE.out] at z0 z1 z2 z3 z4 hc
    obtain ⟨k, rfl, hk, rfl, rfl⟩ := hrel
    by_cases hlt : k < S.ws.length
    · have hlt' : (k : Int) < (wn : Int) := by have := HWN.out; omega
      obtain ⟨b, off, rfl, hc0, hc1⟩ := hWW.at hlt
      have hru := readW_upto S.laid (S.ws.take k) (S.ws.getD k (0, [])) s
      rw [← take_succ_getD hlt] at hru
      obtain ⟨t, hte⟩ : ∃ t, t = (S.ws.getD k (0, [])).1 := ⟨_, rfl⟩
      obtain ⟨y, hye⟩ : ∃ y, y = (S.ws.getD k (0, [])).2 := ⟨_, rfl⟩
      rw [← hte] at hc0 hru
      rw [← hye] at hc1 hru
      have e2 : off + 2 * k = off + k * 2 := by omega
      rw [e2] at hc0 hc1
      have HRU : Hid (readW S.laid (S.ws.take (k + 1)) s = if t = s then y else readW S.laid (S.ws.take k) s) := hru
      clear hte hye e2 hru
      by_cases hts : t = s
      · have hts' : ((t : Int) = (s : Int)) = True := eq_true (by omega)
        go_wp2
        go_roundw
        case rel => exact ⟨k + 1, by go_num, by omega, by rw [HRU.out, if_pos hts], trivial⟩
        case measure => simp [intOf]; omega
      · have hts' : ((t : Int) = (s : Int)) = False := eq_false (by omega)
        go_wp2
        go_roundw
        case rel => exact ⟨k + 1, by go_num, by omega, by rw [HRU.out, if_neg hts], trivial⟩
        case measure => simp [intOf]; omega
    · have hlt' : ¬ ((k : Int) < (wn : Int)) := by have := HWN.out; omega
      have hkk : k = S.ws.length := by omega
      obtain ⟨hl, hr⟩ := hall k hk
      obtain ⟨c, w', hrun, hB, hb, _⟩ := conv_bs _ hr (by omega) wr
      rw [hl] at hrun
      have hfin : Bs w' (some ⟨wr.heap.size, 0, none⟩) c (readW S.laid S.ws s) ∧ Below w.heap.size w w' := by
        refine ⟨?_, hbW.trans (hb.mono hbW.size)⟩
        rw [hkk, List.take_length] at hB
        exact hB
      generalize readW S.laid (S.ws.take k) s = R at *
      clear hkk
      go_wp2
      refine bodyPost_ret (results_tmp2 rfl _ _ _) rfl ?_
      exact ⟨_, _, rfl, hfin⟩

set_option maxRecDepth 100000 in
set_option maxHeartbeats 600000 in
theorem rread_err (i : Int) (sn wn : Nat) (fused off : Bool) (left : Nat) (w : World) (h : off = true ∨ off = false ∧ ¬ (0 ≤ i ∧ i < (sn : Int))) :
    Calls Tryd.prog 60 #[.agg #[.slice sa sn sc, .slice wa wn wc, .bool fused, .int .i64 (left : Int), .bool off], .int .i64 i] w fun e w' =>
      e = .returned (.tuple #[.slice none 0 0, .int .i64 (if off then 8 else 1)]) ∧ Below w.heap.size w w' := by
  rcases h with rfl | ⟨rfl, h⟩
  · go_enter Tryd.func60, Tryd.ntmps60
    go_wp2
    refine bodyPost_ret (results_tmp2 rfl _ _ _) rfl ?_
    exact ⟨rfl, (Below.refl _ _).alloc (Nat.le_refl _) _⟩
  · rcases (by omega : i < 0 ∨ 0 ≤ i ∧ (sn : Int) ≤ i) with h1 | ⟨h1, h2⟩
    · clear h
      go_enter Tryd.func60, Tryd.ntmps60
      go_wp2
      refine bodyPost_ret (results_tmp2 rfl _ _ _) rfl ?_
      exact ⟨rfl, (Below.refl _ _).alloc (Nat.le_refl _) _⟩
    · clear h
      have h1' : ¬ (i < 0) := by omega
      go_enter Tryd.func60, Tryd.ntmps60
      go_wp2
      refine bodyPost_ret (results_tmp2 rfl _ _ _) rfl ?_
      exact ⟨rfl, (Below.refl _ _).alloc (Nat.le_refl _) _⟩

theorem rread_run {w : World} {cs : List Value} (h : Rf w G cs S) (i : Int) (hl : S.ws.length ≤ 900000) :
    Calls Tryd.prog 60 #[.agg cs.toArray, .int .i64 i] w fun e w' => ∃ a c, e = .returned (.tuple #[.slice a (S.read i).1.length c, .int .i64 (S.read i).2]) ∧ Bs w' a c (S.read i).1 ∧ Below w.heap.size w w' := by
  obtain ⟨n, sa, sc, wa, wc, hok, rfl, hs, hw⟩ := h
  have hn : S.laid.length / 256 = n := by rw [hok.len]; omega
  have hhas : S.has i ↔ (0 ≤ i ∧ i < (n : Int)) := by unfold DS.has; rw [hn]
  unfold DS.read
  by_cases h1 : S.off = true
  · rw [if_pos h1]
    unfold rcells
    refine (rread_err (sa := sa) (sc := sc) (wa := wa) (wc := wc) i n S.ws.length S.fused S.off S.left w (.inl h1)).mono ?_
    rintro e w' ⟨rfl, hb⟩
    rw [if_pos h1]
    exact ⟨none, 0, rfl, Bs.empty _, hb⟩
  · rw [if_neg h1]
    have hoff : S.off = false := by simpa using h1
    by_cases h2 : S.has i
    · rw [if_neg (by simpa using h2)]
      obtain ⟨hi0, hi1⟩ := hhas.1 h2
      obtain ⟨s, rfl⟩ : ∃ s : Nat, i = (s : Int) := ⟨i.toNat, by omega⟩
      have hr := readW_ok hok (s := s) (by omega)
      unfold rcells
      rw [hoff]
      refine (rread_go (G := G) (S := S) (n := n) (sa := sa) (sc := sc) (wa := wa) (wc := wc) s n S.ws.length rfl rfl S.fused S.left w hok (by omega) hs hw hl).mono ?_
      rintro e w' ⟨a, c, rfl, hB, hb⟩
      simp only [Int.toNat_natCast]
      rw [hr.1]
      exact ⟨a, c, rfl, hB, hb⟩
    · rw [if_pos (by simpa using h2)]
      unfold rcells
      refine (rread_err (sa := sa) (sc := sc) (wa := wa) (wc := wc) i n S.ws.length S.fused S.off S.left w (.inr ⟨hoff, by rw [hhas] at h2; exact h2⟩)).mono ?_
      rintro e w' ⟨rfl, hb⟩
      rw [if_neg h1]
      exact ⟨none, 0, rfl, Bs.empty _, hb⟩

theorem secs_join {laid : List Int} {n : Nat} (h : laid.length = 256 * n) : (List.range n).flatMap (secOf laid) = laid := by
  induction n generalizing laid with
  | zero => simp [List.eq_nil_of_length_eq_zero (by simpa using h)]
  | succ n ih =>
    rw [List.range_succ, List.flatMap_append]
    have h1 : (List.range n).flatMap (secOf laid) = laid.take (256 * n) := by
      rw [← ih (laid := laid.take (256 * n)) (by simp; omega)]
      refine Go.Deep.flatMap_congr_range (fun i hi' => ?_)
      apply List.ext_getElem?
      intro j
      rw [secOf_get, secOf_get]
      split
      · rw [List.getElem?_take, if_pos (by omega)]
      · rfl
    rw [h1]
    simp only [List.flatMap_cons, List.flatMap_nil, List.append_nil]
    unfold secOf
    rw [List.take_of_length_le (l := laid.drop (256 * n)) (by simp; omega), List.take_append_drop]

set_option maxRecDepth 100000 in
set_option maxHeartbeats 600000 in
theorem rdump_run {w : World} {cs : List Value} (h : Rf w G cs S) :
    Calls Tryd.prog 31 #[.agg cs.toArray] w fun e w' => ∃ a c, e = .returned (.slice a S.laid.length c) ∧ Bs w' a c S.laid ∧ Below w.heap.size w w' := by
  obtain ⟨n, sa, sc, wa, wc, hok, rfl, hs, hw⟩ := h
  have hi : (Tryd.prog.info? 5).map (fun i => (i.zero, i.size, i.bytes)) = some (some (.int .u8 0), 1, 1) := by kernel_rfl
  obtain ⟨i0, hi0, hz0, hz1, hz2⟩ := info_parts hi
  unfold rcells
  have hn16 := hok.lo
  have hn512 := hok.hi
  obtain ⟨W, hWe⟩ : ∃ W, W = w.alloc (.cells #[.slice sa n sc, .slice wa S.ws.length wc, .bool S.fused, .int .i64 (S.left : Int), .bool S.off] 48) := ⟨_, rfl⟩
  have hbW : Below w.heap.size w W := by rw [hWe]; exact (Below.refl _ _).alloc (Nat.le_refl _) _
  have hX : Blk 48 W w.heap.size [.slice sa n sc, .slice wa S.ws.length wc, .bool S.fused, .int .i64 (S.left : Int), .bool S.off] := by rw [hWe]; exact Blk.newAt rfl rfl
  have hsW : W.heap.size = w.heap.size + 1 := by rw [hWe]; simp
  obtain ⟨sb, so, rfl, _, hcs⟩ := hs.keep (w' := W) (G' := G) (by rw [secStrs_length]; omega) (fun k hg hl => ⟨hbW.block k hl, hg⟩)
  have hsb : sb < W.heap.size := World.block_lt_of_cell? _ _ (hcs 0 (by rw [secStrs_length]; omega))
  have HWE : Hid (W = w.alloc (.cells #[.slice (some ⟨sb, so, none⟩) n sc, .slice wa S.ws.length wc, .bool S.fused, .int .i64 (S.left : Int), .bool S.off] 48)) := hWe
  clear hWe
  have hown0 : (W.alloc (.cells #[] 5)).ownsRow (w.heap.size + 1) 5 1 (.slice (some ⟨w.heap.size + 1, 0, none⟩) 0 0) ((List.range 0).flatMap (secOf S.laid)).length (((List.range 0).flatMap (secOf S.laid)).map (Value.int .u8)) := by
    rw [← hsW]
    exact World.ownsRow_made W #[] 0 (Nat.le_refl _) (by decide) rfl
  have hbA : Below (w.heap.size + 1) W (W.alloc (.cells #[] 5)) := by rw [← hsW]; exact (Below.refl _ _).alloc (Nat.le_refl _) _
  have hsl : ∀ k, k < n → (secOf S.laid k).length = 256 := fun k hk => secOf_length (by have := hok.len; omega)
  have hjl : ∀ k, k ≤ n → ((List.range k).flatMap (secOf S.laid)).length = 256 * k := fun k hk => by
    induction k with
    | zero => rfl
    | succ k ih => rw [List.range_succ, List.flatMap_append, List.length_append, ih (by omega)]; simp [hsl k (by omega)]; omega
  go_enter Tryd.func31, Tryd.ntmps31
  go_wp2
  go_loopw [3, 4] (fun v x wr => ∃ k : Nat, x = .int .i64 k ∧ k ≤ n ∧ wr.ownsRow (w.heap.size + 1) 5 1 v ((List.range k).flatMap (secOf S.laid)).length (((List.range k).flatMap (secOf S.laid)).map (Value.int .u8)) ∧ Below (w.heap.size + 1) W wr) (fun _ x _ => n - (intOf x).toNat)
  case atStart => exact ⟨0, rfl, Nat.zero_le _, by rw [← HWE.out]; exact hown0, by rw [← HWE.out]; exact hbA⟩
  case round =>
    rename_i hrel
    clear hown0 hbA
    obtain ⟨k, rfl, hk, hown, hbr⟩ := hrel
    obtain ⟨z0, z1, z2, z3, z4⟩ := box_cells (hX.stays (hsW ▸ hbr))
    have hsr := hbr.size
    by_cases hlt : k < n
    · have hlt' : (k : Int) < (n : Int) := by omega
      have hck : wr.cell? ⟨sb, so + k, none⟩ = some (.string (strOfNums (secOf S.laid k))) := by
        rw [hbr.cell (p := ⟨sb, so + k, none⟩) (by simp; omega), hcs k (by rw [secStrs_length]; exact hlt)]
        simp [secStrs, List.getD, hlt]
      obtain ⟨R, hR⟩ : ∃ R, R = (List.range k).flatMap (secOf S.laid) := ⟨_, rfl⟩
      have hRl := hjl k (by omega)
      have HR1 : Hid ((List.range (k + 1)).flatMap (secOf S.laid) = R ++ secOf S.laid k) := by unfold Hid; rw [List.range_succ, List.flatMap_append, hR]; simp
      have hstr := strCells_nums (xs := secOf S.laid k) (fun x hx => hok.rng x (List.mem_of_mem_drop (List.mem_of_mem_take hx)))
      have hsz : (strOfNums (secOf S.laid k)).size = 256 := by rw [strOfNums_size]; exact hsl k hlt
      rw [← hR] at hown hRl
      have HYl : Hid ((secOf S.laid k).length = 256) := hsl k hlt
      generalize secOf S.laid k = Y at *
      clear hR
      go_wp2_with (at_builtin; go_must (refine Lib.wpList_append_own_string _ (by rfl) (.tmp 13) (.tmp 18) 27 9 (by rfl) (w.heap.size + 1) 5 i0 Tryd.underlying27 Tryd.underlying9 hi0 hz0 hz1 hz2 _ R.length (R.map (Value.int .u8)) (by rfl) hown (strOfNums Y) (by rfl) (by unfold maxLen; omega) (by omega) (by omega) ?_); intro v5 w5 hown5 hgrow5 _)
      go_roundw
      case rel =>
        refine ⟨k + 1, by go_num, by omega, ?_, owns_below hown hbr (by omega) hgrow5⟩
        rw [HR1.out, List.length_append, List.map_append, ← hstr, HYl.out, ← hsz]
        exact hown5
      case measure => simp [intOf]; omega
    · have hlt' : ¬ ((k : Int) < (n : Int)) := by omega
      have hkn : k = n := by omega
      rw [hkn, secs_join hok.len] at hown
      obtain ⟨a, c, hv, hB⟩ := Bs.of_owns hown hok.rng
      have hb : Below w.heap.size w wr := hbW.trans (hbr.mono (by omega))
      subst hv
      clear hkn
      go_wp2
      go_ret
      exact ⟨a, c, rfl, hB, hb⟩

end
end Go.Proofs.YthbcphalokoknaaDoor

/-
  Package label: bytes.Equal, noughts, Places, placed.
-/

namespace Go.Proofs.YthbcphalokoknaaDoor
set_option linter.unusedSimpArgs false
set_option linter.unusedVariables false
set_option maxRecDepth 100000
open Go.RowKit

theorem str_inj {xs ys : List Int} (hx : ∀ x ∈ xs, 0 ≤ x ∧ x ≤ 255) (hy : ∀ x ∈ ys, 0 ≤ x ∧ x ≤ 255) (h : strOfNums xs = strOfNums ys) : xs = ys := by
  have h1 := strCells_nums hx
  rw [h, strCells_nums hy] at h1
  exact ((List.map_inj_right (fun a b h => by injection h)).1 h1).symm

theorem str_beq {xs ys : List Int} (hx : ∀ x ∈ xs, 0 ≤ x ∧ x ≤ 255) (hy : ∀ x ∈ ys, 0 ≤ x ∧ x ≤ 255) : ((strOfNums xs).toList == (strOfNums ys).toList) = decide (xs = ys) := by
  by_cases h : xs = ys
  · subst h; simp
  · have h1 : (strOfNums xs).toList ≠ (strOfNums ys).toList := fun h' => h (str_inj hx hy (by rw [ByteArray.toList_eq, ByteArray.toList_eq] at h'; exact ByteArray.ext (Array.ext' h')))
    rw [decide_eq_false h]
    simpa using h1

theorem equal_run (a a' : Option Addr) (c c' n n' : Nat) (xs ys : List Int) (w : World) (hn : n = xs.length) (hn' : n' = ys.length) (hB : Bs w a c xs) (hB' : Bs w a' c' ys) :
    Calls Tryd.prog 41 #[.slice a n c, .slice a' n' c'] w fun e w' => e = .returned (.bool (decide (xs = ys))) ∧ w' = w := by
  subst hn hn'
  have h1 := hB.conv (P := Tryd.prog) xs.length rfl 27 5 Tryd.underlying27 Tryd.underlying5 9 Tryd.underlying9
  have h2 := hB'.conv (P := Tryd.prog) ys.length rfl 27 5 Tryd.underlying27 Tryd.underlying5 9 Tryd.underlying9
  go_enter Tryd.func41, Tryd.ntmps41
  go_wp2
  go_ret
  exact ⟨by rw [str_beq hB.rng hB'.rng]; rfl, rfl⟩

theorem noughts_run7 (a : Option Addr) (c n : Nat) (xs : List Int) (w : World) (hn : n = xs.length) (hm : n ≤ 1000000) (hB : Bs w a c xs) :
    Calls Tryd.prog 43 #[.slice a n c] w fun e w' => e = .returned (.bool (decide (xs = List.replicate n 0))) ∧ Below w.heap.size w w' := by
  obtain ⟨i0, hi, hz0, hz1, hz2⟩ := info_parts Tryd.info5
  have HN : Hid (n = xs.length) := hn
  have hrl : (List.replicate n (0 : Int)).length = n := List.length_replicate
  clear hn
  go_enter Tryd.func43, Tryd.ntmps43
  go_wp2_with (first
    | (refine wpList_make_bytes (w0 := w) (by rfl) (.tmp 5) (.tmp 5) 27 (by rfl) w.heap.size 5 i0 Tryd.underlying27 hi hz0 hz1 hz2 .i64 .i64 n n n (by rfl) (by rfl) (by rfl) (by rfl) (by omega) (Nat.le_refl _) (Below.refl _ _) ?_
       intro w1 hO1 hb1
       have hZ1 : Bs w1 (some ⟨w.heap.size, 0, none⟩) n (List.replicate n 0) := by
         have := hO1.bs (rng_zeros n) (by rw [hrl]; unfold maxLen; omega)
         rwa [hrl] at this
       have hE := equal_run a (some ⟨w.heap.size, 0, none⟩) c n n n xs (List.replicate n 0) w1 HN.out hrl.symm (hB.stays hb1) hZ1)
    | (go_at_call 41; go_must (refine hE.mono ?_); rintro e w1 ⟨rfl, rfl⟩))
  go_ret
  exact ⟨rfl, hb1⟩

/-- The places of a number. -/
def plc (t : Nat) : Nat := 2 * (t % 2)
def placesV (t : Nat) : List Value := [.int .i64 ((plc t : Nat) : Int), .int .i64 ((plc t + 1 : Nat) : Int)]
theorem alloc_two0 (w : World) : (Instr.alloc 34 true (.tuple #[])).run Tryd.prog w = .ok (.pointer (some ⟨w.heap.size, 0, none⟩)) (w.alloc (.cells [Value.int .i64 0, .int .i64 0].toArray 34)) := by kernel_rfl
theorem build_two (x y : Int) (w : World) : (Instr.build 34 [(0, Value.int .i64 x), (1, Value.int .i64 y)].toArray).run Tryd.prog w = .ok (.agg [Value.int .i64 x, .int .i64 y].toArray) w := by kernel_rfl

theorem places_run (t : Nat) (ht : t < 4294967296) (w : World) : Calls Tryd.prog 11 #[.int .u32 (t : Int)] w fun e w' => e = .returned (.agg (placesV t).toArray) ∧ Below w.heap.size w w' := by
  unfold placesV plc
  rcases Nat.mod_two_eq_zero_or_one t with h | h
  · have h2 : ((t : Int) % 2 == 0) = true := by simp; omega
    rw [h]
    go_enter Tryd.func11, Tryd.ntmps11
    go_wp2_with (first
      | (refine wpList_alloc0 (by rfl) 34 (by rfl) (some 2) (by rfl) _ alloc_two0 ?_; intro w1 hR1 hb1 hs1)
      | (refine wpList_store_blk (by rfl) (.tmp 2) (.tmp 6) 34 (by rfl) _ 0 2 (by rfl) [.int .i64 0, .int .i64 1] (by rfl) size_two hR1 (by rfl) (by decide) (by decide) _ (whole_store (by rfl)) ?_
         intro w2 hR2 hbut2 hs2))
    refine bodyPost_ret_blk rfl rfl (by rfl) agg_two size_two hR2 (by rfl) ⟨?_, ?_⟩
    · rfl
    · exact hb1.trans (hbut2.below (Nat.le_refl _) hb1.size)
  · have h2 : ((t : Int) % 2 == 0) = false := by simp; omega
    rw [h]
    go_enter Tryd.func11, Tryd.ntmps11
    go_wp2_with (first
      | (refine wpList_alloc0 (by rfl) 34 (by rfl) (some 2) (by rfl) _ alloc_two0 ?_; intro w1 hR1 hb1 hs1)
      | (refine wpList_store_blk (by rfl) (.tmp 2) (.tmp 7) 34 (by rfl) _ 0 2 (by rfl) [.int .i64 2, .int .i64 3] (by rfl) size_two hR1 (by rfl) (by decide) (by decide) _ (whole_store (by rfl)) ?_
         intro w2 hR2 hbut2 hs2))
    refine bodyPost_ret_blk rfl rfl (by rfl) agg_two size_two hR2 (by rfl) ⟨?_, ?_⟩
    · rfl
    · exact hb1.trans (hbut2.below (Nat.le_refl _) hb1.size)

theorem rplaces_run (t : Nat) (ht : t < 4294967296) (w : World) : Calls Tryd.prog 12 #[.int .u32 (t : Int)] w fun e w' => e = .returned (.agg (placesV t).toArray) ∧ Below w.heap.size w w' := by
  unfold placesV plc
  rcases Nat.mod_two_eq_zero_or_one t with h | h
  · have h2 : ((t : Int) % 2 == 0) = true := by simp; omega
    rw [h]
    go_enter Tryd.func12, Tryd.ntmps12
    go_wp2_with (first
      | (refine wpList_alloc0 (by rfl) 34 (by rfl) (some 2) (by rfl) _ alloc_two0 ?_; intro w1 hR1 hb1 hs1)
      | (refine wpList_store_blk (by rfl) (.tmp 2) (.tmp 6) 34 (by rfl) _ 0 2 (by rfl) [.int .i64 0, .int .i64 1] (by rfl) size_two hR1 (by rfl) (by decide) (by decide) _ (whole_store (by rfl)) ?_
         intro w2 hR2 hbut2 hs2))
    refine bodyPost_ret_blk rfl rfl (by rfl) agg_two size_two hR2 (by rfl) ⟨?_, ?_⟩
    · rfl
    · exact hb1.trans (hbut2.below (Nat.le_refl _) hb1.size)
  · have h2 : ((t : Int) % 2 == 0) = false := by simp; omega
    rw [h]
    go_enter Tryd.func12, Tryd.ntmps12
    go_wp2_with (first
      | (refine wpList_alloc0 (by rfl) 34 (by rfl) (some 2) (by rfl) _ alloc_two0 ?_; intro w1 hR1 hb1 hs1)
      | (refine wpList_store_blk (by rfl) (.tmp 2) (.tmp 7) 34 (by rfl) _ 0 2 (by rfl) [.int .i64 2, .int .i64 3] (by rfl) size_two hR1 (by rfl) (by decide) (by decide) _ (whole_store (by rfl)) ?_
         intro w2 hR2 hbut2 hs2))
    refine bodyPost_ret_blk rfl rfl (by rfl) agg_two size_two hR2 (by rfl) ⟨?_, ?_⟩
    · rfl
    · exact hb1.trans (hbut2.below (Nat.le_refl _) hb1.size)

def plcd (t i : Nat) : Bool := i == plc t || i == plc t + 1

theorem placed_run (l : Lb) (hl : l.ok) (a : Option Addr) (c i : Nat) (hi : i < 4) (w : World) :
    Calls Tryd.prog 59 #[.agg (l.vs a c).toArray, .int .i64 (i : Int)] w fun e w' => e = .returned (.bool (plcd l.t i)) ∧ Below w.heap.size w w' := by
  obtain ⟨vs, hvs⟩ : ∃ vs, vs = l.vs a c := ⟨_, rfl⟩
  have hvl : vs.length = 37 := by rw [hvs]; exact Lb.vs_len hl.p a c
  have HT : Hid (vs[0]? = some (.int .u32 (l.t : Int))) := by show _ = _; rw [hvs]; exact Lb.vs_txg l a c
  have hpl := places_run l.t hl.t
  obtain ⟨q, hq⟩ : ∃ q, q = plc l.t := ⟨_, rfl⟩
  have hq4 : q < 4 := by rw [hq]; unfold plc; omega
  unfold placesV at hpl
  unfold plcd
  rw [← hvs, ← hq]
  rw [← hq] at hpl
  clear hvs hq
  have e1 : ((i : Int) == (q : Int)) = (i == q) := natbeq i q
  have e2 : ((i : Int) == ((q + 1 : Nat) : Int)) = (i == q + 1) := natbeq i (q + 1)
  obtain ⟨q1, hq1⟩ : ∃ q1 : Nat, q1 = q + 1 := ⟨_, rfl⟩
  rw [← hq1] at hpl e2 ⊢
  clear hq1
  cases hb : (i == q) <;> rw [hb] at e1
  · go_enter Tryd.func59, Tryd.ntmps59
    go_wp2_with (first
      | (refine wpList_box0 (by rfl) 29 (.tmp 0) (by rfl) vs (by rfl) ?_; intro w1 hL1 hb1 hs1
         have hc0 : w1.cell? ⟨w.heap.size, 0, none⟩ = some (.int .u32 (l.t : Int)) := (hL1.cell 0).trans HT.out)
      | (go_at_call 11; go_must (refine (hpl _).mono ?_); rintro e w2 ⟨rfl, hb2⟩)
      | (refine wpList_alloc0 (by rfl) 34 (by rfl) (some 5) (by rfl) _ alloc_two0 ?_; intro w3 hR3 hb3 hs3)
      | (refine wpList_store_blk (by rfl) (.tmp 5) (.tmp 8) 34 (by rfl) _ 0 2 (by rfl) _ (by rfl) size_two hR3 (by rfl) (by decide) (by simp [Value.oneCell']) _ (whole_store (by rfl)) ?_
         intro w4 hR4 hbut4 hs4
         have hx0 := hR4.cell 0
         have hx1 := hR4.cell 1
         simp only [List.getElem?_cons_zero, List.getElem?_cons_succ] at hx0 hx1))
    go_ret
    exact ⟨by simp [e2], (below_then (below_then hb1 hb2) hb3).trans (hbut4.below (by have := hb1.size; have := hb2.size; omega) (below_then (below_then hb1 hb2) hb3).size)⟩
  · go_enter Tryd.func59, Tryd.ntmps59
    go_wp2_with (first
      | (refine wpList_box0 (by rfl) 29 (.tmp 0) (by rfl) vs (by rfl) ?_; intro w1 hL1 hb1 hs1
         have hc0 : w1.cell? ⟨w.heap.size, 0, none⟩ = some (.int .u32 (l.t : Int)) := (hL1.cell 0).trans HT.out)
      | (go_at_call 11; go_must (refine (hpl _).mono ?_); rintro e w2 ⟨rfl, hb2⟩)
      | (refine wpList_alloc0 (by rfl) 34 (by rfl) (some 5) (by rfl) _ alloc_two0 ?_; intro w3 hR3 hb3 hs3)
      | (refine wpList_store_blk (by rfl) (.tmp 5) (.tmp 8) 34 (by rfl) _ 0 2 (by rfl) _ (by rfl) size_two hR3 (by rfl) (by decide) (by simp [Value.oneCell']) _ (whole_store (by rfl)) ?_
         intro w4 hR4 hbut4 hs4
         have hx0 := hR4.cell 0
         have hx1 := hR4.cell 1
         simp only [List.getElem?_cons_zero, List.getElem?_cons_succ] at hx0 hx1))
    go_ret
    exact ⟨by simp, (below_then (below_then hb1 hb2) hb3).trans (hbut4.below (by have := hb1.size; have := hb2.size; omega) (below_then (below_then hb1 hb2) hb3).size)⟩

end Go.Proofs.YthbcphalokoknaaDoor
