/-
  The document's roots: products of numbers of ten digits, and which one is above.
-/
import Derived.Test.YtolgbmljjikooaaDoorRTurn
import Derived.Deep.QuietTactic
namespace Go.Proofs.YtolgbmljjikooaaDoor
set_option linter.unusedSimpArgs false
set_option linter.unusedVariables false
open Go.RowKit

def tIn (a b : List Nat) (i : Nat) : Nat → Nat → List Nat → Nat → List Nat
  | 0, _, out, _ => out
  | f + 1, k, out, c => tIn a b i f (k + 1) (out.set (i + k) ((c + out.getD (i + k) 0 + a.getD i 0 * b.getD k 0) % 65536)) ((c + out.getD (i + k) 0 + a.getD i 0 * b.getD k 0) / 65536)
def tOut (a b : List Nat) : Nat → Nat → List Nat → List Nat
  | 0, _, out => out
  | f + 1, i, out => tOut a b f (i + 1) (tIn a b i (10 - i) 0 out 0)
/-- The product. -/
def timesN (a b : List Nat) : List Nat := tOut a b 10 0 (List.replicate 10 0)

/-- Ten digits. -/
structure Dig (a : List Nat) : Prop where
  len : a.length = 10
  rng : ∀ x ∈ a, x ≤ 65535

theorem Dig.at {a : List Nat} (h : Dig a) (i : Nat) : a.getD i 0 ≤ 65535 := by
  rw [List.getD_eq_getElem?_getD]
  cases hh : a[i]? with
  | none => simp
  | some x => exact h.rng x (List.mem_of_getElem? hh)

theorem Dig.set {a : List Nat} (h : Dig a) (i x : Nat) (hx : x ≤ 65535) : Dig (a.set i x) := by
  refine ⟨by rw [List.length_set]; exact h.len, fun y hy => ?_⟩
  rcases List.mem_or_eq_of_mem_set hy with h1 | h1
  · exact h.rng y h1
  · omega

theorem Dig.zero : Dig (List.replicate 10 0) := ⟨rfl, fun x hx => by rw [List.eq_of_mem_replicate hx]; omega⟩

theorem dig_cell {w : World} {t : TypeId} {g : Nat} {a : List Nat} (h : Arr .u64 t w g (ints a)) (ha : a.length = 10) (i : Nat) (hi : i < 10) : w.cell? ⟨g, i, none⟩ = some (.int .u64 ((a.getD i 0 : Nat) : Int)) := by
  rw [h.cell i (by rw [ints_length]; omega), ← ints_getD]

theorem prod_le {x y : Nat} (hx : x ≤ 65535) (hy : y ≤ 65535) : x * y ≤ 4294836225 := Nat.mul_le_mul hx hy

theorem dig_new {w : World} {t : TypeId} {g : Nat} {a : List Nat} {cs : Array Value} (hg : g = w.heap.size) (hc : cs = ((ints a).map (Value.int .u64)).toArray) : Arr .u64 t (w.alloc (.cells cs t)) g (ints a) := Arr.newAt hg hc

structure TSt (w wr : World) (a b out : List Nat) : Prop where
  below : Below w.heap.size w wr
  A : Arr .u64 55 wr w.heap.size (ints a)
  B : Arr .u64 55 wr (w.heap.size + 1) (ints b)
  Z : Arr .u64 55 wr (w.heap.size + 1 + 1) (ints (List.replicate 10 0))
  O : Arr .u64 55 wr (w.heap.size + 1 + 1 + 1) (ints out)

theorem ints_set (l : List Nat) (i x : Nat) : (ints l).set i (x : Int) = ints (l.set i x) := by simp [ints, List.map_set]

theorem TSt.put {w wr : World} {a b out : List Nat} (h : TSt w wr a b out) (i x : Nat) : TSt w (wr.setCell ⟨w.heap.size + 1 + 1 + 1, i, none⟩ (.int .u64 (x : Int))) a b (out.set i x) := by
  refine ⟨h.below.setCell (p := ⟨w.heap.size + 1 + 1 + 1, i, none⟩) (by simp; omega) _, h.A.other (by omega) _ _, h.B.other (by omega) _ _, h.Z.other (by omega) _ _, ?_⟩
  rw [← ints_set]
  exact h.O.set i _

theorem TSt.drewN {w wr : World} {a b out : List Nat} (h : TSt w wr a b out) (n : Nat) : TSt w (wr.drewN n) a b out := ⟨below_drewN h.below n, h.A, h.B, h.Z, h.O⟩

set_option maxHeartbeats 2000000 in
set_option maxRecDepth 100000 in
theorem times_run (a b : List Nat) (ha : Dig a) (hb : Dig b) (w : World) :
    Calls Tryd.prog 29 #[.agg ((ints a).map (Value.int .u64)).toArray, .agg ((ints b).map (Value.int .u64)).toArray] w fun e w' => e = .returned (.agg ((ints (timesN a b)).map (Value.int .u64)).toArray) ∧ Below w.heap.size w w' := by
  obtain ⟨va, hva⟩ : ∃ va, va = ((ints a).map (Value.int .u64)).toArray := ⟨_, rfl⟩
  obtain ⟨vb, hvb⟩ : ∃ vb, vb = ((ints b).map (Value.int .u64)).toArray := ⟨_, rfl⟩
  obtain ⟨R, hR⟩ : ∃ R, R = timesN a b := ⟨_, rfl⟩
  have HV : Hid (va = ((ints a).map (Value.int .u64)).toArray ∧ vb = ((ints b).map (Value.int .u64)).toArray) := ⟨hva, hvb⟩
  have HR : Hid (R = timesN a b) := hR
  rw [← hva, ← hvb, ← hR]
  clear hva hvb hR
  go_enter Tryd.func29, Tryd.ntmps29
  go_wp2
  have hst : TSt w ((((w.alloc (.cells va 55)).alloc (.cells vb 55)).alloc (.cells #[.int .u64 0, .int .u64 0, .int .u64 0, .int .u64 0, .int .u64 0, .int .u64 0, .int .u64 0, .int .u64 0, .int .u64 0, .int .u64 0] 55)).alloc
      (.cells #[.int .u64 0, .int .u64 0, .int .u64 0, .int .u64 0, .int .u64 0, .int .u64 0, .int .u64 0, .int .u64 0, .int .u64 0, .int .u64 0] 55)) a b (List.replicate 10 0) := by
    refine ⟨((((Below.refl _ _).alloc (Nat.le_refl _) _).alloc (by simp) _).alloc (by simp; omega) _).alloc (by simp; omega) _, (((dig_new rfl HV.out.1).alloc _).alloc _).alloc _, ((dig_new ?_ HV.out.2).alloc _).alloc _, (dig_new (a := List.replicate 10 0) ?_ (by rfl)).alloc _, dig_new (a := List.replicate 10 0) ?_ (by rfl)⟩ <;> simp
  go_loopw [6] (fun v wr => ∃ (i : Nat) (out : List Nat), v = .int .i64 i ∧ i ≤ 10 ∧ Dig out ∧ tOut a b (10 - i) i out = R ∧ TSt w wr a b out) (fun v _ => 10 - (intOf v).toNat)
  case atStart => exact ⟨0, _, rfl, by omega, Dig.zero, HR.out.symm, hst⟩
  case round =>
    clear hst
    rename_i hrel
    obtain ⟨i, out, rfl, hi, hD, hT, hS⟩ := hrel
    by_cases hlt : i < 10
    · obtain ⟨Y, hY⟩ : ∃ Y, Y = tIn a b i (10 - i) 0 out 0 := ⟨_, rfl⟩
      have hT' : tOut a b (10 - (i + 1)) (i + 1) Y = R := by
        rw [← hT, show 10 - i = (10 - (i + 1)) + 1 by omega, hY]
        show _ = tOut a b (10 - (i + 1)) (i + 1) (tIn a b i (10 - i) 0 out 0)
        rfl
      have HT : Hid (tOut a b (10 - (i + 1)) (i + 1) Y = R) := hT'
      have HY : Hid (Y = tIn a b i (10 - i) 0 out 0) := hY
      have hlt' : (i : Int) < 10 := by omega
      clear hT hT' hY
      go_wp2
      go_loopw [7, 8] (fun u v wr => ∃ (c k : Nat) (out' : List Nat), u = .int .u64 c ∧ v = .int .i64 k ∧ c ≤ 65535 ∧ i + k ≤ 10 ∧ Dig out' ∧ tIn a b i (10 - i - k) k out' c = Y ∧ TSt w wr a b out') (fun _ v _ => 10 - (intOf v).toNat)
      case atStart => exact ⟨0, 0, out, rfl, rfl, by omega, by omega, hD, HY.out.symm, hS⟩
      case round =>
        clear hS hD
        rename_i hrel
        obtain ⟨c, k, out', rfl, rfl, hc, hk, hD, hT, hS⟩ := hrel
        obtain ⟨j, hj⟩ : ∃ j, j = i + k := ⟨_, rfl⟩
        have e0 : (k : Int) + (i : Int) = (j : Int) := by omega
        have e1 : (i : Int) + (k : Int) = (j : Int) := by omega
        have e2 : IntKind.i64.wrap ((i : Int) + (k : Int)) = (j : Int) := by rw [IntKind.wrap_i64]; omega
        by_cases hlk : j < 10
        · obtain ⟨x, hx⟩ : ∃ x, x = a.getD i 0 := ⟨_, rfl⟩
          obtain ⟨y, hy⟩ : ∃ y, y = b.getD k 0 := ⟨_, rfl⟩
          obtain ⟨z, hz⟩ : ∃ z, z = out'.getD j 0 := ⟨_, rfl⟩
          have cA := dig_cell hS.A ha.len i hlt
          have cB := dig_cell hS.B hb.len k (by omega)
          have cO := dig_cell hS.O hD.len j hlk
          rw [← hx] at cA
          rw [← hy] at cB
          rw [← hz] at cO
          have bx : x ≤ 65535 := hx ▸ ha.at i
          have bY : y ≤ 65535 := hy ▸ hb.at k
          have bz : z ≤ 65535 := hz ▸ hD.at j
          obtain ⟨m, hm⟩ : ∃ m, m = x * y := ⟨_, rfl⟩
          have bm : m ≤ 4294836225 := hm ▸ prod_le bx bY
          obtain ⟨s, hs⟩ : ∃ s, s = c + z + m := ⟨_, rfl⟩
          obtain ⟨r, hr⟩ : ∃ r, r = s % 65536 := ⟨_, rfl⟩
          obtain ⟨d, hd⟩ : ∃ d, d = s / 65536 := ⟨_, rfl⟩
          have e3 : IntKind.u64.wrap ((x : Int) * (y : Int)) = (m : Int) := by rw [IntKind.wrap_u64, hm, ← Int.natCast_mul]; have := bm; rw [hm] at this; omega
          have e4 : IntKind.u64.wrap ((c : Int) + (z : Int)) = ((c + z : Nat) : Int) := by rw [IntKind.wrap_u64]; omega
          have e4' : ((c + z : Nat) : Int) = (c : Int) + (z : Int) := by omega
          have e5 : IntKind.u64.wrap ((c : Int) + (z : Int) + (m : Int)) = (s : Int) := by rw [IntKind.wrap_u64]; omega
          have e6 : (s : Int).tmod 65536 = (r : Int) := by rw [Int.tmod_eq_emod_of_nonneg (by omega)]; omega
          have e7 : (s : Int).tdiv 65536 = (d : Int) := by rw [Int.tdiv_eq_ediv_of_nonneg (by omega)]; omega
          have e8 : (s : Int) % 65536 = (r : Int) := by omega
          have e9 : (s : Int) / 65536 = (d : Int) := by omega
          have hT' : tIn a b i (10 - i - (k + 1)) (k + 1) (out'.set j r) d = Y := by
            rw [← hT, show 10 - i - k = (10 - i - (k + 1)) + 1 by omega]
            show _ = tIn a b i (10 - i - (k + 1)) (k + 1) (out'.set (i + k) ((c + out'.getD (i + k) 0 + a.getD i 0 * b.getD k 0) % 65536)) ((c + out'.getD (i + k) 0 + a.getD i 0 * b.getD k 0) / 65536)
            rw [← hj, ← hx, ← hy, ← hz, ← hm, ← hs, ← hr, ← hd]
          have hP := hS.put j r
          have hfz := hS.O.free j
          have hrd : r ≤ 65535 ∧ d ≤ 65535 := by omega
          have HH : Hid (tIn a b i (10 - i - (k + 1)) (k + 1) (out'.set j r) d = Y) := hT'
          have HM : Hid (j = i + k ∧ i + k < 10) := ⟨hj, by omega⟩
          have hlk' : (j : Int) < 10 := by omega
          clear hT hT' hx hy hz hm hs hr hd hj
          go_wp2
          go_quiet (fail)
          go_wp2
          go_roundw
          case rel => exact ⟨d, k + 1, out'.set j r, rfl, by go_num, hrd.2, by have := HM.out; omega, hD.set j r hrd.1, HH.out, (hS.drewN nq).put j r⟩
          case measure => simp [intOf]; have := HM.out; omega
        · have hge : ¬ ((j : Int) < 10) := by omega
          have hk10 : 10 - i - k = 0 := by omega
          rw [hk10] at hT
          have hYo : out' = Y := hT
          clear hT hk10 hj
          go_wp2
          go_roundw
          case rel => exact ⟨i + 1, out', by go_num, by omega, hD, by rw [hYo]; exact HT.out, hS⟩
          case measure => simp [intOf]; omega
    · have hge : ¬ ((i : Int) < 10) := by omega
      have hi0 : 10 - i = 0 := by omega
      rw [hi0] at hT
      have hRo : out = R := hT
      subst hRo
      have hlo : ((ints out).map (Value.int .u64)).length = 10 := by rw [List.length_map, ints_length]; exact hD.len
      clear hT hi0
      go_wp2_with (first
        | (refine wpList_load_blk (by rfl) (.tmp 5) 55 (by rfl) (w.heap.size + 1 + 1 + 1) 0 10 (by rfl) (isAgg_array Tryd.underlying55) (sizeOf_run (by kernel_rfl)) hS.O.blk ((ints out).map (Value.int .u64)) (by rw [List.drop_zero, List.take_of_length_le (by omega)]) hlo ?_)
        | (refine wpList_store_blk (by rfl) (.tmp 4) (.tmp 43) 55 (by rfl) (w.heap.size + 1 + 1) 0 10 (by rfl) ((ints out).map (Value.int .u64)) (by rfl) (sizeOf_run (by kernel_rfl)) hS.Z.blk hlo (by simp [ints]) (int_oneCell _ _) ((ints out).map (Value.int .u64)) (by simp [ints]) ?_
           intro w6 hb6 hbut6 hsz6))
      refine bodyPost_ret_blk (by rfl) (by rfl) (by rfl) (isAgg_array Tryd.underlying55) (sizeOf_run (by kernel_rfl)) hb6 hlo ?_
      exact ⟨rfl, hS.below.trans (hbut6.below (by omega) (by have := hS.below.size; omega))⟩

theorem tIn_dig (a b : List Nat) (i : Nat) : ∀ (f k : Nat) (out : List Nat) (c : Nat), Dig out → Dig (tIn a b i f k out c)
  | 0, _, _, _, h => h
  | f + 1, k, out, c, h => tIn_dig a b i f (k + 1) _ _ (h.set _ _ (by omega))
theorem tOut_dig (a b : List Nat) : ∀ (f i : Nat) (out : List Nat), Dig out → Dig (tOut a b f i out)
  | 0, _, _, h => h
  | f + 1, i, out, h => tOut_dig a b f (i + 1) _ (tIn_dig a b i _ _ _ _ h)
theorem timesN_dig (a b : List Nat) : Dig (timesN a b) := tOut_dig a b _ _ _ Dig.zero

/-- Which one is above, from digit number n on down. -/
def aboveN (a b : List Nat) : Nat → Bool
  | 0 => false
  | n + 1 => if a.getD n 0 = b.getD n 0 then aboveN a b n else decide (b.getD n 0 < a.getD n 0)

structure ASt (w wr : World) (a b : List Nat) : Prop where
  below : Below w.heap.size w wr
  A : Arr .u64 55 wr w.heap.size (ints a)
  B : Arr .u64 55 wr (w.heap.size + 1) (ints b)
theorem ASt.drewN {w wr : World} {a b : List Nat} (h : ASt w wr a b) (n : Nat) : ASt w (wr.drewN n) a b := ⟨below_drewN h.below n, h.A, h.B⟩

set_option maxHeartbeats 2000000 in
set_option maxRecDepth 100000 in
theorem above_run (a b : List Nat) (ha : a.length = 10) (hb : b.length = 10) (w : World) :
    Calls Tryd.prog 30 #[.agg ((ints a).map (Value.int .u64)).toArray, .agg ((ints b).map (Value.int .u64)).toArray] w fun e w' => e = .returned (.bool (aboveN a b 10)) ∧ Below w.heap.size w w' := by
  obtain ⟨va, hva⟩ : ∃ va, va = ((ints a).map (Value.int .u64)).toArray := ⟨_, rfl⟩
  obtain ⟨vb, hvb⟩ : ∃ vb, vb = ((ints b).map (Value.int .u64)).toArray := ⟨_, rfl⟩
  obtain ⟨R, hR⟩ : ∃ R, R = aboveN a b 10 := ⟨_, rfl⟩
  have HV : Hid (va = ((ints a).map (Value.int .u64)).toArray ∧ vb = ((ints b).map (Value.int .u64)).toArray) := ⟨hva, hvb⟩
  have HR : Hid (R = aboveN a b 10) := hR
  rw [← hva, ← hvb, ← hR]
  clear hva hvb hR
  go_enter Tryd.func30, Tryd.ntmps30
  go_wp2
  have hst : ASt w ((w.alloc (.cells va 55)).alloc (.cells vb 55)) a b := by
    refine ⟨((Below.refl _ _).alloc (Nat.le_refl _) _).alloc (by simp) _, (dig_new rfl HV.out.1).alloc _, dig_new ?_ HV.out.2⟩
    simp
  go_loopw [5] (fun v wr => ∃ (j : Nat) (z : Int), v = .int .i64 z ∧ z = (j : Int) - 1 ∧ j ≤ 10 ∧ Hid (aboveN a b j = R) ∧ ASt w wr a b) (fun v _ => (intOf v + 1).toNat)
  case atStart => exact ⟨10, 9, rfl, rfl, by omega, HR.out.symm, hst⟩
  case round =>
    clear hst
    rename_i hrel
    obtain ⟨j, z, rfl, hz, hj, hT, hS⟩ := hrel
    cases j with
    | zero =>
      obtain rfl : z = -1 := by omega
      clear hz
      have hRf : false = R := hT.out
      subst hRf
      go_wp2
      go_ret
      exact ⟨rfl, hS.below⟩
    | succ m =>
      obtain rfl : z = (m : Int) := by omega
      clear hz
      obtain ⟨x, hx⟩ : ∃ x, x = a.getD m 0 := ⟨_, rfl⟩
      obtain ⟨y, hy⟩ : ∃ y, y = b.getD m 0 := ⟨_, rfl⟩
      have cA := dig_cell hS.A ha m (by omega)
      have cB := dig_cell hS.B hb m (by omega)
      rw [← hx] at cA
      rw [← hy] at cB
      have hT2 : (if x = y then aboveN a b m else decide (y < x)) = R := by rw [hx, hy]; exact hT.out
      have hm' : (m : Int) < 10 := by omega
      clear hx hy hT
      by_cases hxy : x = y
      · subst hxy
        rw [if_pos rfl] at hT2
        have HT : Hid (aboveN a b m = R) := hT2
        clear hT2
        go_wp2
        go_quiet (fail)
        go_wp2
        go_roundw
        case rel => exact ⟨m, _, rfl, rfl, by omega, HT, hS.drewN nq⟩
        case measure => simp [intOf]
      · rw [if_neg hxy] at hT2
        subst hT2
        have hne : ((x : Int) == (y : Int)) = false := by simp; omega
        have hne2 : ((x : Int) != (y : Int)) = true := by simp; omega
        have hne3 : ((x : Int) = (y : Int)) = False := by simp; omega
        clear hxy
        go_wp2
        go_quiet (fail)
        go_wp2
        have hSq := hS.drewN nq
        have dA : (wr.drewN nq).cell? ⟨w.heap.size, m, none⟩ = some (.int .u64 (x : Int)) := cA
        have dB : (wr.drewN nq).cell? ⟨w.heap.size + 1, m, none⟩ = some (.int .u64 (y : Int)) := cB
        generalize wr.drewN nq = wq at hSq dA dB ⊢
        clear cA cB hS
        have HD : Hid (decide ((y : Int) < (x : Int)) = decide (y < x)) := by
          show decide ((y : Int) < (x : Int)) = decide (y < x)
          by_cases h : y < x
          · rw [decide_eq_true h, decide_eq_true (by omega)]
          · rw [decide_eq_false h, decide_eq_false (by omega)]
        go_quiet (fail)
        go_wp2
        go_ret
        exact ⟨by rw [← HD.out]; rfl, below_drewN hSq.below _⟩
end Go.Proofs.YtolgbmljjikooaaDoor
