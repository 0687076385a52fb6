/-
  Package sha: the words of a block.
-/
import Derived.Test.YteocmmmnfbabaaaDoorRot
import Derived.Test.YteocmmmnfbabaaaDoorArr
namespace Go.Proofs.YteocmmmnfbabaaaDoor
set_option linter.unusedSimpArgs false
set_option linter.unusedVariables false
open Go.RowKit

/-- A number of 4 bytes. -/
def four (x0 x1 x2 x3 : Nat) : Nat := ((x0 * 16777216 ||| x1 * 65536) ||| x2 * 256) ||| x3

def byteAt (bs : List Int) (i : Nat) : Nat := (bs.getD i 0).toNat

def word (bs : List Int) (t : Nat) : Nat := four (byteAt bs (4 * t)) (byteAt bs (4 * t + 1)) (byteAt bs (4 * t + 2)) (byteAt bs (4 * t + 3))

theorem byteAt_eq (bs : List Int) (hb : ∀ x ∈ bs, 0 ≤ x ∧ x ≤ 255) (i : Nat) : bs.getD i 0 = (byteAt bs i : Int) ∧ byteAt bs i < 256 := by
  unfold byteAt
  rcases Nat.lt_or_ge i bs.length with h | h
  · have := hb (bs[i]) (List.getElem_mem h)
    simp [List.getD, h]; omega
  · simp [List.getD, List.getElem?_eq_none h]

theorem or_lt' (a b : Nat) (ha : a < 4294967296) (hb : b < 4294967296) : a ||| b < 4294967296 := Nat.or_lt_two_pow (n := 32) ha hb

def add32 (a b : Nat) : Nat := (a + b) % 4294967296
theorem add32_lt (a b : Nat) : add32 a b < 4294967296 := Nat.mod_lt _ (by decide)
theorem wrap_add32 (a b : Nat) : IntKind.u32.wrap ((a : Int) + (b : Int)) = (add32 a b : Nat) := by rw [IntKind.wrap_u32]; unfold add32; omega

def nextWord (ws : List Nat) (n : Nat) : Nat := add32 (add32 (add32 (s1 (ws.getD (n - 2) 0)) (ws.getD (n - 7) 0)) (s0 (ws.getD (n - 15) 0))) (ws.getD (n - 16) 0)

def grown (bs : List Int) (l : List Nat) (n : Nat) : List Nat := l ++ [if n < 16 then word bs n else nextWord l n]
/-- The first n words of a block. -/
def grow (bs : List Int) : Nat → List Nat
  | 0 => []
  | n + 1 => grown bs (grow bs n) n

def ints (l : List Nat) : List Int := l.map fun (n : Nat) => (n : Int)

theorem ints_length (l : List Nat) : (ints l).length = l.length := by simp [ints]
theorem ints_append (l m : List Nat) : ints (l ++ m) = ints l ++ ints m := by simp [ints]
theorem ints_getD (l : List Nat) (i : Nat) : (ints l).getD i 0 = ((l.getD i 0 : Nat) : Int) := by
  unfold ints
  rcases Nat.lt_or_ge i l.length with h | h
  · simp [List.getD, h]
  · simp [List.getD, List.getElem?_eq_none h]

theorem grow_length (bs : List Int) (n : Nat) : (grow bs n).length = n := by
  induction n with
  | zero => rfl
  | succ n ih => simp [grow, grown, ih]

theorem word_lt (bs : List Int) (hb : ∀ x ∈ bs, 0 ≤ x ∧ x ≤ 255) (t : Nat) : word bs t < 4294967296 := by
  have h0 := (byteAt_eq bs hb (4 * t)).2
  have h1 := (byteAt_eq bs hb (4 * t + 1)).2
  have h2 := (byteAt_eq bs hb (4 * t + 2)).2
  have h3 := (byteAt_eq bs hb (4 * t + 3)).2
  unfold word four
  exact or_lt' _ _ (or_lt' _ _ (or_lt' _ _ (by omega) (by omega)) (by omega)) (by omega)

theorem getD_lt {l : List Nat} (h : ∀ x ∈ l, x < 4294967296) (i : Nat) : l.getD i 0 < 4294967296 := by
  rcases Nat.lt_or_ge i l.length with h1 | h1
  · simpa [List.getD, h1] using h _ (List.getElem_mem h1)
  · simp [List.getD, List.getElem?_eq_none h1]

theorem grow_lt (bs : List Int) (hb : ∀ x ∈ bs, 0 ≤ x ∧ x ≤ 255) (n : Nat) : ∀ x ∈ grow bs n, x < 4294967296 := by
  induction n with
  | zero => simp [grow]
  | succ n ih =>
    intro x hx
    simp only [grow, grown, List.mem_append, List.mem_singleton] at hx
    rcases hx with hx | hx
    · exact ih x hx
    · subst hx
      split
      · exact word_lt bs hb n
      · exact add32_lt _ _

set_option maxRecDepth 100000 in
set_option maxHeartbeats 2000000 in
theorem words_run (bs : List Int) (hl : bs.length = 64) (hb : ∀ x ∈ bs, 0 ≤ x ∧ x ≤ 255) (w : World) :
    Calls Tryd.prog 78 #[.agg (bs.map (Value.int .u8)).toArray] w fun e w' => e = .returned (.agg ((ints (grow bs 64)).map (Value.int .u32)).toArray) ∧ Below w.heap.size w w' := by
  obtain ⟨B, hB⟩ : ∃ B, B = w.heap.size := ⟨_, rfl⟩
  go_enter Tryd.func78, Tryd.ntmps78
  go_wp2
  go_loopw [6] (fun i wr => ∃ k : Nat, k ≤ 16 ∧ i = .int .i64 k ∧ Below w.heap.size w wr ∧ Arr .u8 125 wr w.heap.size bs ∧ Arr .u32 130 wr (w.heap.size + 1) (List.replicate 64 0) ∧
      Arr .u32 130 wr (w.heap.size + 1 + 1) (ints (grow bs k) ++ List.replicate (64 - k) 0)) (fun i _ => 16 - (intOf i).toNat)
  case atStart =>
    refine ⟨0, by omega, rfl, (((Below.refl _ _).alloc (Nat.le_refl _) _).alloc (by simp) _).alloc (by simp; omega) _, ((Arr.new rfl).alloc _).alloc _, ?_, ?_⟩
    · refine Arr.alloc (Arr.newAt (cur := List.replicate 64 0) ?_ ?_) _
      · simp
      · rfl
    · refine Arr.newAt ?_ ?_
      · simp
      · rfl
  case round =>
    rename_i hrel
    obtain ⟨k, hk, rfl, hbel, ha, hr, hm⟩ := hrel
    by_cases hlt : k < 16
    · obtain ⟨x0, hx0⟩ : ∃ x, x = byteAt bs (4 * k) := ⟨_, rfl⟩
      obtain ⟨x1, hx1⟩ : ∃ x, x = byteAt bs (4 * k + 1) := ⟨_, rfl⟩
      obtain ⟨x2, hx2⟩ : ∃ x, x = byteAt bs (4 * k + 2) := ⟨_, rfl⟩
      obtain ⟨x3, hx3⟩ : ∃ x, x = byteAt bs (4 * k + 3) := ⟨_, rfl⟩
      obtain ⟨p0, hp0⟩ : ∃ p, p = 4 * k := ⟨_, rfl⟩
      obtain ⟨p1, hp1⟩ : ∃ p, p = 4 * k + 1 := ⟨_, rfl⟩
      obtain ⟨p2, hp2⟩ : ∃ p, p = 4 * k + 2 := ⟨_, rfl⟩
      obtain ⟨p3, hp3⟩ : ∃ p, p = 4 * k + 3 := ⟨_, rfl⟩
      have c0 := ha.cell p0 (by omega)
      have c1 := ha.cell p1 (by omega)
      have c2 := ha.cell p2 (by omega)
      have c3 := ha.cell p3 (by omega)
      rw [(byteAt_eq bs hb _).1, hp0, ← hx0, ← hp0] at c0
      rw [(byteAt_eq bs hb _).1, hp1, ← hx1, ← hp1] at c1
      rw [(byteAt_eq bs hb _).1, hp2, ← hx2, ← hp2] at c2
      rw [(byteAt_eq bs hb _).1, hp3, ← hx3, ← hp3] at c3
      have e0 : IntKind.i64.wrap (4 * (k : Int)) = (p0 : Int) := by rw [IntKind.wrap_i64]; omega
      have e1 : IntKind.i64.wrap ((p0 : Int) + 1) = (p1 : Int) := by rw [IntKind.wrap_i64]; omega
      have e2 : IntKind.i64.wrap ((p0 : Int) + 2) = (p2 : Int) := by rw [IntKind.wrap_i64]; omega
      have e3 : IntKind.i64.wrap ((p0 : Int) + 3) = (p3 : Int) := by rw [IntKind.wrap_i64]; omega
      have b0 : (p0 : Int) < 64 := by omega
      have b1 : (p1 : Int) < 64 := by omega
      have b2 : (p2 : Int) < 64 := by omega
      have b3 : (p3 : Int) < 64 := by omega
      have bk : (k : Int) < 64 := by omega
      have l0 : x0 < 256 := hx0 ▸ (byteAt_eq bs hb _).2
      have l1 : x1 < 256 := hx1 ▸ (byteAt_eq bs hb _).2
      have l2 : x2 < 256 := hx2 ▸ (byteAt_eq bs hb _).2
      have l3 : x3 < 256 := hx3 ▸ (byteAt_eq bs hb _).2
      have fz := hm.free k
      obtain ⟨z, hz⟩ : ∃ z, wr.cell? ⟨w.heap.size + 1 + 1, k, none⟩ = some (.int .u32 z) := ⟨_, hm.cell k (by simp [ints_length, grow_length]; omega)⟩
      obtain ⟨q0, hq0⟩ : ∃ q, q = x0 * 16777216 := ⟨_, rfl⟩
      obtain ⟨q1, hq1⟩ : ∃ q, q = x1 * 65536 := ⟨_, rfl⟩
      obtain ⟨q2, hq2⟩ : ∃ q, q = x2 * 256 := ⟨_, rfl⟩
      obtain ⟨r1, hr1⟩ : ∃ q, q = q0 ||| q1 := ⟨_, rfl⟩
      obtain ⟨r2, hr2⟩ : ∃ q, q = r1 ||| q2 := ⟨_, rfl⟩
      obtain ⟨r3, hr3⟩ : ∃ q, q = r2 ||| x3 := ⟨_, rfl⟩
      have f0 : IntKind.u32.wrap (x0 : Int) = x0 := by rw [IntKind.wrap_u32]; omega
      have f1 : IntKind.u32.wrap (x1 : Int) = x1 := by rw [IntKind.wrap_u32]; omega
      have f2 : IntKind.u32.wrap (x2 : Int) = x2 := by rw [IntKind.wrap_u32]; omega
      have f3 : IntKind.u32.wrap (x3 : Int) = x3 := by rw [IntKind.wrap_u32]; omega
      have f4 : IntKind.u32.wrap ((x0 : Int) * 16777216) = q0 := by rw [IntKind.wrap_u32]; omega
      have f5 : IntKind.u32.wrap ((x1 : Int) * 65536) = q1 := by rw [IntKind.wrap_u32]; omega
      have f6 : IntKind.u32.wrap ((x2 : Int) * 256) = q2 := by rw [IntKind.wrap_u32]; omega
      have m1 : r1 < 4294967296 := hr1 ▸ or_lt' _ _ (by omega) (by omega)
      have m2 : r2 < 4294967296 := hr2 ▸ or_lt' _ _ (by omega) (by omega)
      have o1 : bits .or .u32 (q0 : Int) (q1 : Int) = (r1 : Int) := by rw [u32_or_nat _ _ (by omega) (by omega), hr1]
      have o2 : bits .or .u32 (r1 : Int) (q2 : Int) = (r2 : Int) := by rw [u32_or_nat _ _ m1 (by omega), hr2]
      have o3 : bits .or .u32 (r2 : Int) (x3 : Int) = (r3 : Int) := by rw [u32_or_nat _ _ m2 (by omega), hr3]
      have HX : Hid (word bs k = r3) := by rw [hr3, hr2, hr1, hq0, hq1, hq2, hx0, hx1, hx2, hx3]; rfl
      clear hx0 hx1 hx2 hx3 hp0 hp1 hp2 hp3 hq0 hq1 hq2 hr1 hr2 hr3
      go_wp2
      go_still_tail 31, (by kernel_rfl)
      go_wp2
      go_roundw
      case rel =>
        refine ⟨k + 1, by omega, by go_num, (hbel.setCell (by simp; omega) _).drew, (ha.other (by omega) _ _).drew, (hr.other (by omega) _ _).drew, ?_⟩
        have h1 := hm.set k (r3 : Int)
        rw [show 64 - k = (64 - (k + 1)) + 1 by omega, List.replicate_succ, set_at _ _ _ _ _ (by simp [ints_length, grow_length])] at h1
        have h2 : grow bs (k + 1) = grow bs k ++ [r3] := by simp only [grow, grown, if_pos hlt, HX.out]
        rw [h2, ints_append]
        exact h1.drew
      case measure => simp [intOf]; omega
    · have hm16 : Arr .u32 130 wr (w.heap.size + 1 + 1) (ints (grow bs 16) ++ List.replicate (64 - 16) 0) := by
        have e : k = 16 := by omega
        rw [e] at hm
        exact hm
      go_wp2
      go_loopw [5] (fun i wr => ∃ k : Nat, 16 ≤ k ∧ k ≤ 64 ∧ i = .int .i64 k ∧ Below w.heap.size w wr ∧ Arr .u32 130 wr (w.heap.size + 1) (List.replicate 64 0) ∧
          Arr .u32 130 wr (w.heap.size + 1 + 1) (ints (grow bs k) ++ List.replicate (64 - k) 0)) (fun i _ => 64 - (intOf i).toNat)
      case atStart => exact ⟨16, by omega, by omega, rfl, hbel, hr, hm16⟩
      case round =>
        clear hbel ha hr hm hm16
        rename_i hrel
        obtain ⟨k, hk16, hk, rfl, hbel, hr, hm⟩ := hrel
        by_cases hlt : k < 64
        · obtain ⟨i2, hi2⟩ : ∃ i, i = k - 2 := ⟨_, rfl⟩
          obtain ⟨i7, hi7⟩ : ∃ i, i = k - 7 := ⟨_, rfl⟩
          obtain ⟨i15, hi15⟩ : ∃ i, i = k - 15 := ⟨_, rfl⟩
          obtain ⟨i16, hi16⟩ : ∃ i, i = k - 16 := ⟨_, rfl⟩
          obtain ⟨a2, ha2⟩ : ∃ a, a = (grow bs k).getD (k - 2) 0 := ⟨_, rfl⟩
          obtain ⟨a7, ha7⟩ : ∃ a, a = (grow bs k).getD (k - 7) 0 := ⟨_, rfl⟩
          obtain ⟨a15, ha15⟩ : ∃ a, a = (grow bs k).getD (k - 15) 0 := ⟨_, rfl⟩
          obtain ⟨a16, ha16⟩ : ∃ a, a = (grow bs k).getD (k - 16) 0 := ⟨_, rfl⟩
          have hcell : ∀ i, i < k → wr.cell? ⟨w.heap.size + 1 + 1, i, none⟩ = some (.int .u32 (((grow bs k).getD i 0 : Nat) : Int)) := fun i hi => by
            rw [hm.cell i (by simp [ints_length, grow_length]; omega), ← ints_getD]
            simp [List.getD, List.getElem?_append, ints_length, grow_length, hi]
          have c2 := hcell i2 (by omega)
          have c7 := hcell i7 (by omega)
          have c15 := hcell i15 (by omega)
          have c16 := hcell i16 (by omega)
          rw [hi2, ← ha2, ← hi2] at c2
          rw [hi7, ← ha7, ← hi7] at c7
          rw [hi15, ← ha15, ← hi15] at c15
          rw [hi16, ← ha16, ← hi16] at c16
          have e2 : IntKind.i64.wrap ((k : Int) - 2) = (i2 : Int) := by rw [IntKind.wrap_i64]; omega
          have e7 : IntKind.i64.wrap ((k : Int) - 7) = (i7 : Int) := by rw [IntKind.wrap_i64]; omega
          have e15 : IntKind.i64.wrap ((k : Int) - 15) = (i15 : Int) := by rw [IntKind.wrap_i64]; omega
          have e16 : IntKind.i64.wrap ((k : Int) - 16) = (i16 : Int) := by rw [IntKind.wrap_i64]; omega
          have b2 : (i2 : Int) < 64 := by omega
          have b7 : (i7 : Int) < 64 := by omega
          have b15 : (i15 : Int) < 64 := by omega
          have b16 : (i16 : Int) < 64 := by omega
          have bk : (k : Int) < 64 := by omega
          have l2 : a2 < 4294967296 := ha2 ▸ getD_lt (grow_lt bs hb k) _
          have l15 : a15 < 4294967296 := ha15 ▸ getD_lt (grow_lt bs hb k) _
          have fz := hm.free k
          obtain ⟨z, hz⟩ : ∃ z, wr.cell? ⟨w.heap.size + 1 + 1, k, none⟩ = some (.int .u32 z) := ⟨_, hm.cell k (by simp [ints_length, grow_length]; omega)⟩
          obtain ⟨t1, ht1⟩ : ∃ t, t = s1 a2 := ⟨_, rfl⟩
          obtain ⟨t2, ht2⟩ : ∃ t, t = s0 a15 := ⟨_, rfl⟩
          have d1 : ∀ w, Calls Tryd.prog 81 #[.int .u32 (a2 : Int)] w fun e w' => e = .returned (.int .u32 (t1 : Int)) ∧ w' = w := fun w => ht1 ▸ small1_run a2 l2 w
          have d2 : ∀ w, Calls Tryd.prog 82 #[.int .u32 (a15 : Int)] w fun e w' => e = .returned (.int .u32 (t2 : Int)) ∧ w' = w := fun w => ht2 ▸ small0_run a15 l15 w
          obtain ⟨r1, hr1⟩ : ∃ r, r = add32 t1 a7 := ⟨_, rfl⟩
          obtain ⟨r2, hr2⟩ : ∃ r, r = add32 r1 t2 := ⟨_, rfl⟩
          obtain ⟨r3, hr3⟩ : ∃ r, r = add32 r2 a16 := ⟨_, rfl⟩
          have o1 : IntKind.u32.wrap ((t1 : Int) + (a7 : Int)) = (r1 : Int) := by rw [hr1]; exact wrap_add32 _ _
          have o2 : IntKind.u32.wrap ((r1 : Int) + (t2 : Int)) = (r2 : Int) := by rw [hr2]; exact wrap_add32 _ _
          have o3 : IntKind.u32.wrap ((r2 : Int) + (a16 : Int)) = (r3 : Int) := by rw [hr3]; exact wrap_add32 _ _
          have HX : Hid (grow bs (k + 1) = grow bs k ++ [r3]) := by
            have hn : ¬ k < 16 := by omega
            unfold Hid
            simp only [grow, grown, if_neg hn, nextWord, hr3, hr2, hr1, ht1, ht2, ha2, ha7, ha15, ha16]
          clear hi2 hi7 hi15 hi16 ha2 ha7 ha15 ha16 hcell ht1 ht2 hr1 hr2 hr3
          go_wp2
          refine wp_region_still_tail 23 (by kernel_rfl) (by kernel_rfl) ?_
          simp only [List.take_succ_cons, List.take_zero, List.drop_succ_cons, List.drop_zero]
          repeat (first | still_step | still_call (d1 _) | still_call (d2 _))
          try refine wpStill_nil ?_
          go_wp2
          go_roundw
          case rel =>
            refine ⟨k + 1, by omega, by omega, by go_num, (hbel.setCell (by simp; omega) _).drew, (hr.other (by omega) _ _).drew, ?_⟩
            have h1 := hm.set k (r3 : Int)
            rw [show 64 - k = (64 - (k + 1)) + 1 by omega, List.replicate_succ, set_at _ _ _ _ _ (by simp [ints_length, grow_length])] at h1
            rw [HX.out, ints_append]
            exact h1.drew
          case measure => simp [intOf]; omega
        · have hm64 : Arr .u32 130 wr (w.heap.size + 1 + 1) (ints (grow bs 64)) := by
            have e : k = 64 := by omega
            rw [e] at hm
            simpa using hm
          have hlen : ((ints (grow bs 64)).map (Value.int .u32)).length = 64 := by simp [ints_length, grow_length]
          obtain ⟨us, hus⟩ : ∃ us, us = (ints (grow bs 64)).map (Value.int .u32) := ⟨_, rfl⟩
          have h1 : ∀ v ∈ us, v.oneCell' = true := hus ▸ int_oneCell _ _
          have hlen' : us.length = 64 := hus ▸ hlen
          have hmb : Blk 130 wr (w.heap.size + 1 + 1) us := hus ▸ hm64.blk
          have hrb := hr.blk
          have hu0 : us = (us.drop 0).take 64 := by rw [List.drop_zero, List.take_of_length_le (by omega)]
          have hu1 : us = ((List.replicate 64 (0 : Int)).map (Value.int .u32)).take 0 ++ us ++ ((List.replicate 64 (0 : Int)).map (Value.int .u32)).drop (0 + 64) := by
            rw [List.take_zero, List.nil_append, List.drop_eq_nil_of_le (by simp), List.append_nil]
          have HU : Hid (us = (ints (grow bs 64)).map (Value.int .u32)) := hus
          clear hus hm64 hm hr hlen
          go_wp2_with (first
            | (refine wpList_load_blk (by rfl) (.tmp 3) 130 (by rfl) (w.heap.size + 1 + 1) 0 64 (by rfl) (isAgg_array Tryd.underlying130) (sizeOf_run (by kernel_rfl)) hmb us hu0 hlen' ?_)
            | (refine wpList_store_blk (by rfl) (.tmp 2) (.tmp 68) 130 (by rfl) (w.heap.size + 1) 0 64 (by rfl) us (by rfl) (sizeOf_run (by kernel_rfl)) hrb hlen' (by simp) h1 us hu1 ?_
               intro w2 hb2 hbut hsz))
          go_wp2
          refine bodyPost_ret_blk (by rfl) (by rfl) (by rfl) (isAgg_array Tryd.underlying130) (sizeOf_run (by kernel_rfl)) hb2 hlen' ?_
          exact ⟨by rw [HU.out], hbel.trans (hbut.below (by omega) (by have := hbel.size; omega))⟩
end Go.Proofs.YteocmmmnfbabaaaDoor
