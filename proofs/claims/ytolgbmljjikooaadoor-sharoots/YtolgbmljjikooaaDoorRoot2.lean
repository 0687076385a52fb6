/-
  The document's roots: the root of a prime, by halving.
-/
import Derived.Test.YtolgbmljjikooaaDoorTimes
namespace Go.Proofs.YtolgbmljjikooaaDoor
set_option linter.unusedSimpArgs false
set_option linter.unusedVariables false
open Go.RowKit

def digOf (y : Nat) : List Nat := [y % 65536, y / 65536 % 65536, y / 65536 / 65536, 0, 0, 0, 0, 0, 0, 0]
def mostOf (p : Nat) (cube : Bool) : List Nat := if cube then [0, 0, 0, 0, 0, 0, p, 0, 0, 0] else [0, 0, 0, 0, p, 0, 0, 0, 0, 0]
def powN (y : Nat) (cube : Bool) : List Nat := if cube then timesN (timesN (digOf y) (digOf y)) (digOf y) else timesN (digOf y) (digOf y)
def rStep (p : Nat) (cube : Bool) (x step : Nat) : Nat := if aboveN (powN (x + step) cube) (mostOf p cube) 10 then x else x + step
def rLoop (p : Nat) (cube : Bool) : Nat → Nat → Nat
  | 0, x => x
  | e + 1, x => rLoop p cube e (rStep p cube x (2 ^ e))
def rootN (p : Nat) (cube : Bool) : Nat := rLoop p cube 37 0 % 4294967296

theorem digOf_dig (y : Nat) (hy : y < 281474976710656) : Dig (digOf y) := by
  refine ⟨rfl, fun x hx => ?_⟩
  simp only [digOf, List.mem_cons, List.not_mem_nil, or_false] at hx
  rcases hx with rfl | rfl | rfl | rfl | rfl | rfl | rfl | rfl | rfl | rfl <;> omega

theorem mostOf_len (p : Nat) (cube : Bool) : (mostOf p cube).length = 10 := by cases cube <;> rfl

abbrev zeroC : Array Value := #[.int .u64 0, .int .u64 0, .int .u64 0, .int .u64 0, .int .u64 0, .int .u64 0, .int .u64 0, .int .u64 0, .int .u64 0, .int .u64 0]

/-- Whole arrays of digits, loaded. -/
theorem wpList_load_dig {w : World} {ops : Array Oper} {rest : List Oper} {o : Oper} {a : Act} {Q : Exit → Act → World → Prop} (hgd : o.guard = none) (x : Operand) (ho : o.op = Op.load 55 x)
    (g : Nat) (hx : a.eval x = .pointer (some ⟨g, 0, none⟩)) {l : List Nat} (hb : Arr .u64 55 w g (ints l)) (hl : l.length = 10)
    (h : wpList Tryd.prog ops Q rest (a.put o.dst (.agg ((ints l).map (Value.int .u64)).toArray)) w) : wpList Tryd.prog ops Q (o :: rest) a w :=
  wpList_load_blk hgd x 55 ho g 0 10 hx (isAgg_array Tryd.underlying55) (sizeOf_run (by kernel_rfl)) hb.blk ((ints l).map (Value.int .u64))
    (by rw [List.drop_zero, List.take_of_length_le (by rw [List.length_map, ints_length]; omega)]) (by rw [List.length_map, ints_length]; exact hl) h

set_option maxHeartbeats 2000000 in
set_option maxRecDepth 100000 in
theorem root_square (p : Nat) (hp : p ≤ 65535) (w : World) :
    Calls Tryd.prog 22 #[.int .u64 p, .bool false] w fun e w' => e = .returned (.int .u32 (rootN p false : Nat)) ∧ Below w.heap.size w w' := by
  obtain ⟨R, hR⟩ : ∃ R, R = rLoop p false 37 0 := ⟨_, rfl⟩
  obtain ⟨R2, hR2⟩ : ∃ R2, R2 = rootN p false := ⟨_, rfl⟩
  rw [← hR2]
  have HR : Hid (R = rLoop p false 37 0 ∧ R2 = R % 4294967296) := ⟨hR, by rw [hR2, hR]; rfl⟩
  clear hR hR2
  obtain ⟨M, hM⟩ : ∃ M, M = mostOf p false := ⟨_, rfl⟩
  have hst : Arr .u64 55 (w.alloc (.cells #[.int .u64 0, .int .u64 0, .int .u64 0, .int .u64 0, .int .u64 (p : Int), .int .u64 0, .int .u64 0, .int .u64 0, .int .u64 0, .int .u64 0] 55)) w.heap.size (ints M) := by rw [hM]; exact dig_new rfl rfl
  have hal : Below w.heap.size w (w.alloc (.cells #[.int .u64 0, .int .u64 0, .int .u64 0, .int .u64 0, .int .u64 (p : Int), .int .u64 0, .int .u64 0, .int .u64 0, .int .u64 0, .int .u64 0] 55)) := (Below.refl _ _).alloc (Nat.le_refl _) _
  have HM : Hid (M = mostOf p false ∧ M.length = 10) := ⟨hM, by rw [hM]; exact mostOf_len _ _⟩
  clear hM
  go_enter Tryd.func22, Tryd.ntmps22
  go_wp2
  go_loopw [6, 7] (fun u v wr => ∃ (x s e : Nat), u = .int .u64 x ∧ v = .int .u64 s ∧ Hid (s = 2 ^ e / 2 ∧ x + 2 ^ e ≤ 137438953472 ∧ rLoop p false e x = R) ∧ Arr .u64 55 wr w.heap.size (ints M) ∧ Below w.heap.size w wr) (fun _ v _ => (intOf v).toNat)
  case atStart => exact ⟨0, 68719476736, 37, rfl, rfl, ⟨by decide, by decide, HR.out.1.symm⟩, hst, hal⟩
  case round =>
    clear hst hal
    rename_i hrel
    obtain ⟨x, s, e, rfl, rfl, HH, hA, hbel⟩ := hrel
    cases e with
    | zero =>
      have h0 : s = 0 := HH.out.1
      subst h0
      have hx : x < 18446744073709551616 := by have := HH.out.2.1; omega
      have hw : IntKind.u32.wrap (x : Int) = (R2 : Int) := by
        have h1 : x = R := HH.out.2.2
        rw [IntKind.wrap_u32, HR.out.2, ← h1]
        omega
      go_wp2
      go_ret
      exact ⟨rfl, hbel⟩
    | succ e =>
      have hs0 : s = 2 ^ e := by have := HH.out.1; rw [this, Nat.pow_succ]; omega
      have hsp : 0 < s := by rw [hs0]; exact Nat.pos_of_ne_zero (by simp)
      have hle : x + s + s ≤ 137438953472 := by have := HH.out.2.1; rw [Nat.pow_succ] at this; omega
      have hL : rLoop p false e (rStep p false x s) = R := by have := HH.out.2.2; rw [hs0]; exact this
      obtain ⟨y, hy⟩ : ∃ y, y = x + s := ⟨_, rfl⟩
      have hyb : y < 281474976710656 := by omega
      obtain ⟨r0, hr0⟩ : ∃ r, r = y % 65536 := ⟨_, rfl⟩
      obtain ⟨h1, hh1⟩ : ∃ r, r = y / 65536 := ⟨_, rfl⟩
      obtain ⟨r1, hr1⟩ : ∃ r, r = h1 % 65536 := ⟨_, rfl⟩
      obtain ⟨r2, hr2⟩ : ∃ r, r = h1 / 65536 := ⟨_, rfl⟩
      obtain ⟨s2, hs2⟩ : ∃ r, r = s / 2 := ⟨_, rfl⟩
      have e1 : (x : Int) + (s : Int) = (y : Int) := by omega
      have f0 : (y : Int).tmod 65536 = (r0 : Int) := by rw [Int.tmod_eq_emod_of_nonneg (by omega)]; omega
      have f1 : (y : Int).tdiv 65536 = (h1 : Int) := by rw [Int.tdiv_eq_ediv_of_nonneg (by omega)]; omega
      have f2 : (h1 : Int).tmod 65536 = (r1 : Int) := by rw [Int.tmod_eq_emod_of_nonneg (by omega)]; omega
      have f3 : (h1 : Int).tdiv 65536 = (r2 : Int) := by rw [Int.tdiv_eq_ediv_of_nonneg (by omega)]; omega
      have f4 : (s : Int).tdiv 2 = (s2 : Int) := by rw [Int.tdiv_eq_ediv_of_nonneg (by omega)]; omega
      have g0 : (y : Int) % 65536 = (r0 : Int) := by omega
      have g1 : (y : Int) / 65536 = (h1 : Int) := by omega
      have g2 : (h1 : Int) % 65536 = (r1 : Int) := by omega
      have g3 : (h1 : Int) / 65536 = (r2 : Int) := by omega
      have g4 : (s : Int) / 2 = (s2 : Int) := by omega
      have hsp' : (0 : Int) < (s : Int) := by omega
      obtain ⟨d, hdd⟩ : ∃ d, d = digOf y := ⟨_, rfl⟩
      have hdig : Dig d := hdd ▸ digOf_dig y hyb
      have hd : Arr .u64 55 (wr.alloc (.cells #[.int .u64 (r0 : Int), .int .u64 (r1 : Int), .int .u64 (r2 : Int), .int .u64 0, .int .u64 0, .int .u64 0, .int .u64 0, .int .u64 0, .int .u64 0, .int .u64 0] 55)) wr.heap.size (ints d) := by
        refine dig_new rfl ?_
        rw [hdd, hr0, hr1, hr2, hh1]
        rfl
      have hal : Below wr.heap.size wr (wr.alloc (.cells #[.int .u64 (r0 : Int), .int .u64 (r1 : Int), .int .u64 (r2 : Int), .int .u64 0, .int .u64 0, .int .u64 0, .int .u64 0, .int .u64 0, .int .u64 0, .int .u64 0] 55)) := (Below.refl _ _).alloc (Nat.le_refl _) _
      have HL : Hid (rLoop p false e (rStep p false x s) = R ∧ y = x + s ∧ d = digOf y ∧ s2 = 2 ^ e / 2 ∧ x + s + s ≤ 137438953472 ∧ s = 2 ^ e ∧ s2 = s / 2) := ⟨hL, hy, hdd, by rw [hs2, hs0], hle, hs0, hs2⟩
      have hbd : x ≤ 137438953472 ∧ s ≤ 137438953472 ∧ y ≤ 137438953472 ∧ s2 ≤ 137438953472 ∧ h1 ≤ 137438953472 := by omega
      obtain ⟨b1, b2, b3, b4, b5⟩ := hbd
      clear hL hy hdd hs0 hs2 hr0 hr1 hr2 hh1 HH hle
      go_wp2_with (refine wpList_load_dig (by rfl) (.tmp 9) (by rfl) wr.heap.size (by rfl) hd hdig.len ?_)
      refine (times_run d d hdig hdig _).mono ?_
      rintro e0 u1 ⟨rfl, hb1⟩
      have hqd := timesN_dig d d
      generalize hq : timesN d d = q at hqd ⊢
      have HQ : Hid (timesN d d = q) := hq
      have hlq : (ints q).length = 10 := by rw [ints_length]; exact hqd.len
      have hz : Arr .u64 55 (u1.alloc (.cells zeroC 55)) u1.heap.size (ints (List.replicate 10 0)) := dig_new rfl rfl
      have hb1w : Below wr.heap.size wr u1 := hal.trans (hb1.mono hal.size)
      have hA1 := (hA.stays hb1w).alloc (.cells zeroC 55)
      have hd1 := (hd.stays hb1).alloc (.cells zeroC 55)
      have hlt0 := hA.lt
      have hs1 := hb1w.size
      have hdl := (hd.stays hb1).lt
      have hba : Below wr.heap.size wr (u1.alloc (.cells zeroC 55)) := hb1w.alloc hs1 _
      clear hq hd hb1 hal
      go_wp2_with (refine wpList_store_blk (by rfl) (.tmp 10) (.tmp 39) 55 (by rfl) u1.heap.size 0 10 (by rfl) ((ints q).map (Value.int .u64)) (by rfl) (sizeOf_run (by kernel_rfl)) hz.blk (by rw [List.length_map]; exact hlq) (by simp [ints]) (int_oneCell _ _) ((ints q).map (Value.int .u64)) (by simp [ints]) ?_)
      intro w6 hb6 hbut6 hsz6
      have hq6 : Arr .u64 55 w6 u1.heap.size (ints q) := Blk.arr hb6
      have hA6 : Arr .u64 55 w6 w.heap.size (ints M) := Blk.arr (hA1.blk.but hbut6 (by omega))
      have hd6 : Arr .u64 55 w6 wr.heap.size (ints d) := Blk.arr (hd1.blk.but hbut6 (by omega))
      have hb6w : Below wr.heap.size wr w6 := hba.trans (hbut6.below hs1 (by simp; omega))
      clear hA1 hd1 hb6 hbut6 hz hba
      go_wp2_with (first
        | (refine wpList_load_dig (by rfl) (.tmp 10) (by rfl) u1.heap.size (by rfl) hq6 hqd.len ?_)
        | (refine wpList_load_dig (by rfl) (.tmp 5) (by rfl) w.heap.size (by rfl) hA6 HM.out.2 ?_))
      refine (above_run q M hqd.len HM.out.2 _).mono ?_
      rintro e0 u3 ⟨rfl, hb3⟩
      have hA3 := hA6.stays hb3
      have hbF : Below w.heap.size w u3 := hbel.trans ((hb6w.trans (hb3.mono hb6w.size)).mono hbel.size)
      have hstep : rStep p false x s = if aboveN q M 10 then x else y := by
        unfold rStep powN
        rw [← HL.out.2.1, ← HL.out.2.2.1, ← HM.out.1]
        simp only [if_neg (show ¬ (false = true) by decide), HQ.out]
      generalize aboveN q M 10 = B at hstep ⊢
      have HS : Hid (rStep p false x s = if B then x else y) := hstep
      clear hstep
      cases B with
      | true =>
        go_wp2
        go_roundw
        case rel => exact ⟨x, s2, e, rfl, rfl, ⟨HL.out.2.2.2.1, by have := HL.out; omega, by have h := HL.out.1; rw [HS.out] at h; exact h⟩, hA3, hbF⟩
        case measure => simp [intOf]; have := HL.out; omega
      | false =>
        go_wp2
        go_roundw
        case rel => exact ⟨y, s2, e, rfl, rfl, ⟨HL.out.2.2.2.1, by have := HL.out; omega, by have h := HL.out.1; rw [HS.out] at h; exact h⟩, hA3, hbF⟩
        case measure => simp [intOf]; have := HL.out; omega
set_option maxHeartbeats 2000000 in
set_option maxRecDepth 100000 in
theorem root_cube (p : Nat) (hp : p ≤ 65535) (w : World) :
    Calls Tryd.prog 22 #[.int .u64 p, .bool true] w fun e w' => e = .returned (.int .u32 (rootN p true : Nat)) ∧ Below w.heap.size w w' := by
  obtain ⟨R, hR⟩ : ∃ R, R = rLoop p true 37 0 := ⟨_, rfl⟩
  obtain ⟨R2, hR2⟩ : ∃ R2, R2 = rootN p true := ⟨_, rfl⟩
  rw [← hR2]
  have HR : Hid (R = rLoop p true 37 0 ∧ R2 = R % 4294967296) := ⟨hR, by rw [hR2, hR]; rfl⟩
  clear hR hR2
  obtain ⟨M, hM⟩ : ∃ M, M = mostOf p true := ⟨_, rfl⟩
  have hst : Arr .u64 55 (w.alloc (.cells #[.int .u64 0, .int .u64 0, .int .u64 0, .int .u64 0, .int .u64 0, .int .u64 0, .int .u64 (p : Int), .int .u64 0, .int .u64 0, .int .u64 0] 55)) w.heap.size (ints M) := by rw [hM]; exact dig_new rfl rfl
  have hal : Below w.heap.size w (w.alloc (.cells #[.int .u64 0, .int .u64 0, .int .u64 0, .int .u64 0, .int .u64 0, .int .u64 0, .int .u64 (p : Int), .int .u64 0, .int .u64 0, .int .u64 0] 55)) := (Below.refl _ _).alloc (Nat.le_refl _) _
  have HM : Hid (M = mostOf p true ∧ M.length = 10) := ⟨hM, by rw [hM]; exact mostOf_len _ _⟩
  clear hM
  go_enter Tryd.func22, Tryd.ntmps22
  go_wp2
  go_loopw [6, 7] (fun u v wr => ∃ (x s e : Nat), u = .int .u64 x ∧ v = .int .u64 s ∧ Hid (s = 2 ^ e / 2 ∧ x + 2 ^ e ≤ 137438953472 ∧ rLoop p true e x = R) ∧ Arr .u64 55 wr w.heap.size (ints M) ∧ Below w.heap.size w wr) (fun _ v _ => (intOf v).toNat)
  case atStart => exact ⟨0, 68719476736, 37, rfl, rfl, ⟨by decide, by decide, HR.out.1.symm⟩, hst, hal⟩
  case round =>
    clear hst hal
    rename_i hrel
    obtain ⟨x, s, e, rfl, rfl, HH, hA, hbel⟩ := hrel
    cases e with
    | zero =>
      have h0 : s = 0 := HH.out.1
      subst h0
      have hx : x < 18446744073709551616 := by have := HH.out.2.1; omega
      have hw : IntKind.u32.wrap (x : Int) = (R2 : Int) := by
        have h1 : x = R := HH.out.2.2
        rw [IntKind.wrap_u32, HR.out.2, ← h1]
        omega
      go_wp2
      go_ret
      exact ⟨rfl, hbel⟩
    | succ e =>
      have hs0 : s = 2 ^ e := by have := HH.out.1; rw [this, Nat.pow_succ]; omega
      have hsp : 0 < s := by rw [hs0]; exact Nat.pos_of_ne_zero (by simp)
      have hle : x + s + s ≤ 137438953472 := by have := HH.out.2.1; rw [Nat.pow_succ] at this; omega
      have hL : rLoop p true e (rStep p true x s) = R := by have := HH.out.2.2; rw [hs0]; exact this
      obtain ⟨y, hy⟩ : ∃ y, y = x + s := ⟨_, rfl⟩
      have hyb : y < 281474976710656 := by omega
      obtain ⟨r0, hr0⟩ : ∃ r, r = y % 65536 := ⟨_, rfl⟩
      obtain ⟨h1, hh1⟩ : ∃ r, r = y / 65536 := ⟨_, rfl⟩
      obtain ⟨r1, hr1⟩ : ∃ r, r = h1 % 65536 := ⟨_, rfl⟩
      obtain ⟨r2, hr2⟩ : ∃ r, r = h1 / 65536 := ⟨_, rfl⟩
      obtain ⟨s2, hs2⟩ : ∃ r, r = s / 2 := ⟨_, rfl⟩
      have e1 : (x : Int) + (s : Int) = (y : Int) := by omega
      have f0 : (y : Int).tmod 65536 = (r0 : Int) := by rw [Int.tmod_eq_emod_of_nonneg (by omega)]; omega
      have f1 : (y : Int).tdiv 65536 = (h1 : Int) := by rw [Int.tdiv_eq_ediv_of_nonneg (by omega)]; omega
      have f2 : (h1 : Int).tmod 65536 = (r1 : Int) := by rw [Int.tmod_eq_emod_of_nonneg (by omega)]; omega
      have f3 : (h1 : Int).tdiv 65536 = (r2 : Int) := by rw [Int.tdiv_eq_ediv_of_nonneg (by omega)]; omega
      have f4 : (s : Int).tdiv 2 = (s2 : Int) := by rw [Int.tdiv_eq_ediv_of_nonneg (by omega)]; omega
      have g0 : (y : Int) % 65536 = (r0 : Int) := by omega
      have g1 : (y : Int) / 65536 = (h1 : Int) := by omega
      have g2 : (h1 : Int) % 65536 = (r1 : Int) := by omega
      have g3 : (h1 : Int) / 65536 = (r2 : Int) := by omega
      have g4 : (s : Int) / 2 = (s2 : Int) := by omega
      have hsp' : (0 : Int) < (s : Int) := by omega
      obtain ⟨d, hdd⟩ : ∃ d, d = digOf y := ⟨_, rfl⟩
      have hdig : Dig d := hdd ▸ digOf_dig y hyb
      have hd : Arr .u64 55 (wr.alloc (.cells #[.int .u64 (r0 : Int), .int .u64 (r1 : Int), .int .u64 (r2 : Int), .int .u64 0, .int .u64 0, .int .u64 0, .int .u64 0, .int .u64 0, .int .u64 0, .int .u64 0] 55)) wr.heap.size (ints d) := by
        refine dig_new rfl ?_
        rw [hdd, hr0, hr1, hr2, hh1]
        rfl
      have hal : Below wr.heap.size wr (wr.alloc (.cells #[.int .u64 (r0 : Int), .int .u64 (r1 : Int), .int .u64 (r2 : Int), .int .u64 0, .int .u64 0, .int .u64 0, .int .u64 0, .int .u64 0, .int .u64 0, .int .u64 0] 55)) := (Below.refl _ _).alloc (Nat.le_refl _) _
      have HL : Hid (rLoop p true e (rStep p true x s) = R ∧ y = x + s ∧ d = digOf y ∧ s2 = 2 ^ e / 2 ∧ x + s + s ≤ 137438953472 ∧ s = 2 ^ e ∧ s2 = s / 2) := ⟨hL, hy, hdd, by rw [hs2, hs0], hle, hs0, hs2⟩
      have hbd : x ≤ 137438953472 ∧ s ≤ 137438953472 ∧ y ≤ 137438953472 ∧ s2 ≤ 137438953472 ∧ h1 ≤ 137438953472 := by omega
      obtain ⟨b1, b2, b3, b4, b5⟩ := hbd
      clear hL hy hdd hs0 hs2 hr0 hr1 hr2 hh1 HH hle
      go_wp2_with (refine wpList_load_dig (by rfl) (.tmp 9) (by rfl) wr.heap.size (by rfl) hd hdig.len ?_)
      refine (times_run d d hdig hdig _).mono ?_
      rintro e0 u1 ⟨rfl, hb1⟩
      have hqd := timesN_dig d d
      generalize hq : timesN d d = q at hqd ⊢
      have HQ : Hid (timesN d d = q) := hq
      have hlq : (ints q).length = 10 := by rw [ints_length]; exact hqd.len
      have hz : Arr .u64 55 (u1.alloc (.cells zeroC 55)) u1.heap.size (ints (List.replicate 10 0)) := dig_new rfl rfl
      have hb1w : Below wr.heap.size wr u1 := hal.trans (hb1.mono hal.size)
      have hA1 := (hA.stays hb1w).alloc (.cells zeroC 55)
      have hd1 := (hd.stays hb1).alloc (.cells zeroC 55)
      have hlt0 := hA.lt
      have hs1 := hb1w.size
      have hdl := (hd.stays hb1).lt
      have hba : Below wr.heap.size wr (u1.alloc (.cells zeroC 55)) := hb1w.alloc hs1 _
      clear hq hd hb1 hal
      go_wp2_with (refine wpList_store_blk (by rfl) (.tmp 10) (.tmp 39) 55 (by rfl) u1.heap.size 0 10 (by rfl) ((ints q).map (Value.int .u64)) (by rfl) (sizeOf_run (by kernel_rfl)) hz.blk (by rw [List.length_map]; exact hlq) (by simp [ints]) (int_oneCell _ _) ((ints q).map (Value.int .u64)) (by simp [ints]) ?_)
      intro w6 hb6 hbut6 hsz6
      have hq6 : Arr .u64 55 w6 u1.heap.size (ints q) := Blk.arr hb6
      have hA6 : Arr .u64 55 w6 w.heap.size (ints M) := Blk.arr (hA1.blk.but hbut6 (by omega))
      have hd6 : Arr .u64 55 w6 wr.heap.size (ints d) := Blk.arr (hd1.blk.but hbut6 (by omega))
      have hb6w : Below wr.heap.size wr w6 := hba.trans (hbut6.below hs1 (by simp; omega))
      clear hA1 hd1 hb6 hbut6 hz hba
      go_wp2_with (first
        | (refine wpList_load_dig (by rfl) (.tmp 10) (by rfl) u1.heap.size (by rfl) hq6 hqd.len ?_)
        | (refine wpList_load_dig (by rfl) (.tmp 9) (by rfl) wr.heap.size (by rfl) hd6 hdig.len ?_))
      refine (times_run q d hqd hdig _).mono ?_
      rintro e0 u2 ⟨rfl, hb2⟩
      have hrd := timesN_dig q d
      generalize hr : timesN q d = r at hrd ⊢
      have HRR : Hid (timesN q d = r) := hr
      have hlr : (ints r).length = 10 := by rw [ints_length]; exact hrd.len
      have hq7 := hq6.stays hb2
      have hA7 := hA6.stays hb2
      have hs7 := hb2.size
      have hqlt := hq6.lt
      have hbu2 : Below wr.heap.size wr u2 := hb6w.trans (hb2.mono hb6w.size)
      clear hr hd6 hb2 hq6 hA6
      go_wp2_with (refine wpList_store_blk (by rfl) (.tmp 10) (.tmp 43) 55 (by rfl) u1.heap.size 0 10 (by rfl) ((ints r).map (Value.int .u64)) (by rfl) (sizeOf_run (by kernel_rfl)) hq7.blk (by rw [List.length_map]; exact hlr) (by simp [hlq]) (int_oneCell _ _) ((ints r).map (Value.int .u64)) (by simp [hlq]) ?_)
      intro w7 hb7 hbut7 hsz7
      have hr6 : Arr .u64 55 w7 u1.heap.size (ints r) := Blk.arr hb7
      have hA6 : Arr .u64 55 w7 w.heap.size (ints M) := Blk.arr (hA7.blk.but hbut7 (by omega))
      replace hb6w : Below wr.heap.size wr w7 := hbu2.trans (hbut7.below hs1 (by omega))
      clear hA7 hb7 hbut7 hq7 hbu2
      go_wp2_with (first
        | (refine wpList_load_dig (by rfl) (.tmp 10) (by rfl) u1.heap.size (by rfl) hr6 hrd.len ?_)
        | (refine wpList_load_dig (by rfl) (.tmp 5) (by rfl) w.heap.size (by rfl) hA6 HM.out.2 ?_))
      refine (above_run r M hrd.len HM.out.2 _).mono ?_
      rintro e0 u3 ⟨rfl, hb3⟩
      have hA3 := hA6.stays hb3
      have hbF : Below w.heap.size w u3 := hbel.trans ((hb6w.trans (hb3.mono hb6w.size)).mono hbel.size)
      have hstep : rStep p true x s = if aboveN r M 10 then x else y := by
        unfold rStep powN
        rw [← HL.out.2.1, ← HL.out.2.2.1, ← HM.out.1]
        simp [HQ.out, HRR.out]
      generalize aboveN r M 10 = B at hstep ⊢
      have HS : Hid (rStep p true x s = if B then x else y) := hstep
      clear hstep
      cases B with
      | true =>
        go_wp2
        go_roundw
        case rel => exact ⟨x, s2, e, rfl, rfl, ⟨HL.out.2.2.2.1, by have := HL.out; omega, by have h := HL.out.1; rw [HS.out] at h; exact h⟩, hA3, hbF⟩
        case measure => simp [intOf]; have := HL.out; omega
      | false =>
        go_wp2
        go_roundw
        case rel => exact ⟨y, s2, e, rfl, rfl, ⟨HL.out.2.2.2.1, by have := HL.out; omega, by have h := HL.out.1; rw [HS.out] at h; exact h⟩, hA3, hbF⟩
        case measure => simp [intOf]; have := HL.out; omega

theorem rootN_run (p : Nat) (hp : p ≤ 65535) (cube : Bool) (w : World) :
    Calls Tryd.prog 22 #[.int .u64 p, .bool cube] w fun e w' => e = .returned (.int .u32 (rootN p cube : Nat)) ∧ Below w.heap.size w w' := by
  cases cube
  · exact root_square p hp w
  · exact root_cube p hp w
end Go.Proofs.YtolgbmljjikooaaDoor
