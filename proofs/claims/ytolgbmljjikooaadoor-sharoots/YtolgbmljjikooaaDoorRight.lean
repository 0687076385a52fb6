/-
  ShaRoots: the numbers are the roots' first bits: the statement's walk.
-/
import Derived.Test.YtolgbmljjikooaaDoorSumLaw
import Derived.Test.YtolgbmljjikooaaDoorPrimes
namespace Go.Proofs.YtolgbmljjikooaaDoor
set_option linter.unusedSimpArgs false
set_option linter.unusedVariables false
open Go.RowKit

theorem map_getD (f : Nat → Nat) (l : List Nat) (i : Nat) (hi : i < l.length) : (l.map f).getD i 0 = f (l.getD i 0) := by
  rw [List.getD_eq_getElem?_getD, List.getD_eq_getElem?_getD, List.getElem?_map, List.getElem?_eq_getElem hi]
  rfl
theorem take_getD (l : List Nat) (n i : Nat) (hi : i < n) : (l.take n).getD i 0 = l.getD i 0 := by
  rw [List.getD_eq_getElem?_getD, List.getD_eq_getElem?_getD, List.getElem?_take, if_pos hi]
theorem p64_len : primes64.length = 64 := rfl
theorem p8_len : (primes64.take 8).length = 8 := rfl

theorem cube_of (l s : List Nat) (f : Nat → Nat) (h : l.map f = s) (i : Nat) (hi : i < l.length) : f (l.getD i 0) = s.getD i 0 := by
  rw [← h, map_getD f l i hi]
theorem cube_at (i : Nat) (hi : i < 64) : rootN (primes64.getD i 0) true = stepNums.getD i 0 :=
  (rootN_eq _ _).trans (cube_of primes64 stepNums (fun p => rootF p true) cubes_right i (by rw [p64_len]; exact hi))
theorem square_at (i : Nat) (hi : i < 8) : rootN (primes64.getD i 0) false = firsts8.list.getD i 0 := by
  have h := cube_of (primes64.take 8) firsts8.list (fun p => rootF p false) squares_right i (by rw [p8_len]; exact hi)
  rw [take_getD _ _ _ hi] at h
  exact (rootN_eq _ _).trans h
theorem primes64_le (i : Nat) : primes64.getD i 0 ≤ 65535 := by
  rw [List.getD_eq_getElem?_getD]
  cases hh : primes64[i]? with
  | none => simp
  | some x =>
    have h : ∀ x ∈ primes64, x ≤ 65535 := by decide
    exact h x (List.mem_of_getElem? hh)

theorem primes_run' (w : World) : Calls Tryd.prog 21 #[.int .i64 64] w fun e w' => ∃ b off c, e = .returned (.slice (some ⟨b, off, none⟩) 64 c) ∧ (∀ i, i < 64 → w'.cell? ⟨b, off + i, none⟩ = some (.int .u64 ((primes64.getD i 0 : Nat) : Int))) ∧ Below w.heap.size w w' := by
  refine (primes_run w).mono ?_
  rintro e w' ⟨a, c, rfl, hU, hb⟩
  obtain ⟨b, off, rfl, hc⟩ := hU (by decide)
  exact ⟨b, off, c, rfl, hc, hb⟩

/-- What lies there, wherever it is asked later on. -/
def Later (w : World) (p : Addr) (v : Value) : Prop := ∀ u, Below w.heap.size w u → u.cell? p = some v
theorem Later.mk {w : World} {p : Addr} {v : Value} (h : w.cell? p = some v) : Later w p v := fun u hu => by
  rw [hu.cell ?_]
  · exact h
  · rcases Nat.lt_or_ge p.block w.heap.size with h' | h'
    · exact h'
    · simp [World.cell?, Array.getElem?_eq_none h'] at h
theorem Later.stays {w w' : World} {p : Addr} {v : Value} (h : Later w p v) (hb : Below w.heap.size w w') : Later w' p v := fun u hu => h u (hb.trans (hu.mono hb.size))

set_option maxHeartbeats 4000000 in
set_option maxRecDepth 100000 in
theorem right_run (w : World) : Calls Tryd.prog 13 #[] w fun e w' => e = .returned (.bool true) ∧ Below w.heap.size w w' := by
  go_enter Tryd.func13, Tryd.ntmps13
  go_wp2_with (first
    | (go_at_call 21; go_must (refine (primes_run' _).mono ?_); rintro e w1 ⟨pb, po, pc, rfl, hP, hb1⟩)
    | (go_at_call 16; go_must (refine (steps_run _).mono ?_); rintro e w2 ⟨rfl, hS, hb2⟩)
    | (go_at_call 15; go_must (refine (start_run _).mono ?_); rintro e w3 ⟨rfl, hb3⟩
       have hz : Blk 33 (w3.alloc (.cells #[.int .u32 0, .int .u32 0, .int .u32 0, .int .u32 0, .int .u32 0, .int .u32 0, .int .u32 0, .int .u32 0] 33)) w3.heap.size [.int .u32 0, .int .u32 0, .int .u32 0, .int .u32 0, .int .u32 0, .int .u32 0, .int .u32 0, .int .u32 0] := Blk.newAt rfl rfl)
    | (refine wpList_store_blk (by rfl) (.tmp 3) (.tmp 8) 33 (by rfl) w3.heap.size 0 8 (by rfl) firsts8.val (by rfl) (sizeOf_run (by kernel_rfl)) hz rfl (by decide) (int_oneCell _ _) firsts8.val (by rfl) ?_
       intro w5 hb5 hbut5 hsz5))
  have h3a : Below w3.heap.size w3 (w3.alloc (.cells #[.int .u32 0, .int .u32 0, .int .u32 0, .int .u32 0, .int .u32 0, .int .u32 0, .int .u32 0, .int .u32 0] 33)) := (Below.refl _ _).alloc (Nat.le_refl _) _
  have h35 : Below w3.heap.size w3 w5 := h3a.trans (hbut5.below (Nat.le_refl _) (by simp))
  have h25 : Below w2.heap.size w2 w5 := hb3.trans (h35.mono hb3.size)
  have h15 : Below w1.heap.size w1 w5 := hb2.trans (h25.mono hb2.size)
  have HALL : Hid (Below w.heap.size w w5) := hb1.trans (h15.mono hb1.size)
  have LP : ∀ i, i < 64 → Later w5 ⟨pb, po + i, none⟩ (.int .u64 ((primes64.getD i 0 : Nat) : Int)) := fun i hi => (Later.mk (hP i hi)).stays h15
  have LS : ∀ i, i < 64 → Later w5 ⟨w1.heap.size, i, none⟩ (.int .u32 ((stepNums.getD i 0 : Nat) : Int)) := fun i hi => by
    have := hS i (by rw [ints_length]; exact hi)
    rw [ints_getD] at this
    exact (Later.mk this).stays h25
  have LF : ∀ i, i < 8 → Later w5 ⟨w3.heap.size, i, none⟩ (.int .u32 ((firsts8.list.getD i 0 : Nat) : Int)) := fun i hi => by
    refine Later.mk ?_
    have h := (Blk.arr (K := .u32) (cur := ints firsts8.list) hb5).cell i (by rw [ints_length]; exact hi)
    rw [ints_getD] at h
    exact h
  clear hP hS hb1 hb2 hb3 hz hb5 hbut5 hsz5 h3a h35 h25 h15
  go_loopw [4] (fun v wr => ∃ i : Nat, v = .int .i64 i ∧ i ≤ 64 ∧ Below w5.heap.size w5 wr) (fun v _ => 64 - (intOf v).toNat)
  case atStart => exact ⟨0, rfl, by omega, Below.refl _ _⟩
  case round =>
    rename_i hrel
    obtain ⟨i, rfl, hi, hbel⟩ := hrel
    by_cases hlt : i < 64
    · obtain ⟨P, hPP⟩ : ∃ P, P = primes64.getD i 0 := ⟨_, rfl⟩
      obtain ⟨S, hSS⟩ : ∃ S, S = stepNums.getD i 0 := ⟨_, rfl⟩
      have hro : rootN P true = S := by rw [hPP, hSS]; exact cube_at i hlt
      have hPl : P ≤ 65535 := by rw [hPP]; exact primes64_le i
      have HC : Hid (∀ u : World, Calls Tryd.prog 22 #[.int .u64 (P : Int), .bool true] u fun e w' => ∃ v, e = .returned v ∧ Below u.heap.size u w' ∧ isV (.int .u32 (S : Int)) v w') := fun u => by rw [← hro]; exact calls_isV (rootN_run P hPl true u)
      have HP : Hid (Later wr ⟨pb, po + i, none⟩ (.int .u64 (P : Int))) := by rw [hPP]; exact (LP i (by omega)).stays hbel
      have HS : Hid (Later wr ⟨w1.heap.size, i, none⟩ (.int .u32 (S : Int))) := by rw [hSS]; exact (LS i hlt).stays hbel
      have hi' : (i : Int) < 64 := by omega
      have hi'' : (i : Int) < 64 := by omega
      clear hPP hSS hro hPl
      go_wp2
      refine Up.wp_region_up (Up.tell [(4, isV (.int .u32 (S : Int)))]) (by kernel_rfl) (by kernel_rfl) (Up.tell_steady _ (by
        intro p hp
        simp only [List.mem_cons, List.not_mem_nil, or_false] at hp
        subst hp
        exact isV_steady _)) ?_
      repeat (first
        | (apply Up.wpUp_pure
           case hw => rfl
           case hψ => rfl
           case hv => (intro w6 hp; have c1 := HP.out w6 hp.1; have c2 := HS.out w6 hp.1; clear hp; go_simp; try (with_reducible rfl))
           simp only [Act.put, List.setIfInBounds_toArray, List.set_cons_zero, List.set_cons_succ]))
      refine Up.wpUp_call _ 22 #[.int .u64 (P : Int), .bool true] (by rfl) (by rfl) (fun w6 => by go_simp) (fun w6 hp => HC.out w6) ?_
      rintro v ⟨u, _, hf⟩
      obtain rfl := hf 4 v _ rfl rfl
      clear hf
      simp only [Act.put, List.setIfInBounds_toArray, List.set_cons_zero, List.set_cons_succ]
      repeat (first
        | (apply Up.wpUp_pure
           case hw => rfl
           case hψ => rfl
           case hv => (intro w6 hp; have c1 := HP.out w6 hp.1; have c2 := HS.out w6 hp.1; clear hp; go_simp; try (with_reducible rfl))
           simp only [Act.put, List.setIfInBounds_toArray, List.set_cons_zero, List.set_cons_succ]))
      refine Up.wpUp_end ?_
      intro w6 hb6 _
      have hb56 := hbel.trans (hb6.mono hbel.size)
      clear hb6
      go_wp2
      go_roundw
      case rel => exact ⟨i + 1, by go_num, by omega, hb56⟩
      case measure => simp [intOf]; omega
    · have hi' : ¬ ((i : Int) < 64) := by omega
      have hbel1 := hbel
      clear hbel
      go_wp2
      go_loopw [5] (fun v wr => ∃ i : Nat, v = .int .i64 i ∧ i ≤ 8 ∧ Below w5.heap.size w5 wr) (fun v _ => 8 - (intOf v).toNat)
      case atStart => exact ⟨0, rfl, by omega, hbel1⟩
      case round =>
        rename_i hrel
        obtain ⟨i, rfl, hi, hbel⟩ := hrel
        by_cases hlt : i < 8
        · obtain ⟨P, hPP⟩ : ∃ P, P = primes64.getD i 0 := ⟨_, rfl⟩
          obtain ⟨S, hSS⟩ : ∃ S, S = firsts8.list.getD i 0 := ⟨_, rfl⟩
          have hro : rootN P false = S := by rw [hPP, hSS]; exact square_at i hlt
          have hPl : P ≤ 65535 := by rw [hPP]; exact primes64_le i
          have HC : Hid (∀ u : World, Calls Tryd.prog 22 #[.int .u64 (P : Int), .bool false] u fun e w' => ∃ v, e = .returned v ∧ Below u.heap.size u w' ∧ isV (.int .u32 (S : Int)) v w') := fun u => by rw [← hro]; exact calls_isV (rootN_run P hPl false u)
          have HP : Hid (Later wr ⟨pb, po + i, none⟩ (.int .u64 (P : Int))) := by rw [hPP]; exact (LP i (by omega)).stays hbel
          have HS : Hid (Later wr ⟨w3.heap.size, i, none⟩ (.int .u32 (S : Int))) := by rw [hSS]; exact (LF i hlt).stays hbel
          have hi' : (i : Int) < 8 := by omega
          have hi'' : (i : Int) < 64 := by omega
          clear hPP hSS hro hPl
          go_wp2
          refine Up.wp_region_up (Up.tell [(4, isV (.int .u32 (S : Int)))]) (by kernel_rfl) (by kernel_rfl) (Up.tell_steady _ (by
            intro p hp
            simp only [List.mem_cons, List.not_mem_nil, or_false] at hp
            subst hp
            exact isV_steady _)) ?_
          repeat (first
            | (apply Up.wpUp_pure
               case hw => rfl
               case hψ => rfl
               case hv => (intro w6 hp; have c1 := HP.out w6 hp.1; have c2 := HS.out w6 hp.1; clear hp; go_simp; try (with_reducible rfl))
               simp only [Act.put, List.setIfInBounds_toArray, List.set_cons_zero, List.set_cons_succ]))
          refine Up.wpUp_call _ 22 #[.int .u64 (P : Int), .bool false] (by rfl) (by rfl) (fun w6 => by go_simp) (fun w6 hp => HC.out w6) ?_
          rintro v ⟨u, _, hf⟩
          obtain rfl := hf 4 v _ rfl rfl
          clear hf
          simp only [Act.put, List.setIfInBounds_toArray, List.set_cons_zero, List.set_cons_succ]
          repeat (first
            | (apply Up.wpUp_pure
               case hw => rfl
               case hψ => rfl
               case hv => (intro w6 hp; have c1 := HP.out w6 hp.1; have c2 := HS.out w6 hp.1; clear hp; go_simp; try (with_reducible rfl))
               simp only [Act.put, List.setIfInBounds_toArray, List.set_cons_zero, List.set_cons_succ]))
          refine Up.wpUp_end ?_
          intro w6 hb6 _
          have hb56 := hbel.trans (hb6.mono hbel.size)
          clear hb6
          go_wp2
          go_roundw
          case rel => exact ⟨i + 1, by go_num, by omega, hb56⟩
          case measure => simp [intOf]; omega
        · have hi' : ¬ ((i : Int) < 8) := by omega
          go_wp2
          go_ret
          exact ⟨rfl, HALL.out.trans (hbel.mono HALL.out.size)⟩

theorem roots_walk (w : World) (hV : Vars w) : Calls Tryd.prog 5 #[] w fun e w' => e = .returned (.bool true) ∧ Below w.heap.size w w' := by
  go_enter Tryd.func5, Tryd.ntmps5
  go_wp2_with (first
    | (go_at_call 6; go_must (refine (alive_run _ hV).mono ?_); rintro e w1 ⟨rfl, hb1⟩)
    | (go_at_call 13; go_must (refine (right_run _).mono ?_); rintro e w2 ⟨rfl, hb2⟩))
  go_ret
  exact ⟨rfl, hb1.trans (hb2.mono hb1.size)⟩
end Go.Proofs.YtolgbmljjikooaaDoor
