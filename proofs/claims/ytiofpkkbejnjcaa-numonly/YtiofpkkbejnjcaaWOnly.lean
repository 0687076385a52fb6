/-
  The walk over the law NumOnly.
-/
import Derived.Test.YtiofpkkbejnjcaaAlive
import Derived.Test.YtiofpkkbejnjcaaMath
import Derived.Test.YtiofpkkbejnjcaaUp
namespace Go.Proofs.Ytiofpkkbejnjcaa
set_option linter.unusedSimpArgs false
set_option linter.unusedVariables false
open Go.RowKit

theorem strOfNums_append (xs ys : List Int) : strOfNums xs ++ strOfNums ys = strOfNums (xs ++ ys) := by
  apply ByteArray.ext; simp [strOfNums]

theorem only_great (a : Option Addr) (c : Nat) (n : Nat) (w : World) (hl : 300 < n) : Calls Try.prog 7 #[.slice a n c] w fun e w' => e = .returned (.bool true) ∧ Below w.heap.size w w' := by
  go_enter Try.func7, Try.ntmps7
  go_wp2_with (go_at_call 8; go_must (refine (alive_any _).mono ?_); rintro e w' ⟨rfl, hb⟩)
  go_ret
  exact ⟨rfl, hb⟩

theorem only_err (a : Option Addr) (c : Nat) (xs : List Int) (w : World) (hB : Bs w a c xs) (hl : xs.length ≤ 300) (h : (takeL xs).2.2 ≠ 0) : Calls Try.prog 7 #[.slice a xs.length c] w fun e w' => e = .returned (.bool true) ∧ Below w.heap.size w w' := by
  have ht := take_any a c xs w hB (by omega)
  have h1 : (takeL xs).1 = 0 ∧ (takeL xs).2.1 = [] := by
    unfold takeL at h ⊢
    obtain ⟨⟨n, s, z⟩, hr⟩ : ∃ r, leadL 0 0 xs = r := ⟨_, rfl⟩
    rw [hr] at h ⊢
    exact ⟨(lead_facts hB.rng hr).2 h, if_neg h⟩
  rw [h1.1, h1.2] at ht
  obtain ⟨z, hz⟩ : ∃ z, (takeL xs).2.2 = z := ⟨_, rfl⟩
  rw [hz] at ht h
  clear hz h1
  go_enter Try.func7, Try.ntmps7
  go_wp2_with (first
    | (go_at_call 15; go_must (refine ht.mono ?_); rintro e w1 ⟨a1, c1, rfl, hB1, hb1⟩)
    | (go_at_call 8; go_must (refine (alive_any _).mono ?_); rintro e w2 ⟨rfl, hb2⟩))
  go_ret
  exact ⟨rfl, below_then hb1 hb2⟩
theorem add_run (A B : List Int) (h : A.length + B.length ≤ 1000000) (w : World) : (Op.stringOp .add (strOfNums A) (strOfNums B)).run Try.prog w = .ok (.string (strOfNums (A ++ B))) w := by
  rw [run_string_add_sum w _ _ (by rw [strOfNums_size, strOfNums_size]; omega), strOfNums_append]

theorem only_ok (a : Option Addr) (c : Nat) (xs : List Int) (w : World) (hB : Bs w a c xs) (hl : xs.length ≤ 300) (h : (takeL xs).2.2 = 0) (hf : (stringL xs 300).2.2 = 0) : Calls Try.prog 7 #[.slice a xs.length c] w fun e w' => e = .returned (.bool true) ∧ Below w.heap.size w w' := by
  have ht := take_any a c xs w hB (by omega)
  have hto := take_only hB.rng h
  have hn : (takeL xs).1 < 18446744073709551616 := by
    unfold takeL at h ⊢
    obtain ⟨⟨n, s, z⟩, hr⟩ : ∃ r, leadL 0 0 xs = r := ⟨_, rfl⟩
    rw [hr] at h ⊢
    exact ((lead_facts hB.rng hr).1 h).2.1
  have hts := fun w' hb => takeString_any a c xs 300 w' hb (by omega) (by decide)
  have hso := string_only hB.rng 300 hf
  obtain ⟨⟨n, rest, z⟩, hr⟩ : ∃ r, takeL xs = r := ⟨_, rfl⟩
  obtain ⟨⟨s, left, f⟩, hr2⟩ : ∃ r, stringL xs 300 = r := ⟨_, rfl⟩
  rw [hr] at ht hto hn h
  rw [hr2] at hts hso hf
  simp only at ht hto hn h hso hf
  subst h hf
  obtain ⟨hso, hs1, hs2⟩ := hso
  have HT : Hid (leb n ++ rest = xs) := hto
  have HS : Hid (leb s.length ++ s ++ left = xs) := hso
  clear hto hso hr hr2
  go_enter Try.func7, Try.ntmps7
  go_wp2_with (first
    | (go_at_call 15; go_must (refine ht.mono ?_); rintro e w1 ⟨a1, c1, rfl, hB1, hb1⟩)
    | (go_at_call 21; go_must (refine (hts w1 (hB.stays hb1)).mono ?_); rintro e w2 ⟨a2, c2, a3, c3, rfl, hB2, hB3, hb2⟩))
  have hX := (hB.stays hb1).stays hb2
  obtain ⟨pl, hpl⟩ : ∃ pl, leb s.length ++ s = pl := ⟨_, rfl⟩
  have hHS := HS.out
  rw [hpl] at hHS
  have hadd1 := add_run pl left (by have := congrArg List.length hHS; simp at this; omega)
  rw [hHS] at hadd1
  have hS : Hid (∀ u : World, Below w2.heap.size w2 u → (convert 22 9 (.slice a3 left.length c3)).run Try.prog u = .ok (.string (strOfNums left)) u ∧ (convert 22 9 (.slice a xs.length c)).run Try.prog u = .ok (.string (strOfNums xs)) u) :=
    fun u hu => ⟨conv9 (hB3.stays hu) _ rfl, conv9 (hX.stays hu) _ rfl⟩
  have hps : Hid (∀ u : World, Below w2.heap.size w2 u → Calls Try.prog 11 #[.slice none 0 0, .slice a2 s.length c2] u fun e w' => ∃ v, e = .returned v ∧ Below u.heap.size u w' ∧ ∃ a' c', v = .slice a' pl.length c' ∧ Bs w' a' c' pl) :=
    fun u hu => by
      have := putString_any none 0 [] a2 c2 s u (Bs.empty u) (hB2.stays hu) (by simp) (by omega)
      rw [List.nil_append, hpl] at this
      exact this.mono fun e w' ⟨a', c', h1, h2, h3⟩ => ⟨_, h1, h3, a', c', rfl, h2⟩
  clear hpl hHS
  refine Up.wp_region_up (fun i => if i = 4 then some (fun v w' => ∃ a' c', v = .slice a' pl.length c' ∧ Bs w' a' c' pl) else none) (by kernel_rfl) (by kernel_rfl) ?st ?_
  case st =>
    intro k ψ hk v u u' hb hv
    by_cases h4 : k = 4
    · rw [if_pos h4] at hk; cases hk; obtain ⟨a', c', h1, h2⟩ := hv; exact ⟨a', c', h1, h2.stays hb⟩
    · rw [if_neg h4] at hk; cases hk
  repeat (first
    | (apply Up.wpUp_pure
       case hw => rfl
       case hψ => rfl
       case hv => (intro w1 hp; have hS1 := hS.out w1 hp.1; clear hp; go_simp; try (with_reducible rfl))
       simp only [Act.put, List.setIfInBounds_toArray, List.set_cons_zero, List.set_cons_succ]))
  refine Up.wpUp_call _ 11 #[.slice none 0 0, .slice a2 s.length c2] (by rfl) (by rfl) (fun w1 => by go_simp) (fun w1 hp => hps.out w1 hp.1) ?_
  rintro v ⟨u, _, hf⟩
  obtain ⟨a4, c4, rfl, _⟩ := hf 4 v _ rfl rfl
  clear hf
  simp only [Act.put, List.setIfInBounds_toArray, List.set_cons_zero, List.set_cons_succ]
  repeat (first
    | (apply Up.wpUp_pure
       case hw => rfl
       case hψ => rfl
       case hv => (intro w1 hp; have hS1 := hS.out w1 hp.1; clear hp; go_simp; try (with_reducible rfl))
       simp only [Act.put, List.setIfInBounds_toArray, List.set_cons_zero, List.set_cons_succ])
    | (apply Up.wpUp_pure
       case hw => rfl
       case hψ => rfl
       case hv => (intro w1 hp; obtain ⟨a', c', he, hB'⟩ := hp.2 4 _ _ rfl rfl rfl; cases he; have hc := conv9 hB' _ rfl; clear hp; go_simp; try (with_reducible rfl))
       simp only [Act.put, List.setIfInBounds_toArray, List.set_cons_zero, List.set_cons_succ]))
  refine Up.wpUp_end ?_
  intro w3 hb3 _
  have hX3 := hX.stays hb3
  have hR3 := (hB1.stays hb2).stays hb3
  have hlast : Hid (Below w.heap.size w w3) := below_then (below_then hb1 hb2) hb3
  clear hS hps hadd1 hX hB2 hB3 hB1 hb1 hb2 hb3 hs1 hs2 HS ht hts
  obtain ⟨pn, hpn⟩ : ∃ pn, leb n = pn := ⟨_, rfl⟩
  have hHT := HT.out
  rw [hpn] at hHT
  have hadd1 := add_run pn rest (by have := congrArg List.length hHT; simp at this; omega)
  rw [hHT] at hadd1
  have hS : Hid (∀ u : World, Below w3.heap.size w3 u → (convert 22 9 (.slice a1 rest.length c1)).run Try.prog u = .ok (.string (strOfNums rest)) u ∧ (convert 22 9 (.slice a xs.length c)).run Try.prog u = .ok (.string (strOfNums xs)) u) :=
    fun u hu => ⟨conv9 (hR3.stays hu) _ rfl, conv9 (hX3.stays hu) _ rfl⟩
  have hal : Hid (∀ u : World, Calls Try.prog 8 #[] u fun e w' => ∃ v, e = .returned v ∧ Below u.heap.size u w' ∧ v = .bool true) :=
    fun u => (alive_any u).mono fun e w' ⟨h1, h2⟩ => ⟨_, h1, h2, rfl⟩
  have hps : Hid (∀ u : World, Calls Try.prog 9 #[.slice none 0 0, .int .u64 n] u fun e w' => ∃ v, e = .returned v ∧ Below u.heap.size u w' ∧ ∃ a' c', v = .slice a' pn.length c' ∧ Bs w' a' c' pn) :=
    fun u => by
      have := put_any none 0 [] n hn u (Bs.empty u) (by simp)
      rw [List.nil_append, hpn] at this
      exact this.mono fun e w' ⟨a', c', h1, h2, h3⟩ => ⟨_, h1, h3, a', c', rfl, h2⟩
  clear hpn hHT HT
  go_wp2
  refine Up.wp_region_up (fun i => if i = 0 then some (fun v _ => v = .bool true) else if i = 3 then some (fun v w' => ∃ a' c', v = .slice a' pn.length c' ∧ Bs w' a' c' pn) else none) (by kernel_rfl) (by kernel_rfl) ?st2 ?_
  case st2 =>
    intro k ψ hk v u u' hb hv
    by_cases h0 : k = 0
    · rw [if_pos h0] at hk; cases hk; exact hv
    · rw [if_neg h0] at hk
      by_cases h4 : k = 3
      · rw [if_pos h4] at hk; cases hk; obtain ⟨a', c', h1, h2⟩ := hv; exact ⟨a', c', h1, h2.stays hb⟩
      · rw [if_neg h4] at hk; cases hk
  refine Up.wpUp_call _ 8 #[] (by rfl) (by rfl) (fun w1 => by go_simp) (fun w1 hp => hal.out w1) ?_
  rintro v ⟨u, _, hf⟩
  obtain rfl := hf 0 v _ rfl rfl
  clear hf
  simp only [Act.put, List.setIfInBounds_toArray, List.set_cons_zero, List.set_cons_succ]
  repeat (first
    | (apply Up.wpUp_pure
       case hw => rfl
       case hψ => rfl
       case hv => (intro w1 hp; have hS1 := hS.out w1 hp.1; clear hp; go_simp; try (with_reducible rfl))
       simp only [Act.put, List.setIfInBounds_toArray, List.set_cons_zero, List.set_cons_succ]))
  refine Up.wpUp_call _ 9 #[.slice none 0 0, .int .u64 n] (by rfl) (by rfl) (fun w1 => by go_simp) (fun w1 hp => hps.out w1) ?_
  rintro v ⟨u, _, hf⟩
  obtain ⟨a5, c5, rfl, _⟩ := hf 3 v _ rfl rfl
  clear hf
  simp only [Act.put, List.setIfInBounds_toArray, List.set_cons_zero, List.set_cons_succ]
  repeat (first
    | (apply Up.wpUp_pure
       case hw => rfl
       case hψ => rfl
       case hv => (intro w1 hp; have hS1 := hS.out w1 hp.1; clear hp; go_simp; try (with_reducible rfl))
       simp only [Act.put, List.setIfInBounds_toArray, List.set_cons_zero, List.set_cons_succ])
    | (apply Up.wpUp_pure
       case hw => rfl
       case hψ => rfl
       case hv => (intro w1 hp; obtain ⟨a', c', he, hB'⟩ := hp.2 3 _ _ rfl rfl rfl; cases he; have hc := conv9 hB' _ rfl; clear hp; go_simp; try (with_reducible rfl))
       simp only [Act.put, List.setIfInBounds_toArray, List.set_cons_zero, List.set_cons_succ]))
  refine Up.wpUp_end ?_
  intro w4 hb4 _
  go_wp2
  go_ret
  exact ⟨rfl, below_then hlast.out hb4⟩
theorem only_bad (a : Option Addr) (c : Nat) (xs : List Int) (w : World) (hB : Bs w a c xs) (hl : xs.length ≤ 300) (h : (takeL xs).2.2 = 0) (hf : (stringL xs 300).2.2 ≠ 0) : Calls Try.prog 7 #[.slice a xs.length c] w fun e w' => e = .returned (.bool true) ∧ Below w.heap.size w w' := by
  have ht := take_any a c xs w hB (by omega)
  have hto := take_only hB.rng h
  have hn : (takeL xs).1 < 18446744073709551616 := by
    unfold takeL at h ⊢
    obtain ⟨⟨n, s, z⟩, hr⟩ : ∃ r, leadL 0 0 xs = r := ⟨_, rfl⟩
    rw [hr] at h ⊢
    exact ((lead_facts hB.rng hr).1 h).2.1
  have hts := fun w' hb => takeString_any a c xs 300 w' hb (by omega) (by decide)
  obtain ⟨⟨n, rest, z⟩, hr⟩ : ∃ r, takeL xs = r := ⟨_, rfl⟩
  obtain ⟨⟨s, left, f⟩, hr2⟩ : ∃ r, stringL xs 300 = r := ⟨_, rfl⟩
  rw [hr] at ht hto hn h
  rw [hr2] at hts hf
  simp only at ht hto hn h hf
  subst h
  have HT : Hid (leb n ++ rest = xs) := hto
  clear hto hr hr2
  go_enter Try.func7, Try.ntmps7
  go_wp2_with (first
    | (go_at_call 15; go_must (refine ht.mono ?_); rintro e w1 ⟨a1, c1, rfl, hB1, hb1⟩)
    | (go_at_call 21; go_must (refine (hts w1 (hB.stays hb1)).mono ?_); rintro e w2 ⟨a2, c2, a3, c3, rfl, hB2, hB3, hb2⟩))
  have hX := (hB.stays hb1).stays hb2
  have hfz : ((f : Int) == 0) = false := by simp; exact hf
  refine Up.wp_region_up (fun _ => none) (by kernel_rfl) (by kernel_rfl) (fun k ψ hk => by cases hk) ?_
  iterate 3
    (apply Up.wpUp_pure
     case hw => rfl
     case hψ => rfl
     case hv => (intro w1 hp; clear hp; go_simp; try (with_reducible rfl))
     simp only [Act.put, List.setIfInBounds_toArray, List.set_cons_zero, List.set_cons_succ])
  iterate 9
    (refine Up.wpUp_pass (by rfl) ?_
     simp only [Act.put, List.setIfInBounds_toArray, List.set_cons_zero, List.set_cons_succ])
  iterate 1
    (apply Up.wpUp_pure
     case hw => rfl
     case hψ => rfl
     case hv => (intro w1 hp; clear hp; go_simp; try (with_reducible rfl))
     simp only [Act.put, List.setIfInBounds_toArray, List.set_cons_zero, List.set_cons_succ])
  refine Up.wpUp_end ?_
  intro w3 hb3 _
  have hX3 := hX.stays hb3
  have hR3 := (hB1.stays hb2).stays hb3
  have hlast : Hid (Below w.heap.size w w3) := below_then (below_then hb1 hb2) hb3
  clear hX hB2 hB3 hB1 hb1 hb2 hb3 ht hts
  obtain ⟨pn, hpn⟩ : ∃ pn, leb n = pn := ⟨_, rfl⟩
  have hHT := HT.out
  rw [hpn] at hHT
  have hadd1 := add_run pn rest (by have := congrArg List.length hHT; simp at this; omega)
  rw [hHT] at hadd1
  have hS : Hid (∀ u : World, Below w3.heap.size w3 u → (convert 22 9 (.slice a1 rest.length c1)).run Try.prog u = .ok (.string (strOfNums rest)) u ∧ (convert 22 9 (.slice a xs.length c)).run Try.prog u = .ok (.string (strOfNums xs)) u) :=
    fun u hu => ⟨conv9 (hR3.stays hu) _ rfl, conv9 (hX3.stays hu) _ rfl⟩
  have hal : Hid (∀ u : World, Calls Try.prog 8 #[] u fun e w' => ∃ v, e = .returned v ∧ Below u.heap.size u w' ∧ v = .bool true) :=
    fun u => (alive_any u).mono fun e w' ⟨h1, h2⟩ => ⟨_, h1, h2, rfl⟩
  have hps : Hid (∀ u : World, Calls Try.prog 9 #[.slice none 0 0, .int .u64 n] u fun e w' => ∃ v, e = .returned v ∧ Below u.heap.size u w' ∧ ∃ a' c', v = .slice a' pn.length c' ∧ Bs w' a' c' pn) :=
    fun u => by
      have := put_any none 0 [] n hn u (Bs.empty u) (by simp)
      rw [List.nil_append, hpn] at this
      exact this.mono fun e w' ⟨a', c', h1, h2, h3⟩ => ⟨_, h1, h3, a', c', rfl, h2⟩
  clear hpn hHT HT
  go_wp2
  refine Up.wp_region_up (fun i => if i = 0 then some (fun v _ => v = .bool true) else if i = 3 then some (fun v w' => ∃ a' c', v = .slice a' pn.length c' ∧ Bs w' a' c' pn) else none) (by kernel_rfl) (by kernel_rfl) ?st2 ?_
  case st2 =>
    intro k ψ hk v u u' hb hv
    by_cases h0 : k = 0
    · rw [if_pos h0] at hk; cases hk; exact hv
    · rw [if_neg h0] at hk
      by_cases h4 : k = 3
      · rw [if_pos h4] at hk; cases hk; obtain ⟨a', c', h1, h2⟩ := hv; exact ⟨a', c', h1, h2.stays hb⟩
      · rw [if_neg h4] at hk; cases hk
  refine Up.wpUp_call _ 8 #[] (by rfl) (by rfl) (fun w1 => by go_simp) (fun w1 hp => hal.out w1) ?_
  rintro v ⟨u, _, hf⟩
  obtain rfl := hf 0 v _ rfl rfl
  clear hf
  simp only [Act.put, List.setIfInBounds_toArray, List.set_cons_zero, List.set_cons_succ]
  repeat (first
    | (apply Up.wpUp_pure
       case hw => rfl
       case hψ => rfl
       case hv => (intro w1 hp; have hS1 := hS.out w1 hp.1; clear hp; go_simp; try (with_reducible rfl))
       simp only [Act.put, List.setIfInBounds_toArray, List.set_cons_zero, List.set_cons_succ]))
  refine Up.wpUp_call _ 9 #[.slice none 0 0, .int .u64 n] (by rfl) (by rfl) (fun w1 => by go_simp) (fun w1 hp => hps.out w1) ?_
  rintro v ⟨u, _, hf⟩
  obtain ⟨a5, c5, rfl, _⟩ := hf 3 v _ rfl rfl
  clear hf
  simp only [Act.put, List.setIfInBounds_toArray, List.set_cons_zero, List.set_cons_succ]
  repeat (first
    | (apply Up.wpUp_pure
       case hw => rfl
       case hψ => rfl
       case hv => (intro w1 hp; have hS1 := hS.out w1 hp.1; clear hp; go_simp; try (with_reducible rfl))
       simp only [Act.put, List.setIfInBounds_toArray, List.set_cons_zero, List.set_cons_succ])
    | (apply Up.wpUp_pure
       case hw => rfl
       case hψ => rfl
       case hv => (intro w1 hp; obtain ⟨a', c', he, hB'⟩ := hp.2 3 _ _ rfl rfl rfl; cases he; have hc := conv9 hB' _ rfl; clear hp; go_simp; try (with_reducible rfl))
       simp only [Act.put, List.setIfInBounds_toArray, List.set_cons_zero, List.set_cons_succ]))
  refine Up.wpUp_end ?_
  intro w4 hb4 _
  go_wp2
  go_ret
  exact ⟨rfl, below_then hlast.out hb4⟩

theorem only_walk (a : Option Addr) (c : Nat) (xs : List Int) (w : World) (hB : Bs w a c xs) : Calls Try.prog 7 #[.slice a xs.length c] w fun e w' => e = .returned (.bool true) ∧ Below w.heap.size w w' := by
  by_cases hl : xs.length ≤ 300
  · by_cases h : (takeL xs).2.2 = 0
    · by_cases hf : (stringL xs 300).2.2 = 0
      · exact only_ok a c xs w hB hl h hf
      · exact only_bad a c xs w hB hl h hf
    · exact only_err a c xs w hB hl h
  · exact only_great a c _ w (by omega)
end Go.Proofs.Ytiofpkkbejnjcaa
