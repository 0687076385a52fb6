/-
  NParts of bytes, laid one behind the other; no function here.
-/
import Derived.Test.YthbldjnpnligpaaDoorProg
import Derived.Test.YthbldjnpnligpaaDoorG01
import Derived.Deep.QuietTactic
import Derived.BigQuiet
import Derived.Laws.BitsLemmas
namespace Go.Proofs.YthbldjnpnligpaaDoor
set_option linter.unusedSimpArgs false
set_option linter.unusedVariables false
set_option maxRecDepth 100000
open Go.RowKit

theorem Tryd.info5 : (Tryd.prog.info? 5).map (fun i => (i.zero, i.size, i.bytes)) = some (some (.int .u8 0), 1, 1) := by kernel_rfl

structure NPart where
  a : Option Addr
  c : Nat
  xs : List Int

def NPart.val (p : NPart) : Value := .slice p.a p.xs.length p.c

def flat : List NPart → List Int
  | [] => []
  | p :: ps => p.xs ++ flat ps

theorem flat_append (p q : List NPart) : flat (p ++ q) = flat p ++ flat q := by
  induction p with
  | nil => rfl
  | cons x p ih => simp [flat, ih]

theorem flat_rng {ps : List NPart} (h : ∀ p ∈ ps, ∀ x ∈ p.xs, (0 : Int) ≤ x ∧ x ≤ 255) : ∀ x ∈ flat ps, 0 ≤ x ∧ x ≤ 255 := by
  induction ps with
  | nil => simp [flat]
  | cons p ps ih =>
    intro x hx
    rcases List.mem_append.1 hx with hx | hx
    · exact h p (by simp) x hx
    · exact ih (fun q hq => h q (by simp [hq])) x hx

structure Ps (w : World) (a : Option Addr) (ps : List NPart) : Prop where
  bs : ∀ p ∈ ps, Bs w p.a p.c p.xs
  lay : ps = [] ∨ ∃ b off, a = some ⟨b, off, none⟩ ∧ ∀ i (hi : i < ps.length), w.cell? ⟨b, off + i, none⟩ = some ps[i].val

theorem Ps.empty (w : World) : Ps w none [] := ⟨by simp, .inl rfl⟩

theorem Ps.stays {w w' : World} {a : Option Addr} {ps : List NPart} (h : Ps w a ps) (hb : Below w.heap.size w w') : Ps w' a ps := by
  refine ⟨fun p hp => (h.bs p hp).stays hb, ?_⟩
  rcases h.lay with h | ⟨b, off, rfl, hc⟩
  · exact .inl h
  · refine .inr ⟨b, off, rfl, fun i hi => ?_⟩
    rw [hb.cell (World.block_lt_of_cell? w _ (hc i hi))]
    exact hc i hi

theorem flat_take_succ (ps : List NPart) (j : Nat) (h : j < ps.length) : flat (ps.take (j + 1)) = flat (ps.take j) ++ ps[j].xs := by
  rw [List.take_succ_eq_append_getElem h, flat_append]; simp [flat]

theorem flat_take_le (ps : List NPart) (j : Nat) : (flat (ps.take j)).length ≤ (flat ps).length := by
  have : flat ps = flat (ps.take j) ++ flat (ps.drop j) := by rw [← flat_append, List.take_append_drop]
  rw [this]; simp

theorem Tryd.elem43 : Tryd.prog.elem 43 = 5 := by kernel_rfl

theorem Tryd.size5 : (Tryd.prog.info? 5).map (·.size) = some 1 := by kernel_rfl

theorem ret_slice {a : Option Addr} {n m c : Nat} (h : n = m) : Ending.returned (.slice a n c) = .returned (.slice a m c) := by rw [h]

theorem below_then {w w1 w2 : World} (h1 : Below w.heap.size w w1) (h2 : Below w1.heap.size w1 w2) : Below w.heap.size w w2 := h1.trans (h2.mono h1.size)

theorem Ps.one {w : World} {a : Option Addr} {c : Nat} {xs : List Int} (h : Bs w a c xs) (t : TypeId) : Ps (w.alloc (.cells #[.slice a xs.length c] t)) (some ⟨w.heap.size, 0, none⟩) [⟨a, c, xs⟩] := by
  refine ⟨fun p hp => ?_, .inr ⟨_, _, rfl, fun i hi => ?_⟩⟩
  · rw [List.mem_singleton.1 hp]; exact h.stays ((Below.refl _ _).alloc (Nat.le_refl _) _)
  · have : i = 0 := by simpa using hi
    subst this
    simp [NPart.val]

theorem Ps.two {w : World} {a a2 : Option Addr} {c c2 : Nat} {xs ys : List Int} (h : Bs w a c xs) (h2 : Bs w a2 c2 ys) (t : TypeId) :
    Ps (w.alloc (.cells #[.slice a xs.length c, .slice a2 ys.length c2] t)) (some ⟨w.heap.size, 0, none⟩) [⟨a, c, xs⟩, ⟨a2, c2, ys⟩] := by
  refine ⟨fun p hp => ?_, .inr ⟨_, _, rfl, fun i hi => ?_⟩⟩
  · have hb := (Below.refl w.heap.size w).alloc (Nat.le_refl _) (.cells #[.slice a xs.length c, .slice a2 ys.length c2] t)
    simp only [List.mem_cons, List.not_mem_nil, or_false] at hp
    rcases hp with rfl | rfl
    · exact h.stays hb
    · exact h2.stays hb
  · have : i = 0 ∨ i = 1 := by simp at hi; omega
    rcases this with rfl | rfl <;> simp [NPart.val]

theorem getD_rng {xs : List Int} (h : ∀ x ∈ xs, 0 ≤ x ∧ x ≤ 255) (k : Nat) (hk : k < xs.length) : 0 ≤ xs.getD k 0 ∧ xs.getD k 0 ≤ 255 := by
  have := h _ (List.getElem_mem hk); simpa [List.getD, hk] using this

end Go.Proofs.YthbldjnpnligpaaDoor

/-
  The walks over num.behind and num.fresh.
-/

namespace Go.Proofs.YthbldjnpnligpaaDoor
set_option linter.unusedSimpArgs false
set_option linter.unusedVariables false
set_option maxRecDepth 100000
open Go.RowKit

theorem own_from {g n : Nat} (k : Nat) (hk : k ≤ n) : ∃ A, (∀ w' : World, (Instr.slice 43 (.slice (some ⟨g, 0, none⟩) n n) (some (.int .i64 k)) none none).run Tryd.prog w' = .ok (.slice A (n - k) (n - k)) w') ∧ (k < n → A = some ⟨g, k, none⟩) := by
  refine ⟨if n = k then some ⟨g, 0, none⟩ else (some (⟨g, 0, none⟩ : Addr)).map (·.add (k * 1)), fun w' => ?_, fun h => ?_⟩
  · have hz : (sizeOf 5).run Tryd.prog w' = .ok 1 w' := by
      obtain ⟨i, hi, h1⟩ := Option.map_eq_some_iff.1 Tryd.size5
      simp [sizeOf, typeInfo, hi, h1, go_sem]
    rw [run_slice_l w' 43 _ n n (by rw [Tryd.elem43]; exact Tryd.underlying43) .i64 k (by omega) (by omega), Tryd.elem43, hz]
    simp [Result.andThen, sliced]
  · rw [if_neg (by omega)]; simp [Addr.add]; omega

set_option maxRecDepth 100000 in
theorem behind_row (a : Option Addr) (c : Nat) (xs : List Int) (pa : Option Addr) (pc : Nat) (ps : List NPart) (w : World) (hB : Bs w a c xs) (hP : Ps w pa ps) (hlen : (xs ++ flat ps).length ≤ 1000000) (hps : ps.length ≤ 1000) :
    Calls Tryd.prog 156 #[.slice a xs.length c, .slice pa ps.length pc] w fun e w' => e = .returned (.slice (some ⟨w.heap.size, 0, none⟩) (xs ++ flat ps).length (xs ++ flat ps).length) ∧ Row 5 w' w.heap.size (xs ++ flat ps) ∧ Below w.heap.size w w' := by
  obtain ⟨i0, hi, hz0, hz1, hz2⟩ := info_parts Tryd.info5
  have hl2 : xs.length + (flat ps).length ≤ 1000000 := by simpa using hlen
  go_enter Tryd.func156, Tryd.ntmps156
  go_wp2
  go_loop [5, 16] (fun s i => ∃ k : Nat, k ≤ ps.length ∧ i = .int .i64 k ∧ s = .int .i64 ((xs.length + (flat (ps.take k)).length : Nat) : Int)) (fun _ i => ps.length - (intOf i).toNat)
  case atStart => exact ⟨0, Nat.zero_le _, rfl, rfl⟩
  case round =>
    obtain ⟨k, hk, rfl, rfl⟩ := hrel
    have hfl := flat_take_le ps k
    by_cases hlt : k < ps.length
    · have hne : ¬ ps = [] := by intro h; simp [h] at hlt
      rcases hP.lay with h | ⟨b, off, hpa, hc⟩
      · exact absurd h hne
      have hix : ∀ w' : World, (Instr.indexAt 212 (.slice pa ps.length pc) (.int .i64 k)).run Tryd.prog w' = .ok (.pointer (some ⟨b, off + k, none⟩)) w' := fun w' => by
        rw [hpa]; exact index_run 212 43 Tryd.underlying212 (by kernel_rfl) (by kernel_rfl) b off ps.length pc .i64 k hlt w'
      obtain ⟨p, hp⟩ : ∃ p, ps[k] = p := ⟨_, rfl⟩
      have hcell : w.cell? ⟨b, off + k, none⟩ = some (.slice p.a p.xs.length p.c) := by rw [hc k hlt, hp]; rfl
      have hs := flat_take_succ ps k hlt
      have hfl2 := flat_take_le ps (k + 1)
      rw [hs, hp] at hfl2
      have hpl : (flat (ps.take k)).length + p.xs.length ≤ 1000000 := by simp at hfl2; omega
      have HS : Hid (flat (ps.take (k + 1)) = flat (ps.take k) ++ p.xs) := by rw [← hp]; exact hs
      clear hs hpa hc hne hp hfl2 hlen hP hB
      go_wp2
      go_round
      case rel => exact ⟨k + 1, by omega, by go_num, by rw [HS.out]; simp only [List.length_append]; go_num⟩
      case measure => simp [intOf]; omega
    · have hkl : k = ps.length := by omega
      obtain ⟨N, hN⟩ : ∃ N, N = (xs ++ flat ps).length := ⟨_, rfl⟩
      have hNk : xs.length + (flat (ps.take k)).length = N := by rw [hN, hkl, List.take_length]; simp
      have hN2 : N ≤ 1000000 := by omega
      have HN : Hid (N = (xs ++ flat ps).length) := hN
      clear hN hkl
      go_wp2_with (first
        | (at_make; go_must (refine wpList_make_bytes (w0 := w) (by rfl) _ _ 43 (by rfl) w.heap.size 5 i0 Tryd.underlying43 hi hz0 hz1 hz2 _ _ _ _ N (by rfl) (by rfl) (by omega) (by omega) (by omega) (Nat.le_refl _) (Below.refl _ _) ?_); intro w1 hrow1 hb1)
        | (refine wpList_copy_bytes (w0 := w) (by rfl) (.tmp 27) (.tmp 28) 43 43 (by rfl) 5 Tryd.underlying43 Tryd.size5 _ _ N N xs.length c (by rfl) (by rfl) w.heap.size [] (List.replicate N 0) xs hrow1 (fun _ => rfl) (by simp) rfl (by simp; omega) (hB.stays hb1) w.heap.size hb1 (Nat.le_refl _) ?_; intro w2 hrow2 hb2; clear hrow1 hb1))
      go_loopw [9, 32] (fun s i wr => ∃ (j : Nat) (free : List Int), j ≤ ps.length ∧ i = .int .i64 j ∧ s = .int .i64 ((xs ++ flat (ps.take j)).length : Int) ∧ Hid ((xs ++ flat (ps.take j)).length + free.length = N) ∧ Row 5 wr w.heap.size ((xs ++ flat (ps.take j)) ++ free) ∧ Below w.heap.size w wr) (fun _ i _ => ps.length - (intOf i).toNat)
      case atStart => exact ⟨0, (List.replicate N 0).drop xs.length, Nat.zero_le _, rfl, by simp [flat], by show _ = _; simp [flat]; omega, by simpa [flat] using hrow2, hb2⟩
      case round =>
        obtain ⟨j, free, hj, rfl, rfl, hfree, hrow, hb⟩ := hrel
        obtain ⟨D, hD⟩ : ∃ D, D = xs ++ flat (ps.take j) := ⟨_, rfl⟩
        rw [← hD] at hfree hrow
        rw [← hD]
        have HD : Hid (D = xs ++ flat (ps.take j)) := hD
        clear hD
        have hf := hfree.out
        by_cases hlt : j < ps.length
        · have hne : ¬ ps = [] := by intro h; simp [h] at hlt
          rcases hP.lay with h | ⟨b, off, hpa, hc⟩
          · exact absurd h hne
          have hix : ∀ w' : World, (Instr.indexAt 212 (.slice pa ps.length pc) (.int .i64 j)).run Tryd.prog w' = .ok (.pointer (some ⟨b, off + j, none⟩)) w' := fun w' => by
            rw [hpa]; exact index_run 212 43 Tryd.underlying212 (by kernel_rfl) (by kernel_rfl) b off ps.length pc .i64 j hlt w'
          obtain ⟨p, hp⟩ : ∃ p, ps[j] = p := ⟨_, rfl⟩
          have hpB : Bs w p.a p.c p.xs := hP.bs p (by rw [← hp]; exact List.getElem_mem hlt)
          have hcw : w.cell? ⟨b, off + j, none⟩ = some (.slice p.a p.xs.length p.c) := by rw [hc j hlt, hp]; rfl
          have hcell : wr.cell? ⟨b, off + j, none⟩ = some (.slice p.a p.xs.length p.c) := by rw [hb.cell (World.block_lt_of_cell? w _ hcw)]; exact hcw
          have hs := flat_take_succ ps j hlt
          have HS : Hid (xs ++ flat (ps.take (j + 1)) = D ++ p.xs) := by show _ = _; rw [hs, hp, HD.out]; simp
          have hfl2 := flat_take_le ps (j + 1)
          have hpl : D.length + p.xs.length ≤ N := by
            have h1 := congrArg List.length HS.out
            have h2 := HN.out
            simp at h1 h2
            omega
          obtain ⟨A, hsl, hA⟩ := own_from (g := w.heap.size) (n := N) D.length (by omega)
          clear hs hpa hc hne hp hfl2 hlen hcw hP hB HN
          go_wp2_with (refine wpList_copy_bytes (w0 := w) (by rfl) (.tmp 39) (.tmp 40) 43 43 (by rfl) 5 Tryd.underlying43 Tryd.size5 _ _ (N - D.length) (N - D.length) p.xs.length p.c (by rfl) (by rfl) w.heap.size D free p.xs hrow (fun h => hA (by simp at h; omega)) (by omega) rfl (by omega) (hpB.stays hb) w.heap.size hb (Nat.le_refl _) ?_; intro w3 hrow3 hb3; clear hrow hb)
          go_roundw
          case rel => exact ⟨j + 1, free.drop p.xs.length, by omega, by go_num, by rw [HS.out]; simp only [List.length_append]; go_num, by show _ = _; rw [HS.out]; simp; omega, by rw [HS.out]; exact hrow3, hb3⟩
          case measure => simp [intOf]; omega
        · have hfin : D = xs ++ flat ps := by rw [HD.out]; congr 2; exact List.take_of_length_le (by omega)
          have hN := HN.out
          have hfree0 : free = [] := List.eq_nil_of_length_eq_zero (by rw [hfin] at hf; omega)
          rw [hfree0, hfin, List.append_nil] at hrow
          have HBs : Hid (Row 5 wr w.heap.size (xs ++ flat ps)) := hrow
          have HN' : Hid ((xs ++ flat ps).length = N) := hN.symm
          clear hN hfin hrow HN
          go_wp2
          go_ret
          refine ⟨?_, HBs.out, hb⟩
          rw [HN'.out]; rfl

theorem behind_any (a : Option Addr) (c : Nat) (xs : List Int) (pa : Option Addr) (pc : Nat) (ps : List NPart) (w : World) (hB : Bs w a c xs) (hP : Ps w pa ps) (hlen : (xs ++ flat ps).length ≤ 1000000) (hps : ps.length ≤ 1000) :
    Calls Tryd.prog 156 #[.slice a xs.length c, .slice pa ps.length pc] w fun e w' => ∃ a' c', e = .returned (.slice a' (xs ++ flat ps).length c') ∧ Bs w' a' c' (xs ++ flat ps) ∧ Below w.heap.size w w' := by
  refine (behind_row a c xs pa pc ps w hB hP hlen hps).mono ?_
  rintro e w' ⟨rfl, hr, hb⟩
  refine ⟨_, _, rfl, hr.bs ?_ (by unfold maxLen; omega), hb⟩
  intro x hx
  rcases List.mem_append.1 hx with hx | hx
  · exact hB.rng x hx
  · exact flat_rng (fun p hp => (hP.bs p hp).rng) x hx

/-- num.fresh: the bytes lie in a new block. -/
theorem fresh_new (a : Option Addr) (c n : Nat) (xs : List Int) (w : World) (hn : n = xs.length) (hB : Bs w a c xs) (hlen : xs.length ≤ 1000000) :
    Calls Tryd.prog 157 #[.slice a n c] w fun e w' => ∃ a' c', e = .returned (.slice a' xs.length c') ∧ Bs w' a' c' xs ∧ Below w.heap.size w w' ∧ ∀ b, a' = some b → w.heap.size ≤ b.block := by
  subst hn
  have hb := behind_row a c xs none 0 [] w hB (Ps.empty w) (by simpa [flat] using hlen) (by simp)
  simp only [flat, List.append_nil, List.length_nil] at hb
  go_enter Tryd.func157, Tryd.ntmps157
  go_wp2_with (go_at_call 156; go_must (refine hb.mono ?_); rintro e w' ⟨rfl, hr, hb'⟩)
  go_ret
  exact ⟨_, _, rfl, hr.bs hB.rng (by unfold maxLen; omega), hb', fun b h => by cases h; exact Nat.le_refl _⟩
end Go.Proofs.YthbldjnpnligpaaDoor

/-
  Whole numbers: the walks over num.Put32 and num.Take32.
-/

namespace Go.Proofs.YthbldjnpnligpaaDoor
set_option linter.unusedSimpArgs false
set_option linter.unusedVariables false
set_option maxRecDepth 100000
open Go.RowKit

def b32 (n : Nat) : List Int := [(n : Int) % 256, (n : Int) / 256 % 256, (n : Int) / 65536 % 256, (n : Int) / 16777216]

theorem b32_rng (n : Nat) (hn : n < 4294967296) : ∀ x ∈ b32 n, 0 ≤ x ∧ x ≤ 255 := by
  intro x hx
  simp only [b32, List.mem_cons, List.not_mem_nil, or_false] at hx
  rcases hx with rfl | rfl | rfl | rfl <;> omega

theorem b32_bs (n : Nat) (hn : n < 4294967296) (w : World) : Bs (w.alloc (.cells #[.int .u8 ((n : Int) % 256), .int .u8 ((n : Int) / 256 % 256), .int .u8 ((n : Int) / 65536 % 256), .int .u8 ((n : Int) / 16777216)] 5)) (some ⟨w.heap.size, 0, none⟩) 4 (b32 n) := by
  refine ⟨b32_rng n hn, by simp [b32], by decide, by simp, .inr ⟨_, _, rfl, fun i hi => ?_⟩⟩
  have : i = 0 ∨ i = 1 ∨ i = 2 ∨ i = 3 := by simp [b32] at hi; omega
  rcases this with rfl | rfl | rfl | rfl <;> simp [b32]

theorem put32_any (a : Option Addr) (c : Nat) (xs : List Int) (n : Nat) (hn : n < 4294967296) (w : World) (hB : Bs w a c xs) (hlen : xs.length ≤ 100000) :
    Calls Tryd.prog 127 #[.slice a xs.length c, .int .u32 n] w fun e w' => ∃ a' c', e = .returned (.slice a' (xs ++ b32 n).length c') ∧ Bs w' a' c' (xs ++ b32 n) ∧ Below w.heap.size w w' := by
  have hb1 := (Below.refl w.heap.size w).alloc (Nat.le_refl _) (.cells #[.int .u8 ((n : Int) % 256), .int .u8 ((n : Int) / 256 % 256), .int .u8 ((n : Int) / 65536 % 256), .int .u8 ((n : Int) / 16777216)] 5)
  have hP := Ps.one (b32_bs n hn w) 43
  rw [World.size_alloc] at hP
  have hB1 := (hB.stays hb1).stays ((Below.refl _ _).alloc (Nat.le_refl _) (.cells #[.slice (some ⟨w.heap.size, 0, none⟩) (b32 n).length 4] 43))
  have hcon := behind_any a c xs (some ⟨w.heap.size + 1, 0, none⟩) 1 _ _ hB1 hP (by simp [flat, b32]; omega) (by simp)
  simp only [flat, List.append_nil] at hcon
  have hb2 := hb1.alloc (by simp) (.cells #[.slice (some ⟨w.heap.size, 0, none⟩) (b32 n).length 4] 43)
  have HB : Hid _ := hb2
  clear hb2 hP hB1 hb1
  go_enter Tryd.func127, Tryd.ntmps127
  go_wp2_with (go_at_call 156; go_must (refine hcon.mono ?_); rintro e w2 ⟨a2, c2, rfl, hB2, hb2⟩)
  go_ret
  exact ⟨a2, c2, ret_slice (by simp), hB2, below_then HB.out hb2⟩

theorem or_swap (k : IntKind) (x y : Int) : bits .or k x y = bits .or k y x := by
  simp only [bits, BitVec.or_comm]

theorem wraps_u32 (n : Int) (h0 : 0 ≤ n) (h1 : n < 2 ^ 32) : IntKind.u32.wrap n = n := by rw [IntKind.wrap_u32]; omega

theorem or32_8 (x y : Int) (h0 : 0 ≤ x) (h1 : x < 256) (h2 : 0 ≤ y) (h3 : y < 256) : bits .or .u32 x (y * 256) = x + y * 256 := by
  rw [or_swap, bits_join .u32 32 (by decide) wraps_u32 8 (y * 256) x (by omega) (by omega) (by omega) h0 (by omega) (by omega)]; omega

theorem or32_16 (x y : Int) (h0 : 0 ≤ x) (h1 : x < 65536) (h2 : 0 ≤ y) (h3 : y < 256) : bits .or .u32 x (y * 65536) = x + y * 65536 := by
  rw [or_swap, bits_join .u32 32 (by decide) wraps_u32 16 (y * 65536) x (by omega) (by omega) (by omega) h0 (by omega) (by omega)]; omega

theorem or32_24 (x y : Int) (h0 : 0 ≤ x) (h1 : x < 16777216) (h2 : 0 ≤ y) (h3 : y < 256) : bits .or .u32 x (y * 16777216) = x + y * 16777216 := by
  rw [or_swap, bits_join .u32 32 (by decide) wraps_u32 24 (y * 16777216) x (by omega) (by omega) (by omega) h0 (by omega) (by omega)]; omega

def take32L (xs : List Int) : Int × List Int × Nat :=
  if xs.length < 4 then (0, [], 2) else (xs.getD 0 0 + xs.getD 1 0 * 256 + xs.getD 2 0 * 65536 + xs.getD 3 0 * 16777216, xs.drop 4, 0)

theorem take32_new (a : Option Addr) (c : Nat) (xs : List Int) (w : World) (hB : Bs w a c xs) (hlen : xs.length ≤ 1000000) :
    Calls Tryd.prog 130 #[.slice a xs.length c] w fun e w' => ∃ a1 c1, e = .returned (.tuple #[.int .u32 (take32L xs).1, .slice a1 (take32L xs).2.1.length c1, .int .i64 (take32L xs).2.2]) ∧ Bs w' a1 c1 (take32L xs).2.1 ∧ Below w.heap.size w w' ∧ ∀ b, a1 = some b → w.heap.size ≤ b.block := by
  unfold take32L
  by_cases h4 : xs.length < 4
  · rw [if_pos h4]
    go_enter Tryd.func130, Tryd.ntmps130
    go_wp2
    go_ret3
    exact ⟨none, 0, rfl, Bs.empty _, Below.refl _ _, by simp⟩
  rw [if_neg h4]
  obtain ⟨b, off, rfl, hc⟩ := hB.cell (by omega)
  obtain ⟨x0, x1, x2, x3, ys, rfl⟩ : ∃ x0 x1 x2 x3 ys, xs = x0 :: x1 :: x2 :: x3 :: ys := by
    match xs, h4 with
    | x0 :: x1 :: x2 :: x3 :: ys, _ => exact ⟨_, _, _, _, _, rfl⟩
    | [], h => exact absurd (by simp) h
    | [_], h => exact absurd (by simp) h
    | [_, _], h => exact absurd (by simp) h
    | [_, _, _], h => exact absurd (by simp) h
  have c0 : w.cell? ⟨b, off, none⟩ = some (.int .u8 x0) := hc 0 (by simp)
  have c1 : w.cell? ⟨b, off + 1, none⟩ = some (.int .u8 x1) := hc 1 (by simp)
  have c2 : w.cell? ⟨b, off + 2, none⟩ = some (.int .u8 x2) := hc 2 (by simp)
  have c3 : w.cell? ⟨b, off + 3, none⟩ = some (.int .u8 x3) := hc 3 (by simp)
  obtain ⟨p0, q0⟩ := hB.rng x0 (by simp)
  obtain ⟨p1, q1⟩ := hB.rng x1 (by simp)
  obtain ⟨p2, q2⟩ := hB.rng x2 (by simp)
  obtain ⟨p3, q3⟩ := hB.rng x3 (by simp)
  clear hc h4
  obtain ⟨N, hN⟩ : ∃ N, (x0 :: x1 :: x2 :: x3 :: ys).length = N := ⟨_, rfl⟩
  obtain ⟨a', c', hrun2, hB2⟩ := hB.from (P := Tryd.prog) 43 5 Tryd.underlying43 Tryd.size5 Tryd.elem43 4 (by simp)
  rw [hN] at hlen hrun2 ⊢
  have hN4 : 4 ≤ N := by rw [← hN]; simp
  have hs2 : ∀ w', (Instr.slice 43 (.slice (some ⟨b, off, none⟩) N c) (some (.int .i64 4)) none none).run Tryd.prog w' = .ok (.slice a' (N - 4) c') w' := fun w' => hrun2 w' _ .i64 4 rfl rfl
  have hys : N - 4 = ys.length := by rw [← hN]; simp
  have hys2 : ys.length ≤ 1000000 := by omega
  have HY : Hid (N - 4 = ys.length) := hys
  have o1 := or32_8 x0 x1 p0 (by omega) p1 (by omega)
  have o2 := or32_16 (x0 + x1 * 256) x2 (by omega) (by omega) p2 (by omega)
  have o3 := or32_24 (x0 + x1 * 256 + x2 * 65536) x3 (by omega) (by omega) p3 (by omega)
  have hD : (x0 :: x1 :: x2 :: x3 :: ys).drop 4 = ys := rfl
  rw [hD] at hB2 ⊢
  clear hN hrun2 hys hD hB
  go_enter Tryd.func130, Tryd.ntmps130
  go_wp2
  go_quiet (fail)
  go_wp2_with (go_at_call 157; go_must (refine (fresh_new a' c' (N - 4) ys _ HY.out (hB2.stays (below_drewN (Below.refl _ _) _)) hys2).mono ?_); rintro e w2 ⟨a2, c2, rfl, hF2, hb2, hN2⟩)
  go_ret3
  exact ⟨a2, c2, rfl, hF2, below_then (below_drewN (Below.refl _ _) _) hb2, hN2⟩

theorem take32_back (m : Nat) (hm : m < 4294967296) (rest : List Int) : take32L (b32 m ++ rest) = ((m : Int), rest, 0) := by
  unfold take32L b32
  rw [if_neg (by simp)]
  simp
  omega

theorem put32_to (a : Option Addr) (c : Nat) (xs : List Int) (n : Nat) (x : Int) (hx : x = n) (hn : n < 4294967296) (w : World) (ys : List Int) (hy : xs ++ b32 n = ys) (hB : Bs w a c xs) (hlen : xs.length ≤ 100000) :
    Calls Tryd.prog 127 #[.slice a xs.length c, .int .u32 x] w fun e w' => ∃ a' c', e = .returned (.slice a' ys.length c') ∧ Bs w' a' c' ys ∧ Below w.heap.size w w' := by
  subst hx hy; exact put32_any a c xs n hn w hB hlen

end Go.Proofs.YthbldjnpnligpaaDoor
