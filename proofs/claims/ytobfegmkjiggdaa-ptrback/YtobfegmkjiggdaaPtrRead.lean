/-
  The walks over ptr.noughts and ptr.Read.
-/
import Derived.Test.YtobfegmkjiggdaaPtrNod
namespace Go.Proofs.Ytobfegmkjiggdaa
set_option linter.unusedSimpArgs false
set_option linter.unusedVariables false
open Go.RowKit

theorem slice_mid {P : Program} {t e : TypeId} {b off n c i m : Nat} (ht : P.underlying t = some (.slice e)) (he : P.elem t = e) (hs : (P.info? e).map (·.size) = some 1) (hc : i + m ≤ c) (hm : 0 < m) (K K' : IntKind) (w : World) :
    (Instr.slice t (.slice (some ⟨b, off, none⟩) n c) (some (.int K (i : Int))) (some (.int K' ((i + m : Nat) : Int))) none).run P w = .ok (.slice (some ⟨b, off + i, none⟩) m (c - i)) w := by
  have hz := sizeOf_run hs w
  have hadd : (⟨b, off, none⟩ : Addr).add i = ⟨b, off + i, none⟩ := by unfold Addr.add; split <;> simp_all
  have hne : ¬ c = i := by omega
  rw [run_slice_lh w t (some ⟨b, off, none⟩) n c (by rw [he]; exact ht) K K' i ((i + m : Nat) : Int) (by omega) (by omega) (by omega), he, hz]
  simp [Result.andThen, sliced, hne, hadd]
  omega

theorem Bs.mid {w : World} {b off c : Nat} {xs : List Int} (h : Bs w (some ⟨b, off, none⟩) c xs) (q m : Nat) (hq : q + m ≤ xs.length) (hm0 : 0 < m) : Bs w (some ⟨b, off + q, none⟩) (c - q) ((xs.drop q).take m) := by
  have hl : ((xs.drop q).take m).length = m := by simp; omega
  have hc := h.cap
  have hm := h.capm
  refine ⟨fun x hx => h.rng x (List.mem_of_mem_drop (List.mem_of_mem_take hx)), by omega, by omega, (fun h => by cases h), .inr ⟨b, off + q, rfl, fun i hi => ?_⟩⟩
  rw [hl] at hi
  obtain ⟨b1, o1, he, hc1⟩ := h.cell (by omega)
  cases he
  rw [Nat.add_assoc, hc1 (q + i) (by omega)]
  simp [List.getD, List.getElem?_take, List.getElem?_drop, hi]

/-- The k-th pointer's bytes. -/
def piece (xs : List Int) (k : Nat) : List Int := (xs.drop (44 * k)).take 44
theorem piece_len {xs : List Int} (h : xs.length = 256) {k : Nat} (hk : k < 4) : (piece xs k).length = 44 := by simp [piece]; omega
theorem piece_rng {xs : List Int} (h : ∀ x ∈ xs, 0 ≤ x ∧ x ≤ 255) (k : Nat) : ∀ x ∈ piece xs k, 0 ≤ x ∧ x ≤ 255 := rng_take (rng_drop h _) _

def pieces (xs : List Int) : List Pt := [decP (piece xs 0), decP (piece xs 1), decP (piece xs 2), decP (piece xs 3)]
theorem pieces_ok {xs : List Int} (h : xs.length = 256) (hr : ∀ x ∈ xs, 0 ≤ x ∧ x ≤ 255) : ∀ p ∈ pieces xs, p.ok := by
  intro p hp
  simp only [pieces, List.mem_cons, List.not_mem_nil, or_false] at hp
  rcases hp with rfl | rfl | rfl | rfl <;> exact decP_ok (piece_rng hr _) (by rw [piece_len h (by omega)]; omega)
theorem pieces_nth {xs : List Int} {k : Nat} (hk : k < 4) : nth (pieces xs) k = decP (piece xs k) := by
  rcases (by omega : k = 0 ∨ k = 1 ∨ k = 2 ∨ k = 3) with rfl | rfl | rfl | rfl <;> rfl

/-- What Read tells. -/
def readL (xs : List Int) : List Pt × Nat :=
  if xs.length = 256 then (if (pieces xs).all Pt.may && (xs.drop 176).all (· == 0) then (pieces xs, 0) else (zeros4, 3)) else (zeros4, 3)

theorem fourV_set : ∀ {l : List Pt}, (∀ p ∈ l, p.ok) → ∀ {k : Nat}, k < l.length → ∀ p : Pt, fourV (l.set k p) = (fourV l).take (k * 35) ++ p.vs ++ (fourV l).drop (k * 35 + 35)
  | q :: l, h, 0, _, p => by
    have hq := Pt.vs_len (h q (by simp))
    rw [List.set_cons_zero, fourV, fourV, Nat.zero_mul, List.take_zero, List.nil_append, Nat.zero_add, ← hq, List.drop_left]
  | q :: l, h, k + 1, hk, p => by
    have hq := Pt.vs_len (h q (by simp))
    have ih := fourV_set (l := l) (fun r hr => h r (by simp [hr])) (k := k) (by simpa using hk) p
    rw [List.set_cons_succ, fourV, fourV, ih, show (k + 1) * 35 = q.vs.length + k * 35 by omega, List.take_length_add_append, Nat.add_assoc, List.drop_length_add_append]
    simp

theorem index_ptr {P : Program} {t e : TypeId} {n m g off : Nat} {K : IntKind} {j : Nat} (ht : P.underlying t = some (.array n e)) (hs : (P.info? e).map (·.size) = some m) (hj : j < n) (w : World) :
    (Instr.indexAt t (.pointer (some ⟨g, off, none⟩)) (.int K (j : Int))).run P w = .ok (.pointer (some ⟨g, off + j * m, none⟩)) w := by
  have hz := sizeOf_run hs w
  have hb : (0 : Int) ≤ (j : Int) ∧ (j : Int) < (n : Int) := by omega
  have hadd : (⟨g, off, none⟩ : Addr).add (j * m) = ⟨g, off + j * m, none⟩ := by unfold Addr.add; split <;> simp_all
  simp [Instr.indexAt, asIntOf, run_underlying ht, hz, hb, hadd, Sem.run_bind, Instr.sureAddr]
  omega

set_option maxRecDepth 100000 in
theorem noughts_run (a : Option Addr) (c n : Nat) (xs : List Int) (w : World) (hn : n = xs.length) (hB : Bs w a c xs) (hlen : n ≤ 1000000) :
    Calls Try.prog 29 #[.slice a n c] w fun e w' => e = .returned (.bool (xs.all (· == 0))) ∧ Below w.heap.size w w' := by
  have HN : Hid (n = xs.length) := hn
  have hrng := hB.rng
  have HC : Hid (∀ k, k < n → ∃ b off, a = some ⟨b, off, none⟩ ∧ w.cell? ⟨b, off + k, none⟩ = some (.int .u8 (xs.getD k 0))) := fun k hk => by
    obtain ⟨b, off, h1, h2⟩ := hB.cell (by omega)
    exact ⟨b, off, h1, h2 k (by omega)⟩
  clear hn hB
  go_enter Try.func29, Try.ntmps29
  go_wp2
  go_loop [7] (fun i => ∃ k : Nat, k ≤ n ∧ i = .int .i64 k ∧ Hid ((xs.take k).all (· == 0) = true)) (fun i => n - (intOf i).toNat)
  case atStart => exact ⟨0, by omega, rfl, rfl⟩
  case round =>
    obtain ⟨k, hk, rfl, hall⟩ := hrel
    by_cases hlt : k < n
    · obtain ⟨b, off, ha, hc⟩ := HC.out k hlt
      have hix : ∀ w' : World, (Instr.indexAt 30 (.slice a n c) (.int .i64 k)).run Try.prog w' = .ok (.pointer (some ⟨b, off + k, none⟩)) w' := fun w' => by
        rw [ha]; exact index_run 30 5 Try.underlying30 sizes5 Try.elem30 b off n c .i64 k hlt w'
      obtain ⟨x, hx⟩ : ∃ x, x = xs.getD k 0 := ⟨_, rfl⟩
      have hkl : k < xs.length := by rw [← HN.out]; exact hlt
      have HT : Hid (xs.take (k + 1) = xs.take k ++ [x]) := by
        show _ = _
        rw [List.take_succ_eq_append_getElem hkl, hx, List.getD_eq_getElem?_getD, List.getElem?_eq_getElem hkl]; rfl
      have hxr : 0 ≤ x ∧ x ≤ 255 := by rw [hx]; exact getD_rng hrng k hkl
      obtain ⟨hx0, hx1⟩ := hxr
      rw [← hx] at hc
      clear hx ha
      by_cases hz : x = 0
      · subst hz
        go_wp2
        go_round
        case rel => exact ⟨k + 1, by omega, by go_num, by show _ = _; rw [HT.out, List.all_append, hall.out]; rfl⟩
        case measure => simp [intOf]; omega
      · have HF : Hid (xs.all (· == 0) = false) := by
          show _ = _
          have h1 : xs = xs.take (k + 1) ++ xs.drop (k + 1) := (List.take_append_drop _ _).symm
          rw [h1, List.all_append, HT.out, List.all_append]
          simp [hz]
        have hzb : (x == 0) = false := by simp [hz]
        go_wp2
        go_ret
        exact ⟨by rw [HF.out]; rfl, Below.refl _ _⟩
    · have HF : Hid (xs.all (· == 0) = true) := by
        have h1 := hall.out
        have h2 := HN.out
        rw [List.take_of_length_le (by omega)] at h1
        exact h1
      go_wp2
      go_ret
      exact ⟨by rw [HF.out]; rfl, Below.refl _ _⟩
/-- What is laid of them behind k rounds. -/
def laidK (xs : List Int) (k : Nat) : List Pt := (pieces xs).take k ++ List.replicate (4 - k) Pt.zero
theorem laidK_len (xs : List Int) {k : Nat} (hk : k ≤ 4) : (laidK xs k).length = 4 := by simp [laidK, pieces]; omega
theorem laidK_ok {xs : List Int} (h : xs.length = 256) (hr : ∀ x ∈ xs, 0 ≤ x ∧ x ≤ 255) (k : Nat) : ∀ p ∈ laidK xs k, p.ok := by
  intro p hp
  rcases List.mem_append.1 hp with hp | hp
  · exact pieces_ok h hr p (List.mem_of_mem_take hp)
  · rw [(List.mem_replicate.1 hp).2]; exact Pt.zero_ok
theorem laidK_set (xs : List Int) {k : Nat} (hk : k < 4) : (laidK xs k).set k (decP (piece xs k)) = laidK xs (k + 1) := by
  rcases (by omega : k = 0 ∨ k = 1 ∨ k = 2 ∨ k = 3) with rfl | rfl | rfl | rfl <;> rfl
theorem laidK_all (xs : List Int) : laidK xs 4 = pieces xs := rfl
theorem pieces_take (xs : List Int) {k : Nat} (hk : k < 4) : (pieces xs).take (k + 1) = (pieces xs).take k ++ [decP (piece xs k)] := by
  rcases (by omega : k = 0 ∨ k = 1 ∨ k = 2 ∨ k = 3) with rfl | rfl | rfl | rfl <;> rfl

theorem readL_not {xs : List Int} {k : Nat} (hk : k < 4) (hm : (decP (piece xs k)).may = false) : readL xs = (zeros4, 3) := by
  have h : (pieces xs).all Pt.may = false := by
    rw [List.all_eq_false]
    refine ⟨decP (piece xs k), ?_, by simp [hm]⟩
    rcases (by omega : k = 0 ∨ k = 1 ∨ k = 2 ∨ k = 3) with rfl | rfl | rfl | rfl <;> simp [pieces]
  unfold readL
  rw [h]
  simp

set_option maxHeartbeats 2000000 in
set_option maxRecDepth 100000 in
theorem read_run (a : Option Addr) (c n : Nat) (xs : List Int) (w : World) (hn : n = xs.length) (hB : Bs w a c xs) :
    Calls Try.prog 19 #[.slice a n c] w fun e w' => e = .returned (.tuple #[.agg (fourV (readL xs).1).toArray, .int .i64 ((readL xs).2 : Int)]) ∧ Below w.heap.size w w' := by
  have hzl : (fourV zeros4).length = 140 := zeros4_len
  have hpz : Pt.zero.vs.length = 35 := Pt.vs_len Pt.zero_ok
  by_cases h256 : n = 256
  · subst h256
    have hl : xs.length = 256 := by omega
    obtain ⟨b, off, rfl, hc⟩ := hB.cell (by omega)
    have hcap : 256 ≤ c := by have := hB.cap; omega
    have hrng := hB.rng
    clear hc hn
    obtain ⟨zs, hzs⟩ : ∃ zs, zs = fourV zeros4 := ⟨_, rfl⟩
    have hal : ∀ w : World, (Instr.alloc 36 true (.tuple #[])).run Try.prog w = .ok (.pointer (some ⟨w.heap.size, 0, none⟩)) (w.alloc (.cells zs.toArray 36)) := by rw [hzs]; exact alloc_four0
    have hbu : ∀ w : World, (Instr.build 36 #[]).run Try.prog w = .ok (.agg zs.toArray) w := by rw [hzs]; exact build_four0
    have hz1 : ∀ v ∈ zs, v.oneCell' = true := by rw [hzs]; exact fourV_one _
    have HZS : Hid (zs = fourV zeros4) := hzs
    have HAL : Hid (∀ w : World, (Instr.alloc 36 true (.tuple #[])).run Try.prog w = .ok (.pointer (some ⟨w.heap.size, 0, none⟩)) (w.alloc (.cells zs.toArray 36))) := hal
    have HBU : Hid (∀ w : World, (Instr.build 36 #[]).run Try.prog w = .ok (.agg zs.toArray) w) := hbu
    rw [← hzs] at hzl
    clear hzs hal hbu
    go_enter Try.func19, Try.ntmps19
    go_wp2_with (first
      | (refine wpList_alloc0 (by rfl) 36 (by rfl) (some 2) (by rfl) zs HAL.out ?_; intro w1 hR1 hb1 hs1)
      | (refine wpList_alloc0 (by rfl) 36 (by rfl) (some 4) (by rfl) zs HAL.out ?_; intro w2 hL2 hb2 hs2; have hR2 := hR1.stays hb2; have hW2 := below_then hb1 hb2; rw [hs1] at hL2 hs2))
    go_loopw [12] (fun i wr => ∃ k : Nat, k ≤ 4 ∧ i = .int .i64 k ∧ Hid (((pieces xs).take k).all Pt.may = true) ∧ Blk 36 wr w.heap.size zs ∧ Blk 36 wr (w.heap.size + 1) (fourV (laidK xs k)) ∧ Below w.heap.size w wr) (fun i _ => 4 - (intOf i).toNat)
    case atStart => exact ⟨0, by omega, rfl, rfl, hR2, by rw [HZS.out] at hL2; exact hL2, hW2⟩
    case round =>
      rename_i hrel
      obtain ⟨k, hk, rfl, hall, hR, hL, hbr⟩ := hrel
      clear hR1 hb1 hs1 hL2 hb2 hs2 hR2 hW2
      have hsz := hbr.size
      have hLl := hL.lt
      by_cases hlt : k < 4
      · obtain ⟨D, hD⟩ : ∃ D, D = 44 * k := ⟨_, rfl⟩
        have hBp : ∀ u, Below w.heap.size w u → Bs u (some ⟨b, off + D, none⟩) (c - D) (piece xs k) := fun u hu => by
          have := (hB.mid D 44 (by omega) (by omega)).stays hu
          rw [hD] at this ⊢; exact this
        have hsl : ∀ u : World, (Instr.slice 30 (.slice (some ⟨b, off, none⟩) 256 c) (some (.int .i64 (D : Int))) (some (.int .i64 ((D + 44 : Nat) : Int))) none).run Try.prog u = .ok (.slice (some ⟨b, off + D, none⟩) 44 (c - D)) u := fun u =>
          slice_mid Try.underlying30 Try.elem30 sizes5 (by omega) (by omega) .i64 .i64 u
        have hpl := piece_len hl hlt
        have hdec : ∀ u, Below w.heap.size w u → Calls Try.prog 17 #[.slice (some ⟨b, off + D, none⟩) 44 (c - D)] u fun e w' => e = .returned (.tuple #[.agg (decodeL (piece xs k)).1.vs.toArray, .int .i64 ((decodeL (piece xs k)).2 : Int)]) ∧ Below u.heap.size u w' :=
          fun u hu => decode_run _ _ 44 (piece xs k) u hpl.symm (hBp u hu)
        have hdk : decodeL (piece xs k) = if (decP (piece xs k)).may then (decP (piece xs k), 0) else (Pt.zero, 3) := decodeL_at hpl
        have hok : (decP (piece xs k)).ok := decP_ok (piece_rng hrng k) (by omega)
        have HT : Hid ((pieces xs).take (k + 1) = (pieces xs).take k ++ [decP (piece xs k)]) := pieces_take xs hlt
        have HS : Hid (fourV (laidK xs (k + 1)) = (fourV (laidK xs k)).take (k * 35) ++ (decP (piece xs k)).vs ++ (fourV (laidK xs k)).drop (k * 35 + 35)) := by
          show _ = _
          rw [← laidK_set xs hlt]; exact fourV_set (laidK_ok hl hrng k) (by rw [laidK_len xs hk]; exact hlt) _
        have HNM : Hid ((decP (piece xs k)).may = false → readL xs = (zeros4, 3)) := readL_not hlt
        have hfl : (fourV (laidK xs k)).length = 140 := by rw [fourV_len (laidK_ok hl hrng k), laidK_len xs hk]
        obtain ⟨p, hp⟩ : ∃ p, p = decP (piece xs k) := ⟨_, rfl⟩
        obtain ⟨fv, hfv⟩ : ∃ fv, fv = fourV (laidK xs k) := ⟨_, rfl⟩
        have hix : ∀ u : World, (Instr.indexAt 36 (.pointer (some ⟨w.heap.size + 1, 0, none⟩)) (.int .i64 (k : Int))).run Try.prog u = .ok (.pointer (some ⟨w.heap.size + 1, k * 35, none⟩)) u := fun u => by
          have := index_ptr (P := Try.prog) (g := w.heap.size + 1) (off := 0) (K := .i64) Try.underlying36 sizes26 hlt u
          rw [Nat.zero_add] at this
          exact this
        rw [← hp] at hdk hok HT HS HNM
        rw [← hfv] at HS hfl hL
        have hvl := Pt.vs_len hok
        have hw1 : IntKind.i64.wrap ((k : Int) * 44) = (D : Int) := by rw [show (k : Int) * 44 = (D : Int) by omega]; first | go_num | (rw [IntKind.wrap_i64]; omega)
        have hw2 : IntKind.i64.wrap ((k : Int) + 1) = ((k + 1 : Nat) : Int) := by first | go_num | (rw [IntKind.wrap_i64]; omega)
        have hw3 : IntKind.i64.wrap (((k + 1 : Nat) : Int) * 44) = ((D + 44 : Nat) : Int) := by rw [show ((k + 1 : Nat) : Int) * 44 = ((D + 44 : Nat) : Int) by omega]; first | go_num | (rw [IntKind.wrap_i64]; omega)
        have hm1 : (k : Int) * 44 = (D : Int) := by omega
        have hm3 : ((k : Int) + 1) * 44 = ((D + 44 : Nat) : Int) := by omega
        have HDEC : Hid (∀ u, Below w.heap.size w u → Calls Try.prog 17 #[.slice (some ⟨b, off + D, none⟩) 44 (c - D)] u fun e w' => e = .returned (.tuple #[.agg (decodeL (piece xs k)).1.vs.toArray, .int .i64 ((decodeL (piece xs k)).2 : Int)]) ∧ Below u.heap.size u w') := hdec
        have HFV : Hid (fv = fourV (laidK xs k)) := hfv
        have HD : Hid (D = 44 * k) := hD
        clear hdec hBp hp hfv hD hB hpl
        cases hmv : p.may
        · rw [hmv, if_neg (by simp)] at hdk
          have hd := HDEC.out
          rw [hdk] at hd
          have HRL : Hid (readL xs = (zeros4, 3)) := HNM.out hmv
          have HDD : Hid (∀ u, Below w.heap.size w u → Calls Try.prog 17 #[.slice (some ⟨b, off + D, none⟩) 44 (c - D)] u fun e w' => e = .returned (.tuple #[.agg Pt.zero.vs.toArray, .int .i64 3]) ∧ Below u.heap.size u w') := hd
          clear hd hdk HDEC HNM
          go_wp2_with (first
            | (go_at_call 17; go_must (refine (HDD.out _ hbr).mono ?_); rintro e w3 ⟨rfl, hb3⟩; have hR3 := hR.stays hb3)
            | (refine wpList_alloc0 (by rfl) 26 (by rfl) (some 6) (by rfl) Pt.zero.vs alloc_ptr0 ?_; intro w4 hP4 hb4 hs4; have hR4 := hR3.stays hb4)
            | (refine wpList_store_blk (by rfl) (.tmp 6) (.tmp 24) 26 (by rfl) _ 0 35 (by rfl) _ (by rfl) size_ptr hP4 hpz (by omega) (Pt.vs_one _) _ (whole_store hpz) ?_
               intro w5 hP5 hbut5 hs5; have hR5 := hR4.but hbut5 (by have := hb3.size; omega))
            | (refine wpList_build0 (by rfl) 36 (by rfl) _ HBU.out ?_)
            | (refine wpList_store_blk (by rfl) (.tmp 2) (.tmp 28) 36 (by rfl) _ 0 140 (by rfl) _ (by rfl) size_four hR5 hzl (by omega) hz1 _ (whole_store hzl) ?_
               intro w6 hR6 hbut6 hs6))
          have z3 := hb3.size
          refine bodyPost_ret_blk2 rfl rfl (by rfl) (by rfl) agg_four size_four hR6 hzl ⟨by rw [HRL.out, HZS.out]; rfl, ?_⟩
          exact (((hbr.trans (hb3.mono (by omega))).trans (hb4.mono (by omega))).trans (hbut5.below (by omega) (by omega))).trans (hbut6.below (Nat.le_refl _) (by omega))
        · rw [hmv, if_pos rfl] at hdk
          have hd := HDEC.out
          rw [hdk] at hd
          have HDD : Hid (∀ u, Below w.heap.size w u → Calls Try.prog 17 #[.slice (some ⟨b, off + D, none⟩) 44 (c - D)] u fun e w' => e = .returned (.tuple #[.agg p.vs.toArray, .int .i64 0]) ∧ Below u.heap.size u w') := hd
          clear hd hdk HDEC HNM
          go_wp2_with (first
            | (go_at_call 17; go_must (refine (HDD.out _ hbr).mono ?_); rintro e w3 ⟨rfl, hb3⟩; have hR3 := hR.stays hb3; have hL3 := hL.stays hb3)
            | (refine wpList_alloc0 (by rfl) 26 (by rfl) (some 6) (by rfl) Pt.zero.vs alloc_ptr0 ?_; intro w4 hP4 hb4 hs4; have hR4 := hR3.stays hb4; have hL4 := hL3.stays hb4)
            | (refine wpList_store_blk (by rfl) (.tmp 6) (.tmp 24) 26 (by rfl) _ 0 35 (by rfl) _ (by rfl) size_ptr hP4 hvl (by omega) (Pt.vs_one _) _ (whole_store hpz) ?_
               intro w5 hP5 hbut5 hs5; have hR5 := hR4.but hbut5 (by have := hb3.size; omega); have hL5 := hL4.but hbut5 (by have := hb3.size; omega))
            | (refine wpList_load_blk (by rfl) (.tmp 6) 26 (by rfl) _ 0 35 (by rfl) agg_ptr size_ptr hP5 _ (whole_load hvl) hvl ?_)
            | (refine wpList_store_blk (by rfl) (.tmp 31) (.tmp 30) 26 (by rfl) _ (k * 35) 35 (by rfl) _ (by rfl) size_ptr hL5 hvl (by omega) (Pt.vs_one _) _ HS.out ?_
               intro w6 hL6 hbut6 hs6))
          have z3 := hb3.size
          have hR6 := hR5.but hbut6 (by omega)
          have hb6 : Below w.heap.size w w6 := (((hbr.trans (hb3.mono (by omega))).trans (hb4.mono (by omega))).trans (hbut5.below (by omega) (by omega))).trans (hbut6.below (by omega) (by omega))
          go_roundw
          case rel => exact ⟨k + 1, by omega, by go_num, by show _ = _; rw [HT.out, List.all_append, hall.out]; simp [hmv], hR6, hL6, hb6⟩
          case measure => simp [intOf]; omega
      · have hk4 : k = 4 := by omega
        subst hk4
        rw [laidK_all] at hL
        have hall' : (pieces xs).all Pt.may = true := hall.out
        have hpok := pieces_ok hl hrng
        have hfl : (fourV (pieces xs)).length = 140 := by rw [fourV_len hpok]; rfl
        have hB176 : ∀ u, Below w.heap.size w u → Bs u (some ⟨b, off + 176, none⟩) (c - 176) (xs.drop 176) := fun u hu => by
          have := (hB.mid 176 80 (by omega) (by omega)).stays hu
          rwa [List.take_of_length_le (by simp; omega)] at this
        have hsl : ∀ u : World, (Instr.slice 30 (.slice (some ⟨b, off, none⟩) 256 c) (some (.int .i64 176)) none none).run Try.prog u = .ok (.slice (some ⟨b, off + 176, none⟩) 80 (c - 176)) u := fun u => by
          have hz := sizeOf_run sizes5 u
          have hadd : (⟨b, off, none⟩ : Addr).add 176 = ⟨b, off + 176, none⟩ := by unfold Addr.add; split <;> simp_all
          have hne : ¬ c = 176 := by omega
          rw [run_slice_l u 30 (some ⟨b, off, none⟩) 256 c (by rw [Try.elem30]; exact Try.underlying30) .i64 176 (by omega) (by omega), Try.elem30, hz]
          simp [Result.andThen, sliced, hne, hadd]
        have hno : ∀ u, Below w.heap.size w u → Calls Try.prog 29 #[.slice (some ⟨b, off + 176, none⟩) 80 (c - 176)] u fun e w' => e = .returned (.bool ((xs.drop 176).all (· == 0))) ∧ Below u.heap.size u w' := fun u hu => noughts_run _ _ 80 (xs.drop 176) u (by simp; omega) (hB176 u hu) (by omega)
        have hrl : readL xs = if (xs.drop 176).all (· == 0) then (pieces xs, 0) else (zeros4, 3) := by
          unfold readL
          rw [if_pos hl, hall', Bool.true_and]
        obtain ⟨fv, hfv⟩ : ∃ fv, fv = fourV (pieces xs) := ⟨_, rfl⟩
        have hf1 : ∀ v ∈ fv, v.oneCell' = true := by rw [hfv]; exact fourV_one _
        have HFV : Hid (fv = fourV (pieces xs)) := hfv
        rw [← hfv] at hL hfl
        clear hfv hB hB176 hall hall' hpok
        cases hv : (xs.drop 176).all (· == 0)
        · rw [hv, if_neg (by simp)] at hrl
          have HRL : Hid (readL xs = (zeros4, 3)) := hrl
          rw [hv] at hno
          have HNO : Hid (∀ u, Below w.heap.size w u → Calls Try.prog 29 #[.slice (some ⟨b, off + 176, none⟩) 80 (c - 176)] u fun e w' => e = .returned (.bool false) ∧ Below u.heap.size u w') := hno
          clear hrl hno hv
          go_wp2_with (first
            | (go_at_call 29; go_must (refine (HNO.out _ hbr).mono ?_); rintro e w3 ⟨rfl, hb3⟩; have hR3 := hR.stays hb3)
            | (refine wpList_build0 (by rfl) 36 (by rfl) _ HBU.out ?_)
            | (refine wpList_store_blk (by rfl) (.tmp 2) (.tmp 37) 36 (by rfl) _ 0 140 (by rfl) _ (by rfl) size_four hR3 hzl (by omega) hz1 _ (whole_store hzl) ?_
               intro w6 hR6 hbut6 hs6))
          have z3 := hb3.size
          refine bodyPost_ret_blk2 rfl rfl (by rfl) (by rfl) agg_four size_four hR6 hzl ⟨by rw [HRL.out, HZS.out]; rfl, ?_⟩
          exact (hbr.trans (hb3.mono (by omega))).trans (hbut6.below (Nat.le_refl _) (by omega))
        · rw [hv, if_pos rfl] at hrl
          have HRL : Hid (readL xs = (pieces xs, 0)) := hrl
          rw [hv] at hno
          have HNO : Hid (∀ u, Below w.heap.size w u → Calls Try.prog 29 #[.slice (some ⟨b, off + 176, none⟩) 80 (c - 176)] u fun e w' => e = .returned (.bool true) ∧ Below u.heap.size u w') := hno
          clear hrl hno hv
          go_wp2_with (first
            | (go_at_call 29; go_must (refine (HNO.out _ hbr).mono ?_); rintro e w3 ⟨rfl, hb3⟩; have hR3 := hR.stays hb3; have hL3 := hL.stays hb3)
            | (refine wpList_load_blk (by rfl) (.tmp 4) 36 (by rfl) _ 0 140 (by rfl) agg_four size_four hL3 _ (whole_load hfl) hfl ?_)
            | (refine wpList_store_blk (by rfl) (.tmp 2) (.tmp 38) 36 (by rfl) _ 0 140 (by rfl) _ (by rfl) size_four hR3 hfl (by omega) hf1 _ (whole_store hzl) ?_
               intro w6 hR6 hbut6 hs6))
          have z3 := hb3.size
          refine bodyPost_ret_blk2 rfl rfl (by rfl) (by rfl) agg_four size_four hR6 hfl ⟨by rw [HRL.out, HFV.out]; rfl, ?_⟩
          exact (hbr.trans (hb3.mono (by omega))).trans (hbut6.below (Nat.le_refl _) (by omega))
  · have hrl : readL xs = (zeros4, 3) := by unfold readL; rw [if_neg (by omega)]
    have hne : ((n : Int) == 256) = false := by simp; omega
    have hne' : ¬ (n : Int) = 256 := by omega
    obtain ⟨zs, hzs⟩ : ∃ zs, zs = fourV zeros4 := ⟨_, rfl⟩
    have HAL : Hid (∀ w : World, (Instr.alloc 36 true (.tuple #[])).run Try.prog w = .ok (.pointer (some ⟨w.heap.size, 0, none⟩)) (w.alloc (.cells zs.toArray 36))) := by rw [hzs]; exact alloc_four0
    have HBU : Hid (∀ w : World, (Instr.build 36 #[]).run Try.prog w = .ok (.agg zs.toArray) w) := by rw [hzs]; exact build_four0
    have hz1 : ∀ v ∈ zs, v.oneCell' = true := by rw [hzs]; exact fourV_one _
    have HRL : Hid (readL xs = (zeros4, 3)) := hrl
    have HZS : Hid (zs = fourV zeros4) := hzs
    rw [← hzs] at hzl
    clear hzs hrl hn hB h256
    go_enter Try.func19, Try.ntmps19
    go_wp2_with (first
      | (refine wpList_alloc0 (by rfl) 36 (by rfl) (some 2) (by rfl) zs HAL.out ?_; intro w1 hR1 hb1 hs1)
      | (refine wpList_build0 (by rfl) 36 (by rfl) _ HBU.out ?_)
      | (refine wpList_store_blk (by rfl) (.tmp 2) (.tmp 11) 36 (by rfl) _ 0 140 (by rfl) _ (by rfl) size_four hR1 hzl (by omega) hz1 _ (whole_store hzl) ?_
         intro w6 hR6 hbut6 hs6))
    refine bodyPost_ret_blk2 rfl rfl (by rfl) (by rfl) agg_four size_four hR6 hzl ⟨by rw [HRL.out, HZS.out]; rfl, ?_⟩
    exact hb1.trans (hbut6.below (Nat.le_refl _) (by omega))
end Go.Proofs.Ytobfegmkjiggdaa
