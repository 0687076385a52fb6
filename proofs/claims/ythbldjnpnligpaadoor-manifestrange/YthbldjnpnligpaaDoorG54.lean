/-
  The document's tree of hashes.
-/
import Derived.Test.YthbldjnpnligpaaDoorG53
import Derived.Test.YthbldjnpnligpaaDoorG20
import Derived.Test.YthbldjnpnligpaaDoorG48
import Derived.Test.YthbldjnpnligpaaDoorG49
namespace Go.Proofs.YthbldjnpnligpaaDoor
set_option linter.unusedSimpArgs false
set_option linter.unusedVariables false
set_option maxRecDepth 100000
open Go.RowKit

set_option maxHeartbeats 1000000 in
set_option maxRecDepth 100000 in
theorem rtree_small (a : Option Addr) (c n : Nat) (hs : List (List Int)) (w : World) (hn : n = hs.length) (h1 : n ≤ 1) (hH : Hs w a c hs) :
    Calls Tryd.prog 98 #[.slice a n c] w fun e w' => e = .returned (.agg ((treeOf hs).map (Value.int .u8)).toArray) ∧ Below w.heap.size w w' := by
  rcases (by omega : n = 0 ∨ n = 1) with rfl | rfl
  · have HT : Hid (((treeOf hs).map (Value.int .u8)) = z32) := by show _ = _; rw [treeOf_none hn.symm]; rfl
    clear hn hH
    go_enter Tryd.func98, Tryd.ntmps98
    go_wp2_with (first
      | (refine wpList_alloc0 (by rfl) 39 (by rfl) (some 2) (by rfl) z32 alloc_32 ?_; intro w1 hR1 hb1 hs1)
      | (refine wpList_build0 (by rfl) 39 (by rfl) _ build_32 ?_)
      | (refine wpList_store_blk (by rfl) (.tmp 2) (.tmp 9) 39 (by rfl) _ 0 32 (by rfl) _ (by rfl) size_32 hR1 z32_len (by rw [z32_len]; omega) z32_one _ (whole_store z32_len) ?_
         intro w2 hR2 hbut2 hs2))
    refine bodyPost_ret_blk rfl rfl (by rfl) agg_32 size_32 hR2 z32_len ⟨by rw [HT.out], hb1.trans (hbut2.below (Nat.le_refl _) (by omega))⟩
  · obtain ⟨b, off, rfl, _⟩ := hH.cell (by omega)
    have hl := (treeOf_ok hH.ok).1
    have ht : treeOf hs = hs.getD 0 [] := treeOf_one hn.symm
    have hf : ∀ u, Below w.heap.size w u → ∀ j v, ((treeOf hs).map (Value.int .u8))[j]? = some v → u.cell? ((⟨b, off, none⟩ : Addr).add j) = some v := fun u hu => by rw [ht]; exact (hH.stays hu).first hn.symm
    have hix : ∀ u : World, (Instr.indexAt 166 (.slice (some ⟨b, off, none⟩) 1 c) (.int .i64 0)).run Tryd.prog u = .ok (.pointer (some ⟨b, off, none⟩)) u := fun u => by
      have hz := size_32 u
      rw [run_indexAt_slice u 166 _ 1 c .i64 0 (by rw [elems32]; exact Tryd.underlying166), if_pos (by omega), elems32, hz]
      simp [Result.andThen, Addr.add]
    obtain ⟨us, hus⟩ : ∃ us, us = (treeOf hs).map (Value.int .u8) := ⟨_, rfl⟩
    have hul : us.length = 32 := by rw [hus]; simp [hl]
    have hu1 : ∀ v ∈ us, v.oneCell' = true := by rw [hus]; exact int_oneCell _ _
    rw [← hus] at hf ⊢
    clear hus ht hn hH
    go_enter Tryd.func98, Tryd.ntmps98
    go_wp2_with (first
      | (refine wpList_alloc0 (by rfl) 39 (by rfl) (some 2) (by rfl) z32 alloc_32 ?_; intro w1 hR1 hb1 hs1; have hf1 := hf w1 hb1)
      | (refine wpList_load_cellsA (by rfl) (.tmp 14) 39 (by rfl) _ 32 (by rfl) agg_32 size_32 us hf1 hul ?_)
      | (refine wpList_store_blk (by rfl) (.tmp 2) (.tmp 15) 39 (by rfl) _ 0 32 (by rfl) _ (by rfl) size_32 hR1 hul (by rw [z32_len]; omega) hu1 _ (whole_store z32_len) ?_
         intro w2 hR2 hbut2 hs2))
    refine bodyPost_ret_blk rfl rfl (by rfl) agg_32 size_32 hR2 hul ⟨rfl, hb1.trans (hbut2.below (Nat.le_refl _) (by omega))⟩

/-- The value is a slice of these bytes. -/
def slB9 (n : Nat) (xs : List Int) : Value → World → Prop := fun v w => ∃ a c, v = .slice a n c ∧ Bs w a c xs
theorem slB9_steady (n : Nat) (xs : List Int) : UpT.Steady (slB9 n xs) := fun v w w' hb ⟨a, c, h1, h2⟩ => ⟨a, c, h1, h2.stays hb⟩
theorem bytesInfo9 : ∃ i, Tryd.prog.info? 5 = some i ∧ i.zero = some (.int .u8 0) ∧ i.size = 1 ∧ i.bytes = 1 := ⟨_, rfl, rfl, rfl, rfl⟩
theorem sizesS9 : (Tryd.prog.info? 43).map (·.size) = some 1 := by kernel_rfl
theorem elemS9 : Tryd.prog.elem 212 = 43 := by kernel_rfl

theorem Parts.stays9 {w w' : World} {pa : Option Addr} {ps : List Part} (h : Parts w pa ps) (hb : Below w.heap.size w w') : Parts w' pa ps := by
  refine ⟨?_, fun p hp => (h.bytes p hp).stays hb⟩
  rcases h.lay with h0 | ⟨b, off, rfl, hc⟩
  · exact .inl h0
  · refine .inr ⟨b, off, rfl, fun i p hi => ?_⟩
    have := hc i p hi
    rw [hb.cell (World.block_lt_of_cell? w _ this)]
    exact this

theorem joined_next (ps : List Part) (i : Nat) (p : Part) (h : ps[i]? = some p) : joined (ps.take (i + 1)) = joined (ps.take i) ++ p.xs := by
  have hi : i < ps.length := (List.getElem?_eq_some_iff.1 h).1
  rw [List.take_succ_eq_append_getElem hi]
  have : ps[i] = p := (List.getElem?_eq_some_iff.1 h).2
  simp [joined, this]
theorem joined_le9 (ps : List Part) (i : Nat) : (joined (ps.take i)).length ≤ (joined ps).length := by
  have h : joined ps = joined (ps.take i) ++ joined (ps.drop i) := by
    unfold joined
    rw [← List.flatMap_append, List.take_append_drop]
  rw [h, List.length_append]; omega

set_option maxHeartbeats 2000000 in
theorem joined_run (pa : Option Addr) (pc N : Nat) (ps : List Part) (w : World) (hP : Parts w pa ps) (hN : N = ps.length) (hlen : (joined ps).length ≤ 1000000) (hpn : N ≤ 1000) :
    Calls Tryd.prog 139 #[.slice pa N pc] w fun e w' => ∃ a c, e = .returned (.slice a (joined ps).length c) ∧ Bs w' a c (joined ps) ∧ Below w.heap.size w w' := by
  obtain ⟨i0, hi, hz0, hz1, hz2⟩ := bytesInfo9
  have HPP : Hid (∀ k u, k < N → Below w.heap.size w u → ∃ b off p, pa = some ⟨b, off, none⟩ ∧ ps[k]? = some p ∧ u.cell? ⟨b, off + k, none⟩ = some (.slice p.a p.xs.length p.c) ∧ Bs u p.a p.c p.xs) := fun k u hk hu => by
    have hk' : k < ps.length := by omega
    rcases (hP.stays9 hu).lay with h0 | ⟨b, off, h1, h2⟩
    · rw [h0] at hk'; simp at hk'
    · exact ⟨b, off, ps[k], h1, List.getElem?_eq_getElem hk', h2 k _ (List.getElem?_eq_getElem hk'), (hP.stays9 hu).bytes _ (List.getElem_mem hk')⟩
  have HRN : Hid (∀ x ∈ joined ps, 0 ≤ x ∧ x ≤ 255) := fun x hx => by
    simp only [joined, List.mem_flatMap] at hx
    obtain ⟨p, hp, hx⟩ := hx
    exact (hP.bytes p hp).rng x hx
  have HE : Hid (joined (ps.take N) = joined ps) := by show _ = _; rw [hN, List.take_length]
  have HLE : Hid (∀ k, (joined (ps.take k)).length ≤ 1000000) := fun k => Nat.le_trans (joined_le9 ps k) hlen
  clear hP hN
  go_enter Tryd.func139, Tryd.ntmps139
  go_wp2
  have hO1 : (w.alloc (.cells #[] 5)).ownsRow w.heap.size 5 1 (.slice (some ⟨w.heap.size, 0, none⟩) 0 0) (joined (ps.take 0)).length ((joined (ps.take 0)).map (Value.int .u8)) :=
    ⟨rfl, .inr ⟨w.heap.size, 0, #[], rfl, Nat.le_refl _, (Blk.newAt (e := 5) (vs := []) rfl rfl : _), Nat.le_refl _, by decide, rfl, rfl⟩⟩
  have hX1 : Below w.heap.size w (w.alloc (.cells #[] 5)) := (Below.refl _ _).alloc (Nat.le_refl _) _
  go_loopw [3, 4] (fun v x wr => ∃ k : Nat, k ≤ N ∧ x = .int .i64 k ∧ wr.ownsRow w.heap.size 5 1 v (joined (ps.take k)).length ((joined (ps.take k)).map (Value.int .u8)) ∧ Below w.heap.size w wr) (fun _ x _ => N - (intOf x).toNat)
  case atStart => exact ⟨0, by omega, rfl, hO1, hX1⟩
  case round =>
    rename_i hrel
    obtain ⟨k, hk, rfl, hO, hbr⟩ := hrel
    clear hO1 hX1
    by_cases hlt : k < N
    · obtain ⟨b, off, p, hpa, hpk, hcp, hBp⟩ := HPP.out k wr hlt hbr
      have hix : ∀ u : World, (Instr.indexAt 212 (.slice pa N pc) (.int .i64 (k : Int))).run Tryd.prog u = .ok (.pointer (some ⟨b, off + k, none⟩)) u := fun u => by
        rw [hpa]; exact index_run 212 43 Tryd.underlying212 sizesS9 elemS9 b off N pc .i64 k hlt u
      have HNX : Hid (joined (ps.take (k + 1)) = joined (ps.take k) ++ p.xs) := joined_next ps k p hpk
      have HSM : Hid ((joined (ps.take k)).length + p.xs.length ≤ 140737488355328) := by
        have h1 := HLE.out (k + 1)
        rw [HNX.out, List.length_append] at h1
        show _ ≤ _; omega
      obtain ⟨pl, hpl⟩ : ∃ pl, pl = p.xs.length := ⟨_, rfl⟩
      rw [← hpl] at hcp
      have HPL : Hid (pl = p.xs.length) := hpl
      have hrs := hbr.size
      clear hpl hpa hpk
      go_wp2_with (at_builtin; refine wpList_append_bytes (w0 := w) (by rfl) (.tmp 12) (.tmp 16) 43 (by rfl) w.heap.size 5 i0 Tryd.underlying43 hi hz0 hz1 hz2 _ (joined (ps.take k)) (by rfl) hO p.a pl p.c p.xs (by rfl) HPL.out hBp HSM.out hrs hbr ?_; intro v2 w2 hO2 hb2)
      rw [← HNX.out] at hO2
      go_roundw
      case rel => exact ⟨k + 1, by omega, by go_num, hO2, hb2⟩
      case measure => simp [intOf]; omega
    · have hkn : k = N := by omega
      subst hkn
      rw [HE.out] at hO
      obtain ⟨a9, c9, hv, hB9⟩ := Bs.of_owns hO HRN.out
      rw [hv]
      clear hO hv
      go_wp2
      go_ret
      exact ⟨a9, c9, rfl, hB9, hbr⟩

theorem halfT_of (n j : Nat) (h1 : 2 ^ j < n) (h2 : n ≤ 2 * 2 ^ j) : halfT n = 2 ^ j := by
  unfold halfT
  congr 1
  have h3 : n - 1 ≠ 0 := by have := Nat.one_le_two_pow (n := j); omega
  exact (Nat.log2_eq_iff h3).2 ⟨by omega, by rw [Nat.pow_succ]; omega⟩

def IHR (n : Nat) (f : FuncId) : Prop := ∀ (a : Option Addr) (c m : Nat) (hs : List (List Int)) (w : World), m = hs.length → m < n → Hs w a c hs → Calls Tryd.prog f #[.slice a m c] w fun e w' => e = .returned (.agg ((treeOf hs).map (Value.int .u8)).toArray) ∧ Below w.heap.size w w'

set_option maxHeartbeats 4000000 in
set_option maxRecDepth 100000 in
theorem rtree_big (a : Option Addr) (c n : Nat) (hs : List (List Int)) (w : World) (hn : n = hs.length) (h2 : 2 ≤ n) (h40 : n ≤ 40) (ih : IHR n 98) (hH : Hs w a c hs) :
    Calls Tryd.prog 98 #[.slice a n c] w fun e w' => e = .returned (.agg ((treeOf hs).map (Value.int .u8)).toArray) ∧ Below w.heap.size w w' := by
  obtain ⟨H, hHf⟩ : ∃ H, H = halfT n := ⟨_, rfl⟩
  have hHn : H < n := by rw [hHf]; exact halfT_lt h2
  have hH1 : 1 ≤ H := by rw [hHf]; exact halfT_pos n
  obtain ⟨hup, hU⟩ := hH.upto (P := Tryd.prog) 166 39 Tryd.underlying166 sizes32h elems32 H (by omega)
  obtain ⟨a2, hdn, hDn⟩ := hH.from (P := Tryd.prog) 166 39 Tryd.underlying166 sizes32h elems32 H (by omega)
  have hnb0 : ((n : Int) == 0) = false := by simp; omega
  have hnb1 : ((n : Int) == 1) = false := by simp; omega
  rw [← hn] at hdn
  have HN : Hid (n = hs.length) := hn
  have HHF : Hid (H = halfT n) := hHf
  clear hHf hn
  go_enter Tryd.func98, Tryd.ntmps98
  go_wp2_with (first
    | (refine wpList_alloc0 (by rfl) 39 (by rfl) (some 2) (by rfl) z32 alloc_32 ?_; intro w2 hR1 hb1 hs1))
  go_loopw [3] (fun x wr => ∃ j : Nat, x = .int .i64 ((2 ^ j : Nat) : Int) ∧ 2 ^ j < n ∧ wr = w2) (fun x _ => n - (intOf x).toNat)
  case atStart => exact ⟨0, rfl, by simp; omega, rfl⟩
  case round =>
    rename_i hrel
    obtain ⟨j, rfl, hj, rfl⟩ := hrel
    by_cases hlt : 2 * 2 ^ j < n
    · obtain ⟨p, hp⟩ : ∃ p, p = 2 ^ j := ⟨_, rfl⟩
      have HP : Hid (2 ^ (j + 1) = 2 * p) := by show _ = _; rw [hp, Nat.pow_succ]; omega
      have hp1 : 1 ≤ p := by rw [hp]; exact Nat.one_le_two_pow
      rw [← hp] at hlt hj ⊢
      clear hp
      go_wp2
      go_roundw
      case rel => exact ⟨j + 1, by rw [HP.out]; go_num, by rw [HP.out]; exact hlt, trivial⟩
      case measure => simp [intOf]; omega
    · have hHj : 2 ^ j = H := by rw [HHF.out]; exact (halfT_of n j hj (by omega)).symm
      rw [hHj] at hlt hj ⊢
      clear hHj
      have hX2 : Below w.heap.size w wr := hb1
      have hT1 := treeOf_ok (hs := hs.take H) hU.ok
      have hT2 := treeOf_ok (hs := hs.drop H) (hDn w hH).ok
      obtain ⟨us1, hus1⟩ : ∃ us, us = (treeOf (hs.take H)).map (Value.int .u8) := ⟨_, rfl⟩
      obtain ⟨us2, hus2⟩ : ∃ us, us = (treeOf (hs.drop H)).map (Value.int .u8) := ⟨_, rfl⟩
      have hul1 : us1.length = 32 := by rw [hus1]; simp [hT1.1]
      have hul2 : us2.length = 32 := by rw [hus2]; simp [hT2.1]
      have huo1 : ∀ v ∈ us1, v.oneCell' = true := by rw [hus1]; exact int_oneCell _ _
      have huo2 : ∀ v ∈ us2, v.oneCell' = true := by rw [hus2]; exact int_oneCell _ _
      have HC1 : Hid (∀ u, Below wr.heap.size wr u → Calls Tryd.prog 98 #[.slice a H c] u fun e w' => e = .returned (.agg us1.toArray) ∧ Below u.heap.size u w') := fun u hu => by
        have hwu : Below w.heap.size w u := hX2.trans (hu.mono hX2.size)
        rw [hus1]; exact ih a c H (hs.take H) u (by have := HN.out; simp; omega) hHn (hU.stays hwu)
      have HC2 : Hid (∀ u, Below wr.heap.size wr u → Calls Tryd.prog 98 #[.slice a2 (n - H) (c - H)] u fun e w' => e = .returned (.agg us2.toArray) ∧ Below u.heap.size u w') := fun u hu => by
        have hwu : Below w.heap.size w u := hX2.trans (hu.mono hX2.size)
        rw [hus2]; exact ih a2 (c - H) (n - H) (hs.drop H) u (by have := HN.out; simp; omega) (by omega) (hDn u (hH.stays hwu))
      have hzl := z32_len
      have hR2 : Blk 39 wr w.heap.size z32 := hR1
      have hRl := hR2.lt
      have hlt' : ¬ ((2 : Int) * (H : Int) < (n : Int)) := by omega
      clear hR1 ih
      go_wp2
      refine UpT.wp_region_tail 10 (UpT.tell [(3, iv (.agg us1.toArray)), (7, iv (.agg us2.toArray)), (8, blkP wr.heap.size z32), (9, blkP wr.heap.size z32)]) (fun k => k == 8 || k == 9) (by kernel_rfl) (by kernel_rfl) (UpT.tell_steady _ (by
        intro p hp
        simp only [List.mem_cons, List.not_mem_nil, or_false] at hp
        rcases hp with rfl | rfl | rfl | rfl <;> first | exact iv_steady _ | exact blkP_steady _ _)) ?_
      simp only [List.take_succ_cons, List.take_zero]
      apply UpT.wpUp_pure
      case hw => rfl
      case hψ => rfl
      case hv => (intro w1 hp; clear hp; go_simp; try (with_reducible rfl))
      simp only [Act.put, List.setIfInBounds_toArray, List.set_cons_zero, List.set_cons_succ]
      apply UpT.wpUp_pure
      case hw => rfl
      case hψ => rfl
      case hv => (intro w1 hp; clear hp; go_simp; try (with_reducible rfl))
      simp only [Act.put, List.setIfInBounds_toArray, List.set_cons_zero, List.set_cons_succ]
      apply UpT.wpUp_pure
      case hw => rfl
      case hψ => rfl
      case hv => (intro w1 hp; clear hp; go_simp; try (with_reducible rfl))
      simp only [Act.put, List.setIfInBounds_toArray, List.set_cons_zero, List.set_cons_succ]
      refine UpT.wpUp_call _ 98 #[.slice a H c] (by rfl) (by rfl) (by rfl) (fun w1 => by go_simp) (fun w1 hp => calls_iv (HC1.out w1 hp.1)) ?_
      rintro v ⟨u, _, hf⟩
      obtain rfl := hf.of 3 v _ rfl rfl
      clear hf
      simp only [Act.put, List.setIfInBounds_toArray, List.set_cons_zero, List.set_cons_succ]
      apply UpT.wpUp_pure
      case hw => rfl
      case hψ => rfl
      case hv => (intro w1 hp; clear hp; go_simp; try (with_reducible rfl))
      simp only [Act.put, List.setIfInBounds_toArray, List.set_cons_zero, List.set_cons_succ]
      apply UpT.wpUp_pure
      case hw => rfl
      case hψ => rfl
      case hv => (intro w1 hp; clear hp; go_simp; try (with_reducible rfl))
      simp only [Act.put, List.setIfInBounds_toArray, List.set_cons_zero, List.set_cons_succ]
      apply UpT.wpUp_pure
      case hw => rfl
      case hψ => rfl
      case hv => (intro w1 hp; clear hp; go_simp; try (with_reducible rfl))
      simp only [Act.put, List.setIfInBounds_toArray, List.set_cons_zero, List.set_cons_succ]
      refine UpT.wpUp_call _ 98 #[.slice a2 (n - H) (c - H)] (by rfl) (by rfl) (by rfl) (fun w1 => by go_simp) (fun w1 hp => calls_iv (HC2.out w1 hp.1)) ?_
      rintro v ⟨u, _, hf⟩
      obtain rfl := hf.of 7 v _ rfl rfl
      clear hf
      simp only [Act.put, List.setIfInBounds_toArray, List.set_cons_zero, List.set_cons_succ]
      refine UpT.wpUp_make (blkP wr.heap.size z32) (by rfl) (by rfl) (fun w1 hp => ⟨.pointer (some ⟨w1.heap.size, 0, none⟩), w1.alloc (.cells z32.toArray 39), exec_alloc9 (by rfl) (alloc_32 w1), (Below.refl _ _).alloc (Nat.le_refl _) _, ⟨_, rfl, hp.1.size, Blk.newAt rfl rfl⟩, fun _ => ⟨_, rfl, Nat.le_refl _, by simp⟩⟩) ?_
      rintro v ⟨u, _, hf⟩
      obtain ⟨g4, rfl, _, _⟩ := hf.of 8 v _ rfl rfl
      clear hf
      simp only [Act.put, List.setIfInBounds_toArray, List.set_cons_zero, List.set_cons_succ]
      refine UpT.wpUp_make (blkP wr.heap.size z32) (by rfl) (by rfl) (fun w1 hp => ⟨.pointer (some ⟨w1.heap.size, 0, none⟩), w1.alloc (.cells z32.toArray 39), exec_alloc9 (by rfl) (alloc_32 w1), (Below.refl _ _).alloc (Nat.le_refl _) _, ⟨_, rfl, hp.1.size, Blk.newAt rfl rfl⟩, fun _ => ⟨_, rfl, Nat.le_refl _, by simp⟩⟩) ?_
      rintro v ⟨u, _, hf⟩
      obtain ⟨g5, rfl, _, _⟩ := hf.of 9 v _ rfl rfl
      clear hf
      simp only [Act.put, List.setIfInBounds_toArray, List.set_cons_zero, List.set_cons_succ]
      refine UpT.wpUp_end ?_
      intro w4 hb4 hf
      obtain ⟨g4', h4e, hm4, hB4⟩ := hf.of 8 _ _ rfl rfl
      cases h4e
      obtain ⟨g5', h5e, hm5, hB5⟩ := hf.of 9 _ _ rfl rfl
      cases h5e
      have hne : g4 ≠ g5 := hf.ne 8 9 ⟨g4, 0, none⟩ ⟨g5, 0, none⟩ (by decide) rfl rfl rfl rfl
      clear hf
      simp only [List.drop_succ_cons, List.drop_zero]
      refine wpList_store_blk (by rfl) (.tmp 4) (.tmp 26) 39 (by rfl) g4 0 32 (by rfl) us1 (by rfl) size_32 hB4 hul1 (by rw [hzl]; omega) huo1 us1 (whole_store hzl) ?_
      intro w5 hS4 hbut5 hs5
      refine wpList_store_blk (by rfl) (.tmp 5) (.tmp 30) 39 (by rfl) g5 0 32 (by rfl) us2 (by rfl) size_32 (hB5.but hbut5 (Ne.symm hne)) hul2 (by rw [hzl]; omega) huo2 us2 (whole_store hzl) ?_
      intro w6 hS5 hbut6 hs6
      have hT4 := hS4.but hbut6 hne
      have hX6 : Below wr.heap.size wr w6 := (hb4.trans (hbut5.below hm4 hb4.size)).trans (hbut6.below hm5 (by have := hb4.size; omega))
      have hR6 : Blk 39 w6 w.heap.size z32 := hR2.stays hX6
      simp only [Act.put, List.setIfInBounds_toArray, List.set_cons_zero, List.set_cons_succ]
      have hT1l : (treeOf (hs.take H)).length = 32 := hT1.1
      have hT2l : (treeOf (hs.drop H)).length = 32 := hT2.1
      obtain ⟨JX, hJX⟩ : ∃ JX, JX = treeOf (hs.take H) ++ treeOf (hs.drop H) := ⟨_, rfl⟩
      have hJl : JX.length = 64 := by rw [hJX, List.length_append, hT1l, hT2l]
      obtain ⟨rs, hrs⟩ : ∃ rs, rs = (shaOf JX).map (Value.int .u8) := ⟨_, rfl⟩
      have HJN : Hid (∀ u b, Below w6.heap.size w6 u → Blk 43 u b [.slice (some ⟨g4, 0, none⟩) 32 32, .slice (some ⟨g5, 0, none⟩) 32 32] → Calls Tryd.prog 139 #[.slice (some ⟨b, 0, none⟩) 2 2] u fun e w' => ∃ a c, e = .returned (.slice a 64 c) ∧ Bs w' a c JX ∧ Below u.heap.size u w') := fun u b hu hb => by
        have hbs : ∀ g us (T : List Int), us = T.map (Value.int .u8) → T.length = 32 → (∀ y ∈ T, 0 ≤ y ∧ y ≤ 255) → Blk 39 u g us → Bs u (some ⟨g, 0, none⟩) 32 T := fun g us T h1 h2 h3 h4 => by
          have := Row.bs (e := 39) (w := u) (g := g) (cur := T) (by rw [h1] at h4; exact h4) h3 (by rw [h2]; decide)
          rwa [h2] at this
        have hp : Parts u (some ⟨b, 0, none⟩) [⟨some ⟨g4, 0, none⟩, 32, treeOf (hs.take H)⟩, ⟨some ⟨g5, 0, none⟩, 32, treeOf (hs.drop H)⟩] := by
          refine ⟨.inr ⟨b, 0, rfl, fun i p hi => ?_⟩, fun p hp => ?_⟩
          · rw [Nat.zero_add, hb.cell]
            match i, hi with
            | 0, hi => simp at hi; subst hi; simp [hT1l]
            | 1, hi => simp at hi; subst hi; simp [hT2l]
            | i + 2, hi => simp at hi
          · simp only [List.mem_cons, List.not_mem_nil, or_false] at hp
            rcases hp with rfl | rfl
            · exact hbs g4 us1 _ hus1 hT1l hT1.2 (hT4.stays hu)
            · exact hbs g5 us2 _ hus2 hT2l hT2.2 (hS5.stays hu)
        have hjj : joined [⟨some ⟨g4, 0, none⟩, 32, treeOf (hs.take H)⟩, ⟨some ⟨g5, 0, none⟩, 32, treeOf (hs.drop H)⟩] = JX := by rw [hJX]; simp [joined]
        have := joined_run (some ⟨b, 0, none⟩) 2 2 _ u hp rfl (by rw [hjj, hJl]; omega) (by omega)
        rw [hjj, hJl] at this
        exact this
      have HSU : Hid (∀ u a' c', Bs u a' c' JX → Calls Tryd.prog 110 #[.slice a' 64 c'] u fun e w' => e = .returned (.agg rs.toArray) ∧ Below u.heap.size u w') := fun u a' c' hu => by
        have := rsum_run a' c' JX u hu (by rw [hJl]; omega)
        rw [hJl] at this
        rw [hrs]; exact this
      have HRS : Hid (rs = (treeOf hs).map (Value.int .u8)) := by
        show _ = _
        rw [hrs, hJX, treeOf_more (l := hs) (by have := HN.out; omega)]
        have e : halfT hs.length = H := by rw [← HN.out]; exact HHF.out.symm
        rw [e]
      have hrl : rs.length = 32 := by rw [HRS.out, List.length_map]; exact (treeOf_ok hH.ok).1
      have hro : ∀ v ∈ rs, v.oneCell' = true := by rw [hrs]; exact int_oneCell _ _
      clear hrs hJX hJl hT1 hT2 hT1l hT2l hus1 hus2 hul1 hul2 huo1 huo2 HC1 HC2 hB4 hB5 hS4 hbut5 hs5 hbut6 hs6 hU hDn hH
      go_wp2
      refine UpT.wp_region_tail 5 (UpT.tell [(2, parP [.slice (some ⟨g4, 0, none⟩) 32 32, .slice (some ⟨g5, 0, none⟩) 32 32]), (3, slB9 64 JX), (4, iv (.agg rs.toArray))]) (fun _ => false) (by kernel_rfl) (by kernel_rfl) (UpT.tell_steady _ (by
        intro p hp
        simp only [List.mem_cons, List.not_mem_nil, or_false] at hp
        rcases hp with rfl | rfl | rfl <;> first | exact iv_steady _ | exact parP_steady _ | exact slB9_steady _ _)) ?_
      simp only [List.take_succ_cons, List.take_zero]
      apply UpT.wpUp_pure
      case hw => rfl
      case hψ => rfl
      case hv => (intro w1 hp; clear hp; go_simp; try (with_reducible rfl))
      simp only [Act.put, List.setIfInBounds_toArray, List.set_cons_zero, List.set_cons_succ]
      apply UpT.wpUp_pure
      case hw => rfl
      case hψ => rfl
      case hv => (intro w1 hp; clear hp; go_simp; try (with_reducible rfl))
      simp only [Act.put, List.setIfInBounds_toArray, List.set_cons_zero, List.set_cons_succ]
      refine UpT.wpUp_make (parP [.slice (some ⟨g4, 0, none⟩) 32 32, .slice (some ⟨g5, 0, none⟩) 32 32]) (by rfl) (by rfl) (fun w1 hp => ⟨.slice (some ⟨w1.heap.size, 0, none⟩) 2 2, w1.alloc (.cells #[.slice (some ⟨g4, 0, none⟩) 32 32, .slice (some ⟨g5, 0, none⟩) 32 32] 43), by go_simp, (Below.refl _ _).alloc (Nat.le_refl _) _, ⟨_, rfl, Blk.newAt rfl rfl⟩, fun h => by cases h⟩) ?_
      rintro v ⟨u, _, hf⟩
      obtain ⟨b7, rfl, _⟩ := hf.of 2 v _ rfl rfl
      clear hf
      simp only [Act.put, List.setIfInBounds_toArray, List.set_cons_zero, List.set_cons_succ]
      refine UpT.wpUp_call _ 139 #[.slice (some ⟨b7, 0, none⟩) 2 2] (by rfl) (by rfl) (by rfl) (fun w1 => by go_simp) (fun w1 hp => by
        obtain ⟨b', he, hb'⟩ := hp.2 2 _ _ rfl rfl rfl
        cases he
        exact (HJN.out w1 b7 hp.1 hb').mono fun e w' ⟨a', c', h1, h2, h3⟩ => ⟨_, h1, h3, a', c', rfl, h2⟩) ?_
      rintro v ⟨u, _, hf⟩
      obtain ⟨a8, c8, rfl, _⟩ := hf.of 3 v _ rfl rfl
      clear hf
      simp only [Act.put, List.setIfInBounds_toArray, List.set_cons_zero, List.set_cons_succ]
      refine UpT.wpUp_call _ 110 #[.slice a8 64 c8] (by rfl) (by rfl) (by rfl) (fun w1 => by go_simp) (fun w1 hp => calls_iv (by
        obtain ⟨a', c', he, hb'⟩ := hp.2 3 _ _ rfl rfl rfl
        cases he
        exact HSU.out w1 a8 c8 hb')) ?_
      rintro v ⟨u, _, hf⟩
      obtain rfl := hf.of 4 v _ rfl rfl
      clear hf
      simp only [Act.put, List.setIfInBounds_toArray, List.set_cons_zero, List.set_cons_succ]
      refine UpT.wpUp_end ?_
      intro w8 hb8 hf
      clear hf
      simp only [List.drop_succ_cons, List.drop_zero]
      refine wpList_store_blk (by rfl) (.tmp 2) (.tmp 35) 39 (by rfl) w.heap.size 0 32 (by rfl) rs (by rfl) size_32 (hR6.stays hb8) hrl (by rw [hzl]; omega) hro rs (whole_store hzl) ?_
      intro w9 hR9 hbut9 hs9
      have hX8 : Below w.heap.size w w8 := (hX2.trans (hX6.mono hX2.size)).trans (hb8.mono (by have := hX2.size; have := hX6.size; omega))
      simp only [Act.put, List.setIfInBounds_toArray, List.set_cons_zero, List.set_cons_succ]
      go_wp2
      exact bodyPost_ret_blk rfl rfl (by rfl) agg_32 size_32 hR9 hrl ⟨by rw [HRS.out], hX8.trans (hbut9.below (Nat.le_refl _) hX8.size)⟩

/-- What the document's Tree tells. -/
theorem rtree_run (n : Nat) : ∀ (a : Option Addr) (c : Nat) (hs : List (List Int)) (w : World), n = hs.length → n ≤ 40 → Hs w a c hs →
    Calls Tryd.prog 98 #[.slice a n c] w fun e w' => e = .returned (.agg ((treeOf hs).map (Value.int .u8)).toArray) ∧ Below w.heap.size w w' := by
  induction n using Nat.strongRecOn with
  | _ n ih =>
    intro a c hs w hn h40 hH
    by_cases h1 : n ≤ 1
    · exact rtree_small a c n hs w hn h1 hH
    · exact rtree_big a c n hs w hn (by omega) h40 (fun a' c' m hs' w' hm hlt hH' => ih m hlt a' c' hs' w' hm (by omega) hH') hH
end Go.Proofs.YthbldjnpnligpaaDoor

/-
  manifest.Range, Digest, and the document's: trees of a manifest's hashes.
-/

namespace Go.Proofs.YthbldjnpnligpaaDoor
set_option linter.unusedSimpArgs false
set_option linter.unusedVariables false
set_option maxRecDepth 100000
open Go.RowKit

theorem sl_man (g : Nat) {lo hi : Nat} (h1 : lo < hi) (h2 : hi ≤ 16) (u : World) : (Instr.sliceAt 89 (.pointer (some ⟨g, 0, none⟩)) (some (.int .i64 (lo : Int))) (some (.int .i64 (hi : Int))) none).run Tryd.prog u = .ok (.slice (some ⟨g, lo * 32, none⟩) (hi - lo) (16 - lo)) u := by
  have hz : (sizeOf 39).run Tryd.prog u = .ok 32 u := sizeOf_run (by kernel_rfl) u
  have hadd : (⟨g, 0, none⟩ : Addr).add (lo * 32) = ⟨g, lo * 32, none⟩ := by unfold Addr.add; split <;> simp_all
  have hb1 : (0 : Int) ≤ (lo : Int) ∧ (lo : Int) ≤ (hi : Int) := by omega
  have hb2 : (0 : Int) ≤ (hi : Int) ∧ (hi : Int) ≤ 16 := by omega
  have hb3 : lo ≤ hi := by omega
  have hne : ¬ 16 = lo := by omega
  simp [Instr.sliceAt, run_underlying Tryd.underlying89, hz, Instr.sureAddr, Instr.sliceBounds, Instr.sliceBound, asIntOf, hb1, hb2, hb3, h2, hne, hadd, Sem.run_bind]
theorem sl_man_all (g : Nat) (u : World) : (Instr.sliceAt 89 (.pointer (some ⟨g, 0, none⟩)) none none none).run Tryd.prog u = .ok (.slice (some ⟨g, 0, none⟩) 16 16) u := by
  have hz : (sizeOf 39).run Tryd.prog u = .ok 32 u := sizeOf_run (by kernel_rfl) u
  have hadd : (⟨g, 0, none⟩ : Addr).add 0 = ⟨g, 0, none⟩ := by unfold Addr.add; split <;> simp_all
  simp [Instr.sliceAt, run_underlying Tryd.underlying89, hz, Instr.sureAddr, Instr.sliceBounds, Instr.sliceBound, asIntOf, hadd, Sem.run_bind]
/-- Hashes lo up to hi; what Range tells. -/
def partH (M : List Int) (lo hi : Nat) : List (List Int) := (List.range (hi - lo)).map fun i => hAt M (lo + i)
theorem partH_len (M : List Int) (lo hi : Nat) : (partH M lo hi).length = hi - lo := by unfold partH; simp
theorem partH_at {M : List Int} {lo hi i : Nat} (hi' : i < hi - lo) : (partH M lo hi).getD i [] = hAt M (lo + i) := by
  unfold partH
  rw [List.getD_eq_getElem?_getD, List.getElem?_map, List.getElem?_range hi']
  rfl
theorem partH_ok {M : List Int} (hM : M.length = 512) (hr : ∀ x ∈ M, 0 ≤ x ∧ x ≤ 255) {lo hi : Nat} (h2 : hi ≤ 16) : ∀ h ∈ partH M lo hi, h.length = 32 ∧ ∀ x ∈ h, 0 ≤ x ∧ x ≤ 255 := fun h hh => by
  obtain ⟨i, hi', rfl⟩ := List.mem_map.1 hh
  have := List.mem_range.1 hi'
  exact ⟨hAt_len hM (by omega), hAt_rng hr _⟩
theorem hs_man {M : List Int} (hM : M.length = 512) (hr : ∀ x ∈ M, 0 ≤ x ∧ x ≤ 255) {lo hi : Nat} (h1 : lo < hi) (h2 : hi ≤ 16) {w : World} {g : Nat} {e : TypeId} (hB : Blk e w g (mV M)) : Hs w (some ⟨g, lo * 32, none⟩) (16 - lo) (partH M lo hi) := by
  refine ⟨partH_ok hM hr h2, by rw [partH_len]; omega, by unfold maxLen; omega, .inr ⟨g, lo * 32, rfl, fun i hi' j hj => ?_⟩⟩
  rw [partH_len] at hi'
  rw [partH_at hi', hB.cell]
  unfold mV hAt
  rw [List.getElem?_map, List.getD_eq_getElem?_getD, List.getElem?_take_of_lt hj, List.getElem?_drop, show (lo + i) * 32 + j = lo * 32 + 32 * i + j by omega, List.getElem?_eq_getElem (by omega)]
  rfl
def okR (lo hi : Int) : Prop := 0 ≤ lo ∧ hi ≤ 16 ∧ lo < hi
instance (lo hi : Int) : Decidable (okR lo hi) := by unfold okR; infer_instance
def rangeV (M : List Int) (lo hi : Int) : List Int := if okR lo hi then treeOf (partH M lo.toNat hi.toNat) else List.replicate 32 0
def rangeE (lo hi : Int) : Int := if okR lo hi then 0 else 1
theorem treeM_len {M : List Int} (hM : M.length = 512) (hr : ∀ x ∈ M, 0 ≤ x ∧ x ≤ 255) {lo hi : Nat} (h2 : hi ≤ 16) : (treeOf (partH M lo hi)).length = 32 := (treeOf_ok (partH_ok hM hr h2)).1
theorem rangeV_len {M : List Int} (hM : M.length = 512) (hr : ∀ x ∈ M, 0 ≤ x ∧ x ≤ 255) (lo hi : Int) : (rangeV M lo hi).length = 32 := by
  unfold rangeV
  split
  · rename_i h
    exact treeM_len hM hr (by have := h.2.1; omega)
  · simp
theorem mdig_run {M : List Int} (hM : M.length = 512) (hr : ∀ x ∈ M, 0 ≤ x ∧ x ≤ 255) (w : World) (hV : Vars w) : Calls Tryd.prog 43 #[.agg (mV M).toArray] w fun e w' => e = .returned (.agg (mV (treeOf (partH M 0 16))).toArray) ∧ Below w.heap.size w w' := by
  have hvm := vals_mV hM
  have htv := vals_mV (treeM_len hM hr (lo := 0) (hi := 16) (by omega))
  have HT : Hid (∀ u g e, Blk e u g (mV M) → Vars u → Calls Tryd.prog 97 #[.slice (some ⟨g, 0, none⟩) 16 16] u fun e w' => e = .returned (.agg (mV (treeOf (partH M 0 16))).toArray) ∧ Below u.heap.size u w') := fun u g e hB hv => by
    have := hs_man hM hr (lo := 0) (hi := 16) (by omega) (by omega) hB
    rw [Nat.zero_mul] at this
    exact tree_run 16 _ _ _ u (by rw [partH_len]) (by omega) this hv
  have hsl := fun g u => sl_man_all g u
  obtain ⟨mv, hmv⟩ : ∃ mv, mv = mV M := ⟨_, rfl⟩
  obtain ⟨tv, hte⟩ : ∃ tv, tv = mV (treeOf (partH M 0 16)) := ⟨_, rfl⟩
  rw [← hmv, ← hte] at HT
  rw [← hmv] at hvm
  rw [← hte] at htv
  rw [← hmv, ← hte]
  have hs := PI.start w
  clear hmv hte hM hr
  go_enter Tryd.func43, Tryd.ntmps43
  go_wp2_with (first
    | (refine sep_box hs rfl rfl (by rfl) hvm ?_; clear hs; intro w1 gM hs)
    | (refine sep_alloc hs rfl rfl al_hsh ?_; clear hs; intro w1 gR hs)
    | (go_at_call 97; go_must (refine (HT.out _ gM _ (hs.blk ⟨gM, 89, 512, mv⟩ (by repeat (first | exact List.Mem.head _ | apply List.Mem.tail))).1 (hV.stays hs.below)).mono ?_); rintro e w1 ⟨rfl, hb1⟩; replace hs := hs.stays hb1; clear hb1)
    | (refine sep_storew hs rfl rfl (by rfl) (by rfl) (by repeat (first | exact Upd.head | apply Upd.tail)) ty_hsh htv ?_; clear hs; intro w1 hs))
  refine sep_ret1 hs rfl rfl (by rfl) ty_hsh (by repeat (first | exact List.Mem.head _ | apply List.Mem.tail)) ⟨rfl, hs.below⟩
theorem rmdig_run {M : List Int} (hM : M.length = 512) (hr : ∀ x ∈ M, 0 ≤ x ∧ x ≤ 255) (w : World) : Calls Tryd.prog 44 #[.agg (mV M).toArray] w fun e w' => e = .returned (.agg (mV (treeOf (partH M 0 16))).toArray) ∧ Below w.heap.size w w' := by
  have hvm := vals_mV hM
  have htv := vals_mV (treeM_len hM hr (lo := 0) (hi := 16) (by omega))
  have HT : Hid (∀ u g e, Blk e u g (mV M) → Calls Tryd.prog 98 #[.slice (some ⟨g, 0, none⟩) 16 16] u fun e w' => e = .returned (.agg (mV (treeOf (partH M 0 16))).toArray) ∧ Below u.heap.size u w') := fun u g e hB => by
    have := hs_man hM hr (lo := 0) (hi := 16) (by omega) (by omega) hB
    rw [Nat.zero_mul] at this
    exact rtree_run 16 _ _ _ u (by rw [partH_len]) (by omega) this
  have hsl := fun g u => sl_man_all g u
  obtain ⟨mv, hmv⟩ : ∃ mv, mv = mV M := ⟨_, rfl⟩
  obtain ⟨tv, hte⟩ : ∃ tv, tv = mV (treeOf (partH M 0 16)) := ⟨_, rfl⟩
  rw [← hmv, ← hte] at HT
  rw [← hmv] at hvm
  rw [← hte] at htv
  rw [← hmv, ← hte]
  have hs := PI.start w
  clear hmv hte hM hr
  go_enter Tryd.func44, Tryd.ntmps44
  go_wp2_with (first
    | (refine sep_box hs rfl rfl (by rfl) hvm ?_; clear hs; intro w1 gM hs)
    | (refine sep_alloc hs rfl rfl al_hsh ?_; clear hs; intro w1 gR hs)
    | (go_at_call 98; go_must (refine (HT.out _ gM _ (hs.blk ⟨gM, 89, 512, mv⟩ (by repeat (first | exact List.Mem.head _ | apply List.Mem.tail))).1).mono ?_); rintro e w1 ⟨rfl, hb1⟩; replace hs := hs.stays hb1; clear hb1)
    | (refine sep_storew hs rfl rfl (by rfl) (by rfl) (by repeat (first | exact Upd.head | apply Upd.tail)) ty_hsh htv ?_; clear hs; intro w1 hs))
  refine sep_ret1 hs rfl rfl (by rfl) ty_hsh (by repeat (first | exact List.Mem.head _ | apply List.Mem.tail)) ⟨rfl, hs.below⟩
set_option maxHeartbeats 4000000 in
theorem mrange_run {M : List Int} (hM : M.length = 512) (hr : ∀ x ∈ M, 0 ≤ x ∧ x ≤ 255) (lo hi : Int) (w : World) (hV : Vars w) : Calls Tryd.prog 41 #[.agg (mV M).toArray, .int .i64 lo, .int .i64 hi] w fun e w' => e = .returned (.tuple #[.agg (mV (rangeV M lo hi)).toArray, .int .i64 (rangeE lo hi)]) ∧ Below w.heap.size w w' := by
  have hvm := vals_mV hM
  have htv := vals_mV (rangeV_len hM hr lo hi)
  have hs := PI.start w
  by_cases hok : okR lo hi
  · obtain ⟨h0, h16, hlt⟩ := id hok
    have HE : Hid (rangeE lo hi = 0) := if_pos hok
    obtain ⟨l, rfl⟩ : ∃ l : Nat, lo = (l : Int) := ⟨lo.toNat, by omega⟩
    obtain ⟨h, rfl⟩ : ∃ h : Nat, hi = (h : Int) := ⟨hi.toNat, by omega⟩
    have e : rangeV M l h = treeOf (partH M l h) := if_pos hok
    have hl : l < h := by omega
    have h2 : h ≤ 16 := by omega
    have HT : Hid (∀ u g e, Blk e u g (mV M) → Vars u → Calls Tryd.prog 97 #[.slice (some ⟨g, l * 32, none⟩) (h - l) (16 - l)] u fun e w' => e = .returned (.agg (mV (rangeV M l h)).toArray) ∧ Below u.heap.size u w') := fun u g e' hB hv => by
      rw [e]
      exact tree_run (h - l) _ _ _ u (by rw [partH_len]) (by omega) (hs_man hM hr hl h2 hB) hv
    have hsl := fun g u => sl_man g hl h2 u
    obtain ⟨mv, hmv⟩ : ∃ mv, mv = mV M := ⟨_, rfl⟩
    obtain ⟨tv, hte⟩ : ∃ tv, tv = mV (rangeV M l h) := ⟨_, rfl⟩
    rw [← hmv, ← hte] at HT
    rw [← hmv] at hvm
    rw [← hte] at htv
    rw [← hmv, ← hte, HE.out]
    have hn0 : ¬ (l : Int) < 0 := by omega
    have hn1 : ¬ (16 : Int) < (h : Int) := by omega
    have hn1' : ¬ 16 < h := by omega
    have hn2 : ¬ (h : Int) ≤ (l : Int) := by omega
    have hn2' : ¬ h ≤ l := by omega
    have hd1 : decide ((16 : Int) < (h : Int)) = false := by simp; omega
    have hd2 : decide ((h : Int) ≤ (l : Int)) = false := by simp; omega
    have hd3 : decide ((l : Int) ≥ (h : Int)) = false := by simp; omega
    clear hmv hte hM hr e
    go_enter Tryd.func41, Tryd.ntmps41
    go_wp2_with (first
      | (refine sep_box hs rfl rfl (by rfl) hvm ?_; clear hs; intro w1 gM hs)
      | (refine sep_alloc hs rfl rfl al_hsh ?_; clear hs; intro w1 gR hs)
      | (go_at_call 97; go_must (refine (HT.out _ gM _ (hs.blk ⟨gM, 89, 512, mv⟩ (by repeat (first | exact List.Mem.head _ | apply List.Mem.tail))).1 (hV.stays hs.below)).mono ?_); rintro e w1 ⟨rfl, hb1⟩; replace hs := hs.stays hb1; clear hb1)
      | (refine sep_storew hs rfl rfl (by rfl) (by rfl) (by repeat (first | exact Upd.head | apply Upd.tail)) ty_hsh htv ?_; clear hs; intro w1 hs))
    refine sep_ret2 hs rfl rfl (by rfl) (by rfl) (v := .int .i64 0) ty_hsh (by repeat (first | exact List.Mem.head _ | apply List.Mem.tail)) ⟨rfl, hs.below⟩
  · have HE : Hid (rangeE lo hi = 1) := if_neg hok
    have HV0 : Hid (mV (rangeV M lo hi) = mV (List.replicate 32 0)) := congrArg mV (if_neg hok)
    have hways : lo < 0 ∨ (¬ lo < 0 ∧ 16 < hi) ∨ (¬ lo < 0 ∧ ¬ 16 < hi ∧ hi ≤ lo) := by unfold okR at hok; omega
    have hbd : ∀ u, (Instr.build 39 #[]).run Tryd.prog u = .ok (.agg (mV (List.replicate 32 0)).toArray) u := fun u => by kernel_rfl
    have hal := al_hsh
    obtain ⟨mv, hmv⟩ : ∃ mv, mv = mV M := ⟨_, rfl⟩
    obtain ⟨zv, hze⟩ : ∃ zv, zv = mV (List.replicate 32 0) := ⟨_, rfl⟩
    rw [← hmv] at hvm
    rw [← hze] at hal hbd HV0
    have hzv := hal.2
    rw [← hmv, HV0.out, HE.out]
    clear htv hmv hze hM hr hok
    rcases hways with h1 | ⟨h1, h2⟩ | ⟨h1, h2, h3⟩
    all_goals
      try have hd1 : decide (lo < 0) = true := by simp; omega
      try have hd1 : decide (lo < 0) = false := by simp; omega
      try have hd2 : decide (16 < hi) = true := by simp; omega
      try have hd2 : decide (16 < hi) = false := by simp; omega
      try have hd3 : decide (hi ≤ lo) = true := by simp; omega
      try have hd3' : decide (lo ≥ hi) = true := by simp; omega
      go_enter Tryd.func41, Tryd.ntmps41
      go_wp2_with (first
        | (refine sep_box hs rfl rfl (by rfl) hvm ?_; clear hs; intro w1 gM hs)
        | (refine sep_alloc hs rfl rfl hal ?_; clear hs; intro w1 gR hs)
        | (refine wpList_build0 (by rfl) 39 (by rfl) _ hbd ?_)
        | (refine sep_storew hs rfl rfl (by rfl) (by rfl) (by repeat (first | exact Upd.head | apply Upd.tail)) ty_hsh hzv ?_; clear hs; intro w1 hs))
      refine sep_ret2 hs rfl rfl (by rfl) (by rfl) (v := .int .i64 1) ty_hsh (by repeat (first | exact List.Mem.head _ | apply List.Mem.tail)) ⟨rfl, hs.below⟩
set_option maxHeartbeats 4000000 in
theorem rmrange_run {M : List Int} (hM : M.length = 512) (hr : ∀ x ∈ M, 0 ≤ x ∧ x ≤ 255) (lo hi : Int) (w : World) : Calls Tryd.prog 42 #[.agg (mV M).toArray, .int .i64 lo, .int .i64 hi] w fun e w' => e = .returned (.tuple #[.agg (mV (rangeV M lo hi)).toArray, .int .i64 (rangeE lo hi)]) ∧ Below w.heap.size w w' := by
  have hvm := vals_mV hM
  have htv := vals_mV (rangeV_len hM hr lo hi)
  have hs := PI.start w
  by_cases hok : okR lo hi
  · obtain ⟨h0, h16, hlt⟩ := id hok
    have HE : Hid (rangeE lo hi = 0) := if_pos hok
    obtain ⟨l, rfl⟩ : ∃ l : Nat, lo = (l : Int) := ⟨lo.toNat, by omega⟩
    obtain ⟨h, rfl⟩ : ∃ h : Nat, hi = (h : Int) := ⟨hi.toNat, by omega⟩
    have e : rangeV M l h = treeOf (partH M l h) := if_pos hok
    have hl : l < h := by omega
    have h2 : h ≤ 16 := by omega
    have HT : Hid (∀ u g e, Blk e u g (mV M) → Calls Tryd.prog 98 #[.slice (some ⟨g, l * 32, none⟩) (h - l) (16 - l)] u fun e w' => e = .returned (.agg (mV (rangeV M l h)).toArray) ∧ Below u.heap.size u w') := fun u g e' hB => by
      rw [e]
      exact rtree_run (h - l) _ _ _ u (by rw [partH_len]) (by omega) (hs_man hM hr hl h2 hB)
    have hsl := fun g u => sl_man g hl h2 u
    obtain ⟨mv, hmv⟩ : ∃ mv, mv = mV M := ⟨_, rfl⟩
    obtain ⟨tv, hte⟩ : ∃ tv, tv = mV (rangeV M l h) := ⟨_, rfl⟩
    rw [← hmv, ← hte] at HT
    rw [← hmv] at hvm
    rw [← hte] at htv
    rw [← hmv, ← hte, HE.out]
    have hn0 : ¬ (l : Int) < 0 := by omega
    have hn1 : ¬ (16 : Int) < (h : Int) := by omega
    have hn1' : ¬ 16 < h := by omega
    have hn2 : ¬ (h : Int) ≤ (l : Int) := by omega
    have hn2' : ¬ h ≤ l := by omega
    have hd1 : decide ((16 : Int) < (h : Int)) = false := by simp; omega
    have hd2 : decide ((h : Int) ≤ (l : Int)) = false := by simp; omega
    have hd3 : decide ((l : Int) ≥ (h : Int)) = false := by simp; omega
    clear hmv hte hM hr e
    go_enter Tryd.func42, Tryd.ntmps42
    go_wp2_with (first
      | (refine sep_box hs rfl rfl (by rfl) hvm ?_; clear hs; intro w1 gM hs)
      | (refine sep_alloc hs rfl rfl al_hsh ?_; clear hs; intro w1 gR hs)
      | (go_at_call 98; go_must (refine (HT.out _ gM _ (hs.blk ⟨gM, 89, 512, mv⟩ (by repeat (first | exact List.Mem.head _ | apply List.Mem.tail))).1).mono ?_); rintro e w1 ⟨rfl, hb1⟩; replace hs := hs.stays hb1; clear hb1)
      | (refine sep_storew hs rfl rfl (by rfl) (by rfl) (by repeat (first | exact Upd.head | apply Upd.tail)) ty_hsh htv ?_; clear hs; intro w1 hs))
    refine sep_ret2 hs rfl rfl (by rfl) (by rfl) (v := .int .i64 0) ty_hsh (by repeat (first | exact List.Mem.head _ | apply List.Mem.tail)) ⟨rfl, hs.below⟩
  · have HE : Hid (rangeE lo hi = 1) := if_neg hok
    have HV0 : Hid (mV (rangeV M lo hi) = mV (List.replicate 32 0)) := congrArg mV (if_neg hok)
    have hways : lo < 0 ∨ (¬ lo < 0 ∧ 16 < hi) ∨ (¬ lo < 0 ∧ ¬ 16 < hi ∧ hi ≤ lo) := by unfold okR at hok; omega
    have hbd : ∀ u, (Instr.build 39 #[]).run Tryd.prog u = .ok (.agg (mV (List.replicate 32 0)).toArray) u := fun u => by kernel_rfl
    have hal := al_hsh
    obtain ⟨mv, hmv⟩ : ∃ mv, mv = mV M := ⟨_, rfl⟩
    obtain ⟨zv, hze⟩ : ∃ zv, zv = mV (List.replicate 32 0) := ⟨_, rfl⟩
    rw [← hmv] at hvm
    rw [← hze] at hal hbd HV0
    have hzv := hal.2
    rw [← hmv, HV0.out, HE.out]
    clear htv hmv hze hM hr hok
    rcases hways with h1 | ⟨h1, h2⟩ | ⟨h1, h2, h3⟩
    all_goals
      try have hd1 : decide (lo < 0) = true := by simp; omega
      try have hd1 : decide (lo < 0) = false := by simp; omega
      try have hd2 : decide (16 < hi) = true := by simp; omega
      try have hd2 : decide (16 < hi) = false := by simp; omega
      try have hd3 : decide (hi ≤ lo) = true := by simp; omega
      try have hd3' : decide (lo ≥ hi) = true := by simp; omega
      go_enter Tryd.func42, Tryd.ntmps42
      go_wp2_with (first
        | (refine sep_box hs rfl rfl (by rfl) hvm ?_; clear hs; intro w1 gM hs)
        | (refine sep_alloc hs rfl rfl hal ?_; clear hs; intro w1 gR hs)
        | (refine wpList_build0 (by rfl) 39 (by rfl) _ hbd ?_)
        | (refine sep_storew hs rfl rfl (by rfl) (by rfl) (by repeat (first | exact Upd.head | apply Upd.tail)) ty_hsh hzv ?_; clear hs; intro w1 hs))
      refine sep_ret2 hs rfl rfl (by rfl) (by rfl) (v := .int .i64 1) ty_hsh (by repeat (first | exact List.Mem.head _ | apply List.Mem.tail)) ⟨rfl, hs.below⟩
end Go.Proofs.YthbldjnpnligpaaDoor

/-
  ManifestRange: the statement's walk.
-/

namespace Go.Proofs.YthbldjnpnligpaaDoor
set_option linter.unusedSimpArgs false
set_option linter.unusedVariables false
set_option maxRecDepth 100000
open Go.RowKit

set_option maxHeartbeats 40000000 in
theorem mr_walk (M : List Int) (hM : M.length = 512) (hr : ∀ x ∈ M, 0 ≤ x ∧ x ≤ 255) (lo hi : Int) (w : World) (hV : Vars w) :
    Calls Tryd.prog 9 #[.agg (mV M).toArray, .int .i64 lo, .int .i64 hi] w fun e w' => e = .returned (.bool true) ∧ Below w.heap.size w w' := by
  have hvm := vals_mV hM
  have hxv := vals_mV (rangeV_len hM hr lo hi)
  have hdl := treeM_len hM hr (lo := 0) (hi := 16) (by omega)
  have hdv := vals_mV hdl
  have heqx := fun u => eq_hsh (rangeV_len hM hr lo hi) u
  have heqd := fun u => eq_hsh hdl u
  have h016 : rangeV M 0 16 = treeOf (partH M 0 16) ∧ rangeE 0 16 = 0 := ⟨if_pos (by unfold okR; omega), if_pos (by unfold okR; omega)⟩
  have hra : ∀ u, Vars u → Calls Tryd.prog 41 #[.agg (mV M).toArray, .int .i64 lo, .int .i64 hi] u fun e w' => e = .returned (.tuple #[.agg (mV (rangeV M lo hi)).toArray, .int .i64 (rangeE lo hi)]) ∧ Below u.heap.size u w' := fun u h => mrange_run hM hr lo hi u h
  have hrr : ∀ u, Calls Tryd.prog 42 #[.agg (mV M).toArray, .int .i64 lo, .int .i64 hi] u fun e w' => e = .returned (.tuple #[.agg (mV (rangeV M lo hi)).toArray, .int .i64 (rangeE lo hi)]) ∧ Below u.heap.size u w' := fun u => rmrange_run hM hr lo hi u
  have hrz : ∀ u, Vars u → Calls Tryd.prog 41 #[.agg (mV M).toArray, .int .i64 0, .int .i64 16] u fun e w' => e = .returned (.tuple #[.agg (mV (treeOf (partH M 0 16))).toArray, .int .i64 0]) ∧ Below u.heap.size u w' := fun u h => by
    have := mrange_run hM hr 0 16 u h
    rw [h016.1, h016.2] at this
    exact this
  have hda : ∀ u, Vars u → Calls Tryd.prog 43 #[.agg (mV M).toArray] u fun e w' => e = .returned (.agg (mV (treeOf (partH M 0 16))).toArray) ∧ Below u.heap.size u w' := fun u h => mdig_run hM hr u h
  have hdr : ∀ u, Calls Tryd.prog 44 #[.agg (mV M).toArray] u fun e w' => e = .returned (.agg (mV (treeOf (partH M 0 16))).toArray) ∧ Below u.heap.size u w' := fun u => rmdig_run hM hr u
  obtain ⟨mv, hmv⟩ : ∃ mv, mv = mV M := ⟨_, rfl⟩
  obtain ⟨xv, hxe⟩ : ∃ xv, xv = mV (rangeV M lo hi) := ⟨_, rfl⟩
  obtain ⟨dv, hde⟩ : ∃ dv, dv = mV (treeOf (partH M 0 16)) := ⟨_, rfl⟩
  obtain ⟨ec, hec⟩ : ∃ ec, ec = rangeE lo hi := ⟨_, rfl⟩
  rw [← hxe] at hxv heqx
  rw [← hde] at hdv heqd
  rw [← hmv] at hvm
  rw [← hmv, ← hxe, ← hec] at hra hrr
  rw [← hmv, ← hde] at hrz hda hdr
  rw [← hmv]
  have HRA : Hid _ := hra
  have HRR : Hid _ := hrr
  have HRZ : Hid _ := hrz
  have HDA : Hid _ := hda
  have HDR : Hid _ := hdr
  have HVW : Hid (Vars w) := hV
  have HAL : Hid (∀ u, Below w.heap.size w u → Calls Tryd.prog 36 #[] u fun e w' => e = .returned (.bool true) ∧ Below u.heap.size u w') := fun u hu => alive11_run u (hV.stays hu)
  have hs := PI.start w
  clear hM hr hdl h016 hra hrr hrz hda hdr hmv hxe hde hec hV
  go_enter Tryd.func9, Tryd.ntmps9
  go_wp2_with (first
    | (refine sep_box hs rfl rfl (by rfl) hvm ?_; clear hs; intro w1 gM hs)
    | (go_at_call_of 41 (Value.int .i64 lo); go_must (refine (HRA.out _ (HVW.out.stays hs.below)).mono ?_); rintro e w1 ⟨rfl, hb1⟩; replace hs := hs.stays hb1; clear hb1)
    | (go_at_call 42; go_must (refine (HRR.out _).mono ?_); rintro e w1 ⟨rfl, hb1⟩; replace hs := hs.stays hb1; clear hb1)
    | (go_at_call 41; go_must (refine (HRZ.out _ (HVW.out.stays hs.below)).mono ?_); rintro e w1 ⟨rfl, hb1⟩; replace hs := hs.stays hb1; clear hb1)
    | ((with_reducible show wpList _ _ _ (Oper.mk (some 7) (Op.alloc _) _ _ _ _ :: _) _ _); refine sep_alloc hs rfl rfl al_hsh ?_; clear hs; intro w1 gX hs)
    | ((with_reducible show wpList _ _ _ (Oper.mk (some 9) (Op.alloc _) _ _ _ _ :: _) _ _); refine sep_alloc hs rfl rfl al_hsh ?_; clear hs; intro w1 gY hs)
    | ((with_reducible show wpList _ _ _ (Oper.mk (some 11) (Op.alloc _) _ _ _ _ :: _) _ _); refine sep_alloc hs rfl rfl al_hsh ?_; clear hs; intro w1 gZ hs)
    | (refine sep_loadw hs rfl rfl (by rfl) (by repeat (first | exact List.Mem.head _ | apply List.Mem.tail)) ty_man ?_)
    | (refine sep_storew hs rfl rfl (by rfl) (by rfl) (by repeat (first | exact Upd.head | apply Upd.tail)) ty_hsh (by first | exact hxv | exact hdv) ?_; clear hs; intro w1 hs))
  refine UpT.wp_region_tail 28 (UpT.tell [(0, isV (.bool true)), (13, isV (.agg dv.toArray)), (15, isV (.agg dv.toArray)), (25, isV (.agg dv.toArray))]) (fun _ => false) (by kernel_rfl) (by kernel_rfl) (UpT.tell_steady _ (by
    intro p hp
    simp only [List.mem_cons, List.not_mem_nil, or_false] at hp
    rcases hp with rfl | rfl | rfl | rfl <;> first | exact isV_steady _ | exact slB_steady _ _)) ?_
  simp only [List.take_succ_cons, List.take_zero]
  refine UpT.wpUp_call _ 36 #[] (by rfl) (by rfl) (by rfl) (fun wz => by go_simp) (fun wz hp => calls_isV (HAL.out wz (below_then hs.below hp.1))) ?_
  rintro v ⟨u, _, hf⟩
  obtain rfl := hf.of 0 v _ rfl rfl
  clear hf
  simp only [Act.put, List.setIfInBounds_toArray, List.set_cons_zero, List.set_cons_succ]
  iterate 1 (apply UpT.wpUp_pure; (case hw => rfl); (case hψ => rfl); (case hv => (intro wz hp; clear hp; go_simp; try (with_reducible rfl))); simp only [Act.put, List.setIfInBounds_toArray, List.set_cons_zero, List.set_cons_succ])
  refine UpT.wpUp_pure (.agg xv.toArray) (by rfl) (by rfl) (fun wz hp => exec_load (by rfl) (by rfl) (hs.ld hp.1 ty_hsh (by repeat (first | exact List.Mem.head _ | apply List.Mem.tail)))) ?_
  simp only [Act.put, List.setIfInBounds_toArray, List.set_cons_zero, List.set_cons_succ]
  refine UpT.wpUp_pure (.agg xv.toArray) (by rfl) (by rfl) (fun wz hp => exec_load (by rfl) (by rfl) (hs.ld hp.1 ty_hsh (by repeat (first | exact List.Mem.head _ | apply List.Mem.tail)))) ?_
  simp only [Act.put, List.setIfInBounds_toArray, List.set_cons_zero, List.set_cons_succ]
  iterate 3 (apply UpT.wpUp_pure; (case hw => rfl); (case hψ => rfl); (case hv => (intro wz hp; clear hp; go_simp; try (with_reducible rfl))); simp only [Act.put, List.setIfInBounds_toArray, List.set_cons_zero, List.set_cons_succ])
  iterate 5 (apply UpT.wpUp_pure; (case hw => rfl); (case hψ => rfl); (case hv => (intro wz hp; clear hp; go_simp; try (with_reducible rfl))); simp only [Act.put, List.setIfInBounds_toArray, List.set_cons_zero, List.set_cons_succ])
  refine UpT.wpUp_pure (.agg mv.toArray) (by rfl) (by rfl) (fun wz hp => exec_load (by rfl) (by rfl) (hs.ld hp.1 ty_man (by repeat (first | exact List.Mem.head _ | apply List.Mem.tail)))) ?_
  simp only [Act.put, List.setIfInBounds_toArray, List.set_cons_zero, List.set_cons_succ]
  refine UpT.wpUp_call _ 43 #[.agg mv.toArray] (by rfl) (by rfl) (by rfl) (fun wz => by go_simp) (fun wz hp => calls_isV (HDA.out wz (HVW.out.stays (below_then hs.below hp.1)))) ?_
  rintro v ⟨u, _, hf⟩
  obtain rfl := hf.of 13 v _ rfl rfl
  clear hf
  simp only [Act.put, List.setIfInBounds_toArray, List.set_cons_zero, List.set_cons_succ]
  refine UpT.wpUp_pure (.agg mv.toArray) (by rfl) (by rfl) (fun wz hp => exec_load (by rfl) (by rfl) (hs.ld hp.1 ty_man (by repeat (first | exact List.Mem.head _ | apply List.Mem.tail)))) ?_
  simp only [Act.put, List.setIfInBounds_toArray, List.set_cons_zero, List.set_cons_succ]
  refine UpT.wpUp_call _ 44 #[.agg mv.toArray] (by rfl) (by rfl) (by rfl) (fun wz => by go_simp) (fun wz hp => calls_isV (HDR.out wz)) ?_
  rintro v ⟨u, _, hf⟩
  obtain rfl := hf.of 15 v _ rfl rfl
  clear hf
  simp only [Act.put, List.setIfInBounds_toArray, List.set_cons_zero, List.set_cons_succ]
  iterate 3 (apply UpT.wpUp_pure; (case hw => rfl); (case hψ => rfl); (case hv => (intro wz hp; clear hp; go_simp; try (with_reducible rfl))); simp only [Act.put, List.setIfInBounds_toArray, List.set_cons_zero, List.set_cons_succ])
  iterate 4 (apply UpT.wpUp_pure; (case hw => rfl); (case hψ => rfl); (case hv => (intro wz hp; clear hp; go_simp; try (with_reducible rfl))); simp only [Act.put, List.setIfInBounds_toArray, List.set_cons_zero, List.set_cons_succ])
  refine UpT.wpUp_pure (.agg dv.toArray) (by rfl) (by rfl) (fun wz hp => exec_load (by rfl) (by rfl) (hs.ld hp.1 ty_hsh (by repeat (first | exact List.Mem.head _ | apply List.Mem.tail)))) ?_
  simp only [Act.put, List.setIfInBounds_toArray, List.set_cons_zero, List.set_cons_succ]
  refine UpT.wpUp_pure (.agg mv.toArray) (by rfl) (by rfl) (fun wz hp => exec_load (by rfl) (by rfl) (hs.ld hp.1 ty_man (by repeat (first | exact List.Mem.head _ | apply List.Mem.tail)))) ?_
  simp only [Act.put, List.setIfInBounds_toArray, List.set_cons_zero, List.set_cons_succ]
  refine UpT.wpUp_call _ 43 #[.agg mv.toArray] (by rfl) (by rfl) (by rfl) (fun wz => by go_simp) (fun wz hp => calls_isV (HDA.out wz (HVW.out.stays (below_then hs.below hp.1)))) ?_
  rintro v ⟨u, _, hf⟩
  obtain rfl := hf.of 25 v _ rfl rfl
  clear hf
  simp only [Act.put, List.setIfInBounds_toArray, List.set_cons_zero, List.set_cons_succ]
  iterate 2 (apply UpT.wpUp_pure; (case hw => rfl); (case hψ => rfl); (case hv => (intro wz hp; clear hp; go_simp; try (with_reducible rfl))); simp only [Act.put, List.setIfInBounds_toArray, List.set_cons_zero, List.set_cons_succ])
  refine UpT.wpUp_end ?_
  intro w2 hb2 hf
  simp only [List.drop_succ_cons, List.drop_zero]
  replace hs := hs.stays hb2
  clear hf hb2
  go_wp2
  go_ret
  exact ⟨rfl, hs.below⟩
end Go.Proofs.YthbldjnpnligpaaDoor
