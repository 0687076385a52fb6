/-
  The walk over label.Encode.
-/
import Derived.Test.YteocmmmnfbabaaaDoorLbBase
namespace Go.Proofs.YteocmmmnfbabaaaDoor
set_option linter.unusedSimpArgs false
set_option linter.unusedVariables false
set_option maxRecDepth 100000
open Go.RowKit

set_option maxHeartbeats 4000000 in
theorem lencode_bad (l : Lb) (hl : l.ok) (a : Option Addr) (c : Nat) (w : World) (hlen : l.m.length ≤ 9223372036854775807) (hm : l.may = false) :
    Calls Tryd.prog 9 #[.agg (l.vs a c).toArray] w fun e w' => e = .returned (.tuple #[.slice none 0 0, .int .i64 1]) ∧ Below w.heap.size w w' := by
  obtain ⟨vs, hvs⟩ : ∃ vs, vs = l.vs a c := ⟨_, rfl⟩
  have hvl : vs.length = 37 := by rw [hvs]; exact Lb.vs_len hl.p a c
  have HR : Hid (l.p.vs = (vs.drop 1).take 35) := by show _ = _; rw [hvs]; exact Lb.vs_root hl.p a c
  have HM : Hid (vs[36]? = some (.slice a l.m.length c)) := by show _ = _; rw [hvs]; exact Lb.vs_map hl.p a c
  have hpl := Pt.vs_len hl.p
  have hmay := may_run l.p hl.p
  obtain ⟨n, hn⟩ : ∃ n, n = l.m.length := ⟨_, rfl⟩
  obtain ⟨b, hb⟩ : ∃ b, b = l.p.may := ⟨_, rfl⟩
  have hor : b = false ∨ b = true ∧ ((n : Int) == 64) = false := by
    rw [hb, hn]
    unfold Lb.may at hm
    cases h : l.p.may
    · exact .inl rfl
    · right; refine ⟨rfl, ?_⟩; rw [h] at hm; simp at hm; simp; omega
  rw [← hvs]
  rw [← hb] at hmay
  rw [← hn] at HM hlen
  clear hvs hb hn hm
  go_enter Tryd.func9, Tryd.ntmps9
  rcases hor with rfl | ⟨rfl, h64⟩
  · go_wp2_with (first
      | (refine wpList_box0 (by rfl) 29 (.tmp 0) (by rfl) vs (by rfl) ?_; intro w1 hL1 hb1 hs1
         have hc36 : w1.cell? ⟨w.heap.size, 36, none⟩ = some (.slice a n c) := (hL1.cell 36).trans HM.out)
      | (refine wpList_load_blk (by rfl) (.tmp 7) 26 (by rfl) _ 1 35 (by rfl) agg_ptr size_ptr hL1 _ HR.out hpl ?_)
      | (go_at_call 33; go_must (refine (hmay _).mono ?_); rintro e w2 ⟨rfl, hb2⟩))
    go_ret2
    exact ⟨rfl, below_then hb1 hb2⟩
  · go_wp2_with (first
      | (refine wpList_box0 (by rfl) 29 (.tmp 0) (by rfl) vs (by rfl) ?_; intro w1 hL1 hb1 hs1
         have hc36 : w1.cell? ⟨w.heap.size, 36, none⟩ = some (.slice a n c) := (hL1.cell 36).trans HM.out)
      | (refine wpList_load_blk (by rfl) (.tmp 7) 26 (by rfl) _ 1 35 (by rfl) agg_ptr size_ptr hL1 _ HR.out hpl ?_)
      | (go_at_call 33; go_must (refine (hmay _).mono ?_); rintro e w2 ⟨rfl, hb2⟩
         have hc36' : w2.cell? ⟨w.heap.size, 36, none⟩ = some (.slice a n c) := ((hL1.stays hb2).cell 36).trans HM.out))
    go_ret2
    exact ⟨rfl, below_then hb1 hb2⟩

theorem alloc_32z (w : World) : (Instr.alloc 23 true (.tuple #[])).run Tryd.prog w = .ok (.pointer (some ⟨w.heap.size, 0, none⟩)) (w.alloc (.cells ((List.replicate 32 (0 : Int)).map (Value.int .u8)).toArray 23)) := by kernel_rfl

theorem magic_cs : (((⟨#[67, 65, 85, 84]⟩ : ByteArray).extract 0 (magicL.map (Value.int .u8)).length).data.map fun b => Value.int .u8 b.toNat).toList = magicL.map (Value.int .u8) := by kernel_rfl
theorem magic_n : (magicL.map (Value.int .u8)).length = Nat.min (⟨#[67, 65, 85, 84]⟩ : ByteArray).size 256 := by kernel_rfl
theorem magic_fit : 0 + (magicL.map (Value.int .u8)).length ≤ ((List.replicate 256 (0 : Int)).map (Value.int .u8)).length := by simp [magicL]

set_option maxHeartbeats 20000000 in
theorem lencode_ok (l : Lb) (hl : l.ok) (a : Option Addr) (c : Nat) (w : World) (hB : Bs w a c l.m) (hV : Vars w) (hm : l.may = true) :
    Calls Tryd.prog 9 #[.agg (l.vs a c).toArray] w fun e w' => ∃ g, e = .returned (.tuple #[.slice (some ⟨g, 0, none⟩) 256 256, .int .i64 0]) ∧ w.heap.size ≤ g ∧ Row 5 w' g l.bytes ∧ Below w.heap.size w w' := by
  obtain ⟨i0, hi, hz0, hz1, hz2⟩ := info_parts Tryd.info5
  obtain ⟨hpm, hm64⟩ := Lb.may_parts hm
  obtain ⟨vs, hvs⟩ : ∃ vs, vs = l.vs a c := ⟨_, rfl⟩
  have hvl : vs.length = 37 := by rw [hvs]; exact Lb.vs_len hl.p a c
  have HR : Hid (l.p.vs = (vs.drop 1).take 35) := by show _ = _; rw [hvs]; exact Lb.vs_root hl.p a c
  have HM : Hid (vs[36]? = some (.slice a 64 c)) := by show _ = _; rw [hvs, ← hm64]; exact Lb.vs_map hl.p a c
  have HT : Hid (vs[0]? = some (.int .u32 (l.t : Int))) := by show _ = _; rw [hvs]; exact Lb.vs_txg l a c
  have hpl := Pt.vs_len hl.p
  have hmay := may_run l.p hl.p
  rw [hpm] at hmay
  have henc := encode_run l.p hl.p
  obtain ⟨es, hes⟩ : ∃ es, es = l.p.enc.map (Value.int .u8) := ⟨_, rfl⟩
  have hel : es.length = 44 := by rw [hes, List.length_map, Pt.enc_len hl.p]
  have heo : ∀ v ∈ es, v.oneCell' = true := by rw [hes]; exact int_oneCell _ _
  have HES : Hid (es = l.p.enc.map (Value.int .u8)) := hes
  rw [← hvs]
  rw [← hes] at henc
  clear hvs hes hpm
  have hal : ((List.replicate 44 (0 : Int)).map (Value.int .u8)).length = 44 := rfl
  go_enter Tryd.func9, Tryd.ntmps9
  go_wp2_with (first
      | (refine wpList_box0 (by rfl) 29 (.tmp 0) (by rfl) vs (by rfl) ?_; intro w1 hL1 hb1 hs1
         have hc36 : w1.cell? ⟨w.heap.size, 36, none⟩ = some (.slice a 64 c) := (hL1.cell 36).trans HM.out)
      | (refine wpList_load_blk (by rfl) (.tmp 7) 26 (by rfl) _ 1 35 (by rfl) agg_ptr size_ptr hL1 _ HR.out hpl ?_)
      | (go_at_call 33; go_must (refine (hmay _).mono ?_); rintro e w2 ⟨rfl, hb2⟩
         have hL2 := hL1.stays hb2
         have hc36' : w2.cell? ⟨w.heap.size, 36, none⟩ = some (.slice a 64 c) := (hL2.cell 36).trans HM.out)
      | (refine wpList_make_bytes (w0 := w2) (by rfl) (.const (.int .i64 256)) (.const (.int .i64 256)) 27 (by rfl) w2.heap.size 5 i0 Tryd.underlying27 hi hz0 hz1 hz2 .i64 .i64 256 256 256 (by rfl) (by rfl) (by rfl) (by rfl) (by decide) (Nat.le_refl _) (Below.refl _ _) ?_
         intro w3 hO3 hb3
         have hL3 := hL2.stays hb3)
      | (refine wpList_load_blk (by rfl) (.tmp 18) 26 (by rfl) _ 1 35 (by rfl) agg_ptr size_ptr hL3 _ HR.out hpl ?_)
      | (go_at_call 34; go_must (refine (henc _).mono ?_); rintro e w4 ⟨rfl, hb4⟩
         have hL4 := hL3.stays hb4
         have hO4 : Blk 5 w4 w2.heap.size ((List.replicate 256 (0 : Int)).map (Value.int .u8)) := Blk.stays (w := w3) hO3 hb4)
      | (refine wpList_alloc0 (by rfl) 74 (by rfl) (some 5) (by rfl) _ alloc_44 ?_; intro w5 hE5 hb5 hs5
         have hL5 := hL4.stays hb5
         have hO5 := hO4.stays hb5)
      | (refine wpList_store_blk (by rfl) (.tmp 5) (.tmp 20) 74 (by rfl) _ 0 44 (by rfl) es (by rfl) (sizeOf_run (by kernel_rfl)) hE5 hel (by rw [hal]; omega) heo es (whole_store hal) ?_
         intro w6 hE6 hbut6 hs6
         have hO6 := hO5.but hbut6 (Nat.ne_of_lt hO4.lt)
         have hL6 := hL5.but hbut6 (Nat.ne_of_lt hL4.lt))
      | (refine wpList_copy_str (by rfl) (.tmp 21) (.const (.string ⟨#[67, 65, 85, 84]⟩)) 27 9 (by rfl) 5 Tryd.underlying27 sizes5 w2.heap.size 0 256 256 _ (by rfl) (by rfl) hO6 (magicL.map (Value.int .u8)) magic_n magic_cs magic_fit (int_oneCell _ _) ?_
         intro w7 hO7 hbut7 hs7
         have hE7 := hE6.but hbut7 (Ne.symm (Nat.ne_of_lt hO4.lt))
         have hL7 := hL6.but hbut7 (Nat.ne_of_lt hL2.lt)))
  have hO7' : Blk 5 w7 w2.heap.size ((magicL ++ List.replicate 252 0).map (Value.int .u8)) := by
    have := splice_zeros [] magicL 0 256 rfl 252 rfl
    simp only [List.nil_append] at this
    rw [this] at hO7; exact hO7
  clear hO7
  have hel' : l.p.enc.length = 44 := Pt.enc_len hl.p
  have hb7 : Below w.heap.size w w7 := by
    have h5 := below_then (below_then (below_then (below_then hb1 hb2) hb3) hb4) hb5
    have h6 := h5.trans (hbut6.below (B := w.heap.size) (by have := hb1.size; have := hb2.size; have := hb3.size; have := hb4.size; omega) h5.size)
    exact h6.trans (hbut7.below (by have := hb1.size; have := hb2.size; omega) h6.size)
  have hlt24 := hO4.lt
  have HT7 : Hid (∀ u, Below w7.heap.size w7 u → u.cell? ⟨w.heap.size, 0, none⟩ = some (.int .u32 (l.t : Int))) := fun u hu => ((hL7.stays hu).cell 0).trans HT.out
  clear hc36 hc36' hL1 hL2 hL3 hL4 hL5 hL6 hO3 hO4 hO5 hO6 hE5 hE6
  refine UpT.wp_region_tail 5 (UpT.tell [(4, slB 4 (b32 l.t))]) (fun _ => false) (by kernel_rfl) (by kernel_rfl) (UpT.tell_steady _ (by
    intro p hp
    simp only [List.mem_cons, List.not_mem_nil, or_false] at hp
    rcases hp with rfl <;> first | exact isV_steady _ | exact slB_steady _ _)) ?_
  simp only [List.take_succ_cons, List.take_zero]
  apply UpT.wpUp_pure
  case hw => rfl
  case hψ => rfl
  case hv => (intro wz hp; clear hp; go_simp; try (with_reducible rfl))
  simp only [Act.put, List.setIfInBounds_toArray, List.set_cons_zero, List.set_cons_succ]
  apply UpT.wpUp_pure
  case hw => rfl
  case hψ => rfl
  case hv => (intro wz hp; clear hp; go_simp; try (with_reducible rfl))
  simp only [Act.put, List.setIfInBounds_toArray, List.set_cons_zero, List.set_cons_succ]
  apply UpT.wpUp_pure
  case hw => rfl
  case hψ => rfl
  case hv => (intro wz hp; clear hp; go_simp; try (with_reducible rfl))
  simp only [Act.put, List.setIfInBounds_toArray, List.set_cons_zero, List.set_cons_succ]
  apply UpT.wpUp_pure
  case hw => rfl
  case hψ => rfl
  case hv => (intro wz hp; have hcc := HT7.out wz hp.1; clear hp; go_simp; try (with_reducible rfl))
  simp only [Act.put, List.setIfInBounds_toArray, List.set_cons_zero, List.set_cons_succ]
  refine UpT.wpUp_call _ 35 #[.slice none 0 0, .int .u32 (l.t : Int)] (by rfl) (by rfl) (by rfl) (fun wz => by go_simp) (fun wz hp => calls_slB (put32_nil l.t hl.t wz)) ?_
  rintro v ⟨u, _, hf⟩
  obtain ⟨a7, c7, rfl, _⟩ := hf.of 4 v _ rfl rfl
  clear hf
  simp only [Act.put, List.setIfInBounds_toArray, List.set_cons_zero, List.set_cons_succ]
  refine UpT.wpUp_end ?_
  intro w8 hb8 hf
  obtain ⟨a7', c7', h7e, hB7⟩ := hf.of 4 _ _ rfl rfl
  cases h7e
  clear hf
  simp only [List.drop_succ_cons, List.drop_zero]
  refine wpList_copy_blk (by rfl) (.tmp 24) (.tmp 27) 27 27 (by rfl) 5 Tryd.underlying27 sizes5 w2.heap.size 4 252 252 a7 4 c7 (by rfl) (by rfl) (hO7'.stays hb8) (b32 l.t) 4 hB7 (by decide) (by rfl) (by first | omega | simp [b32_len]) (by simp [magicL, b32_len, hel']) ?_
  intro w9 hO9 hbut9 hs9
  rw [List.take_of_length_le (by simp [b32_len]), splice_zeros magicL (b32 l.t) 4 252 rfl 248 (by simp [b32_len])] at hO9
  have hL9 := (hL7.stays hb8).but hbut9 (by have := hb1.size; have := hb2.size; omega)
  have hE9 := (hE7.stays hb8).but hbut9 (by omega)
  have hb9 : Below w.heap.size w w9 := (below_then hb7 hb8).trans (hbut9.below (by have := hb1.size; have := hb2.size; omega) (below_then hb7 hb8).size)
  have hEB : ∀ u, Below w9.heap.size w9 u → Bs u (some ⟨w4.heap.size, 0, none⟩) 44 l.p.enc := fun u hu => by
    have h1 := hE9.stays hu
    rw [HES.out] at h1
    have := Row.bs (e := 74) (w := u) (g := w4.heap.size) (cur := l.p.enc) h1 (Pt.enc_rng hl.p) (by rw [hel']; decide)
    rwa [hel'] at this
  simp only [Act.put, List.setIfInBounds_toArray, List.set_cons_zero, List.set_cons_succ]
  clear hO7' hL7 hE7 hB7 hbut9 hs9 HT7 hb7
  go_wp2
  refine UpT.wp_region_tail 3 (UpT.tell []) (fun _ => false) (by kernel_rfl) (by kernel_rfl) (UpT.tell_steady _ (fun p hp => by cases hp)) ?_
  simp only [List.take_succ_cons, List.take_zero]
  apply UpT.wpUp_pure
  case hw => rfl
  case hψ => rfl
  case hv => (intro wz hp; clear hp; go_simp; try (with_reducible rfl))
  simp only [Act.put, List.setIfInBounds_toArray, List.set_cons_zero, List.set_cons_succ]
  apply UpT.wpUp_pure
  case hw => rfl
  case hψ => rfl
  case hv => (intro wz hp; clear hp; go_simp; try (with_reducible rfl))
  simp only [Act.put, List.setIfInBounds_toArray, List.set_cons_zero, List.set_cons_succ]
  apply UpT.wpUp_pure
  case hw => rfl
  case hψ => rfl
  case hv => (intro wz hp; clear hp; go_simp; try (with_reducible rfl))
  simp only [Act.put, List.setIfInBounds_toArray, List.set_cons_zero, List.set_cons_succ]
  refine UpT.wpUp_end ?_
  intro wA hbA hf
  clear hf
  simp only [List.drop_succ_cons, List.drop_zero]
  refine wpList_copy_blk (by rfl) (.tmp 30) (.tmp 31) 27 27 (by rfl) 5 Tryd.underlying27 sizes5 w2.heap.size 8 248 248 (some ⟨w4.heap.size, 0, none⟩) 44 44 (by rfl) (by rfl) (hO9.stays hbA) (l.p.enc) 44 (hEB _ hbA) (by decide) (by rfl) (by first | omega | simp [b32_len]) (by simp [magicL, b32_len, hel']) ?_
  intro wB hOB hbutB hsB
  rw [List.take_of_length_le (by omega), splice_zeros (magicL ++ b32 l.t) l.p.enc 8 248 rfl 204 (by omega)] at hOB
  have hLB := (hL9.stays hbA).but hbutB (by have := hb1.size; have := hb2.size; omega)
  have hbB : Below w.heap.size w wB := (below_then hb9 hbA).trans (hbutB.below (by have := hb1.size; have := hb2.size; omega) (below_then hb9 hbA).size)
  have HMB : Hid (∀ u, Below wB.heap.size wB u → u.cell? ⟨w.heap.size, 36, none⟩ = some (.slice a 64 c)) := fun u hu => ((hLB.stays hu).cell 36).trans HM.out
  simp only [Act.put, List.setIfInBounds_toArray, List.set_cons_zero, List.set_cons_succ]
  clear hO9 hL9 hE9 hEB hbutB hsB hb9
  go_wp2
  refine UpT.wp_region_tail 4 (UpT.tell []) (fun _ => false) (by kernel_rfl) (by kernel_rfl) (UpT.tell_steady _ (fun p hp => by cases hp)) ?_
  simp only [List.take_succ_cons, List.take_zero]
  apply UpT.wpUp_pure
  case hw => rfl
  case hψ => rfl
  case hv => (intro wz hp; clear hp; go_simp; try (with_reducible rfl))
  simp only [Act.put, List.setIfInBounds_toArray, List.set_cons_zero, List.set_cons_succ]
  apply UpT.wpUp_pure
  case hw => rfl
  case hψ => rfl
  case hv => (intro wz hp; clear hp; go_simp; try (with_reducible rfl))
  simp only [Act.put, List.setIfInBounds_toArray, List.set_cons_zero, List.set_cons_succ]
  apply UpT.wpUp_pure
  case hw => rfl
  case hψ => rfl
  case hv => (intro wz hp; clear hp; go_simp; try (with_reducible rfl))
  simp only [Act.put, List.setIfInBounds_toArray, List.set_cons_zero, List.set_cons_succ]
  apply UpT.wpUp_pure
  case hw => rfl
  case hψ => rfl
  case hv => (intro wz hp; have hcc := HMB.out wz hp.1; clear hp; go_simp; try (with_reducible rfl))
  simp only [Act.put, List.setIfInBounds_toArray, List.set_cons_zero, List.set_cons_succ]
  refine UpT.wpUp_end ?_
  intro wC hbC hf
  clear hf
  simp only [List.drop_succ_cons, List.drop_zero]
  have hBC : Bs wC a c l.m := hB.stays (below_then hbB hbC)
  refine wpList_copy_blk (by rfl) (.tmp 34) (.tmp 36) 27 27 (by rfl) 5 Tryd.underlying27 sizes5 w2.heap.size 52 204 204 a 64 c (by rfl) (by rfl) (hOB.stays hbC) (l.m) 64 hBC (by decide) (by rfl) (by first | omega | simp [b32_len]) (by simp [magicL, b32_len, hel']) ?_
  intro wD hOD hbutD hsD
  rw [List.take_of_length_le (by omega), splice_zeros ((magicL ++ b32 l.t) ++ l.p.enc) l.m 52 204 (by simp [magicL, b32_len, hel']) 140 (by omega)] at hOD
  have hbD : Below w.heap.size w wD := (below_then hbB hbC).trans (hbutD.below (by have := hb1.size; have := hb2.size; omega) (below_then hbB hbC).size)
  have hbody := Lb.body_len hl.p hm64
  have hsplit : (((magicL ++ b32 l.t) ++ l.p.enc) ++ l.m) ++ List.replicate 140 0 = l.body ++ List.replicate 32 0 := by
    unfold Lb.body
    rw [show List.replicate 140 (0 : Int) = List.replicate 108 0 ++ List.replicate 32 0 by rw [List.replicate_append_replicate]]
    simp only [List.append_assoc]
  rw [hsplit] at hOD
  have hBD : Bs wD (some ⟨w2.heap.size, 0, none⟩) 256 l.body := by
    have h1 := Row.bs (e := 5) (w := wD) (g := w2.heap.size) (cur := l.body ++ List.replicate 32 0) hOD (rng_app (Lb.body_rng hl) (rng_zeros _)) (by rw [List.length_append, hbody]; decide)
    have h2 := (h1.upto (P := Tryd.prog) 27 5 Tryd.underlying27 sizes5 Tryd.elem27 224 (by rw [List.length_append, hbody]; omega)).2
    rw [List.take_left' hbody] at h2
    have h3 : (l.body ++ List.replicate 32 (0 : Int)).length = 256 := by rw [List.length_append, hbody]; rfl
    rwa [h3] at h2
  have hsum := sum_run _ _ _ wD hBD (hV.stays hbD) (by omega)
  rw [hbody] at hsum
  obtain ⟨us, hus⟩ : ∃ us, us = (shaOf l.body).map (Value.int .u8) := ⟨_, rfl⟩
  have hul : us.length = 32 := by rw [hus, List.length_map, shaOf_length]
  have huo : ∀ v ∈ us, v.oneCell' = true := by rw [hus]; exact int_oneCell _ _
  have HUS : Hid (us = (shaOf l.body).map (Value.int .u8)) := hus
  rw [← hus] at hsum
  have hzl : ((List.replicate 32 (0 : Int)).map (Value.int .u8)).length = 32 := rfl
  simp only [Act.put, List.setIfInBounds_toArray, List.set_cons_zero, List.set_cons_succ]
  clear hus hsplit hOB hLB HMB hBC hbutD hsD hBD hbB hmay henc
  go_wp2_with (first
    | (go_at_call 36; go_must (refine hsum.mono ?_); rintro e wE ⟨rfl, hbE⟩
       have hOE := hOD.stays hbE)
    | (refine wpList_alloc0 (by rfl) 23 (by rfl) (some 6) (by rfl) _ alloc_32z ?_; intro wF hSF hbF hsF
       have hOF := hOE.stays hbF)
    | (refine wpList_store_blk (by rfl) (.tmp 6) (.tmp 40) 23 (by rfl) _ 0 32 (by rfl) us (by rfl) size_32 hSF hul (by rw [hzl]; omega) huo us (whole_store hzl) ?_
       intro wG hSG hbutG hsG
       have hOG := hOF.but hbutG (Nat.ne_of_lt hOE.lt)))
  have hbG : Below w.heap.size w wG := by
    have h1 := below_then (below_then hbD hbE) hbF
    exact h1.trans (hbutG.below (B := w.heap.size) (by have := hbD.size; have := hbE.size; omega) h1.size)
  have hSB : ∀ u, Below wG.heap.size wG u → Bs u (some ⟨wE.heap.size, 0, none⟩) 32 (shaOf l.body) := fun u hu => by
    have h1 := hSG.stays hu
    rw [HUS.out] at h1
    exact Row.bs (e := 23) (w := u) (g := wE.heap.size) (cur := shaOf l.body) h1 (shaOf_rng _) (by rw [shaOf_length]; decide)
  clear hOD hOE hOF hSF hbutG
  refine UpT.wp_region_tail 3 (UpT.tell []) (fun _ => false) (by kernel_rfl) (by kernel_rfl) (UpT.tell_steady _ (fun p hp => by cases hp)) ?_
  simp only [List.take_succ_cons, List.take_zero]
  apply UpT.wpUp_pure
  case hw => rfl
  case hψ => rfl
  case hv => (intro wz hp; clear hp; go_simp; try (with_reducible rfl))
  simp only [Act.put, List.setIfInBounds_toArray, List.set_cons_zero, List.set_cons_succ]
  apply UpT.wpUp_pure
  case hw => rfl
  case hψ => rfl
  case hv => (intro wz hp; clear hp; go_simp; try (with_reducible rfl))
  simp only [Act.put, List.setIfInBounds_toArray, List.set_cons_zero, List.set_cons_succ]
  apply UpT.wpUp_pure
  case hw => rfl
  case hψ => rfl
  case hv => (intro wz hp; clear hp; go_simp; try (with_reducible rfl))
  simp only [Act.put, List.setIfInBounds_toArray, List.set_cons_zero, List.set_cons_succ]
  refine UpT.wpUp_end ?_
  intro wH hbH hf
  clear hf
  simp only [List.drop_succ_cons, List.drop_zero]
  refine wpList_copy_blk (by rfl) (.tmp 42) (.tmp 43) 27 27 (by rfl) 5 Tryd.underlying27 sizes5 w2.heap.size 224 32 32 (some ⟨wE.heap.size, 0, none⟩) 32 32 (by rfl) (by rfl) (hOG.stays hbH) (shaOf l.body) 32 (hSB _ hbH) (by decide) (by rfl) (by rw [shaOf_length]; omega) (by rw [List.length_map, List.length_append, hbody]; decide) ?_
  intro wI hOI hbutI hsI
  rw [List.take_of_length_le (by rw [shaOf_length]; omega), splice_zeros l.body (shaOf l.body) 224 32 hbody.symm 0 (by rw [shaOf_length])] at hOI
  have hbI : Below w.heap.size w wI := (below_then hbG hbH).trans (hbutI.below (by have := hb1.size; have := hb2.size; omega) (below_then hbG hbH).size)
  simp only [Act.put, List.setIfInBounds_toArray, List.set_cons_zero, List.set_cons_succ]
  clear hOG hSB hSG hbutI hsI
  go_wp2
  go_ret2
  refine ⟨_, rfl, by have := hb1.size; have := hb2.size; omega, ?_, hbI⟩
  rw [List.replicate_zero, List.append_nil] at hOI
  exact hOI

end Go.Proofs.YteocmmmnfbabaaaDoor
