/-
  The walk over label.Decode.
-/
import Derived.Test.YthbcphalokoknaaDoorG21
import Derived.Test.YthbcphalokoknaaDoorG19
namespace Go.Proofs.YthbcphalokoknaaDoor
set_option linter.unusedSimpArgs false
set_option linter.unusedVariables false
set_option maxRecDepth 100000
open Go.RowKit

theorem slice_from7 {P : Program} {t e : TypeId} {b off n c i : Nat} (ht : P.underlying t = some (.slice e)) (he : P.elem t = e) (hs : (P.info? e).map (·.size) = some 1) (hi : i ≤ n) (hn : n ≤ c) (hc : i < c) (K : IntKind) (w : World) :
    (Instr.slice t (.slice (some ⟨b, off, none⟩) n c) (some (.int K (i : Int))) none none).run P w = .ok (.slice (some ⟨b, off + i, none⟩) (n - i) (c - i)) w := by
  have hz := sizeOf_run hs w
  have hadd : (⟨b, off, none⟩ : Addr).add i = ⟨b, off + i, none⟩ := by unfold Addr.add; split <;> simp_all
  have hne : ¬ c = i := by omega
  rw [run_slice_l w t (some ⟨b, off, none⟩) n c (by rw [he]; exact ht) K i (by omega) (by omega), he, hz]
  simp [Result.andThen, sliced, hne, hadd]

theorem exec_load7 {P : Program} {a : Act} {o : Oper} {w : World} {t : TypeId} {x : Operand} {p : Addr} {v : Value} (ho : o.op = Op.load t x) (hx : a.eval x = .pointer (some p)) (hr : (Instr.loadAt t (.pointer (some p))).run P w = .ok v w) :
    (execOp a.eval o).run P w = .ok (.value v) w := by
  unfold execOp
  simp only [ho, hx, Sem.run_bind, Sem.run_pure, Result.andThen_ok, hr]

/-- What bytes say; are they a label, but for the hash? Decode's answer. -/
def lbOf (xs : List Int) : Lb := ⟨n32 ((xs.drop 4).take 4), decP ((xs.drop 8).take 44), (xs.drop 52).take 64⟩
def okL (xs : List Int) : Bool := (decP ((xs.drop 8).take 44)).may && (decide (xs.take 4 = magicL) && decide ((xs.drop 116).take 108 = List.replicate 108 0))
def sumL (xs : List Int) : Bool := decide (shaOf (xs.take 224) = xs.drop 224)
def decL (xs : List Int) : Lb × Nat :=
  if xs.length ≠ 256 then (Lb.zero, 3) else if sumL xs = false then (Lb.zero, 14) else if okL xs = true then (lbOf xs, 0) else (Lb.zero, 3)

theorem lbOf_ok {xs : List Int} (hr : ∀ x ∈ xs, 0 ≤ x ∧ x ≤ 255) (hl : xs.length = 256) : (lbOf xs).ok := by
  refine ⟨(take32_int (rng_take (rng_drop hr 4) 4)).2, ?_, rng_take (rng_drop hr 52) 64⟩
  exact decP_ok (rng_take (rng_drop hr 8) 44) (by simp; omega)
theorem decL_ok {xs : List Int} (hr : ∀ x ∈ xs, 0 ≤ x ∧ x ≤ 255) : (decL xs).1.ok := by
  unfold decL
  split
  · exact Lb.zero_ok
  · rename_i h
    split
    · exact Lb.zero_ok
    · split
      · exact lbOf_ok hr (by omega)
      · exact Lb.zero_ok

theorem zero_vs_len : (Lb.zero.vs none 0).length = 37 := Lb.vs_len Lb.zero_ok.p none 0
theorem out_none (w : World) (base : Nat) : Out base w (.slice none 0 0) [] := ⟨by simp, .inl ⟨rfl, rfl⟩⟩

/-- The value is a slice of its own of these bytes. -/
def ouB (base : Nat) (xs : List Int) : Value → World → Prop := fun v w => ∃ a c, v = .slice a xs.length c ∧ Out base w (.slice a xs.length c) xs
theorem ouB_steady (base : Nat) (xs : List Int) : Up.Steady (ouB base xs) := fun v w w' hb ⟨a, c, h1, h2⟩ => ⟨a, c, h1, owns_keep h2 (fun k hk => hb.block k (World.ownsRow.lt h2 k hk).2)⟩
theorem owns_but {w w' : World} {base g : Nat} {e : TypeId} {s : Nat} {v : Value} {n : Nat} {xs : List Value} (h : w.ownsRow base e s v n xs) (hb : But g w w') (hg : g < base) : w'.ownsRow base e s v n xs :=
  owns_keep h (fun k hk => hb.block k (by have := (World.ownsRow.lt h k hk).1; omega) (World.ownsRow.lt h k hk).2)

/-- What a slice expression of 256 bytes gives. -/
structure Sl256 (bb oo c : Nat) : Prop where
  to224 : ∀ u : World, (Instr.slice 27 (.slice (some ⟨bb, oo, none⟩) 256 c) none (some (.int .i64 224)) none).run Tryd.prog u = .ok (.slice (some ⟨bb, oo, none⟩) 224 c) u
  to4 : ∀ u : World, (Instr.slice 27 (.slice (some ⟨bb, oo, none⟩) 256 c) none (some (.int .i64 4)) none).run Tryd.prog u = .ok (.slice (some ⟨bb, oo, none⟩) 4 c) u
  from224 : ∀ u : World, (Instr.slice 27 (.slice (some ⟨bb, oo, none⟩) 256 c) (some (.int .i64 224)) none none).run Tryd.prog u = .ok (.slice (some ⟨bb, oo + 224, none⟩) 32 (c - 224)) u
  from4 : ∀ u : World, (Instr.slice 27 (.slice (some ⟨bb, oo, none⟩) 256 c) (some (.int .i64 4)) none none).run Tryd.prog u = .ok (.slice (some ⟨bb, oo + 4, none⟩) 252 (c - 4)) u
  root : ∀ u : World, (Instr.slice 27 (.slice (some ⟨bb, oo, none⟩) 256 c) (some (.int .i64 8)) (some (.int .i64 52)) none).run Tryd.prog u = .ok (.slice (some ⟨bb, oo + 8, none⟩) 44 (c - 8)) u
  zeros : ∀ u : World, (Instr.slice 27 (.slice (some ⟨bb, oo, none⟩) 256 c) (some (.int .i64 116)) (some (.int .i64 224)) none).run Tryd.prog u = .ok (.slice (some ⟨bb, oo + 116, none⟩) 108 (c - 116)) u
  txg : ∀ u : World, (Instr.slice 27 (.slice (some ⟨bb, oo, none⟩) 256 c) (some (.int .i64 4)) (some (.int .i64 8)) none).run Tryd.prog u = .ok (.slice (some ⟨bb, oo + 4, none⟩) 4 (c - 4)) u
  map : ∀ u : World, (Instr.slice 27 (.slice (some ⟨bb, oo, none⟩) 256 c) (some (.int .i64 52)) (some (.int .i64 116)) none).run Tryd.prog u = .ok (.slice (some ⟨bb, oo + 52, none⟩) 64 (c - 52)) u

theorem sl256 {w : World} {bb oo c : Nat} {xs : List Int} (h : Bs w (some ⟨bb, oo, none⟩) c xs) (hl : xs.length = 256) : Sl256 bb oo c := by
  have hc := h.cap
  rw [hl] at hc
  refine ⟨fun u => ?_, fun u => ?_, fun u => ?_, fun u => ?_, fun u => ?_, fun u => ?_, fun u => ?_, fun u => ?_⟩
  · exact (h.upto (P := Tryd.prog) 27 5 Tryd.underlying27 sizes5 Tryd.elem27 224 (by omega)).1 u 256 .i64 224 rfl
  · exact (h.upto (P := Tryd.prog) 27 5 Tryd.underlying27 sizes5 Tryd.elem27 4 (by omega)).1 u 256 .i64 4 rfl
  · exact slice_from7 (i := 224) Tryd.underlying27 Tryd.elem27 sizes5 (by omega) hc (by omega) .i64 u
  · exact slice_from7 (i := 4) Tryd.underlying27 Tryd.elem27 sizes5 (by omega) hc (by omega) .i64 u
  · exact slice_mid (i := 8) (m := 44) Tryd.underlying27 Tryd.elem27 sizes5 (by omega) (by omega) .i64 .i64 u
  · exact slice_mid (i := 116) (m := 108) Tryd.underlying27 Tryd.elem27 sizes5 (by omega) (by omega) .i64 .i64 u
  · exact slice_mid (i := 4) (m := 4) Tryd.underlying27 Tryd.elem27 sizes5 (by omega) (by omega) .i64 .i64 u
  · exact slice_mid (i := 52) (m := 64) Tryd.underlying27 Tryd.elem27 sizes5 (by omega) (by omega) .i64 .i64 u

theorem magic_toList : (strOfNums magicL).toList = [67, 65, 85, 84] := by rw [ByteArray.toList_eq]; kernel_rfl
theorem magic_str : strOfNums magicL = ⟨#[67, 65, 85, 84]⟩ := by kernel_rfl

set_option maxHeartbeats 4000000 in
theorem ldec_len (a : Option Addr) (c n : Nat) (w : World) (hn : n ≠ 256) (hn1 : n ≤ 9223372036854775807) :
    Calls Tryd.prog 13 #[.slice a n c] w fun e w' => e = .returned (.tuple #[.agg (Lb.zero.vs none 0).toArray, .int .i64 3]) ∧ Below w.heap.size w w' := by
  have h256 : ((n : Int) == 256) = false := by simp; omega
  have hzl := zero_vs_len
  obtain ⟨zs, hzs⟩ : ∃ zs, zs = Lb.zero.vs none 0 := ⟨_, rfl⟩
  have HBU : Hid (∀ w : World, (Instr.build 29 #[]).run Tryd.prog w = .ok (.agg zs.toArray) w) := by rw [hzs]; exact build_label0
  have HAL : Hid (∀ w : World, (Instr.alloc 29 true (.tuple #[])).run Tryd.prog w = .ok (.pointer (some ⟨w.heap.size, 0, none⟩)) (w.alloc (.cells zs.toArray 29))) := by rw [hzs]; exact alloc_label0
  have hzo : ∀ v ∈ zs, v.oneCell' = true := by rw [hzs]; exact Lb.vs_one _ _ _
  rw [← hzs] at hzl ⊢
  clear hzs hn
  go_enter Tryd.func13, Tryd.ntmps13
  go_wp2_with (first
    | (refine wpList_alloc0 (by rfl) 29 (by rfl) (some 2) (by rfl) _ HAL.out ?_; intro w1 hR1 hb1 hs1)
    | (refine wpList_build0 (by rfl) 29 (by rfl) _ HBU.out ?_)
    | (refine wpList_store_blk (by rfl) (.tmp 2) (.tmp 13) 29 (by rfl) _ 0 37 (by rfl) zs (by rfl) size_label hR1 hzl (by omega) hzo _ (whole_store hzl) ?_
       intro w2 hR2 hbut2 hs2))
  exact bodyPost_ret_blk2 rfl rfl (by rfl) (by rfl) agg_label size_label hR2 hzl ⟨rfl, hb1.trans (hbut2.below (Nat.le_refl _) hb1.size)⟩

theorem alloc_32y (w : World) : (Instr.alloc 23 true (.tuple #[])).run Tryd.prog w = .ok (.pointer (some ⟨w.heap.size, 0, none⟩)) (w.alloc (.cells ((List.replicate 32 (0 : Int)).map (Value.int .u8)).toArray 23)) := by kernel_rfl

set_option maxHeartbeats 20000000 in
theorem ldec_sum (bb oo c : Nat) (xs : List Int) (w : World) (hl : xs.length = 256) (hB : Bs w (some ⟨bb, oo, none⟩) c xs) (hV : Vars w) (hsm : sumL xs = false) :
    Calls Tryd.prog 13 #[.slice (some ⟨bb, oo, none⟩) 256 c] w fun e w' => e = .returned (.tuple #[.agg (Lb.zero.vs none 0).toArray, .int .i64 14]) ∧ Below w.heap.size w w' := by
  have hzl := zero_vs_len
  obtain ⟨zs, hzs⟩ : ∃ zs, zs = Lb.zero.vs none 0 := ⟨_, rfl⟩
  have HBU : Hid (∀ w : World, (Instr.build 29 #[]).run Tryd.prog w = .ok (.agg zs.toArray) w) := by rw [hzs]; exact build_label0
  have HAL : Hid (∀ w : World, (Instr.alloc 29 true (.tuple #[])).run Tryd.prog w = .ok (.pointer (some ⟨w.heap.size, 0, none⟩)) (w.alloc (.cells zs.toArray 29))) := by rw [hzs]; exact alloc_label0
  have hzo : ∀ v ∈ zs, v.oneCell' = true := by rw [hzs]; exact Lb.vs_one _ _ _
  have hcap := hB.cap
  rw [hl] at hcap
  have ht224 : (xs.take 224).length = 224 := by simp; omega
  have hd224 : (xs.drop 224).length = 32 := by simp; omega
  have hsl := sl256 hB hl
  have s1 := hsl.to224
  have s2 := hsl.from224
  have hBt : ∀ u, Bs u (some ⟨bb, oo, none⟩) c xs → Bs u (some ⟨bb, oo, none⟩) c (xs.take 224) := fun u hu => (hu.upto (P := Tryd.prog) 27 5 Tryd.underlying27 sizes5 Tryd.elem27 224 (by omega)).2
  have hBd : ∀ u, Bs u (some ⟨bb, oo, none⟩) c xs → Bs u (some ⟨bb, oo + 224, none⟩) (c - 224) (xs.drop 224) := fun u hu => by
    have := hu.mid 224 32 (by omega) (by omega)
    rwa [List.take_of_length_le (by omega)] at this
  have hsum : ∀ u, Bs u (some ⟨bb, oo, none⟩) c xs → Vars u → Calls Tryd.prog 36 #[.slice (some ⟨bb, oo, none⟩) 224 c] u fun e w' => e = .returned (.agg ((shaOf (xs.take 224)).map (Value.int .u8)).toArray) ∧ Below u.heap.size u w' := fun u hu hv => by
    have := sum_run _ _ _ u (hBt u hu) hv (by omega)
    rwa [ht224] at this
  obtain ⟨us, hus⟩ : ∃ us, us = (shaOf (xs.take 224)).map (Value.int .u8) := ⟨_, rfl⟩
  have hul : us.length = 32 := by rw [hus, List.length_map, shaOf_length]
  have huo : ∀ v ∈ us, v.oneCell' = true := by rw [hus]; exact int_oneCell _ _
  have HUS : Hid (us = (shaOf (xs.take 224)).map (Value.int .u8)) := hus
  rw [← hus] at hsum
  have h32 : ((List.replicate 32 (0 : Int)).map (Value.int .u8)).length = 32 := rfl
  rw [← hzs] at hzl ⊢
  clear hzs hus hBt
  go_enter Tryd.func13, Tryd.ntmps13
  go_wp2_with (first
    | (refine wpList_alloc0 (by rfl) 29 (by rfl) (some 2) (by rfl) _ HAL.out ?_; intro w1 hR1 hb1 hs1
       have hsum1 := hsum w1 (hB.stays hb1) (hV.stays hb1))
    | (go_at_call 36; go_must (refine hsum1.mono ?_); rintro e w2 ⟨rfl, hb2⟩
       have hR2 := hR1.stays hb2)
    | (refine wpList_alloc0 (by rfl) 23 (by rfl) (some 4) (by rfl) _ (fun w => alloc_32y w) ?_; intro w3 hS3 hb3 hs3
       have hR3 := hR2.stays hb3)
    | (refine wpList_store_blk (by rfl) (.tmp 4) (.tmp 16) 23 (by rfl) _ 0 32 (by rfl) us (by rfl) size_32 hS3 hul (by rw [h32]; omega) huo us (whole_store h32) ?_
       intro w4 hS4 hbut4 hs4
       have hR4 := hR3.but hbut4 (Nat.ne_of_lt hR2.lt)))
  have hb4 : Below w.heap.size w w4 := by
    have h1 := below_then (below_then hb1 hb2) hb3
    exact h1.trans (hbut4.below (B := w.heap.size) (by have := hb1.size; have := hb2.size; omega) h1.size)
  have heq : ∀ u, Below w4.heap.size w4 u → Calls Tryd.prog 41 #[.slice (some ⟨w2.heap.size, 0, none⟩) 32 32, .slice (some ⟨bb, oo + 224, none⟩) 32 (c - 224)] u fun e w' => e = .returned (.bool (sumL xs)) ∧ Below u.heap.size u w' := fun u hu => by
    have h1 := hS4.stays hu
    rw [HUS.out] at h1
    have h2 : Bs u (some ⟨w2.heap.size, 0, none⟩) 32 (shaOf (xs.take 224)) := Row.bs (e := 23) (w := u) (g := w2.heap.size) (cur := shaOf (xs.take 224)) h1 (shaOf_rng _) (by rw [shaOf_length]; decide)
    refine (equal_run _ _ _ _ 32 32 _ _ u (shaOf_length _).symm hd224.symm h2 (hBd u (hB.stays (below_then hb4 hu)))).mono ?_
    rintro e w' ⟨rfl, rfl⟩
    exact ⟨rfl, Below.refl _ _⟩
  rw [hsm] at heq
  clear hsum hsum1 hR1 hR2 hR3 hS3 hbut4 HUS hBd
  refine UpT.wp_region_tail 4 (UpT.tell [(3, isV (.bool false))]) (fun _ => false) (by kernel_rfl) (by kernel_rfl) (UpT.tell_steady _ (by
    intro p hp
    simp only [List.mem_cons, List.not_mem_nil, or_false] at hp
    rcases hp with rfl <;> first | exact isV_steady _ | exact slB_steady _ _)) ?_
  simp only [List.take_succ_cons, List.take_zero]
  apply UpT.wpUp_pure
  case hw => rfl
  case hψ => rfl
  case hv => (intro wz hp; clear hp; go_simp; try (with_reducible rfl))
  simp only [Act.put, List.setIfInBounds_toArray, List.set_cons_zero, List.set_cons_succ]
  apply UpT.wpUp_pure
  case hw => rfl
  case hψ => rfl
  case hv => (intro wz hp; clear hp; go_simp; try (with_reducible rfl))
  simp only [Act.put, List.setIfInBounds_toArray, List.set_cons_zero, List.set_cons_succ]
  apply UpT.wpUp_pure
  case hw => rfl
  case hψ => rfl
  case hv => (intro wz hp; clear hp; go_simp; try (with_reducible rfl))
  simp only [Act.put, List.setIfInBounds_toArray, List.set_cons_zero, List.set_cons_succ]
  refine UpT.wpUp_call _ 41 #[.slice (some ⟨w2.heap.size, 0, none⟩) 32 32, .slice (some ⟨bb, oo + 224, none⟩) 32 (c - 224)] (by rfl) (by rfl) (by rfl) (fun wz => by go_simp) (fun wz hp => calls_isV (heq wz hp.1)) ?_
  rintro v ⟨u, _, hf⟩
  obtain rfl := hf.of 3 v _ rfl rfl
  clear hf
  simp only [Act.put, List.setIfInBounds_toArray, List.set_cons_zero, List.set_cons_succ]
  refine UpT.wpUp_end ?_
  intro w5 hb5 hf
  clear hf
  simp only [List.drop_succ_cons, List.drop_zero]
  have hR5 := hR4.stays hb5
  have hb5' : Below w.heap.size w w5 := below_then hb4 hb5
  clear hR4 hS4 heq hb5
  go_wp2_with (first
    | (refine wpList_build0 (by rfl) 29 (by rfl) _ HBU.out ?_)
    | (refine wpList_store_blk (by rfl) (.tmp 2) (.tmp 22) 29 (by rfl) _ 0 37 (by rfl) zs (by rfl) size_label hR5 hzl (by omega) hzo _ (whole_store hzl) ?_
       intro wZ hRZ hbutZ hsZ))
  exact bodyPost_ret_blk2 rfl rfl (by rfl) (by rfl) agg_label size_label hRZ hzl ⟨rfl, hb5'.trans (hbutZ.below (Nat.le_refl _) hb5'.size)⟩

set_option maxHeartbeats 20000000 in
theorem ldec_form1 (bb oo c : Nat) (xs : List Int) (w : World) (hl : xs.length = 256) (hB : Bs w (some ⟨bb, oo, none⟩) c xs) (hV : Vars w) (hsm : sumL xs = true) (hmy : (decP ((xs.drop 8).take 44)).may = false) :
    Calls Tryd.prog 13 #[.slice (some ⟨bb, oo, none⟩) 256 c] w fun e w' => e = .returned (.tuple #[.agg (Lb.zero.vs none 0).toArray, .int .i64 3]) ∧ Below w.heap.size w w' := by
  have hzl := zero_vs_len
  obtain ⟨zs, hzs⟩ : ∃ zs, zs = Lb.zero.vs none 0 := ⟨_, rfl⟩
  have HBU : Hid (∀ w : World, (Instr.build 29 #[]).run Tryd.prog w = .ok (.agg zs.toArray) w) := by rw [hzs]; exact build_label0
  have HAL : Hid (∀ w : World, (Instr.alloc 29 true (.tuple #[])).run Tryd.prog w = .ok (.pointer (some ⟨w.heap.size, 0, none⟩)) (w.alloc (.cells zs.toArray 29))) := by rw [hzs]; exact alloc_label0
  have hzo : ∀ v ∈ zs, v.oneCell' = true := by rw [hzs]; exact Lb.vs_one _ _ _
  have hcap := hB.cap
  rw [hl] at hcap
  have ht224 : (xs.take 224).length = 224 := by simp; omega
  have hd224 : (xs.drop 224).length = 32 := by simp; omega
  have hsl := sl256 hB hl
  have s1 := hsl.to224
  have s2 := hsl.from224
  have hBt : ∀ u, Bs u (some ⟨bb, oo, none⟩) c xs → Bs u (some ⟨bb, oo, none⟩) c (xs.take 224) := fun u hu => (hu.upto (P := Tryd.prog) 27 5 Tryd.underlying27 sizes5 Tryd.elem27 224 (by omega)).2
  have hBd : ∀ u, Bs u (some ⟨bb, oo, none⟩) c xs → Bs u (some ⟨bb, oo + 224, none⟩) (c - 224) (xs.drop 224) := fun u hu => by
    have := hu.mid 224 32 (by omega) (by omega)
    rwa [List.take_of_length_le (by omega)] at this
  have hsum : ∀ u, Bs u (some ⟨bb, oo, none⟩) c xs → Vars u → Calls Tryd.prog 36 #[.slice (some ⟨bb, oo, none⟩) 224 c] u fun e w' => e = .returned (.agg ((shaOf (xs.take 224)).map (Value.int .u8)).toArray) ∧ Below u.heap.size u w' := fun u hu hv => by
    have := sum_run _ _ _ u (hBt u hu) hv (by omega)
    rwa [ht224] at this
  obtain ⟨us, hus⟩ : ∃ us, us = (shaOf (xs.take 224)).map (Value.int .u8) := ⟨_, rfl⟩
  have hul : us.length = 32 := by rw [hus, List.length_map, shaOf_length]
  have huo : ∀ v ∈ us, v.oneCell' = true := by rw [hus]; exact int_oneCell _ _
  have HUS : Hid (us = (shaOf (xs.take 224)).map (Value.int .u8)) := hus
  rw [← hus] at hsum
  have h32 : ((List.replicate 32 (0 : Int)).map (Value.int .u8)).length = 32 := rfl
  rw [← hzs] at hzl ⊢
  clear hzs hus hBt
  go_enter Tryd.func13, Tryd.ntmps13
  go_wp2_with (first
    | (refine wpList_alloc0 (by rfl) 29 (by rfl) (some 2) (by rfl) _ HAL.out ?_; intro w1 hR1 hb1 hs1
       have hsum1 := hsum w1 (hB.stays hb1) (hV.stays hb1))
    | (go_at_call 36; go_must (refine hsum1.mono ?_); rintro e w2 ⟨rfl, hb2⟩
       have hR2 := hR1.stays hb2)
    | (refine wpList_alloc0 (by rfl) 23 (by rfl) (some 4) (by rfl) _ (fun w => alloc_32y w) ?_; intro w3 hS3 hb3 hs3
       have hR3 := hR2.stays hb3)
    | (refine wpList_store_blk (by rfl) (.tmp 4) (.tmp 16) 23 (by rfl) _ 0 32 (by rfl) us (by rfl) size_32 hS3 hul (by rw [h32]; omega) huo us (whole_store h32) ?_
       intro w4 hS4 hbut4 hs4
       have hR4 := hR3.but hbut4 (Nat.ne_of_lt hR2.lt)))
  have hb4 : Below w.heap.size w w4 := by
    have h1 := below_then (below_then hb1 hb2) hb3
    exact h1.trans (hbut4.below (B := w.heap.size) (by have := hb1.size; have := hb2.size; omega) h1.size)
  have heq : ∀ u, Below w4.heap.size w4 u → Calls Tryd.prog 41 #[.slice (some ⟨w2.heap.size, 0, none⟩) 32 32, .slice (some ⟨bb, oo + 224, none⟩) 32 (c - 224)] u fun e w' => e = .returned (.bool (sumL xs)) ∧ Below u.heap.size u w' := fun u hu => by
    have h1 := hS4.stays hu
    rw [HUS.out] at h1
    have h2 : Bs u (some ⟨w2.heap.size, 0, none⟩) 32 (shaOf (xs.take 224)) := Row.bs (e := 23) (w := u) (g := w2.heap.size) (cur := shaOf (xs.take 224)) h1 (shaOf_rng _) (by rw [shaOf_length]; decide)
    refine (equal_run _ _ _ _ 32 32 _ _ u (shaOf_length _).symm hd224.symm h2 (hBd u (hB.stays (below_then hb4 hu)))).mono ?_
    rintro e w' ⟨rfl, rfl⟩
    exact ⟨rfl, Below.refl _ _⟩
  rw [hsm] at heq
  clear hsum hsum1 hR1 hR2 hR3 hS3 hbut4 HUS hBd
  refine UpT.wp_region_tail 4 (UpT.tell [(3, isV (.bool true))]) (fun _ => false) (by kernel_rfl) (by kernel_rfl) (UpT.tell_steady _ (by
    intro p hp
    simp only [List.mem_cons, List.not_mem_nil, or_false] at hp
    rcases hp with rfl <;> first | exact isV_steady _ | exact slB_steady _ _)) ?_
  simp only [List.take_succ_cons, List.take_zero]
  apply UpT.wpUp_pure
  case hw => rfl
  case hψ => rfl
  case hv => (intro wz hp; clear hp; go_simp; try (with_reducible rfl))
  simp only [Act.put, List.setIfInBounds_toArray, List.set_cons_zero, List.set_cons_succ]
  apply UpT.wpUp_pure
  case hw => rfl
  case hψ => rfl
  case hv => (intro wz hp; clear hp; go_simp; try (with_reducible rfl))
  simp only [Act.put, List.setIfInBounds_toArray, List.set_cons_zero, List.set_cons_succ]
  apply UpT.wpUp_pure
  case hw => rfl
  case hψ => rfl
  case hv => (intro wz hp; clear hp; go_simp; try (with_reducible rfl))
  simp only [Act.put, List.setIfInBounds_toArray, List.set_cons_zero, List.set_cons_succ]
  refine UpT.wpUp_call _ 41 #[.slice (some ⟨w2.heap.size, 0, none⟩) 32 32, .slice (some ⟨bb, oo + 224, none⟩) 32 (c - 224)] (by rfl) (by rfl) (by rfl) (fun wz => by go_simp) (fun wz hp => calls_isV (heq wz hp.1)) ?_
  rintro v ⟨u, _, hf⟩
  obtain rfl := hf.of 3 v _ rfl rfl
  clear hf
  simp only [Act.put, List.setIfInBounds_toArray, List.set_cons_zero, List.set_cons_succ]
  refine UpT.wpUp_end ?_
  intro w5 hb5 hf
  clear hf
  simp only [List.drop_succ_cons, List.drop_zero]
  have hR5 := hR4.stays hb5
  have hb5' : Below w.heap.size w w5 := below_then hb4 hb5
  clear hR4 hS4 heq hb5
  have s3 := hsl.root
  have s4 := hsl.to4
  have s5 := hsl.zeros
  have s6 := hsl.txg
  have s7 := hsl.map
  have hrl : ((xs.drop 8).take 44).length = 44 := by simp; omega
  have hdec : ∀ u, Bs u (some ⟨bb, oo, none⟩) c xs → Calls Tryd.prog 42 #[.slice (some ⟨bb, oo + 8, none⟩) 44 (c - 8)] u fun e w' => e = .returned (.tuple #[.agg Pt.zero.vs.toArray, .int .i64 3]) ∧ Below u.heap.size u w' := fun u hu => by
    have h1 := decode_run (some ⟨bb, oo + 8, none⟩) (c - 8) 44 _ u hrl.symm (hu.mid 8 44 (by omega) (by omega))
    have h2 : decodeL ((xs.drop 8).take 44) = (Pt.zero, 3) := by
      unfold decodeL
      rw [if_neg (by omega), if_neg (by omega)]
      simp [hmy]
    rw [h2] at h1
    exact h1
  obtain ⟨ps, hps⟩ : ∃ ps, ps = Pt.zero.vs := ⟨_, rfl⟩
  have hpsl : ps.length = 35 := by rw [hps]; exact Pt.vs_len Pt.zero_ok
  have hpso : ∀ v ∈ ps, v.oneCell' = true := by rw [hps]; exact Pt.vs_one _
  rw [← hps] at hdec
  have hzp : Pt.zero.vs.length = 35 := Pt.vs_len Pt.zero_ok
  have hB5 : Bs w5 (some ⟨bb, oo, none⟩) c xs := hB.stays hb5'
  have hdec5 := hdec w5 hB5
  have HPS : Hid (ps = Pt.zero.vs) := hps
  clear hps hdec
  go_wp2_with (first
    | (go_at_call 42; go_must (refine hdec5.mono ?_); rintro e w6 ⟨rfl, hb6⟩
       have hR6 := hR5.stays hb6)
    | (refine wpList_alloc0 (by rfl) 26 (by rfl) (some 5) (by rfl) Pt.zero.vs alloc_ptr0 ?_; intro w7 hP7 hb7 hs7
       have hR7 := hR6.stays hb7)
    | (refine wpList_store_blk (by rfl) (.tmp 5) (.tmp 27) 26 (by rfl) _ 0 35 (by rfl) ps (by rfl) size_ptr hP7 hpsl (by omega) hpso ps (whole_store hzp) ?_
       intro w8 hP8 hbut8 hs8
       have hR8 := hR7.but hbut8 (Nat.ne_of_lt hR6.lt)
       have hb8 : Below w.heap.size w w8 := (below_then (below_then hb5' hb6) hb7).trans (hbut8.below (B := w.heap.size) (by have := hb5'.size; have := hb6.size; omega) (below_then (below_then hb5' hb6) hb7).size)
       have hB8 := hB.stays hb8)
    | (refine wpList_build0 (by rfl) 29 (by rfl) _ HBU.out ?_)
    | (refine wpList_store_blk (by rfl) (.tmp 2) (.tmp 43) 29 (by rfl) _ 0 37 (by rfl) zs (by rfl) size_label hR8 hzl (by omega) hzo _ (whole_store hzl) ?_
       intro wZ hRZ hbutZ hsZ))
  exact bodyPost_ret_blk2 rfl rfl (by rfl) (by rfl) agg_label size_label hRZ hzl ⟨rfl, hb8.trans (hbutZ.below (Nat.le_refl _) hb8.size)⟩

set_option maxHeartbeats 20000000 in
theorem ldec_form2 (bb oo c : Nat) (xs : List Int) (w : World) (hl : xs.length = 256) (hB : Bs w (some ⟨bb, oo, none⟩) c xs) (hV : Vars w) (hsm : sumL xs = true) (hmy : (decP ((xs.drop 8).take 44)).may = true) (hmg : decide (xs.take 4 = magicL) = false) :
    Calls Tryd.prog 13 #[.slice (some ⟨bb, oo, none⟩) 256 c] w fun e w' => e = .returned (.tuple #[.agg (Lb.zero.vs none 0).toArray, .int .i64 3]) ∧ Below w.heap.size w w' := by
  have hmg' : ((strOfNums (xs.take 4)).toList == ([67, 65, 85, 84] : List UInt8)) = false := by
    rw [← magic_toList, str_beq (rng_take hB.rng 4) magic_rng]; exact hmg
  have hzl := zero_vs_len
  obtain ⟨zs, hzs⟩ : ∃ zs, zs = Lb.zero.vs none 0 := ⟨_, rfl⟩
  have HBU : Hid (∀ w : World, (Instr.build 29 #[]).run Tryd.prog w = .ok (.agg zs.toArray) w) := by rw [hzs]; exact build_label0
  have HAL : Hid (∀ w : World, (Instr.alloc 29 true (.tuple #[])).run Tryd.prog w = .ok (.pointer (some ⟨w.heap.size, 0, none⟩)) (w.alloc (.cells zs.toArray 29))) := by rw [hzs]; exact alloc_label0
  have hzo : ∀ v ∈ zs, v.oneCell' = true := by rw [hzs]; exact Lb.vs_one _ _ _
  have hcap := hB.cap
  rw [hl] at hcap
  have ht224 : (xs.take 224).length = 224 := by simp; omega
  have hd224 : (xs.drop 224).length = 32 := by simp; omega
  have hsl := sl256 hB hl
  have s1 := hsl.to224
  have s2 := hsl.from224
  have hBt : ∀ u, Bs u (some ⟨bb, oo, none⟩) c xs → Bs u (some ⟨bb, oo, none⟩) c (xs.take 224) := fun u hu => (hu.upto (P := Tryd.prog) 27 5 Tryd.underlying27 sizes5 Tryd.elem27 224 (by omega)).2
  have hBd : ∀ u, Bs u (some ⟨bb, oo, none⟩) c xs → Bs u (some ⟨bb, oo + 224, none⟩) (c - 224) (xs.drop 224) := fun u hu => by
    have := hu.mid 224 32 (by omega) (by omega)
    rwa [List.take_of_length_le (by omega)] at this
  have hsum : ∀ u, Bs u (some ⟨bb, oo, none⟩) c xs → Vars u → Calls Tryd.prog 36 #[.slice (some ⟨bb, oo, none⟩) 224 c] u fun e w' => e = .returned (.agg ((shaOf (xs.take 224)).map (Value.int .u8)).toArray) ∧ Below u.heap.size u w' := fun u hu hv => by
    have := sum_run _ _ _ u (hBt u hu) hv (by omega)
    rwa [ht224] at this
  obtain ⟨us, hus⟩ : ∃ us, us = (shaOf (xs.take 224)).map (Value.int .u8) := ⟨_, rfl⟩
  have hul : us.length = 32 := by rw [hus, List.length_map, shaOf_length]
  have huo : ∀ v ∈ us, v.oneCell' = true := by rw [hus]; exact int_oneCell _ _
  have HUS : Hid (us = (shaOf (xs.take 224)).map (Value.int .u8)) := hus
  rw [← hus] at hsum
  have h32 : ((List.replicate 32 (0 : Int)).map (Value.int .u8)).length = 32 := rfl
  rw [← hzs] at hzl ⊢
  clear hzs hus hBt
  go_enter Tryd.func13, Tryd.ntmps13
  go_wp2_with (first
    | (refine wpList_alloc0 (by rfl) 29 (by rfl) (some 2) (by rfl) _ HAL.out ?_; intro w1 hR1 hb1 hs1
       have hsum1 := hsum w1 (hB.stays hb1) (hV.stays hb1))
    | (go_at_call 36; go_must (refine hsum1.mono ?_); rintro e w2 ⟨rfl, hb2⟩
       have hR2 := hR1.stays hb2)
    | (refine wpList_alloc0 (by rfl) 23 (by rfl) (some 4) (by rfl) _ (fun w => alloc_32y w) ?_; intro w3 hS3 hb3 hs3
       have hR3 := hR2.stays hb3)
    | (refine wpList_store_blk (by rfl) (.tmp 4) (.tmp 16) 23 (by rfl) _ 0 32 (by rfl) us (by rfl) size_32 hS3 hul (by rw [h32]; omega) huo us (whole_store h32) ?_
       intro w4 hS4 hbut4 hs4
       have hR4 := hR3.but hbut4 (Nat.ne_of_lt hR2.lt)))
  have hb4 : Below w.heap.size w w4 := by
    have h1 := below_then (below_then hb1 hb2) hb3
    exact h1.trans (hbut4.below (B := w.heap.size) (by have := hb1.size; have := hb2.size; omega) h1.size)
  have heq : ∀ u, Below w4.heap.size w4 u → Calls Tryd.prog 41 #[.slice (some ⟨w2.heap.size, 0, none⟩) 32 32, .slice (some ⟨bb, oo + 224, none⟩) 32 (c - 224)] u fun e w' => e = .returned (.bool (sumL xs)) ∧ Below u.heap.size u w' := fun u hu => by
    have h1 := hS4.stays hu
    rw [HUS.out] at h1
    have h2 : Bs u (some ⟨w2.heap.size, 0, none⟩) 32 (shaOf (xs.take 224)) := Row.bs (e := 23) (w := u) (g := w2.heap.size) (cur := shaOf (xs.take 224)) h1 (shaOf_rng _) (by rw [shaOf_length]; decide)
    refine (equal_run _ _ _ _ 32 32 _ _ u (shaOf_length _).symm hd224.symm h2 (hBd u (hB.stays (below_then hb4 hu)))).mono ?_
    rintro e w' ⟨rfl, rfl⟩
    exact ⟨rfl, Below.refl _ _⟩
  rw [hsm] at heq
  clear hsum hsum1 hR1 hR2 hR3 hS3 hbut4 HUS hBd
  refine UpT.wp_region_tail 4 (UpT.tell [(3, isV (.bool true))]) (fun _ => false) (by kernel_rfl) (by kernel_rfl) (UpT.tell_steady _ (by
    intro p hp
    simp only [List.mem_cons, List.not_mem_nil, or_false] at hp
    rcases hp with rfl <;> first | exact isV_steady _ | exact slB_steady _ _)) ?_
  simp only [List.take_succ_cons, List.take_zero]
  apply UpT.wpUp_pure
  case hw => rfl
  case hψ => rfl
  case hv => (intro wz hp; clear hp; go_simp; try (with_reducible rfl))
  simp only [Act.put, List.setIfInBounds_toArray, List.set_cons_zero, List.set_cons_succ]
  apply UpT.wpUp_pure
  case hw => rfl
  case hψ => rfl
  case hv => (intro wz hp; clear hp; go_simp; try (with_reducible rfl))
  simp only [Act.put, List.setIfInBounds_toArray, List.set_cons_zero, List.set_cons_succ]
  apply UpT.wpUp_pure
  case hw => rfl
  case hψ => rfl
  case hv => (intro wz hp; clear hp; go_simp; try (with_reducible rfl))
  simp only [Act.put, List.setIfInBounds_toArray, List.set_cons_zero, List.set_cons_succ]
  refine UpT.wpUp_call _ 41 #[.slice (some ⟨w2.heap.size, 0, none⟩) 32 32, .slice (some ⟨bb, oo + 224, none⟩) 32 (c - 224)] (by rfl) (by rfl) (by rfl) (fun wz => by go_simp) (fun wz hp => calls_isV (heq wz hp.1)) ?_
  rintro v ⟨u, _, hf⟩
  obtain rfl := hf.of 3 v _ rfl rfl
  clear hf
  simp only [Act.put, List.setIfInBounds_toArray, List.set_cons_zero, List.set_cons_succ]
  refine UpT.wpUp_end ?_
  intro w5 hb5 hf
  clear hf
  simp only [List.drop_succ_cons, List.drop_zero]
  have hR5 := hR4.stays hb5
  have hb5' : Below w.heap.size w w5 := below_then hb4 hb5
  clear hR4 hS4 heq hb5
  have s3 := hsl.root
  have s4 := hsl.to4
  have s5 := hsl.zeros
  have s6 := hsl.txg
  have s7 := hsl.map
  have hrl : ((xs.drop 8).take 44).length = 44 := by simp; omega
  have hdec : ∀ u, Bs u (some ⟨bb, oo, none⟩) c xs → Calls Tryd.prog 42 #[.slice (some ⟨bb, oo + 8, none⟩) 44 (c - 8)] u fun e w' => e = .returned (.tuple #[.agg (decP ((xs.drop 8).take 44)).vs.toArray, .int .i64 0]) ∧ Below u.heap.size u w' := fun u hu => by
    have h1 := decode_run (some ⟨bb, oo + 8, none⟩) (c - 8) 44 _ u hrl.symm (hu.mid 8 44 (by omega) (by omega))
    have h2 : decodeL ((xs.drop 8).take 44) = ((decP ((xs.drop 8).take 44)), 0) := by
      unfold decodeL
      rw [if_neg (by omega), if_neg (by omega)]
      simp [hmy]
    rw [h2] at h1
    exact h1
  obtain ⟨ps, hps⟩ : ∃ ps, ps = (decP ((xs.drop 8).take 44)).vs := ⟨_, rfl⟩
  have hpsl : ps.length = 35 := by rw [hps]; exact Pt.vs_len (decP_ok (rng_take (rng_drop hB.rng 8) 44) (by simp; omega))
  have hpso : ∀ v ∈ ps, v.oneCell' = true := by rw [hps]; exact Pt.vs_one _
  rw [← hps] at hdec
  have hzp : Pt.zero.vs.length = 35 := Pt.vs_len Pt.zero_ok
  have hB5 : Bs w5 (some ⟨bb, oo, none⟩) c xs := hB.stays hb5'
  have hdec5 := hdec w5 hB5
  have HPS : Hid (ps = (decP ((xs.drop 8).take 44)).vs) := hps
  clear hps hdec
  go_wp2_with (first
    | (go_at_call 42; go_must (refine hdec5.mono ?_); rintro e w6 ⟨rfl, hb6⟩
       have hR6 := hR5.stays hb6)
    | (refine wpList_alloc0 (by rfl) 26 (by rfl) (some 5) (by rfl) Pt.zero.vs alloc_ptr0 ?_; intro w7 hP7 hb7 hs7
       have hR7 := hR6.stays hb7)
    | (refine wpList_store_blk (by rfl) (.tmp 5) (.tmp 27) 26 (by rfl) _ 0 35 (by rfl) ps (by rfl) size_ptr hP7 hpsl (by omega) hpso ps (whole_store hzp) ?_
       intro w8 hP8 hbut8 hs8
       have hR8 := hR7.but hbut8 (Nat.ne_of_lt hR6.lt)
       have hb8 : Below w.heap.size w w8 := (below_then (below_then hb5' hb6) hb7).trans (hbut8.below (B := w.heap.size) (by have := hb5'.size; have := hb6.size; omega) (below_then (below_then hb5' hb6) hb7).size)
       have hB8 := hB.stays hb8
       have hcv : (convert 27 9 (.slice (some ⟨bb, oo, none⟩) 4 c)).run Tryd.prog w8 = .ok (.string (strOfNums (xs.take 4))) w8 := (hB8.upto (P := Tryd.prog) 27 5 Tryd.underlying27 sizes5 Tryd.elem27 4 (by omega)).2.conv (P := Tryd.prog) 4 (by simp; omega) 27 5 Tryd.underlying27 Tryd.underlying5 9 Tryd.underlying9)
    | (refine wpList_build0 (by rfl) 29 (by rfl) _ HBU.out ?_)
    | (refine wpList_store_blk (by rfl) (.tmp 2) (.tmp 43) 29 (by rfl) _ 0 37 (by rfl) zs (by rfl) size_label hR8 hzl (by omega) hzo _ (whole_store hzl) ?_
       intro wZ hRZ hbutZ hsZ))
  exact bodyPost_ret_blk2 rfl rfl (by rfl) (by rfl) agg_label size_label hRZ hzl ⟨rfl, hb8.trans (hbutZ.below (Nat.le_refl _) hb8.size)⟩

set_option maxHeartbeats 20000000 in
theorem ldec_form3 (bb oo c : Nat) (xs : List Int) (w : World) (hl : xs.length = 256) (hB : Bs w (some ⟨bb, oo, none⟩) c xs) (hV : Vars w) (hsm : sumL xs = true) (hmy : (decP ((xs.drop 8).take 44)).may = true) (hmg : decide (xs.take 4 = magicL) = true) (hzz : decide ((xs.drop 116).take 108 = List.replicate 108 0) = false) :
    Calls Tryd.prog 13 #[.slice (some ⟨bb, oo, none⟩) 256 c] w fun e w' => e = .returned (.tuple #[.agg (Lb.zero.vs none 0).toArray, .int .i64 3]) ∧ Below w.heap.size w w' := by
  have hzl := zero_vs_len
  obtain ⟨zs, hzs⟩ : ∃ zs, zs = Lb.zero.vs none 0 := ⟨_, rfl⟩
  have HBU : Hid (∀ w : World, (Instr.build 29 #[]).run Tryd.prog w = .ok (.agg zs.toArray) w) := by rw [hzs]; exact build_label0
  have HAL : Hid (∀ w : World, (Instr.alloc 29 true (.tuple #[])).run Tryd.prog w = .ok (.pointer (some ⟨w.heap.size, 0, none⟩)) (w.alloc (.cells zs.toArray 29))) := by rw [hzs]; exact alloc_label0
  have hzo : ∀ v ∈ zs, v.oneCell' = true := by rw [hzs]; exact Lb.vs_one _ _ _
  have hcap := hB.cap
  rw [hl] at hcap
  have ht224 : (xs.take 224).length = 224 := by simp; omega
  have hd224 : (xs.drop 224).length = 32 := by simp; omega
  have hsl := sl256 hB hl
  have s1 := hsl.to224
  have s2 := hsl.from224
  have hBt : ∀ u, Bs u (some ⟨bb, oo, none⟩) c xs → Bs u (some ⟨bb, oo, none⟩) c (xs.take 224) := fun u hu => (hu.upto (P := Tryd.prog) 27 5 Tryd.underlying27 sizes5 Tryd.elem27 224 (by omega)).2
  have hBd : ∀ u, Bs u (some ⟨bb, oo, none⟩) c xs → Bs u (some ⟨bb, oo + 224, none⟩) (c - 224) (xs.drop 224) := fun u hu => by
    have := hu.mid 224 32 (by omega) (by omega)
    rwa [List.take_of_length_le (by omega)] at this
  have hsum : ∀ u, Bs u (some ⟨bb, oo, none⟩) c xs → Vars u → Calls Tryd.prog 36 #[.slice (some ⟨bb, oo, none⟩) 224 c] u fun e w' => e = .returned (.agg ((shaOf (xs.take 224)).map (Value.int .u8)).toArray) ∧ Below u.heap.size u w' := fun u hu hv => by
    have := sum_run _ _ _ u (hBt u hu) hv (by omega)
    rwa [ht224] at this
  obtain ⟨us, hus⟩ : ∃ us, us = (shaOf (xs.take 224)).map (Value.int .u8) := ⟨_, rfl⟩
  have hul : us.length = 32 := by rw [hus, List.length_map, shaOf_length]
  have huo : ∀ v ∈ us, v.oneCell' = true := by rw [hus]; exact int_oneCell _ _
  have HUS : Hid (us = (shaOf (xs.take 224)).map (Value.int .u8)) := hus
  rw [← hus] at hsum
  have h32 : ((List.replicate 32 (0 : Int)).map (Value.int .u8)).length = 32 := rfl
  rw [← hzs] at hzl ⊢
  clear hzs hus hBt
  go_enter Tryd.func13, Tryd.ntmps13
  go_wp2_with (first
    | (refine wpList_alloc0 (by rfl) 29 (by rfl) (some 2) (by rfl) _ HAL.out ?_; intro w1 hR1 hb1 hs1
       have hsum1 := hsum w1 (hB.stays hb1) (hV.stays hb1))
    | (go_at_call 36; go_must (refine hsum1.mono ?_); rintro e w2 ⟨rfl, hb2⟩
       have hR2 := hR1.stays hb2)
    | (refine wpList_alloc0 (by rfl) 23 (by rfl) (some 4) (by rfl) _ (fun w => alloc_32y w) ?_; intro w3 hS3 hb3 hs3
       have hR3 := hR2.stays hb3)
    | (refine wpList_store_blk (by rfl) (.tmp 4) (.tmp 16) 23 (by rfl) _ 0 32 (by rfl) us (by rfl) size_32 hS3 hul (by rw [h32]; omega) huo us (whole_store h32) ?_
       intro w4 hS4 hbut4 hs4
       have hR4 := hR3.but hbut4 (Nat.ne_of_lt hR2.lt)))
  have hb4 : Below w.heap.size w w4 := by
    have h1 := below_then (below_then hb1 hb2) hb3
    exact h1.trans (hbut4.below (B := w.heap.size) (by have := hb1.size; have := hb2.size; omega) h1.size)
  have heq : ∀ u, Below w4.heap.size w4 u → Calls Tryd.prog 41 #[.slice (some ⟨w2.heap.size, 0, none⟩) 32 32, .slice (some ⟨bb, oo + 224, none⟩) 32 (c - 224)] u fun e w' => e = .returned (.bool (sumL xs)) ∧ Below u.heap.size u w' := fun u hu => by
    have h1 := hS4.stays hu
    rw [HUS.out] at h1
    have h2 : Bs u (some ⟨w2.heap.size, 0, none⟩) 32 (shaOf (xs.take 224)) := Row.bs (e := 23) (w := u) (g := w2.heap.size) (cur := shaOf (xs.take 224)) h1 (shaOf_rng _) (by rw [shaOf_length]; decide)
    refine (equal_run _ _ _ _ 32 32 _ _ u (shaOf_length _).symm hd224.symm h2 (hBd u (hB.stays (below_then hb4 hu)))).mono ?_
    rintro e w' ⟨rfl, rfl⟩
    exact ⟨rfl, Below.refl _ _⟩
  rw [hsm] at heq
  clear hsum hsum1 hR1 hR2 hR3 hS3 hbut4 HUS hBd
  refine UpT.wp_region_tail 4 (UpT.tell [(3, isV (.bool true))]) (fun _ => false) (by kernel_rfl) (by kernel_rfl) (UpT.tell_steady _ (by
    intro p hp
    simp only [List.mem_cons, List.not_mem_nil, or_false] at hp
    rcases hp with rfl <;> first | exact isV_steady _ | exact slB_steady _ _)) ?_
  simp only [List.take_succ_cons, List.take_zero]
  apply UpT.wpUp_pure
  case hw => rfl
  case hψ => rfl
  case hv => (intro wz hp; clear hp; go_simp; try (with_reducible rfl))
  simp only [Act.put, List.setIfInBounds_toArray, List.set_cons_zero, List.set_cons_succ]
  apply UpT.wpUp_pure
  case hw => rfl
  case hψ => rfl
  case hv => (intro wz hp; clear hp; go_simp; try (with_reducible rfl))
  simp only [Act.put, List.setIfInBounds_toArray, List.set_cons_zero, List.set_cons_succ]
  apply UpT.wpUp_pure
  case hw => rfl
  case hψ => rfl
  case hv => (intro wz hp; clear hp; go_simp; try (with_reducible rfl))
  simp only [Act.put, List.setIfInBounds_toArray, List.set_cons_zero, List.set_cons_succ]
  refine UpT.wpUp_call _ 41 #[.slice (some ⟨w2.heap.size, 0, none⟩) 32 32, .slice (some ⟨bb, oo + 224, none⟩) 32 (c - 224)] (by rfl) (by rfl) (by rfl) (fun wz => by go_simp) (fun wz hp => calls_isV (heq wz hp.1)) ?_
  rintro v ⟨u, _, hf⟩
  obtain rfl := hf.of 3 v _ rfl rfl
  clear hf
  simp only [Act.put, List.setIfInBounds_toArray, List.set_cons_zero, List.set_cons_succ]
  refine UpT.wpUp_end ?_
  intro w5 hb5 hf
  clear hf
  simp only [List.drop_succ_cons, List.drop_zero]
  have hR5 := hR4.stays hb5
  have hb5' : Below w.heap.size w w5 := below_then hb4 hb5
  clear hR4 hS4 heq hb5
  have s3 := hsl.root
  have s4 := hsl.to4
  have s5 := hsl.zeros
  have s6 := hsl.txg
  have s7 := hsl.map
  have hrl : ((xs.drop 8).take 44).length = 44 := by simp; omega
  have hdec : ∀ u, Bs u (some ⟨bb, oo, none⟩) c xs → Calls Tryd.prog 42 #[.slice (some ⟨bb, oo + 8, none⟩) 44 (c - 8)] u fun e w' => e = .returned (.tuple #[.agg (decP ((xs.drop 8).take 44)).vs.toArray, .int .i64 0]) ∧ Below u.heap.size u w' := fun u hu => by
    have h1 := decode_run (some ⟨bb, oo + 8, none⟩) (c - 8) 44 _ u hrl.symm (hu.mid 8 44 (by omega) (by omega))
    have h2 : decodeL ((xs.drop 8).take 44) = ((decP ((xs.drop 8).take 44)), 0) := by
      unfold decodeL
      rw [if_neg (by omega), if_neg (by omega)]
      simp [hmy]
    rw [h2] at h1
    exact h1
  obtain ⟨ps, hps⟩ : ∃ ps, ps = (decP ((xs.drop 8).take 44)).vs := ⟨_, rfl⟩
  have hpsl : ps.length = 35 := by rw [hps]; exact Pt.vs_len (decP_ok (rng_take (rng_drop hB.rng 8) 44) (by simp; omega))
  have hpso : ∀ v ∈ ps, v.oneCell' = true := by rw [hps]; exact Pt.vs_one _
  rw [← hps] at hdec
  have hzp : Pt.zero.vs.length = 35 := Pt.vs_len Pt.zero_ok
  have hB5 : Bs w5 (some ⟨bb, oo, none⟩) c xs := hB.stays hb5'
  have hdec5 := hdec w5 hB5
  have HPS : Hid (ps = (decP ((xs.drop 8).take 44)).vs) := hps
  clear hps hdec
  go_wp2_with (first
    | (go_at_call 42; go_must (refine hdec5.mono ?_); rintro e w6 ⟨rfl, hb6⟩
       have hR6 := hR5.stays hb6)
    | (refine wpList_alloc0 (by rfl) 26 (by rfl) (some 5) (by rfl) Pt.zero.vs alloc_ptr0 ?_; intro w7 hP7 hb7 hs7
       have hR7 := hR6.stays hb7)
    | (refine wpList_store_blk (by rfl) (.tmp 5) (.tmp 27) 26 (by rfl) _ 0 35 (by rfl) ps (by rfl) size_ptr hP7 hpsl (by omega) hpso ps (whole_store hzp) ?_
       intro w8 hP8 hbut8 hs8
       have hR8 := hR7.but hbut8 (Nat.ne_of_lt hR6.lt)
       have hb8 : Below w.heap.size w w8 := (below_then (below_then hb5' hb6) hb7).trans (hbut8.below (B := w.heap.size) (by have := hb5'.size; have := hb6.size; omega) (below_then (below_then hb5' hb6) hb7).size)
       have hB8 := hB.stays hb8
       have hcv : (convert 27 9 (.slice (some ⟨bb, oo, none⟩) 4 c)).run Tryd.prog w8 = .ok (.string ⟨#[67, 65, 85, 84]⟩) w8 := by
         rw [← magic_str, ← of_decide_eq_true hmg]
         exact (hB8.upto (P := Tryd.prog) 27 5 Tryd.underlying27 sizes5 Tryd.elem27 4 (by omega)).2.conv (P := Tryd.prog) 4 (by simp; omega) 27 5 Tryd.underlying27 Tryd.underlying5 9 Tryd.underlying9
       have hnz := noughts_run7 (some ⟨bb, oo + 116, none⟩) (c - 116) 108 _ w8 (by simp; omega) (by omega) (hB8.mid 116 108 (by omega) (by omega))
       rw [hzz] at hnz)
    | (go_at_call 43; go_must (refine hnz.mono ?_); rintro e w9 ⟨rfl, hb9⟩
       have hR9 := hR8.stays hb9
       have hb9' := below_then hb8 hb9)
    | (refine wpList_build0 (by rfl) 29 (by rfl) _ HBU.out ?_)
    | (refine wpList_store_blk (by rfl) (.tmp 2) (.tmp 43) 29 (by rfl) _ 0 37 (by rfl) zs (by rfl) size_label hR9 hzl (by omega) hzo _ (whole_store hzl) ?_
       intro wZ hRZ hbutZ hsZ))
  exact bodyPost_ret_blk2 rfl rfl (by rfl) (by rfl) agg_label size_label hRZ hzl ⟨rfl, hb9'.trans (hbutZ.below (Nat.le_refl _) hb9'.size)⟩

theorem build_label (t : Nat) (p : Pt) (hp : p.ok) (a : Option Addr) (n c : Nat) (w : World) : (Instr.build 29 [(0, Value.int .u32 (t : Int)), (1, .agg p.vs.toArray), (2, .slice a n c)].toArray).run Tryd.prog w = .ok (.agg (Value.int .u32 (t : Int) :: (p.vs ++ [.slice a n c])).toArray) w := by
  obtain ⟨h, b, x, y⟩ := p
  have hl : h.length = 32 := hp.len
  clear hp
  match h, hl with
  | [x0, x1, x2, x3, x4, x5, x6, x7, x8, x9, x10, x11, x12, x13, x14, x15, x16, x17, x18, x19, x20, x21, x22, x23, x24, x25, x26, x27, x28, x29, x30, x31], _ => show _ = _; kernel_rfl

set_option maxHeartbeats 20000000 in
theorem ldec_ok (bb oo c : Nat) (xs : List Int) (w : World) (hl : xs.length = 256) (hB : Bs w (some ⟨bb, oo, none⟩) c xs) (hV : Vars w) (hsm : sumL xs = true) (hmy : (decP ((xs.drop 8).take 44)).may = true) (hmg : decide (xs.take 4 = magicL) = true) (hzz : decide ((xs.drop 116).take 108 = List.replicate 108 0) = true) :
    Calls Tryd.prog 13 #[.slice (some ⟨bb, oo, none⟩) 256 c] w fun e w' => ∃ a' c', e = .returned (.tuple #[.agg ((lbOf xs).vs a' c').toArray, .int .i64 0]) ∧ Out w.heap.size w' (.slice a' 64 c') (lbOf xs).m ∧ Below w.heap.size w w' := by
  have hzl := zero_vs_len
  obtain ⟨zs, hzs⟩ : ∃ zs, zs = Lb.zero.vs none 0 := ⟨_, rfl⟩
  have HBU : Hid (∀ w : World, (Instr.build 29 #[]).run Tryd.prog w = .ok (.agg zs.toArray) w) := by rw [hzs]; exact build_label0
  have HAL : Hid (∀ w : World, (Instr.alloc 29 true (.tuple #[])).run Tryd.prog w = .ok (.pointer (some ⟨w.heap.size, 0, none⟩)) (w.alloc (.cells zs.toArray 29))) := by rw [hzs]; exact alloc_label0
  have hzo : ∀ v ∈ zs, v.oneCell' = true := by rw [hzs]; exact Lb.vs_one _ _ _
  have hcap := hB.cap
  rw [hl] at hcap
  have ht224 : (xs.take 224).length = 224 := by simp; omega
  have hd224 : (xs.drop 224).length = 32 := by simp; omega
  have hsl := sl256 hB hl
  have s1 := hsl.to224
  have s2 := hsl.from224
  have hBt : ∀ u, Bs u (some ⟨bb, oo, none⟩) c xs → Bs u (some ⟨bb, oo, none⟩) c (xs.take 224) := fun u hu => (hu.upto (P := Tryd.prog) 27 5 Tryd.underlying27 sizes5 Tryd.elem27 224 (by omega)).2
  have hBd : ∀ u, Bs u (some ⟨bb, oo, none⟩) c xs → Bs u (some ⟨bb, oo + 224, none⟩) (c - 224) (xs.drop 224) := fun u hu => by
    have := hu.mid 224 32 (by omega) (by omega)
    rwa [List.take_of_length_le (by omega)] at this
  have hsum : ∀ u, Bs u (some ⟨bb, oo, none⟩) c xs → Vars u → Calls Tryd.prog 36 #[.slice (some ⟨bb, oo, none⟩) 224 c] u fun e w' => e = .returned (.agg ((shaOf (xs.take 224)).map (Value.int .u8)).toArray) ∧ Below u.heap.size u w' := fun u hu hv => by
    have := sum_run _ _ _ u (hBt u hu) hv (by omega)
    rwa [ht224] at this
  obtain ⟨us, hus⟩ : ∃ us, us = (shaOf (xs.take 224)).map (Value.int .u8) := ⟨_, rfl⟩
  have hul : us.length = 32 := by rw [hus, List.length_map, shaOf_length]
  have huo : ∀ v ∈ us, v.oneCell' = true := by rw [hus]; exact int_oneCell _ _
  have HUS : Hid (us = (shaOf (xs.take 224)).map (Value.int .u8)) := hus
  rw [← hus] at hsum
  have h32 : ((List.replicate 32 (0 : Int)).map (Value.int .u8)).length = 32 := rfl
  rw [← hzs] at hzl
  clear hzs hus hBt
  go_enter Tryd.func13, Tryd.ntmps13
  go_wp2_with (first
    | (refine wpList_alloc0 (by rfl) 29 (by rfl) (some 2) (by rfl) _ HAL.out ?_; intro w1 hR1 hb1 hs1
       have hsum1 := hsum w1 (hB.stays hb1) (hV.stays hb1))
    | (go_at_call 36; go_must (refine hsum1.mono ?_); rintro e w2 ⟨rfl, hb2⟩
       have hR2 := hR1.stays hb2)
    | (refine wpList_alloc0 (by rfl) 23 (by rfl) (some 4) (by rfl) _ (fun w => alloc_32y w) ?_; intro w3 hS3 hb3 hs3
       have hR3 := hR2.stays hb3)
    | (refine wpList_store_blk (by rfl) (.tmp 4) (.tmp 16) 23 (by rfl) _ 0 32 (by rfl) us (by rfl) size_32 hS3 hul (by rw [h32]; omega) huo us (whole_store h32) ?_
       intro w4 hS4 hbut4 hs4
       have hR4 := hR3.but hbut4 (Nat.ne_of_lt hR2.lt)))
  have hb4 : Below w.heap.size w w4 := by
    have h1 := below_then (below_then hb1 hb2) hb3
    exact h1.trans (hbut4.below (B := w.heap.size) (by have := hb1.size; have := hb2.size; omega) h1.size)
  have heq : ∀ u, Below w4.heap.size w4 u → Calls Tryd.prog 41 #[.slice (some ⟨w2.heap.size, 0, none⟩) 32 32, .slice (some ⟨bb, oo + 224, none⟩) 32 (c - 224)] u fun e w' => e = .returned (.bool (sumL xs)) ∧ Below u.heap.size u w' := fun u hu => by
    have h1 := hS4.stays hu
    rw [HUS.out] at h1
    have h2 : Bs u (some ⟨w2.heap.size, 0, none⟩) 32 (shaOf (xs.take 224)) := Row.bs (e := 23) (w := u) (g := w2.heap.size) (cur := shaOf (xs.take 224)) h1 (shaOf_rng _) (by rw [shaOf_length]; decide)
    refine (equal_run _ _ _ _ 32 32 _ _ u (shaOf_length _).symm hd224.symm h2 (hBd u (hB.stays (below_then hb4 hu)))).mono ?_
    rintro e w' ⟨rfl, rfl⟩
    exact ⟨rfl, Below.refl _ _⟩
  rw [hsm] at heq
  clear hsum hsum1 hR1 hR2 hR3 hS3 hbut4 HUS hBd
  refine UpT.wp_region_tail 4 (UpT.tell [(3, isV (.bool true))]) (fun _ => false) (by kernel_rfl) (by kernel_rfl) (UpT.tell_steady _ (by
    intro p hp
    simp only [List.mem_cons, List.not_mem_nil, or_false] at hp
    rcases hp with rfl <;> first | exact isV_steady _ | exact slB_steady _ _)) ?_
  simp only [List.take_succ_cons, List.take_zero]
  apply UpT.wpUp_pure
  case hw => rfl
  case hψ => rfl
  case hv => (intro wz hp; clear hp; go_simp; try (with_reducible rfl))
  simp only [Act.put, List.setIfInBounds_toArray, List.set_cons_zero, List.set_cons_succ]
  apply UpT.wpUp_pure
  case hw => rfl
  case hψ => rfl
  case hv => (intro wz hp; clear hp; go_simp; try (with_reducible rfl))
  simp only [Act.put, List.setIfInBounds_toArray, List.set_cons_zero, List.set_cons_succ]
  apply UpT.wpUp_pure
  case hw => rfl
  case hψ => rfl
  case hv => (intro wz hp; clear hp; go_simp; try (with_reducible rfl))
  simp only [Act.put, List.setIfInBounds_toArray, List.set_cons_zero, List.set_cons_succ]
  refine UpT.wpUp_call _ 41 #[.slice (some ⟨w2.heap.size, 0, none⟩) 32 32, .slice (some ⟨bb, oo + 224, none⟩) 32 (c - 224)] (by rfl) (by rfl) (by rfl) (fun wz => by go_simp) (fun wz hp => calls_isV (heq wz hp.1)) ?_
  rintro v ⟨u, _, hf⟩
  obtain rfl := hf.of 3 v _ rfl rfl
  clear hf
  simp only [Act.put, List.setIfInBounds_toArray, List.set_cons_zero, List.set_cons_succ]
  refine UpT.wpUp_end ?_
  intro w5 hb5 hf
  clear hf
  simp only [List.drop_succ_cons, List.drop_zero]
  have hR5 := hR4.stays hb5
  have hb5' : Below w.heap.size w w5 := below_then hb4 hb5
  clear hR4 hS4 heq hb5
  have s3 := hsl.root
  have s4 := hsl.to4
  have s5 := hsl.zeros
  have s6 := hsl.txg
  have s7 := hsl.map
  have hrl : ((xs.drop 8).take 44).length = 44 := by simp; omega
  have hdec : ∀ u, Bs u (some ⟨bb, oo, none⟩) c xs → Calls Tryd.prog 42 #[.slice (some ⟨bb, oo + 8, none⟩) 44 (c - 8)] u fun e w' => e = .returned (.tuple #[.agg (decP ((xs.drop 8).take 44)).vs.toArray, .int .i64 0]) ∧ Below u.heap.size u w' := fun u hu => by
    have h1 := decode_run (some ⟨bb, oo + 8, none⟩) (c - 8) 44 _ u hrl.symm (hu.mid 8 44 (by omega) (by omega))
    have h2 : decodeL ((xs.drop 8).take 44) = ((decP ((xs.drop 8).take 44)), 0) := by
      unfold decodeL
      rw [if_neg (by omega), if_neg (by omega)]
      simp [hmy]
    rw [h2] at h1
    exact h1
  obtain ⟨ps, hps⟩ : ∃ ps, ps = (decP ((xs.drop 8).take 44)).vs := ⟨_, rfl⟩
  have hpsl : ps.length = 35 := by rw [hps]; exact Pt.vs_len (decP_ok (rng_take (rng_drop hB.rng 8) 44) (by simp; omega))
  have hpso : ∀ v ∈ ps, v.oneCell' = true := by rw [hps]; exact Pt.vs_one _
  rw [← hps] at hdec
  have hzp : Pt.zero.vs.length = 35 := Pt.vs_len Pt.zero_ok
  have hB5 : Bs w5 (some ⟨bb, oo, none⟩) c xs := hB.stays hb5'
  have hdec5 := hdec w5 hB5
  have HPS : Hid (ps = (decP ((xs.drop 8).take 44)).vs) := hps
  clear hps hdec
  have htl : ((xs.drop 4).take 4).length = 4 := by simp; omega
  have hml : ((xs.drop 52).take 64).length = 64 := by simp; omega
  go_wp2_with (first
    | (go_at_call 42; go_must (refine hdec5.mono ?_); rintro e w6 ⟨rfl, hb6⟩
       have hR6 := hR5.stays hb6)
    | (refine wpList_alloc0 (by rfl) 26 (by rfl) (some 5) (by rfl) Pt.zero.vs alloc_ptr0 ?_; intro w7 hP7 hb7 hs7
       have hR7 := hR6.stays hb7)
    | (refine wpList_store_blk (by rfl) (.tmp 5) (.tmp 27) 26 (by rfl) _ 0 35 (by rfl) ps (by rfl) size_ptr hP7 hpsl (by omega) hpso ps (whole_store hzp) ?_
       intro w8 hP8 hbut8 hs8
       have hR8 := hR7.but hbut8 (Nat.ne_of_lt hR6.lt)
       have hb8 : Below w.heap.size w w8 := (below_then (below_then hb5' hb6) hb7).trans (hbut8.below (B := w.heap.size) (by have := hb5'.size; have := hb6.size; omega) (below_then (below_then hb5' hb6) hb7).size)
       have hB8 := hB.stays hb8
       have hcv : (convert 27 9 (.slice (some ⟨bb, oo, none⟩) 4 c)).run Tryd.prog w8 = .ok (.string ⟨#[67, 65, 85, 84]⟩) w8 := by
         rw [← magic_str, ← of_decide_eq_true hmg]
         exact (hB8.upto (P := Tryd.prog) 27 5 Tryd.underlying27 sizes5 Tryd.elem27 4 (by omega)).2.conv (P := Tryd.prog) 4 (by simp; omega) 27 5 Tryd.underlying27 Tryd.underlying5 9 Tryd.underlying9
       have hnz := noughts_run7 (some ⟨bb, oo + 116, none⟩) (c - 116) 108 _ w8 (by simp; omega) (by omega) (hB8.mid 116 108 (by omega) (by omega))
       rw [hzz] at hnz)
    | (go_at_call 43; go_must (refine hnz.mono ?_); rintro e w9 ⟨rfl, hb9⟩
       have hR9 := hR8.stays hb9
       have hb9' := below_then hb8 hb9
       have hP9 := hP8.stays hb9
       have htk := take32_nat (some ⟨bb, oo + 4, none⟩) (c - 4) 4 0 _ w9 ((hB.stays hb9').mid 4 4 (by omega) (by omega)) htl.symm rfl (by omega))
    | (go_at_call 44; go_must (refine htk.mono ?_); rintro e wA ⟨aA, cA, rfl, _, hbA, _⟩
       have hRA := hR9.stays hbA
       have hPA := hP9.stays hbA
       have hbA' := below_then hb9' hbA))
  have hcl : ∀ u, Below wA.heap.size wA u → Calls Tryd.prog 45 #[.slice (some ⟨bb, oo + 52, none⟩) 64 (c - 52)] u fun e w' => ∃ v, e = .returned v ∧ Below u.heap.size u w' ∧ ouB wA.heap.size ((xs.drop 52).take 64) v w' := fun u hu => by
    have h1 := clone_run ⟨bb, oo + 52, none⟩ (c - 52) _ u ((hB.stays (below_then hbA' hu)).mid 52 64 (by omega) (by omega)) (by omega) (by omega)
    rw [hml] at h1
    refine h1.mono ?_
    rintro e w' ⟨g, cap, rfl, hown, hbw⟩
    exact ⟨_, rfl, hbw, some ⟨g, 0, none⟩, cap, by rw [hml], by rw [hml]; unfold Out; rw [hml]; exact owns_mono hown hu.size⟩
  have hld : ∀ u, Below wA.heap.size wA u → (Instr.loadAt 26 (.pointer (some ⟨w6.heap.size, 0, none⟩))).run Tryd.prog u = .ok (.agg ps.toArray) u := fun u hu => run_load_blk agg_ptr size_ptr (hPA.stays hu) (whole_load hpsl) hpsl
  clear hR5 hR6 hR7 hR8 hR9 hP7 hP8 hP9 hcv hnz htk hdec5
  refine UpT.wp_region_tail 5 (UpT.tell [(4, ouB wA.heap.size ((xs.drop 52).take 64))]) (fun _ => false) (by kernel_rfl) (by kernel_rfl) (UpT.tell_steady _ (by
    intro p hp
    simp only [List.mem_cons, List.not_mem_nil, or_false] at hp
    rcases hp with rfl <;> first | exact isV_steady _ | exact slB_steady _ _ | exact ouB_steady _ _)) ?_
  simp only [List.take_succ_cons, List.take_zero]
  apply UpT.wpUp_pure
  case hw => rfl
  case hψ => rfl
  case hv => (intro wz hp; clear hp; go_simp; try (with_reducible rfl))
  simp only [Act.put, List.setIfInBounds_toArray, List.set_cons_zero, List.set_cons_succ]
  refine UpT.wpUp_pure (.agg ps.toArray) (by rfl) (by rfl) (fun wz hp => exec_load7 (by rfl) (by rfl) (hld wz hp.1)) ?_
  simp only [Act.put, List.setIfInBounds_toArray, List.set_cons_zero, List.set_cons_succ]
  apply UpT.wpUp_pure
  case hw => rfl
  case hψ => rfl
  case hv => (intro wz hp; clear hp; go_simp; try (with_reducible rfl))
  simp only [Act.put, List.setIfInBounds_toArray, List.set_cons_zero, List.set_cons_succ]
  apply UpT.wpUp_pure
  case hw => rfl
  case hψ => rfl
  case hv => (intro wz hp; clear hp; go_simp; try (with_reducible rfl))
  simp only [Act.put, List.setIfInBounds_toArray, List.set_cons_zero, List.set_cons_succ]
  refine UpT.wpUp_call _ 45 #[.slice (some ⟨bb, oo + 52, none⟩) 64 (c - 52)] (by rfl) (by rfl) (by rfl) (fun wz => by go_simp) (fun wz hp => hcl wz hp.1) ?_
  rintro v ⟨u, _, hf⟩
  obtain ⟨aC, cC, rfl, _⟩ := hf.of 4 v _ rfl rfl
  clear hf
  simp only [Act.put, List.setIfInBounds_toArray, List.set_cons_zero, List.set_cons_succ]
  refine UpT.wpUp_end ?_
  intro wB hbB hf
  obtain ⟨aC', cC', hCe, hOB⟩ := hf.of 4 _ _ rfl rfl
  rw [hml] at hCe
  cases hCe
  clear hf
  simp only [List.drop_succ_cons, List.drop_zero]
  rw [hml]
  have hbl := build_label (n32 ((xs.drop 4).take 4)) (decP ((xs.drop 8).take 44)) (decP_ok (rng_take (rng_drop hB.rng 8) 44) (by simp; omega)) aC 64 cC
  rw [← HPS.out] at hbl
  have hvl : (Value.int .u32 (n32 ((xs.drop 4).take 4) : Int) :: (ps ++ [.slice aC 64 cC])).length = 37 := by simp [hpsl]
  have hvs : Value.int .u32 (n32 ((xs.drop 4).take 4) : Int) :: (ps ++ [.slice aC 64 cC]) = (lbOf xs).vs aC cC := by
    unfold Lb.vs lbOf; rw [HPS.out]; simp only; rw [hml]
  have hvo : ∀ v ∈ Value.int .u32 (n32 ((xs.drop 4).take 4) : Int) :: (ps ++ [.slice aC 64 cC]), v.oneCell' = true := by rw [hvs]; exact Lb.vs_one _ _ _
  refine wpList_buildL (by rfl) 29 [(0, .tmp 51), (1, .tmp 52), (2, .tmp 55)] (by rfl) _ (by rfl) _ hbl ?_
  refine wpList_store_blk (by rfl) (.tmp 2) (.tmp 56) 29 (by rfl) _ 0 37 (by rfl) _ (by rfl) size_label (hRA.stays hbB) hvl (by omega) hvo _ (whole_store hzl) ?_
  intro wC hRC hbutC hsC
  simp only [Act.put, List.setIfInBounds_toArray, List.set_cons_zero, List.set_cons_succ]
  have hbB' := below_then hbA' hbB
  go_wp2
  refine bodyPost_ret_blk2 rfl rfl (by rfl) (by rfl) agg_label size_label hRC hvl ⟨aC, cC, by rw [hvs]; rfl, ?_, hbB'.trans (hbutC.below (Nat.le_refl _) hbB'.size)⟩
  have := owns_but hOB hbutC (by have := hRA.lt; omega)
  unfold Out at this ⊢
  rw [hml] at this
  show World.ownsRow _ _ _ _ _ _ _
  unfold lbOf; simp only; rw [hml]
  exact owns_mono this (by have := hbA'.size; omega)

end Go.Proofs.YthbcphalokoknaaDoor
