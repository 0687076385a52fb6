/-
  The walk over the document's Read.
-/
import Derived.Test.YtobfegmkjiggdaaPRNode
namespace Go.Proofs.Ytobfegmkjiggdaa
set_option linter.unusedSimpArgs false
set_option linter.unusedVariables false
open Go.RowKit

theorem strOfNums_inj {xs ys : List Int} (hx : ∀ x ∈ xs, 0 ≤ x ∧ x ≤ 255) (hy : ∀ y ∈ ys, 0 ≤ y ∧ y ≤ 255) (h : strOfNums xs = strOfNums ys) : xs = ys := by
  have h1 : xs.map (fun n => UInt8.ofNat n.toNat) = ys.map (fun n => UInt8.ofNat n.toNat) := by
    have := congrArg (fun s : ByteArray => s.data.toList) h
    simpa [strOfNums] using this
  clear h
  induction xs generalizing ys with
  | nil => cases ys with
    | nil => rfl
    | cons y ys => simp at h1
  | cons x xs ih => cases ys with
    | nil => simp at h1
    | cons y ys =>
      simp only [List.map_cons, List.cons.injEq] at h1
      have hx0 := hx x (by simp)
      have hy0 := hy y (by simp)
      have e := congrArg UInt8.toNat h1.1
      simp only [UInt8.toNat_ofNat'] at e
      rw [ih (fun z hz => hx z (by simp [hz])) (fun z hz => hy z (by simp [hz])) h1.2]
      have : x = y := by omega
      rw [this]

set_option maxHeartbeats 2000000 in
set_option maxRecDepth 100000 in
theorem rread_run (a : Option Addr) (c n : Nat) (xs : List Int) (w : World) (hn : n = xs.length) (hB : Bs w a c xs) :
    Calls Try.prog 20 #[.slice a n c] w fun e w' => e = .returned (.tuple #[.agg (fourV (readL xs).1).toArray, .int .i64 ((readL xs).2 : Int)]) ∧ Below w.heap.size w w' := by
  have hzl : (fourV zeros4).length = 140 := zeros4_len
  have hpz : Pt.zero.vs.length = 35 := Pt.vs_len Pt.zero_ok
  by_cases h256 : n = 256
  · subst h256
    have hl : xs.length = 256 := by omega
    obtain ⟨b, off, rfl, hc⟩ := hB.cell (by omega)
    have hcap : 256 ≤ c := by have := hB.cap; omega
    have hrng := hB.rng
    clear hc hn
    obtain ⟨zs, hzs⟩ : ∃ zs, zs = fourV zeros4 := ⟨_, rfl⟩
    have hal : ∀ w : World, (Instr.alloc 36 true (.tuple #[])).run Try.prog w = .ok (.pointer (some ⟨w.heap.size, 0, none⟩)) (w.alloc (.cells zs.toArray 36)) := by rw [hzs]; exact alloc_four0
    have hbu : ∀ w : World, (Instr.build 36 #[]).run Try.prog w = .ok (.agg zs.toArray) w := by rw [hzs]; exact build_four0
    have hz1 : ∀ v ∈ zs, v.oneCell' = true := by rw [hzs]; exact fourV_one _
    have HZS : Hid (zs = fourV zeros4) := hzs
    have HAL : Hid (∀ w : World, (Instr.alloc 36 true (.tuple #[])).run Try.prog w = .ok (.pointer (some ⟨w.heap.size, 0, none⟩)) (w.alloc (.cells zs.toArray 36))) := hal
    have HBU : Hid (∀ w : World, (Instr.build 36 #[]).run Try.prog w = .ok (.agg zs.toArray) w) := hbu
    rw [← hzs] at hzl
    clear hzs hal hbu
    go_enter Try.func20, Try.ntmps20
    go_wp2_with (first
      | (refine wpList_alloc0 (by rfl) 36 (by rfl) (some 2) (by rfl) zs HAL.out ?_; intro w1 hR1 hb1 hs1)
      | (refine wpList_build0 (by rfl) 36 (by rfl) _ HBU.out ?_)
      | (refine wpList_alloc0 (by rfl) 36 (by rfl) (some 4) (by rfl) zs HAL.out ?_; intro w1b hL1 hb1b hs1b; have hR1b := hR1.stays hb1b)
      | (refine wpList_store_blk (by rfl) (.tmp 4) (.tmp 8) 36 (by rfl) _ 0 140 (by rfl) _ (by rfl) size_four hL1 hzl (by omega) hz1 _ (whole_store hzl) ?_
         intro w2 hL2 hbut2 hs2; rw [hs1] at hL2 hbut2 hs1b; have hR2 := hR1b.but hbut2 (by omega); have hW2 := (below_then hb1 hb1b).trans (hbut2.below (by omega) (by omega))))
    go_loopw [5] (fun i wr => ∃ k : Nat, k ≤ 4 ∧ i = .int .i64 k ∧ Hid (((pieces xs).take k).all Pt.may = true) ∧ Blk 36 wr w.heap.size zs ∧ Blk 36 wr (w.heap.size + 1) (fourV (laidK xs k)) ∧ Below w.heap.size w wr) (fun i _ => 4 - (intOf i).toNat)
    case atStart => exact ⟨0, by omega, rfl, rfl, hR2, by rw [HZS.out] at hL2; exact hL2, hW2⟩
    case round =>
      rename_i hrel
      obtain ⟨k, hk, rfl, hall, hR, hL, hbr⟩ := hrel
      clear hR1 hb1 hs1 hL1 hb1b hs1b hR1b hL2 hbut2 hs2 hR2 hW2
      have hsz := hbr.size
      have hLl := hL.lt
      by_cases hlt : k < 4
      · obtain ⟨D, hD⟩ : ∃ D, D = 44 * k := ⟨_, rfl⟩
        have hBp : ∀ u, Below w.heap.size w u → Bs u (some ⟨b, off + D, none⟩) (c - D) (piece xs k) := fun u hu => by
          have := (hB.mid D 44 (by omega) (by omega)).stays hu
          rw [hD] at this ⊢; exact this
        have hsl : ∀ u : World, (Instr.slice 30 (.slice (some ⟨b, off, none⟩) 256 c) (some (.int .i64 (D : Int))) (some (.int .i64 ((D + 44 : Nat) : Int))) none).run Try.prog u = .ok (.slice (some ⟨b, off + D, none⟩) 44 (c - D)) u := fun u =>
          slice_mid Try.underlying30 Try.elem30 sizes5 (by omega) (by omega) .i64 .i64 u
        have hpl := piece_len hl hlt
        have hdec : ∀ u, Below w.heap.size w u → Calls Try.prog 18 #[.slice (some ⟨b, off + D, none⟩) 44 (c - D)] u fun e w' => e = .returned (.tuple #[.agg (decodeL (piece xs k)).1.vs.toArray, .int .i64 ((decodeL (piece xs k)).2 : Int)]) ∧ Below u.heap.size u w' :=
          fun u hu => rdecode_run _ _ 44 (piece xs k) u hpl.symm (hBp u hu) (by omega)
        have hdk : decodeL (piece xs k) = if (decP (piece xs k)).may then (decP (piece xs k), 0) else (Pt.zero, 3) := decodeL_at hpl
        have hok : (decP (piece xs k)).ok := decP_ok (piece_rng hrng k) (by omega)
        have HT : Hid ((pieces xs).take (k + 1) = (pieces xs).take k ++ [decP (piece xs k)]) := pieces_take xs hlt
        have HS : Hid (fourV (laidK xs (k + 1)) = (fourV (laidK xs k)).take (k * 35) ++ (decP (piece xs k)).vs ++ (fourV (laidK xs k)).drop (k * 35 + 35)) := by
          show _ = _
          rw [← laidK_set xs hlt]; exact fourV_set (laidK_ok hl hrng k) (by rw [laidK_len xs hk]; exact hlt) _
        have HNM : Hid ((decP (piece xs k)).may = false → readL xs = (zeros4, 3)) := readL_not hlt
        have hfl : (fourV (laidK xs k)).length = 140 := by rw [fourV_len (laidK_ok hl hrng k), laidK_len xs hk]
        obtain ⟨p, hp⟩ : ∃ p, p = decP (piece xs k) := ⟨_, rfl⟩
        obtain ⟨fv, hfv⟩ : ∃ fv, fv = fourV (laidK xs k) := ⟨_, rfl⟩
        have hix : ∀ u : World, (Instr.indexAt 36 (.pointer (some ⟨w.heap.size + 1, 0, none⟩)) (.int .i64 (k : Int))).run Try.prog u = .ok (.pointer (some ⟨w.heap.size + 1, k * 35, none⟩)) u := fun u => by
          have := index_ptr (P := Try.prog) (g := w.heap.size + 1) (off := 0) (K := .i64) Try.underlying36 sizes26 hlt u
          rw [Nat.zero_add] at this
          exact this
        rw [← hp] at hdk hok HT HS HNM
        rw [← hfv] at HS hfl hL
        have hvl := Pt.vs_len hok
        have hm1 : 44 * (k : Int) = (D : Int) := by omega
        have hw1 : IntKind.i64.wrap (D : Int) = (D : Int) := by first | go_num | (rw [IntKind.wrap_i64]; omega)
        obtain ⟨D2, hD2⟩ : ∃ D2, D2 = D + 44 := ⟨_, rfl⟩
        have hm3 : (D : Int) + 44 = (D2 : Int) := by omega
        have hw3 : IntKind.i64.wrap (D2 : Int) = (D2 : Int) := by first | go_num | (rw [IntKind.wrap_i64]; omega)
        have hsl2 : ∀ u : World, (Instr.slice 30 (.slice (some ⟨b, off, none⟩) 256 c) (some (.int .i64 (D : Int))) (some (.int .i64 (D2 : Int))) none).run Try.prog u = .ok (.slice (some ⟨b, off + D, none⟩) 44 (c - D)) u := by rw [hD2]; exact hsl
        have hD3 : D2 ≤ 176 := by omega
        clear hD2 hsl
        have HDEC : Hid (∀ u, Below w.heap.size w u → Calls Try.prog 18 #[.slice (some ⟨b, off + D, none⟩) 44 (c - D)] u fun e w' => e = .returned (.tuple #[.agg (decodeL (piece xs k)).1.vs.toArray, .int .i64 ((decodeL (piece xs k)).2 : Int)]) ∧ Below u.heap.size u w') := hdec
        have HFV : Hid (fv = fourV (laidK xs k)) := hfv
        have HD : Hid (D = 44 * k) := hD
        clear hdec hBp hp hfv hD hB hpl
        cases hmv : p.may
        · rw [hmv, if_neg (by simp)] at hdk
          have hd := HDEC.out
          rw [hdk] at hd
          have HRL : Hid (readL xs = (zeros4, 3)) := HNM.out hmv
          have HDD : Hid (∀ u, Below w.heap.size w u → Calls Try.prog 18 #[.slice (some ⟨b, off + D, none⟩) 44 (c - D)] u fun e w' => e = .returned (.tuple #[.agg Pt.zero.vs.toArray, .int .i64 3]) ∧ Below u.heap.size u w') := hd
          clear hd hdk HDEC HNM
          go_wp2_with (first
            | (go_at_call 18; go_must (refine (HDD.out _ hbr).mono ?_); rintro e w3 ⟨rfl, hb3⟩; have hR3 := hR.stays hb3)
            | (refine wpList_alloc0 (by rfl) 26 (by rfl) (some 6) (by rfl) Pt.zero.vs alloc_ptr0 ?_; intro w4 hP4 hb4 hs4; have hR4 := hR3.stays hb4)
            | (refine wpList_store_blk (by rfl) (.tmp 6) (.tmp 26) 26 (by rfl) _ 0 35 (by rfl) _ (by rfl) size_ptr hP4 hpz (by omega) (Pt.vs_one _) _ (whole_store hpz) ?_
               intro w5 hP5 hbut5 hs5; have hR5 := hR4.but hbut5 (by have := hb3.size; omega))
            | (refine wpList_build0 (by rfl) 36 (by rfl) _ HBU.out ?_)
            | (refine wpList_store_blk (by rfl) (.tmp 2) (.tmp 30) 36 (by rfl) _ 0 140 (by rfl) _ (by rfl) size_four hR5 hzl (by omega) hz1 _ (whole_store hzl) ?_
               intro w6 hR6 hbut6 hs6))
          have z3 := hb3.size
          refine bodyPost_ret_blk2 rfl rfl (by rfl) (by rfl) agg_four size_four hR6 hzl ⟨by rw [HRL.out, HZS.out]; rfl, ?_⟩
          exact (((hbr.trans (hb3.mono (by omega))).trans (hb4.mono (by omega))).trans (hbut5.below (by omega) (by omega))).trans (hbut6.below (Nat.le_refl _) (by omega))
        · rw [hmv, if_pos rfl] at hdk
          have hd := HDEC.out
          rw [hdk] at hd
          have HDD : Hid (∀ u, Below w.heap.size w u → Calls Try.prog 18 #[.slice (some ⟨b, off + D, none⟩) 44 (c - D)] u fun e w' => e = .returned (.tuple #[.agg p.vs.toArray, .int .i64 0]) ∧ Below u.heap.size u w') := hd
          clear hd hdk HDEC HNM
          go_wp2_with (first
            | (go_at_call 18; go_must (refine (HDD.out _ hbr).mono ?_); rintro e w3 ⟨rfl, hb3⟩; have hR3 := hR.stays hb3; have hL3 := hL.stays hb3)
            | (refine wpList_alloc0 (by rfl) 26 (by rfl) (some 6) (by rfl) Pt.zero.vs alloc_ptr0 ?_; intro w4 hP4 hb4 hs4; have hR4 := hR3.stays hb4; have hL4 := hL3.stays hb4)
            | (refine wpList_store_blk (by rfl) (.tmp 6) (.tmp 26) 26 (by rfl) _ 0 35 (by rfl) _ (by rfl) size_ptr hP4 hvl (by omega) (Pt.vs_one _) _ (whole_store hpz) ?_
               intro w5 hP5 hbut5 hs5; have hR5 := hR4.but hbut5 (by have := hb3.size; omega); have hL5 := hL4.but hbut5 (by have := hb3.size; omega))
            | (refine wpList_load_blk (by rfl) (.tmp 6) 26 (by rfl) _ 0 35 (by rfl) agg_ptr size_ptr hP5 _ (whole_load hvl) hvl ?_)
            | (refine wpList_store_blk (by rfl) (.tmp 33) (.tmp 32) 26 (by rfl) _ (k * 35) 35 (by rfl) _ (by rfl) size_ptr hL5 hvl (by omega) (Pt.vs_one _) _ HS.out ?_
               intro w6 hL6 hbut6 hs6))
          have z3 := hb3.size
          have hR6 := hR5.but hbut6 (by omega)
          have hb6 : Below w.heap.size w w6 := (((hbr.trans (hb3.mono (by omega))).trans (hb4.mono (by omega))).trans (hbut5.below (by omega) (by omega))).trans (hbut6.below (by omega) (by omega))
          go_roundw
          case rel => exact ⟨k + 1, by omega, by go_num, by show _ = _; rw [HT.out, List.all_append, hall.out]; simp [hmv], hR6, hL6, hb6⟩
          case measure => simp [intOf]; omega
      · have hk4 : k = 4 := by omega
        subst hk4
        rw [laidK_all] at hL
        have hall' : (pieces xs).all Pt.may = true := hall.out
        have hpok := pieces_ok hl hrng
        have hfl : (fourV (pieces xs)).length = 140 := by rw [fourV_len hpok]; rfl
        have hnl := nodeL_len hpok rfl
        have hiff : ((xs.drop 176).all (· == 0) = true) ↔ nodeL (pieces xs) = xs := by
          constructor
          · intro hz
            have h1 : readL xs = (pieces xs, 0) := by unfold readL; rw [if_pos hl, hall', hz]; rfl
            rcases readL_only hrng with ⟨_, _, _, h⟩ | ⟨h, _⟩
            · exact h
            · rw [h1] at h; cases h
          · intro hx
            rw [← hx]
            have : (nodeL (pieces xs)).drop 176 = List.replicate 80 0 := by
              unfold nodeL
              rw [show 176 = (encs (pieces xs)).length by rw [encs_len hpok]; rfl, List.drop_left]
            rw [this]; decide
        have hrl : readL xs = if (xs.drop 176).all (· == 0) then (pieces xs, 0) else (zeros4, 3) := by
          unfold readL
          rw [if_pos hl, hall', Bool.true_and]
        have HND : Hid (∀ u, Calls Try.prog 22 #[.agg (fourV (pieces xs)).toArray] u fun e w' => ∃ v, e = .returned v ∧ Below u.heap.size u w' ∧ slB 256 (nodeL (pieces xs)) v w') := fun u => calls_slB (rnode_run (pieces xs) hpok rfl u)
        have HCB : Hid (∀ u, Below w.heap.size w u → (convert 30 9 (.slice (some ⟨b, off, none⟩) 256 c)).run Try.prog u = .ok (.string (strOfNums xs)) u) := fun u hu => conv_bs (hB.stays hu) hl.symm
        have HCN : Hid (∀ a' c' u, slB 256 (nodeL (pieces xs)) (.slice a' 256 c') u → (convert 30 9 (.slice a' 256 c')).run Try.prog u = .ok (.string (strOfNums (nodeL (pieces xs)))) u) := fun a' c' u hu => by
          obtain ⟨a2, c2, h5, h6⟩ := hu
          cases h5
          exact conv_bs h6 hnl.symm
        have hnr := nodeL_rng hpok
        obtain ⟨fv, hfv⟩ : ∃ fv, fv = fourV (pieces xs) := ⟨_, rfl⟩
        have hf1 : ∀ v ∈ fv, v.oneCell' = true := by rw [hfv]; exact fourV_one _
        have HFV : Hid (fv = fourV (pieces xs)) := hfv
        rw [← hfv] at hL hfl HND
        clear hfv hB hall hall' hpok hnl
        have HLD : Hid (∀ w1 u : World, Blk 36 w1 (w.heap.size + 1) fv → Below w1.heap.size w1 u → (Instr.loadAt 36 (.pointer (some ⟨w.heap.size + 1, 0, none⟩))).run Try.prog u = .ok (.agg fv.toArray) u) := fun w1 u h1 hu => run_load_blk agg_four size_four (h1.stays hu) (whole_load hfl) hfl
        obtain ⟨NX, hNX⟩ : ∃ NX, NX = nodeL (pieces xs) := ⟨_, rfl⟩
        rw [← hNX] at hiff HND HCN hnr
        obtain ⟨Z1, hZ1⟩ : ∃ Z, Z = strOfNums NX := ⟨_, rfl⟩
        obtain ⟨Z2, hZ2⟩ : ∃ Z, Z = strOfNums xs := ⟨_, rfl⟩
        rw [← hZ1] at HCN
        rw [← hZ2] at HCB
        cases hv : (xs.drop 176).all (· == 0)
        · rw [hv, if_neg (by simp)] at hrl
          have HRL : Hid (readL xs = (zeros4, 3)) := hrl
          have hzz : (Z1.toList == Z2.toList) = false := by
            cases hzz : (Z1.toList == Z2.toList)
            · rfl
            · exfalso
              rw [beq_iff_eq, ByteArray.toList_eq, ByteArray.toList_eq] at hzz
              have hzy : Z1 = Z2 := ByteArray.ext (Array.toList_inj.1 hzz)
              rw [hZ1, hZ2] at hzy
              have := hiff.2 (strOfNums_inj hnr hrng hzy)
              rw [hv] at this; cases this
          clear hrl hv hiff hZ1 hZ2 hNX hnr
          go_wp2
          refine Up.wp_region_up (Up.tell [(1, slB 256 NX)]) (by kernel_rfl) (by kernel_rfl) (Up.tell_steady _ (by
            intro p hp
            simp only [List.mem_cons, List.not_mem_nil, or_false] at hp
            rcases hp with rfl
            exact slB_steady _ _)) ?_
          refine Up.wpUp_pure (.agg fv.toArray) (by rfl) (by rfl) (fun w1 hp => exec_load (t := 36) (x := .tmp 4) (p := ⟨w.heap.size + 1, 0, none⟩) (by rfl) (by rfl) (HLD.out _ w1 hL hp.1)) ?_
          simp only [Act.put, List.setIfInBounds_toArray, List.set_cons_zero, List.set_cons_succ]
          refine Up.wpUp_call _ 22 #[.agg fv.toArray] (by rfl) (by rfl) (fun w1 => by go_simp) (fun w1 hp => HND.out w1) ?_
          rintro v ⟨u, _, hf⟩
          obtain ⟨a', c', rfl, _⟩ := hf 1 v _ rfl rfl
          clear hf
          simp only [Act.put, List.setIfInBounds_toArray, List.set_cons_zero, List.set_cons_succ]
          repeat (first
            | (apply Up.wpUp_pure
               case hw => rfl
               case hψ => rfl
               case hv => (intro w1 hp; have hq2 := HCB.out w1 (hbr.trans (hp.1.mono hbr.size)); clear hp; go_simp; try (with_reducible rfl))
               simp only [Act.put, List.setIfInBounds_toArray, List.set_cons_zero, List.set_cons_succ])
            | (apply Up.wpUp_pure
               case hw => rfl
               case hψ => rfl
               case hv => (intro w1 hp; have hq3 := HCN.out _ _ _ (hp.2 1 _ _ rfl rfl rfl); clear hp; go_simp; try (with_reducible rfl))
               simp only [Act.put, List.setIfInBounds_toArray, List.set_cons_zero, List.set_cons_succ]))
          refine Up.wpUp_end ?_
          intro w3 hb3 _
          have hR3 := hR.stays hb3
          go_wp2_with (first
            | (refine wpList_build0 (by rfl) 36 (by rfl) _ HBU.out ?_)
            | (refine wpList_store_blk (by rfl) (.tmp 2) (.tmp 40) 36 (by rfl) _ 0 140 (by rfl) _ (by rfl) size_four hR3 hzl (by omega) hz1 _ (whole_store hzl) ?_
               intro w6 hR6 hbut6 hs6))
          have z3 := hb3.size
          refine bodyPost_ret_blk2 rfl rfl (by rfl) (by rfl) agg_four size_four hR6 hzl ⟨by rw [HRL.out, HZS.out]; rfl, ?_⟩
          exact (hbr.trans (hb3.mono (by omega))).trans (hbut6.below (Nat.le_refl _) (by omega))
        · rw [hv, if_pos rfl] at hrl
          have HRL : Hid (readL xs = (pieces xs, 0)) := hrl
          have hzz : Z1 = Z2 := by rw [hZ1, hZ2, hiff.1 hv]
          clear hrl hv hiff hZ1 hZ2 hNX hnr
          subst hzz
          go_wp2
          refine Up.wp_region_up (Up.tell [(1, slB 256 NX)]) (by kernel_rfl) (by kernel_rfl) (Up.tell_steady _ (by
            intro p hp
            simp only [List.mem_cons, List.not_mem_nil, or_false] at hp
            rcases hp with rfl
            exact slB_steady _ _)) ?_
          refine Up.wpUp_pure (.agg fv.toArray) (by rfl) (by rfl) (fun w1 hp => exec_load (t := 36) (x := .tmp 4) (p := ⟨w.heap.size + 1, 0, none⟩) (by rfl) (by rfl) (HLD.out _ w1 hL hp.1)) ?_
          simp only [Act.put, List.setIfInBounds_toArray, List.set_cons_zero, List.set_cons_succ]
          refine Up.wpUp_call _ 22 #[.agg fv.toArray] (by rfl) (by rfl) (fun w1 => by go_simp) (fun w1 hp => HND.out w1) ?_
          rintro v ⟨u, _, hf⟩
          obtain ⟨a', c', rfl, _⟩ := hf 1 v _ rfl rfl
          clear hf
          simp only [Act.put, List.setIfInBounds_toArray, List.set_cons_zero, List.set_cons_succ]
          repeat (first
            | (apply Up.wpUp_pure
               case hw => rfl
               case hψ => rfl
               case hv => (intro w1 hp; have hq2 := HCB.out w1 (hbr.trans (hp.1.mono hbr.size)); clear hp; go_simp; try (with_reducible rfl))
               simp only [Act.put, List.setIfInBounds_toArray, List.set_cons_zero, List.set_cons_succ])
            | (apply Up.wpUp_pure
               case hw => rfl
               case hψ => rfl
               case hv => (intro w1 hp; have hq3 := HCN.out _ _ _ (hp.2 1 _ _ rfl rfl rfl); clear hp; go_simp; try (with_reducible rfl))
               simp only [Act.put, List.setIfInBounds_toArray, List.set_cons_zero, List.set_cons_succ]))
          refine Up.wpUp_end ?_
          intro w3 hb3 _
          have hR3 := hR.stays hb3
          have hL3 := hL.stays hb3
          go_wp2_with (first
            | (refine wpList_load_blk (by rfl) (.tmp 4) 36 (by rfl) _ 0 140 (by rfl) agg_four size_four hL3 _ (whole_load hfl) hfl ?_)
            | (refine wpList_store_blk (by rfl) (.tmp 2) (.tmp 41) 36 (by rfl) _ 0 140 (by rfl) _ (by rfl) size_four hR3 hfl (by omega) hf1 _ (whole_store hzl) ?_
               intro w6 hR6 hbut6 hs6))
          have z3 := hb3.size
          refine bodyPost_ret_blk2 rfl rfl (by rfl) (by rfl) agg_four size_four hR6 hfl ⟨by rw [HRL.out, HFV.out]; rfl, ?_⟩
          exact (hbr.trans (hb3.mono (by omega))).trans (hbut6.below (Nat.le_refl _) (by omega))
  · have hrl : readL xs = (zeros4, 3) := by unfold readL; rw [if_neg (by omega)]
    have hne : ((n : Int) == 256) = false := by simp; omega
    have hne' : ¬ (n : Int) = 256 := by omega
    obtain ⟨zs, hzs⟩ : ∃ zs, zs = fourV zeros4 := ⟨_, rfl⟩
    have HAL : Hid (∀ w : World, (Instr.alloc 36 true (.tuple #[])).run Try.prog w = .ok (.pointer (some ⟨w.heap.size, 0, none⟩)) (w.alloc (.cells zs.toArray 36))) := by rw [hzs]; exact alloc_four0
    have HBU : Hid (∀ w : World, (Instr.build 36 #[]).run Try.prog w = .ok (.agg zs.toArray) w) := by rw [hzs]; exact build_four0
    have hz1 : ∀ v ∈ zs, v.oneCell' = true := by rw [hzs]; exact fourV_one _
    have HRL : Hid (readL xs = (zeros4, 3)) := hrl
    have HZS : Hid (zs = fourV zeros4) := hzs
    rw [← hzs] at hzl
    clear hzs hrl hn hB h256
    go_enter Try.func20, Try.ntmps20
    go_wp2_with (first
      | (refine wpList_alloc0 (by rfl) 36 (by rfl) (some 2) (by rfl) zs HAL.out ?_; intro w1 hR1 hb1 hs1)
      | (refine wpList_build0 (by rfl) 36 (by rfl) _ HBU.out ?_)
      | (refine wpList_alloc0 (by rfl) 36 (by rfl) (some 4) (by rfl) zs HAL.out ?_; intro w1b hL1 hb1b hs1b; have hR1b := hR1.stays hb1b)
      | (refine wpList_store_blk (by rfl) (.tmp 4) (.tmp 8) 36 (by rfl) _ 0 140 (by rfl) _ (by rfl) size_four hL1 hzl (by omega) hz1 _ (whole_store hzl) ?_
         intro w2 hL2 hbut2 hs2; rw [hs1] at hL2 hbut2 hs1b; have hR2 := hR1b.but hbut2 (by omega))
      | (refine wpList_load_blk (by rfl) (.tmp 4) 36 (by rfl) _ 0 140 (by rfl) agg_four size_four hL2 _ (whole_load hzl) hzl ?_)
      | (refine wpList_store_blk (by rfl) (.tmp 2) (.tmp 12) 36 (by rfl) _ 0 140 (by rfl) _ (by rfl) size_four hR2 hzl (by omega) hz1 _ (whole_store hzl) ?_
         intro w6 hR6 hbut6 hs6))
    refine bodyPost_ret_blk2 rfl rfl (by rfl) (by rfl) agg_four size_four hR6 hzl ⟨by rw [HRL.out, HZS.out]; rfl, ?_⟩
    exact ((below_then hb1 hb1b).trans (hbut2.below (by omega) (by omega))).trans (hbut6.below (Nat.le_refl _) (by omega))
end Go.Proofs.Ytobfegmkjiggdaa
