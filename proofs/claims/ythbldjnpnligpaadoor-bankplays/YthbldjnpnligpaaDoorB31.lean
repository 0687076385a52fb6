/-
 bank.write.
-/
import Derived.Test.YthbldjnpnligpaaDoorB30
namespace Go.Proofs.YthbldjnpnligpaaDoor
set_option linter.unusedSimpArgs false
set_option linter.unusedVariables false
set_option maxRecDepth 100000
open Go.RowKit
section
variable {B : Nat} {w w' : World} {F : Nat → Prop} {k p g : Nat} {S S' : DS} {l l' : List Bool} {t : Nat}
theorem index_us (b off m c j : Nat) (hj : j < m) (u : World) : (Instr.indexAt 169 (.slice (some ⟨b, off, none⟩) m c) (.int .i64 (j : Int))).run Tryd.prog u = .ok (.pointer (some ⟨b, off + j, none⟩)) u :=
 index_run 169 34 Tryd.underlying169 sizes32 elem32 b off m c .i64 j hj u
theorem us_at {a : Option Addr} {xs : List Nat} (h : Us w a xs) {j : Nat} (hj : j < xs.length) : ∃ b off, a = some ⟨b, off, none⟩ ∧ w.cell? ⟨b, off + j, none⟩ = some (.int .u32 ((xs.getD j 0 : Nat) : Int)) := by
 rcases h.lay with h0 | ⟨b, off, h1, h2⟩
 · rw [h0] at hj; simp at hj
 · exact ⟨b, off, h1, h2 j hj⟩
theorem take_next (xs : List Nat) (j : Nat) (hj : j < xs.length) : xs.take (j + 1) = xs.take j ++ [xs.getD j 0] := by
 rw [List.take_succ_eq_append_getElem hj]; simp [List.getD, hj]
theorem take_split (xs : List Nat) (j : Nat) (hj : j < xs.length) : xs = xs.take j ++ xs.getD j 0 :: xs.drop (j + 1) := by
 have h1 := List.take_append_drop (j + 1) xs
 rw [take_next xs j hj, List.append_assoc] at h1
 exact h1.symm
set_option maxHeartbeats 8000000 in
theorem bwrite_run (h : Bk B w F k p g S l t) (hln : S.ws.length ≤ 800000) (a : Option Addr) (c : Nat) (xs : List Nat) (hU : Us w a xs) (hx8 : xs.length ≤ 8) (hxl : ∀ x ∈ xs, x < l.length) (hnU : ∀ x, a = some x → ¬ F x.block)
 (a2 : Option Addr) (c2 : Nat) (bs : List Int) (hB : Bs w a2 c2 bs) (h256 : bs.length = 256) (hnF : ∀ x, a2 = some x → ¬ F x.block) :
 Calls Tryd.prog 104 #[.pointer (some ⟨k, 0, none⟩), .slice a xs.length c, .slice a2 256 c2] w fun e w' => e = .returned (.int .i64 (wrK bs S xs).2) ∧ Then F w w' p (wrK bs S xs).1 := by
 have hsz := h.sz
 obtain ⟨M, hM⟩ : ∃ M, M = S.laid.length / 256 := ⟨_, rfl⟩
 have hMl : M ≤ 512 := by rw [hM, ← h.sz]; exact h.mp.hi
 have hLN : ∀ u, Below w.heap.size w u → Calls Tryd.prog 135 #[.pointer (some ⟨p, 0, none⟩)] u fun e w' => e = .returned (.int .i64 (M : Int)) ∧ w' = u := fun u hu => by
  rw [hM]; exact dk_len (h.dk.stays hu)
 have HXL : Hid (∀ j, j < xs.length → xs.getD j 0 < M ∧ xs.getD j 0 < 4294967296) := fun j hj => by
  have h1 : xs.getD j 0 ∈ xs := by simp [List.getD, hj]
  have := hxl _ h1
  rw [hM, ← hsz]
  exact ⟨this, hU.rng _ h1⟩
 obtain ⟨m, hm⟩ : ∃ m, m = xs.length := ⟨_, rfl⟩
 have HM : Hid (m = xs.length) := hm
 rw [← hm] at hx8 HXL ⊢
 have hc0 : w.cell? ⟨k, 0, none⟩ = some (.pointer (some ⟨p, 0, none⟩)) := h.bb.cell 0
 have hln0 := hLN w (Below.refl _ _)
 clear hsz hM hm hLN
 go_enter Tryd.func104, Tryd.ntmps104
 go_wp2
 go_loopw [14] (fun i wr => ∃ j : Nat, j ≤ m ∧ i = .int .i64 j ∧ w = wr) (fun i _ => m - (intOf i).toNat)
 case atStart => exact ⟨0, by omega, rfl, rfl⟩
 case round =>
  rename_i hrel
  obtain ⟨j, hj, rfl, rfl⟩ := hrel
  by_cases hlt : j < m
  · obtain ⟨b, off, ha, hc⟩ := us_at hU (j := j) (by have := HM.out; omega)
    have hix : ∀ u : World, (Instr.indexAt 169 (.slice a m c) (.int .i64 (j : Int))).run Tryd.prog u = .ok (.pointer (some ⟨b, off + j, none⟩)) u := fun u => by
        rw [ha]; exact index_us b off m c j hlt u
    obtain ⟨hq1, hq2⟩ := HXL.out j hlt
    obtain ⟨q, hq⟩ : ∃ q, q = xs.getD j 0 := ⟨_, rfl⟩
    rw [← hq] at hc hq1 hq2
    have hwr : IntKind.i64.wrap (q : Int) = (q : Int) := by rw [IntKind.wrap_i64]; omega
    have hge : decide ((M : Int) ≤ (q : Int)) = false := by simp; omega
    have hge' : decide (M ≤ q) = false := by simp; omega
    have hgp : ¬ M ≤ q := by omega
    clear hq ha
    go_wp2_with (first
        | (go_at_call 135; go_must (refine hln0.mono ?_); rintro e w' ⟨rfl, rfl⟩))
    go_roundw
    case rel => exact ⟨j + 1, by omega, by go_num, by first | rfl | trivial⟩
    case measure => simp [intOf]; omega
  · have hjm : m = j := by omega
    subst hjm
    clear hlt
    go_wp2
    go_loopw [29] (fun i wr => ∃ (j : Nat) (S' : DS), j ≤ m ∧ i = .int .i64 j ∧ Hid (wrK bs S (xs.take j) = (S', 0)) ∧ Then F w wr p S') (fun i _ => m - (intOf i).toNat)
    case atStart => exact ⟨0, S, by omega, rfl, (by show _ = _; rfl), then_same h.dk (Below.refl _ _)⟩
    case round =>
        rename_i hrel
        obtain ⟨j, T, hj, rfl, HW, htr⟩ := hrel
        by_cases hlt : j < m
        · obtain ⟨b, off, ha, hc⟩ := us_at (us_keep htr.2 hU hnU) (j := j) (by have := HM.out; omega)
          have hix : ∀ u : World, (Instr.indexAt 169 (.slice a m c) (.int .i64 (j : Int))).run Tryd.prog u = .ok (.pointer (some ⟨b, off + j, none⟩)) u := fun u => by
           rw [ha]; exact index_us b off m c j hlt u
          obtain ⟨hq1, hq2⟩ := HXL.out j hlt
          have HTN := take_next xs j (by have := HM.out; omega)
          have HTS := take_split xs j (by have := HM.out; omega)
          obtain ⟨q, hq⟩ : ∃ q, q = xs.getD j 0 := ⟨_, rfl⟩
          rw [← hq] at hc hq1 hq2 HTN HTS
          have HN : Hid (xs.take (j + 1) = xs.take j ++ [q]) := HTN
          have HS : Hid (xs = xs.take j ++ q :: xs.drop (j + 1)) := HTS
          have hwr : IntKind.i64.wrap (q : Int) = (q : Int) := by rw [IntKind.wrap_i64]; omega
          have hpc : Hid (_ = some (Value.pointer (some ⟨p, 0, none⟩))) := (box_keep htr.2 h.bb h.fk).cell 0
          have hc1 := hpc.out
          have hTl : T.ws.length ≤ 900000 := by have := wrK_len bs (xs.take j) S; rw [HW.out] at this; simp only [List.length_take] at this; omega
          have hwc := dk_write htr.1 (q : Int) a2 c2 bs (bs_keep htr.2 hB hnF) (fun x hx hf => hf.elim (hnF x hx) (fun h2 => by have := hB.lt (by intro e; rw [e] at h256; simp at h256) hx; omega)) (by omega)
          rw [h256] at hwc
          have hwc' := hwc.mono (fun e w' (he : e = .returned (.int .i64 (T.write (q : Int) bs).2) ∧ _) => (⟨he.1, then_trans htr he.2⟩ : e = .returned (.int .i64 (T.write (q : Int) bs).2) ∧ Then F w w' p (T.write (q : Int) bs).1))
          clear hq ha HTN HTS hwc hpc htr hU
          by_cases he : (T.write (q : Int) bs).2 = 0
          · obtain ⟨T2, hT2⟩ : ∃ T2, T2 = (T.write (q : Int) bs).1 := ⟨_, rfl⟩
            have HC : Hid (T.write (q : Int) bs = (T2, 0)) := by show _ = _; rw [hT2, ← he]
            rw [he, ← hT2] at hwc'
            clear he hT2
            go_wp2_with (first
             | (go_at_call 144; go_must (refine hwc'.mono ?_); rintro e w6 ⟨rfl, ht6⟩))
            go_roundw
            case rel => exact ⟨j + 1, T2, by omega, by go_num, (by show _ = _; rw [HN.out, wrK_fst bs S _ _ T HW.out]; unfold wrK; rw [HC.out]; simp only [if_pos]; rfl), ht6⟩
            case measure => simp [intOf]; omega
          · obtain ⟨E, hE⟩ : ∃ E, E = (T.write (q : Int) bs).2 := ⟨_, rfl⟩
            obtain ⟨T2, hT2⟩ : ∃ T2, T2 = (T.write (q : Int) bs).1 := ⟨_, rfl⟩
            have HC : Hid (T.write (q : Int) bs = (T2, E)) := by show _ = _; rw [hT2, hE]
            rw [← hE] at he
            rw [← hE, ← hT2] at hwc'
            have hne : (E != 0) = true := by simpa using he
            clear hE hT2
            go_wp2_with (first
             | (go_at_call 144; go_must (refine hwc'.mono ?_); rintro e w6 ⟨rfl, ht6⟩))
            go_ret
            have hv : wrK bs S xs = (T2, E) := by rw [HS.out, wrK_bad bs S _ q _ T HW.out (by rw [HC.out]; exact he), HC.out]
            rw [hv]
            exact ⟨rfl, ht6⟩
        · have hjm : m = j := by omega
          subst hjm
          go_wp2
          go_ret
          have hv : wrK bs S xs = (T, 0) := by
           have := HW.out
           rwa [List.take_of_length_le (by have := HM.out; omega)] at this
          rw [hv]
          exact ⟨rfl, htr⟩
end
end Go.Proofs.YthbldjnpnligpaaDoor

/-
 bank.Put: what fails.
-/

namespace Go.Proofs.YthbldjnpnligpaaDoor
set_option linter.unusedSimpArgs false
set_option linter.unusedVariables false
set_option maxRecDepth 100000
open Go.RowKit
section
variable {B : Nat} {w w' : World} {F : Nat → Prop} {k p g : Nat} {S S' : DS} {l l' : List Bool} {t : Nat}
theorem but_new {m : Nat} {x y z : World} (h : But g x y) (hk : But m y z) (hm : x.heap.size ≤ m) : But g x z :=
 ⟨hk.os.trans h.os, hk.tape.trans h.tape, hk.output.trans h.output, Nat.le_trans h.size hk.size, fun i hi hl => (hk.block i (by omega) (by have := h.size; omega)).trans (h.block i hi hl)⟩
theorem zero_one : ∀ v ∈ Pt.zero.vs, v.oneCell' = true := by decide
theorem bs_map {a : Option Addr} {c : Nat} {xs : List Int} (hB : Bs w a c xs) (hm : Mp w g l) (hb : But g w w') : Bs w' a c xs := by
 refine ⟨hB.rng, hB.cap, hB.capm, hB.nul, ?_⟩
 rcases hB.lay with h0 | ⟨b, off, rfl, hc⟩
 · exact .inl h0
 · refine .inr ⟨b, off, rfl, fun i hi => ?_⟩
   have hci := hc i hi
   have hne : b ≠ g := by
    rintro rfl
    rw [hm.blk.cell _] at hci
    have hmm := List.mem_of_getElem? hci
    simp only [mapV, wordsV, List.mem_cons, List.mem_map] at hmm
    rcases hmm with hmm | ⟨k, _, hmm⟩
    · simp at hmm
    · simp at hmm
   rw [World.cell?_of_block (w := w) (hb.block b hne (World.block_lt_of_cell? w _ hci))]
   exact hci
set_option maxHeartbeats 4000000 in
theorem bput_down (h : Bk B w F k p g S l t) (hln : S.ws.length ≤ 800000) (hV : Vars w) (a : Option Addr) (c : Nat) (bs : List Int) (hB : Bs w a c bs) (cp : Int) (hoff : S.off = true) :
 Calls Tryd.prog 50 #[.pointer (some ⟨k, 0, none⟩), .slice a bs.length c, .int .i64 cp] w fun e w' => e = .returned (.tuple #[.agg Pt.zero.vs.toArray, .int .i64 8]) ∧ Below w.heap.size w w' := by
 have hdn := fun u (hu : Below w.heap.size w u) => bdown_run (h.stays hu) (by omega)
 have HAL : Hid (∀ w : World, (Instr.alloc 42 true (.tuple #[])).run Tryd.prog w = .ok (.pointer (some ⟨w.heap.size, 0, none⟩)) (w.alloc (.cells Pt.zero.vs.toArray 42))) := alloc_ptr0
 have HBU : Hid (∀ w : World, (Instr.build 42 #[]).run Tryd.prog w = .ok (.agg Pt.zero.vs.toArray) w) := build_ptr0
 have hzl : Pt.zero.vs.length = 35 := Pt.vs_len Pt.zero_ok
 have hzo : ∀ v ∈ Pt.zero.vs, v.oneCell' = true := zero_one
 obtain ⟨zs, hzs⟩ : ∃ zs, zs = Pt.zero.vs := ⟨_, rfl⟩
 rw [← hzs] at HAL HBU hzl hzo ⊢
 obtain ⟨n, hn⟩ : ∃ n, n = bs.length := ⟨_, rfl⟩
 rw [← hn]
 rw [hoff] at hdn
 clear hzs hn
 go_enter Tryd.func50, Tryd.ntmps50
 go_wp2_with (first
  | ((with_reducible show wpList _ _ _ (Oper.mk _ (Op.alloc _) _ _ _ _ :: _) _ _); refine wpList_alloc0 (by rfl) 42 (by rfl) (some 6) (by rfl) _ HAL.out ?_; intro w1 hR1 hb1 hs1
     clear hs1
     have hd1 := hdn _ hb1)
  | (go_at_call 102; go_must (refine hd1.mono ?_); rintro e w2 ⟨rfl, hb2⟩
     have hR2 := hR1.stays hb2
     have hb2' := below_then hb1 hb2)
  | ((with_reducible show wpList _ _ _ (Oper.mk _ (Op.build _ _) _ _ _ _ :: _) _ _); refine wpList_build0 (by rfl) 42 (by rfl) _ HBU.out ?_)
  | ((with_reducible show wpList _ _ _ (Oper.mk _ (Op.store _ _ _) _ _ _ _ :: _) _ _); refine wpList_store_blk (by rfl) (.tmp 6) (.tmp 16) 42 (by rfl) _ 0 35 (by rfl) zs (by rfl) size_ptr hR2 hzl (by omega) hzo _ (whole_store hzl) ?_
     intro w3 hRz hbutz hsz))
 exact bodyPost_ret_blk2 rfl rfl (by rfl) (by rfl) agg_ptr size_ptr hRz hzl ⟨rfl, hb2'.trans (hbutz.below (Nat.le_refl _) hb2'.size)⟩
set_option maxHeartbeats 4000000 in
theorem bput_len (h : Bk B w F k p g S l t) (hln : S.ws.length ≤ 800000) (hV : Vars w) (a : Option Addr) (c : Nat) (bs : List Int) (hB : Bs w a c bs) (cp : Int) (hoff : S.off = false) (hne : bs.length ≠ 256) :
 Calls Tryd.prog 50 #[.pointer (some ⟨k, 0, none⟩), .slice a bs.length c, .int .i64 cp] w fun e w' => e = .returned (.tuple #[.agg Pt.zero.vs.toArray, .int .i64 1]) ∧ Below w.heap.size w w' := by
 have hdn := fun u (hu : Below w.heap.size w u) => bdown_run (h.stays hu) (by omega)
 have HAL : Hid (∀ w : World, (Instr.alloc 42 true (.tuple #[])).run Tryd.prog w = .ok (.pointer (some ⟨w.heap.size, 0, none⟩)) (w.alloc (.cells Pt.zero.vs.toArray 42))) := alloc_ptr0
 have HBU : Hid (∀ w : World, (Instr.build 42 #[]).run Tryd.prog w = .ok (.agg Pt.zero.vs.toArray) w) := build_ptr0
 have hzl : Pt.zero.vs.length = 35 := Pt.vs_len Pt.zero_ok
 have hzo : ∀ v ∈ Pt.zero.vs, v.oneCell' = true := zero_one
 obtain ⟨zs, hzs⟩ : ∃ zs, zs = Pt.zero.vs := ⟨_, rfl⟩
 rw [← hzs] at HAL HBU hzl hzo ⊢
 obtain ⟨n, hn⟩ : ∃ n, n = bs.length := ⟨_, rfl⟩
 rw [← hn]
 rw [hoff] at hdn
 have hx1 : ((n : Int) != 256) = true := by simp; omega
 clear hzs hn
 go_enter Tryd.func50, Tryd.ntmps50
 go_wp2_with (first
  | ((with_reducible show wpList _ _ _ (Oper.mk _ (Op.alloc _) _ _ _ _ :: _) _ _); refine wpList_alloc0 (by rfl) 42 (by rfl) (some 6) (by rfl) _ HAL.out ?_; intro w1 hR1 hb1 hs1
     clear hs1
     have hd1 := hdn _ hb1)
  | (go_at_call 102; go_must (refine hd1.mono ?_); rintro e w2 ⟨rfl, hb2⟩
     have hR2 := hR1.stays hb2
     have hb2' := below_then hb1 hb2)
  | ((with_reducible show wpList _ _ _ (Oper.mk _ (Op.build _ _) _ _ _ _ :: _) _ _); refine wpList_build0 (by rfl) 42 (by rfl) _ HBU.out ?_)
  | ((with_reducible show wpList _ _ _ (Oper.mk _ (Op.store _ _ _) _ _ _ _ :: _) _ _); refine wpList_store_blk (by rfl) (.tmp 6) (.tmp 28) 42 (by rfl) _ 0 35 (by rfl) zs (by rfl) size_ptr hR2 hzl (by omega) hzo _ (whole_store hzl) ?_
     intro w3 hRz hbutz hsz))
 exact bodyPost_ret_blk2 rfl rfl (by rfl) (by rfl) agg_ptr size_ptr hRz hzl ⟨rfl, hb2'.trans (hbutz.below (Nat.le_refl _) hb2'.size)⟩
set_option maxHeartbeats 4000000 in
theorem bput_low (h : Bk B w F k p g S l t) (hln : S.ws.length ≤ 800000) (hV : Vars w) (a : Option Addr) (c : Nat) (bs : List Int) (hB : Bs w a c bs) (cp : Int) (hoff : S.off = false) (h256 : bs.length = 256) (hc1 : cp < 1) :
 Calls Tryd.prog 50 #[.pointer (some ⟨k, 0, none⟩), .slice a bs.length c, .int .i64 cp] w fun e w' => e = .returned (.tuple #[.agg Pt.zero.vs.toArray, .int .i64 1]) ∧ Below w.heap.size w w' := by
 have hdn := fun u (hu : Below w.heap.size w u) => bdown_run (h.stays hu) (by omega)
 have HAL : Hid (∀ w : World, (Instr.alloc 42 true (.tuple #[])).run Tryd.prog w = .ok (.pointer (some ⟨w.heap.size, 0, none⟩)) (w.alloc (.cells Pt.zero.vs.toArray 42))) := alloc_ptr0
 have HBU : Hid (∀ w : World, (Instr.build 42 #[]).run Tryd.prog w = .ok (.agg Pt.zero.vs.toArray) w) := build_ptr0
 have hzl : Pt.zero.vs.length = 35 := Pt.vs_len Pt.zero_ok
 have hzo : ∀ v ∈ Pt.zero.vs, v.oneCell' = true := zero_one
 obtain ⟨zs, hzs⟩ : ∃ zs, zs = Pt.zero.vs := ⟨_, rfl⟩
 rw [← hzs] at HAL HBU hzl hzo ⊢
 obtain ⟨n, hn⟩ : ∃ n, n = bs.length := ⟨_, rfl⟩
 rw [← hn]
 rw [hoff] at hdn
 rw [h256] at hn
 obtain rfl : n = 256 := hn
 have hn := 0
 have hx2 : decide (cp < 1) = true := by simp; omega
 clear hzs hn
 go_enter Tryd.func50, Tryd.ntmps50
 go_wp2_with (first
  | ((with_reducible show wpList _ _ _ (Oper.mk _ (Op.alloc _) _ _ _ _ :: _) _ _); refine wpList_alloc0 (by rfl) 42 (by rfl) (some 6) (by rfl) _ HAL.out ?_; intro w1 hR1 hb1 hs1
     clear hs1
     have hd1 := hdn _ hb1)
  | (go_at_call 102; go_must (refine hd1.mono ?_); rintro e w2 ⟨rfl, hb2⟩
     have hR2 := hR1.stays hb2
     have hb2' := below_then hb1 hb2)
  | ((with_reducible show wpList _ _ _ (Oper.mk _ (Op.build _ _) _ _ _ _ :: _) _ _); refine wpList_build0 (by rfl) 42 (by rfl) _ HBU.out ?_)
  | ((with_reducible show wpList _ _ _ (Oper.mk _ (Op.store _ _ _) _ _ _ _ :: _) _ _); refine wpList_store_blk (by rfl) (.tmp 6) (.tmp 28) 42 (by rfl) _ 0 35 (by rfl) zs (by rfl) size_ptr hR2 hzl (by omega) hzo _ (whole_store hzl) ?_
     intro w3 hRz hbutz hsz))
 exact bodyPost_ret_blk2 rfl rfl (by rfl) (by rfl) agg_ptr size_ptr hRz hzl ⟨rfl, hb2'.trans (hbutz.below (Nat.le_refl _) hb2'.size)⟩
set_option maxHeartbeats 4000000 in
theorem bput_high (h : Bk B w F k p g S l t) (hln : S.ws.length ≤ 800000) (hV : Vars w) (a : Option Addr) (c : Nat) (bs : List Int) (hB : Bs w a c bs) (cp : Int) (hoff : S.off = false) (h256 : bs.length = 256) (hc1 : 2 < cp) :
 Calls Tryd.prog 50 #[.pointer (some ⟨k, 0, none⟩), .slice a bs.length c, .int .i64 cp] w fun e w' => e = .returned (.tuple #[.agg Pt.zero.vs.toArray, .int .i64 1]) ∧ Below w.heap.size w w' := by
 have hdn := fun u (hu : Below w.heap.size w u) => bdown_run (h.stays hu) (by omega)
 have HAL : Hid (∀ w : World, (Instr.alloc 42 true (.tuple #[])).run Tryd.prog w = .ok (.pointer (some ⟨w.heap.size, 0, none⟩)) (w.alloc (.cells Pt.zero.vs.toArray 42))) := alloc_ptr0
 have HBU : Hid (∀ w : World, (Instr.build 42 #[]).run Tryd.prog w = .ok (.agg Pt.zero.vs.toArray) w) := build_ptr0
 have hzl : Pt.zero.vs.length = 35 := Pt.vs_len Pt.zero_ok
 have hzo : ∀ v ∈ Pt.zero.vs, v.oneCell' = true := zero_one
 obtain ⟨zs, hzs⟩ : ∃ zs, zs = Pt.zero.vs := ⟨_, rfl⟩
 rw [← hzs] at HAL HBU hzl hzo ⊢
 obtain ⟨n, hn⟩ : ∃ n, n = bs.length := ⟨_, rfl⟩
 rw [← hn]
 rw [hoff] at hdn
 rw [h256] at hn
 obtain rfl : n = 256 := hn
 have hn := 0
 have hx2 : decide (cp < 1) = false := by simp; omega
 have hx3 : decide (2 < cp) = true := by simp; omega
 clear hzs hn
 go_enter Tryd.func50, Tryd.ntmps50
 go_wp2_with (first
  | ((with_reducible show wpList _ _ _ (Oper.mk _ (Op.alloc _) _ _ _ _ :: _) _ _); refine wpList_alloc0 (by rfl) 42 (by rfl) (some 6) (by rfl) _ HAL.out ?_; intro w1 hR1 hb1 hs1
     clear hs1
     have hd1 := hdn _ hb1)
  | (go_at_call 102; go_must (refine hd1.mono ?_); rintro e w2 ⟨rfl, hb2⟩
     have hR2 := hR1.stays hb2
     have hb2' := below_then hb1 hb2)
  | ((with_reducible show wpList _ _ _ (Oper.mk _ (Op.build _ _) _ _ _ _ :: _) _ _); refine wpList_build0 (by rfl) 42 (by rfl) _ HBU.out ?_)
  | ((with_reducible show wpList _ _ _ (Oper.mk _ (Op.store _ _ _) _ _ _ _ :: _) _ _); refine wpList_store_blk (by rfl) (.tmp 6) (.tmp 28) 42 (by rfl) _ 0 35 (by rfl) zs (by rfl) size_ptr hR2 hzl (by omega) hzo _ (whole_store hzl) ?_
     intro w3 hRz hbutz hsz))
 exact bodyPost_ret_blk2 rfl rfl (by rfl) (by rfl) agg_ptr size_ptr hRz hzl ⟨rfl, hb2'.trans (hbutz.below (Nat.le_refl _) hb2'.size)⟩
set_option maxHeartbeats 4000000 in
theorem bput_full (h : Bk B w F k p g S l t) (hln : S.ws.length ≤ 800000) (hV : Vars w) (a : Option Addr) (c : Nat) (bs : List Int) (hB : Bs w a c bs) (cp : Int) (hoff : S.off = false) (h256 : bs.length = 256) (hc1 : 1 ≤ cp) (hc2 : cp ≤ 2) (E : Nat) (hE : (takeL l cp).2.2 = E) (hE0 : E ≠ 0) :
 Calls Tryd.prog 50 #[.pointer (some ⟨k, 0, none⟩), .slice a 256 c, .int .i64 cp] w fun e w' => e = .returned (.tuple #[.agg Pt.zero.vs.toArray, .int .i64 (E : Int)]) ∧ But g w w' ∧ Mp w' g l := by
 have hdn := fun u (hu : Below w.heap.size w u) => bdown_run (h.stays hu) (by omega)
 have HAL : Hid (∀ w : World, (Instr.alloc 42 true (.tuple #[])).run Tryd.prog w = .ok (.pointer (some ⟨w.heap.size, 0, none⟩)) (w.alloc (.cells Pt.zero.vs.toArray 42))) := alloc_ptr0
 have HBU : Hid (∀ w : World, (Instr.build 42 #[]).run Tryd.prog w = .ok (.agg Pt.zero.vs.toArray) w) := build_ptr0
 have hzl : Pt.zero.vs.length = 35 := Pt.vs_len Pt.zero_ok
 have hzo : ∀ v ∈ Pt.zero.vs, v.oneCell' = true := zero_one
 obtain ⟨zs, hzs⟩ : ∃ zs, zs = Pt.zero.vs := ⟨_, rfl⟩
 rw [← hzs] at HAL HBU hzl hzo ⊢
 rw [hoff] at hdn
 have hx2 : decide (cp < 1) = false := by simp; omega
 have hx3 : decide (2 < cp) = false := by simp; omega
 have hne : ((E : Int) != 0) = true := by simp; omega
 have hM2 := fun u (hu : Below w.heap.size w u) => (h.stays hu).mp
 have hgl := h.mp.blk.lt
 have htk : ∀ u, Mp u g l → Calls Tryd.prog 103 #[.pointer (some ⟨g, 0, none⟩), .int .i64 cp] u fun e w' => ∃ a c n, e = .returned (.tuple #[.slice a n c, .int .i64 (E : Int)]) ∧ Mp w' g l ∧ But g u w' := fun u hu => by
  refine (take_run cp u hu).mono ?_
  rintro e w' ⟨v, rfl, hN, hM, hb⟩
  obtain ⟨a, c, rfl⟩ := hN.form
  have : (takeL l cp).1 = l := by
   unfold takeL at hE ⊢
   split
   · rfl
   · next h1 =>
     rw [if_neg h1] at hE
     split
     · rfl
     · next h2 => rw [if_neg h2] at hE; simp at hE; omega
  rw [this] at hM
  exact ⟨a, c, _, by rw [hE], hM, hb⟩
 have hcg : ∀ u, Below w.heap.size w u → u.cell? ⟨k, 1, none⟩ = some (.pointer (some ⟨g, 0, none⟩)) := fun u hu => (h.stays hu).bb.cell 1
 clear hzs
 go_enter Tryd.func50, Tryd.ntmps50
 go_wp2_with (first
  | ((with_reducible show wpList _ _ _ (Oper.mk _ (Op.alloc _) _ _ _ _ :: _) _ _); refine wpList_alloc0 (by rfl) 42 (by rfl) (some 6) (by rfl) _ HAL.out ?_; intro w1 hR1 hb1 hs1
     clear hs1
     have hd1 := hdn _ hb1)
  | (go_at_call 102; go_must (refine hd1.mono ?_); rintro e w2 ⟨rfl, hb2⟩
     have hR2 := hR1.stays hb2
     have hb2' := below_then hb1 hb2
     have hm2 := hM2 _ hb2'
     have hc2' := hcg _ hb2')
  | (go_at_call 103; go_must (refine (htk _ hm2).mono ?_); rintro e w3 ⟨a3, c3, n3, rfl, hM3, hb3⟩
     have hR3 := hR2.but hb3 (by have := hb1.size; omega))
  | ((with_reducible show wpList _ _ _ (Oper.mk _ (Op.build _ _) _ _ _ _ :: _) _ _); refine wpList_build0 (by rfl) 42 (by rfl) _ HBU.out ?_)
  | ((with_reducible show wpList _ _ _ (Oper.mk _ (Op.store _ _ _) _ _ _ _ :: _) _ _); refine wpList_store_blk (by rfl) (.tmp 6) (.tmp 40) 42 (by rfl) _ 0 35 (by rfl) zs (by rfl) size_ptr hR3 hzl (by omega) hzo _ (whole_store hzl) ?_
     intro w4 hRz hbutz hsz))
 have hm4 : Mp w4 g l := ⟨hM3.blk.but hbutz (by have := hb1.size; omega), hM3.lo, hM3.hi⟩
 have hb3' : Below w.heap.size w w2 := hb2'
 refine bodyPost_ret_blk2 rfl rfl (by rfl) (by rfl) agg_ptr size_ptr hRz hzl ⟨rfl, ?_, hm4⟩
 exact but_new ((But.of_below hb2').trans hb3) hbutz (by omega)
end
end Go.Proofs.YthbldjnpnligpaaDoor

/-
 bank.Put: what is written.
-/

namespace Go.Proofs.YthbldjnpnligpaaDoor
set_option linter.unusedSimpArgs false
set_option linter.unusedVariables false
set_option maxRecDepth 100000
open Go.RowKit
section
variable {B : Nat} {w w' : World} {F : Nat → Prop} {k p g : Nat} {S S' : DS} {l l' : List Bool} {t : Nat}
theorem Bk.map (h : Bk B w F k p g S l t) (hm : Mp w' g l') (hb : But g w w') (hs : l'.length = l.length) (hL : Lab l') : Bk B w' F k p g S l' t :=
 ⟨h.dk.keep (fun j hj hl => hb.block j (fun e => h.fg (e ▸ hj)) hl), hm, h.bb.but hb h.ne, fun j hj => ⟨(h.low j hj).1, Nat.lt_of_lt_of_le (h.low j hj).2 hb.size⟩, h.fg, h.fk, h.lg, h.lk, hs.trans h.sz, hL, h.tt⟩
theorem bthen_new {w1 w2 w3 : World} {S2 : DS} {l2 : List Bool} {m : Nat} (h0 : Bk B w F k p g S l t) (hb : Below w.heap.size w w1) (X : BThen B F w1 w2 k p g S2 l2 t) (hbut : But m w2 w3) (hm1 : w.heap.size ≤ m) (hm2 : m < w1.heap.size) : BThen B F w w3 k p g S2 l2 t := by
 obtain ⟨F', h1, h2, h3⟩ := X
 have hnF : ¬ F' m := fun hf => by
  rcases h3 m hf with h4 | h4
  · have := (h0.low _ h4).2; omega
  · omega
 refine ⟨F', h1.but hbut hnF (fun e => by have := h0.mp.blk.lt; omega) (fun e => by have := h0.bb.lt; omega), ⟨?_, ?_, ?_, ?_, fun j hj hl => ?_⟩, fun j hj => ?_⟩
 · exact hbut.os.trans (h2.os.trans hb.os)
 · exact hbut.tape.trans (h2.tape.trans hb.tape)
 · exact hbut.output.trans (h2.output.trans hb.output)
 · have := hbut.size; have := h2.size; have := hb.size; omega
 · have := hb.size; have := h2.size
   exact (hbut.block j (by omega) (by omega)).trans ((h2.block j hj (by omega)).trans (hb.block j hl))
 · rcases h3 j hj with h4 | h4
   · exact .inl h4
   · have := hb.size; exact .inr (by omega)
theorem slice_all {P : Program} {t e : TypeId} {n g off : Nat} (ht : P.underlying t = some (.array n e)) (hs : (P.info? e).map (·.size) = some 1) (w : World) :
 (Instr.sliceAt t (.pointer (some ⟨g, off, none⟩)) none none none).run P w = .ok (.slice (some ⟨g, off, none⟩) n n) w := by
 have hz := sizeOf_run hs w
 have hadd : (⟨g, off, none⟩ : Addr).add 0 = ⟨g, off, none⟩ := by unfold Addr.add; split <;> simp_all
 simp [Instr.sliceAt, run_underlying ht, hz, Instr.sureAddr, Instr.sliceBounds, Instr.sliceBound, asIntOf, hadd, Sem.run_bind]
theorem wpList_copy_us {P : Program} {w : World} {ops : Array Oper} {rest : List Oper} {o : Oper} {a : Act} {Q : Exit → Act → World → Prop} (hgd : o.guard = none) (d s : Operand) (dT sT : TypeId)
 (ho : o.op = .call { callee := .builtin .copy, args := #[d, s], argTypes := #[dT, sT] }) (elem : TypeId) (hu : P.underlying dT = some (.slice elem)) (hsz : (P.info? elem).map (·.size) = some 1)
 (g off dLen dCap : Nat) (sp : Option Addr) (sLen sCap : Nat) (hd : a.eval d = .slice (some ⟨g, off, none⟩) dLen dCap) (hs : a.eval s = .slice sp sLen sCap)
 {t : TypeId} {cur : List Value} (hg : Blk t w g cur) (ys : List Nat) (hB : Us w sp ys) (hpos : 0 < ys.length) (hn : ys.length = Nat.min sLen dLen) (hfit : off + ys.length ≤ cur.length)
 (h : ∀ w' v, Blk t w' g (cur.take off ++ (n32s ys ++ cur.drop (off + ys.length))) → But g w w' → w'.heap.size = w.heap.size → wpList P ops Q rest (a.put o.dst v) w') :
 wpList P ops Q (o :: rest) a w := by
 obtain ⟨b, boff, rfl, hc⟩ : ∃ b boff, sp = some ⟨b, boff, none⟩ ∧ ∀ i, i < ys.length → w.cell? ⟨b, boff + i, none⟩ = some (.int .u32 ((ys.getD i 0 : Nat) : Int)) := by
  rcases hB.lay with h0 | h0
  · rw [h0] at hpos; simp at hpos
  · exact h0
 refine wpList_copy_own hgd d s dT sT ho elem hu hsz g off dLen dCap ⟨b, boff, none⟩ sLen sCap hd hs cur.toArray t hg (n32s ys) (by rw [n32s_len]; exact hn) ?_ (by rw [n32s_len]; simpa using hfit) ?_ ?_
 · intro j v hj
   have hjl : j < ys.length := by
    rcases Nat.lt_or_ge j ys.length with h1 | h1
    · exact h1
    · rw [List.getElem?_eq_none (by rw [n32s_len]; exact h1)] at hj; cases hj
   have hadd : (⟨b, boff, none⟩ : Addr).add j = ⟨b, boff + j, none⟩ := by unfold Addr.add; split <;> simp_all
   rw [hadd, hc j hjl]
   simp [n32s, hjl] at hj
   rw [← hj]
   simp [List.getD, hjl]
 · intro v hv
   simp only [n32s, List.mem_map] at hv
   obtain ⟨x, _, rfl⟩ := hv
   rfl
 · rw [n32s_len]
   refine h _ _ ?_ ((But.refl g w).setRow _) (by simp [World.setRow])
   unfold Blk
   simpa using setRow_heap w g _ _ t _ hg
theorem build_ptrK (h : List Int) (hl : h.length = 32) (t : Nat) (w : World) : (Instr.build 42 [(0, Value.agg (h.map (Value.int .u8)).toArray), (1, .int .u32 (t : Int))].toArray).run Tryd.prog w = .ok (.agg (⟨h, t, 0, 0⟩ : Pt).vs.toArray) w := by
 match h, hl with
 | [x0, x1, x2, x3, x4, x5, x6, x7, x8, x9, x10, x11, x12, x13, x14, x15, x16, x17, x18, x19, x20, x21, x22, x23, x24, x25, x26, x27, x28, x29, x30, x31], _ => show _ = _; kernel_rfl
theorem ptr_copied (h : List Int) (hl : h.length = 32) (t : Nat) (ys : List Nat) (h1 : 1 ≤ ys.length) (h2 : ys.length ≤ 2) : (⟨h, t, 0, 0⟩ : Pt).vs.take 33 ++ (n32s ys ++ (⟨h, t, 0, 0⟩ : Pt).vs.drop (33 + ys.length)) = (⟨h, t, ys.getD 0 0, ys.getD 1 0⟩ : Pt).vs := by
 have e : (⟨h, t, 0, 0⟩ : Pt).vs = (h.map (Value.int .u8) ++ [.int .u32 (t : Int)]) ++ [.int .u32 0, .int .u32 0] := by simp [Pt.vs]
 have e33 : (h.map (Value.int .u8) ++ [Value.int .u32 (t : Int)]).length = 33 := by simp [hl]
 rw [e, ← e33, List.take_left, List.drop_append]
 match ys, h1, h2 with
 | [x], _, _ => simp [Pt.vs, n32s]
 | [x, y], _, _ => simp [Pt.vs, n32s]
end
end Go.Proofs.YthbldjnpnligpaaDoor
