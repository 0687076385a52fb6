/-
 The document's Give and Keep.
-/
import Derived.Test.YthbldjnpnligpaaDoorB14
namespace Go.Proofs.YthbldjnpnligpaaDoor
set_option linter.unusedSimpArgs false
set_option linter.unusedVariables false
set_option maxRecDepth 100000
open Go.RowKit
section
variable {g c : Nat} {l : List Bool}
theorem own_none (w : World) (e : TypeId) : (w.alloc (.cells #[] e)).ownsRow w.heap.size e 1 (.slice (some ⟨w.heap.size, 0, none⟩) 0 0) 0 [] := by
 refine ⟨by simp, .inr ⟨w.heap.size, 0, #[], rfl, Nat.le_refl _, Blk.newAt (vs := []) rfl rfl, Nat.le_refl _, by decide, by simp, by simp⟩⟩
end
end Go.Proofs.YthbldjnpnligpaaDoor

/-
 The document's Take.
-/

namespace Go.Proofs.YthbldjnpnligpaaDoor
set_option linter.unusedSimpArgs false
set_option linter.unusedVariables false
set_option maxRecDepth 100000
open Go.RowKit
theorem Nums.mono {B B' : Nat} {w : World} {v : Value} {xs : List Nat} (h : Nums B w v xs) (hB : B' ≤ B) : Nums B' w v xs := by
 obtain ⟨h1, h2⟩ := h
 refine ⟨h1, ?_⟩
 rcases h2 with h2 | ⟨g, cap, cur, hv, hb, rest⟩
 · exact .inl h2
 · exact .inr ⟨g, cap, cur, hv, Nat.le_trans hB hb, rest⟩
theorem sbodyPost_ret_blk3 {P : Program} {fn : Func} {R : Ending → World → Prop} {a : Act} {w : World} {p q r : Tmp} {t e : TypeId} {g n : Nat} {us : List Value} {v x : Value} (hf : fn.results = #[.cell p t, .tmp q, .tmp r]) (hd : a.defers = [])
 (hp : a.tmps.getD p undef = .pointer (some ⟨g, 0, none⟩)) (hq : a.tmps.getD q undef = v) (hr : a.tmps.getD r undef = x) (hA : ∀ w, (isAgg t).run P w = .ok true w) (hZ : ∀ w, (sizeOf t).run P w = .ok n w) (hb : Blk e w g us) (hl : us.length = n)
 (hR : R (.returned (.tuple #[.agg us.toArray, v, x])) w) : bodyPost P fn R .ret a w := by
 refine bodyPost_ret_by (v := .tuple #[.agg us.toArray, v, x]) ?_ hd hR
 have hr' := run_load_blk (P := P) (w := w) (off := 0) hA hZ hb (us := us) (by rw [List.drop_zero, List.take_of_length_le (by omega)]) hl
 simp only [Instr.loadAt, Instr.sureAddr, Sem.run_bind, Sem.run_pure, Result.andThen_ok] at hr'
 rw [Array.getD_eq_getD_getElem?] at hp hq hr
 simp [results, hf, hp, hq, hr, asAddr, Sem.run_bind, hr']
section
variable {g c : Nat} {l : List Bool}
set_option maxHeartbeats 4000000 in
theorem rtake_bad (n : Nat) (k : Int) (hk : k < 0 ∨ 8 < k) (w : World) :
 Calls Tryd.prog 109 #[.agg #[.slice (some ⟨g, 0, none⟩) n c], .int .i64 k] w fun e w' => e = .returned (.tuple #[.agg #[.slice (some ⟨g, 0, none⟩) n c], .slice none 0 0, .int .i64 1]) ∧ Below w.heap.size w w' := by
 have hz2 : ∀ a n c, [Value.slice a n c].length = 1 := fun _ _ _ => rfl
 rcases (by omega : k < 0 ∨ (¬ k < 0 ∧ 8 < k)) with h | ⟨h, h'⟩
 all_goals
  clear hk
  go_enter Tryd.func109, Tryd.ntmps109
  go_wp2_with (first
   | (refine wpList_box0 (by rfl) 33 (.tmp 0) (by rfl) [.slice (some ⟨g, 0, none⟩) n c] (by rfl) ?_; intro w1 hP1 hb1 hs1)
   | (refine wpList_alloc0 (by rfl) 33 (by rfl) (some 4) (by rfl) _ alloc_rmap ?_; intro w2 hR2 hb2 hs2; rw [hs1] at hR2 hs2; have hP2 := hP1.stays hb2; have hc0 := hP2.cell 0; have hcr := hR2.cell 0; have hfr := hR2.free 0))
  exact sbodyPost_ret_blk3 rfl rfl (by rfl) (by rfl) (by rfl) agg_rmap size_rmap (hR2.set 0 _) (hz2 _ _ _) ⟨rfl, (below_then hb1 hb2).setCell (by simp) _⟩
set_option maxHeartbeats 4000000 in
theorem rtake_full (n k : Nat) (hk : k ≤ 8) (w : World) (hT : Tr w g c l) (hn : n = l.length) (hl : n ≤ 512) (hf : freeN l < k) :
 Calls Tryd.prog 109 #[.agg #[.slice (some ⟨g, 0, none⟩) n c], .int .i64 (k : Int)] w fun e w' => e = .returned (.tuple #[.agg #[.slice (some ⟨g, 0, none⟩) n c], .slice none 0 0, .int .i64 7]) ∧ Below w.heap.size w w' := by
 have hz2 : ∀ a n c, [Value.slice a n c].length = 1 := fun _ _ _ => rfl
 obtain ⟨F, hF⟩ : ∃ F, F = freeN l := ⟨_, rfl⟩
 have HF : Hid (∀ u, Below w.heap.size w u → Calls Tryd.prog 148 #[.agg #[.slice (some ⟨g, 0, none⟩) n c]] u fun e w' => e = .returned (.int .i64 (F : Int)) ∧ Below u.heap.size u w') := fun u hu => by rw [hF, hn]; exact rfree_run u (hT.stays hu) (by omega)
 rw [← hF] at hf
 clear hF hT hn
 go_enter Tryd.func109, Tryd.ntmps109
 go_wp2_with (first
  | (refine wpList_box0 (by rfl) 33 (.tmp 0) (by rfl) [.slice (some ⟨g, 0, none⟩) n c] (by rfl) ?_; intro w1 hP1 hb1 hs1)
  | (refine wpList_alloc0 (by rfl) 33 (by rfl) (some 4) (by rfl) _ alloc_rmap ?_; intro w2 hR2 hb2 hs2; rw [hs1] at hR2 hs2; have hP2 := hP1.stays hb2; have hc0 := hP2.cell 0)
  | (go_at_call 148; refine (HF.out _ (below_then hb1 hb2)).mono ?_; rintro e w3 ⟨rfl, hb3⟩; have hR3 := hR2.stays hb3; have hP3 := hP2.stays hb3; have hc3 := hP3.cell 0; have hcr := hR3.cell 0; have hfr := hR3.free 0))
 exact sbodyPost_ret_blk3 rfl rfl (by rfl) (by rfl) (by rfl) agg_rmap size_rmap (hR3.set 0 _) (hz2 _ _ _) ⟨rfl, ((below_then hb1 hb2).trans (hb3.mono (by omega))).setCell (by simp) _⟩
set_option maxRecDepth 100000 in
set_option maxHeartbeats 8000000 in
theorem rtake_some (n k : Nat) (hk : k ≤ 8) (w : World) (hT : Tr w g c l) (hn : n = l.length) (h16 : 16 ≤ n) (hl : n ≤ 512) (hf : k ≤ freeN l) :
 Calls Tryd.prog 109 #[.agg #[.slice (some ⟨g, 0, none⟩) n c], .int .i64 (k : Int)] w fun e w' =>
  ∃ q cq v, e = .returned (.tuple #[.agg #[.slice (some ⟨q, 0, none⟩) n cq], v, .int .i64 0]) ∧ Tr w' q cq (setAll l ((Fr l l.length).take k)) ∧ Nums w.heap.size w' v ((Fr l l.length).take k) ∧ w.heap.size ≤ q ∧ Below w.heap.size w w' := by
 have hz2 : ∀ a n c, [Value.slice a n c].length = 1 := fun _ _ _ => rfl
 have HFB : Hid (freeN l ≤ 512) := by show freeN l ≤ 512; unfold freeN; exact Nat.le_trans List.count_le_length (by omega)
 obtain ⟨F, hF⟩ : ∃ F, F = freeN l := ⟨_, rfl⟩
 have HF : Hid (∀ u, Below w.heap.size w u → Calls Tryd.prog 148 #[.agg #[.slice (some ⟨g, 0, none⟩) n c]] u fun e w' => e = .returned (.int .i64 (F : Int)) ∧ Below u.heap.size u w') := fun u hu => by rw [hF, hn]; exact rfree_run u (hT.stays hu) (by omega)
 have HTS : Hid (∀ u, Below w.heap.size w u → Tr u g c l) := fun u hu => hT.stays hu
 have HLT : Hid (∀ i, i ≤ n → (Fr l i).length < k → i < n) := fun i hi hk => by
  rcases Nat.lt_or_ge i n with h1 | h1
  · exact h1
  · exfalso
    have : i = l.length := by omega
    rw [this, Fr_all] at hk
    omega
 have HEND : Hid (∀ i, i ≤ n → (Fr l i).length = k → Fr l i = (Fr l l.length).take k) := fun i hi hk => Fr_take l i (by omega) k hk
 have HCL : Hid (∀ i, (Cu l i).length = n) := fun i => by rw [hn]; exact Cu_len l i
 have HCA : Hid (∀ i, i < n → (Cu l i).getD i false = l.getD i false) := fun i hi => Cu_at l i (by omega)
 obtain ⟨O, hO⟩ : ∃ O, O = (Fr l l.length).take k := ⟨_, rfl⟩
 have HSA : Hid (∀ i, Fr l i = O → Cu l i = setAll l O) := fun i hi => by unfold Cu; rw [hi]
 have HAP : Hid (∀ (ops : Array Oper) (rest : List Oper) (o : Oper) (a : Act) (Q : Exit → Act → World → Prop) (u : World) (B : Nat), B = u.heap.size → o.guard = none → o.op = .call { callee := .builtin .append, args := #[.tmp 22, .tmp 24], argTypes := #[31, 31] } →
  a.eval (.tmp 22) = .slice (some ⟨B, 0, none⟩) 0 0 → a.eval (.tmp 24) = .slice (some ⟨g, 0, none⟩) n c → Tr u g c l →
  (∀ w' q c', Tr w' q c' l → B ≤ q → Below B (u.alloc (.cells #[] 4)) w' → wpList Tryd.prog ops Q rest (a.put o.dst (.slice (some ⟨q, 0, none⟩) n c')) w') → wpList Tryd.prog ops Q (o :: rest) a (u.alloc (.cells #[] 4))) := by
  intro ops rest o a Q u B hB h1 h2 h3 h4 h5 h6
  subst hB
  rw [hn] at h4 h6
  exact wpList_clone_bools h1 _ _ h2 _ h3 u.heap.size (own_none u _) g c l h4 (h5.stays ((Below.refl _ _).alloc (Nat.le_refl _) _)) (by omega) (by omega) (by simp) h6
 rw [← hO] at HEND ⊢
 rw [← hF] at hf HFB
 have hFb : F ≤ 512 := HFB.out
 clear hn hF hO hT
 obtain ⟨H, hH⟩ : ∃ H, H = w.heap.size := ⟨_, rfl⟩
 have HH : Hid (H = w.heap.size) := hH
 go_enter Tryd.func109, Tryd.ntmps109
 go_wp2_with (first
  | (refine wpList_box0 (by rfl) 33 (.tmp 0) (by rfl) [.slice (some ⟨g, 0, none⟩) n c] (by rfl) ?_; intro w1 hP1 hb1 hs1)
  | (refine wpList_alloc0 (by rfl) 33 (by rfl) (some 4) (by rfl) _ alloc_rmap ?_; intro w2 hR2 hb2 hs2; rw [hs1] at hR2 hs2; have hP2 := hP1.stays hb2; have hc0 := hP2.cell 0)
  | (go_at_call 148; refine (HF.out _ (below_then hb1 hb2)).mono ?_; rintro e w3 ⟨rfl, hb3⟩; have hR3 := hR2.stays hb3; have hP3 := hP2.stays hb3; have hc3 : ∀ o, (w3.alloc o).cell? ⟨w.heap.size, 0, none⟩ = some (.slice (some ⟨g, 0, none⟩) n c) := fun o => (hP3.alloc o).cell 0; have hX3 : Below w.heap.size w w3 := (below_then hb1 hb2).trans (hb3.mono (by omega)); have hT3 := HTS.out w3 hX3)
  | (at_builtin; refine HAP.out _ _ _ _ _ w3 w3.heap.size rfl (by rfl) (by rfl) (by rfl) (by rfl) hT3 ?_; intro w4 q cq hT4 hq4 hb4))
 have hz3 := hX3.size
 have hR4 : Blk 33 w4 (w.heap.size + 1) [.slice none 0 0] := by
  have h1 := hR3.alloc (.cells #[] 4)
  have h2 := hR3.lt
  unfold Blk at *
  rw [hb4.block _ h2]; exact h1
 have hX4 : Below w.heap.size w w4 := (hX3.alloc hz3 (.cells #[] 4)).trans (hb4.mono hz3)
 have hR3l := hR3.lt
 have HQ : Hid (w.heap.size + 1 < q) := by show _ < _; omega
 clear hP1 hb1 hs1 hR2 hb2 hP2 hc0 hb3 hs2 hc3 hR3 hP3 hX3 hT3 hb4 hq4 hz3 hR3l
 have hN5 : Nums w4.heap.size (w4.alloc (.cells #[] 34)) (.slice (some ⟨w4.heap.size, 0, none⟩) 0 0) (Fr l 0) := own_none w4 _
 have hT5 : Tr (w4.alloc (.cells #[] 34)) q cq (Cu l 0) := hT4.stays ((Below.refl _ _).alloc (Nat.le_refl _) _)
 have hR5 := hR4.alloc (.cells #[] 34)
 have hX5 : Below w.heap.size w (w4.alloc (.cells #[] 34)) := hX4.alloc hX4.size _
 have hqB : q < w4.heap.size := hT4.lt
 have hHB := hX4.size
 obtain ⟨B5, hB5⟩ : ∃ B5, B5 = w4.heap.size := ⟨_, rfl⟩
 have HBW : Hid (B5 ≤ (w4.alloc (.cells #[] 34)).heap.size) := by show _ ≤ _; rw [hB5]; simp
 rw [← hB5] at hN5 hqB hHB ⊢
 obtain ⟨v0, hv0⟩ : ∃ v0, v0 = Value.slice (some ⟨B5, 0, none⟩) 0 0 := ⟨_, rfl⟩
 rw [← hv0] at hN5
 have HV0 : Hid (v0 = Value.slice (some ⟨B5, 0, none⟩) 0 0) := hv0
 clear hv0 hB5 hT4 hR4 hX4
 rw [← hH] at hR5 hX5 hHB ⊢
 have HQ' : Hid (H + 1 < q) := by have := HQ.out; rw [← HH.out] at this; exact this
 clear HQ hH
 go_loopw [8, 9] (fun v i wr => ∃ j : Nat, j ≤ n ∧ i = .int .i64 j ∧ (Fr l j).length ≤ k ∧ Nums B5 wr v (Fr l j) ∧ Tr wr q cq (Cu l j) ∧ Blk 33 wr (H + 1) [.slice none 0 0] ∧ Below H w wr ∧ B5 ≤ wr.heap.size) (fun _ i _ => n - (intOf i).toNat)
 case atStart => exact ⟨0, by omega, rfl, Nat.zero_le _, by rw [← HV0.out]; exact hN5, hT5, hR5, hX5, HBW.out⟩
 case round =>
  rename_i hrel
  obtain ⟨j, hj, rfl, hle, hN, hT, hR, hbr, hBs⟩ := hrel
  clear hN5 hT5 hR5 hX5
  obtain ⟨av, cv, hv⟩ := hN.form
  rw [hv] at hN ⊢
  clear hv
  obtain ⟨m, hm⟩ : ∃ m, m = (Fr l j).length := ⟨_, rfl⟩
  have HM : Hid (m = (Fr l j).length) := hm
  have HN : Hid (Nums B5 wr (.slice av m cv) (Fr l j)) := by rw [hm]; exact hN
  have HE := HEND.out j hj
  rw [← hm] at hle ⊢
  rw [← hm] at HE
  have HLJ := HLT.out j hj
  rw [← hm] at HLJ
  clear hm hN
  have hrs := hbr.size
  have hqr := hT.lt
  by_cases hlt : m < k
  · have hjn := HLJ hlt
    clear HE HLJ
    have hua := HCA.out j hjn
    have hcl := HCL.out j
    have hck := hT.cell j (by rw [hcl]; exact hjn)
    rw [hua] at hck
    have hix := index_tr q n cq j hjn .i64
    by_cases hx : l.getD j false = true
    · rw [hx] at hck
      have hF1 : Fr l j = Fr l (j + 1) := (Fr_used l j hx).symm
      have hC1 := Cu_used l j hx
      have hN2 := HN.out
      have hM2 := HM.out
      rw [hF1] at hN2 hM2
      rw [hC1] at hT
      have HM2 : Hid _ := hM2
      clear hua hcl hx hF1 hC1 hM2
      go_wp2
      go_roundw
      case rel => exact ⟨j + 1, by omega, by go_num, by have := HM2.out; omega, hN2, hT, hR, hbr, hBs⟩
      case measure => simp [intOf]; omega
    · have hx' : l.getD j false = false := by cases hh : l.getD j false; rfl; exact absurd hh hx
      rw [hx'] at hck
      have HF1 : Hid (Fr l (j + 1) = Fr l j ++ [j]) := Fr_free l j hx'
      have hT3 := hT.set j (by rw [hcl]; exact hjn) true
      rw [Cu_free l j hx'] at hT3
      have hfr := hT.free j
      have hN3 : Nums B5 (wr.setCell ⟨q, j, none⟩ (.bool true)) (.slice av m cv) (Fr l j) := HN.out.but ((But.refl q wr).setCell j _) hqB
      have hR3 : Blk 33 (wr.setCell ⟨q, j, none⟩ (.bool true)) (H + 1) [.slice none 0 0] := hR.but ((But.refl q wr).setCell j _) (by have := HQ'.out; omega)
      have hb3 : Below H w (wr.setCell ⟨q, j, none⟩ (.bool true)) := hbr.setCell (by have := HQ'.out; simp; omega) _
      have HLN : Hid ((Fr l j).length ≤ 1000000) := by have := HM.out; show _ ≤ _; omega
      have HNT : Hid (Tr (wr.setCell ⟨q, j, none⟩ (.bool true)) q cq (Cu l (j + 1)) ∧ Nums B5 (wr.setCell ⟨q, j, none⟩ (.bool true)) (.slice av m cv) (Fr l j) ∧ Blk 33 (wr.setCell ⟨q, j, none⟩ (.bool true)) (H + 1) [.slice none 0 0] ∧ Below H w (wr.setCell ⟨q, j, none⟩ (.bool true))) := ⟨hT3, hN3, hR3, hb3⟩
      have HSZ : Hid ((wr.setCell ⟨q, j, none⟩ (.bool true)).heap.size = wr.heap.size) := by show _ = _; simp [World.setCell]
      have HCB : Hid (((wr.setCell ⟨q, j, none⟩ (.bool true)).alloc (.cells #[.int .u32 (j : Int)] 34)).cell? ⟨wr.heap.size, 0, none⟩ = some (.int .u32 (j : Int))) :=
       (Blk.newAt (e := 34) (w := wr.setCell ⟨q, j, none⟩ (.bool true)) (vs := [.int .u32 (j : Int)]) HSZ.out.symm rfl).cell 0
      have HBA : Hid (B5 ≤ ((wr.setCell ⟨q, j, none⟩ (.bool true)).alloc (.cells #[.int .u32 (j : Int)] 34)).heap.size) := by
       show _ ≤ _
       have := HSZ.out
       simp only [World.size_alloc] at *
       omega
      clear hua hcl hx hx' hT3 hN3 hR3 hb3 hT hR hbr
      go_wp2_with (at_builtin; refine wpList_append_u32 (by rfl) (.tmp 41) (.tmp 44) (by rfl) B5 _ (Fr l j) (by rfl) (HNT.out.2.1.stays ((Below.refl _ _).alloc (Nat.le_refl _) _)) wr.heap.size 1 j (by rfl) HCB.out HLN.out HBA.out ?_; intro v5 w5 hN5 hg5)
      obtain ⟨hT3, hN3, hR3, hb3⟩ := HNT.out
      have hNO : ∀ p, (Value.slice av m cv).ownBlock = some p → B5 ≤ p := fun p hp => (hN3.lt hp).1
      have hg5b : ∀ p, p < B5 → p < wr.heap.size → w5.heap[p]? = (wr.setCell ⟨q, j, none⟩ (.bool true)).heap[p]? := fun p hp hp2 => by
       rw [hg5.block p (by have := HSZ.out; simp only [World.size_alloc]; omega) (fun e => by have := hNO p e.symm; omega)]
       exact Below.heap_alloc _ _ _ (by rw [HSZ.out]; exact hp2)
      have hT5 : Tr w5 q cq (Cu l (j + 1)) := by
       obtain ⟨r, h1, h2, h3⟩ := hT3
       exact ⟨r, (hg5b q hqB hqr).trans h1, h2, h3⟩
      have hR5 : Blk 33 w5 (H + 1) [.slice none 0 0] := (hg5b (H + 1) (by have := HQ'.out; omega) (by have := HQ'.out; omega)).trans hR3
      have hb5 : Below H w w5 := (hb3.alloc (by rw [HSZ.out]; have := HH.out; omega) _).grown hg5 (by have := HSZ.out; have := HH.out; simp only [World.size_alloc]; omega) (fun p hp => by have := hNO p hp; omega)
      have hs5 : B5 ≤ w5.heap.size := Nat.le_trans HBA.out hg5.size
      rw [← HF1.out] at hN5
      have hle5 : (Fr l (j + 1)).length ≤ k := by rw [HF1.out, List.length_append]; have := HM.out; simp; omega
      go_roundw
      case rel => exact ⟨j + 1, by omega, by go_num, hle5, hN5, hT5, hR5, hb5, hs5⟩
      case measure => simp [intOf]; omega
  · have hmk : m = k := by omega
    have hfin := HE hmk
    have hN2 := HN.out
    rw [hfin] at hN2
    rw [HSA.out j hfin] at hT
    have hcr := hR.cell 0
    have hfr := hR.free 0
    have hN6 : Nums w.heap.size (wr.setCell ⟨H + 1, 0, none⟩ (.slice (some ⟨q, 0, none⟩) n cq)) (.slice av m cv) O := by
        have h1 := hN2.but ((But.refl (H + 1) wr).setCell 0 (.slice (some ⟨q, 0, none⟩) n cq)) (by have := HQ'.out; omega)
        exact h1.mono (by have := HH.out; omega)
    clear HE HLJ
    go_wp2
    exact sbodyPost_ret_blk3 rfl rfl (by rfl) (by rfl) (by rfl) agg_rmap size_rmap (hR.set 0 _) (hz2 _ _ _) ⟨_, _, _, rfl, hT.but ((But.refl (H + 1) _).setCell 0 _) (by have := HQ'.out; omega), hN6, by have := HQ'.out; have := HH.out; omega, by rw [← HH.out]; exact hbr.setCell (by simp) _⟩
end
end Go.Proofs.YthbldjnpnligpaaDoor

/-
 The document's Take: one contract.
-/

namespace Go.Proofs.YthbldjnpnligpaaDoor
set_option linter.unusedSimpArgs false
set_option linter.unusedVariables false
set_option maxRecDepth 100000
open Go.RowKit
theorem blk_ne {e e' : TypeId} {w : World} {g g' : Nat} {vs vs' : List Value} (h : Blk e w g vs) (h' : Blk e' w g' vs') (hne : e ≠ e') : g ≠ g' := by
 rintro rfl
 unfold Blk at *
 rw [h] at h'
 simp at h'
 exact hne h'.2
theorem takeL_rng (l : List Bool) (k : Int) (hl : l.length ≤ 512) : ∀ x ∈ (takeL l k).2.1, x < 4294967296 := by
 unfold takeL
 split
 · simp
 · split
   · simp
   · intro x hx
     have := (Fr_mem.1 (List.mem_of_mem_take hx)).1
     omega
theorem takeL_few (l : List Bool) (k : Int) : (takeL l k).2.1.length ≤ 8 := by
 unfold takeL
 split
 · simp
 · split
   · simp
   · simp; omega
section
variable {g c : Nat} {l : List Bool}
end
end Go.Proofs.YthbldjnpnligpaaDoor
