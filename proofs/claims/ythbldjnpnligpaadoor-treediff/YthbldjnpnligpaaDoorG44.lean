/-
  tree.Diff: the cells that are unlike.
-/
import Derived.Test.YthbldjnpnligpaaDoorG38
import Derived.Test.YthbldjnpnligpaaDoorG40
import Derived.Test.YthbldjnpnligpaaDoorG43
namespace Go.Proofs.YthbldjnpnligpaaDoor
set_option linter.unusedSimpArgs false
set_option linter.unusedVariables false
set_option maxRecDepth 100000
open Go.RowKit

/-- A list of numbers. -/
def rwI (v : Value) (ds : List Nat) : Rw := ⟨v, 3, 1, ds.length, ds.map (fun (d : Nat) => Value.int .i64 (d : Int))⟩
theorem elem_int : Elem Tryd.prog 71 3 1 := by
  have hi : (Tryd.prog.info? 3).map (fun i => (i.zero, i.size, i.bytes)) = some (some (.int .i64 0), 1, 8) := by kernel_rfl
  obtain ⟨i0, hi0, hz0, hz1, hz2⟩ := info_parts hi
  exact ⟨Tryd.underlying71, ⟨i0, _, hi0, hz0, hz1, by omega, rfl⟩, by decide⟩
theorem rwI_cast {B : Nat} {I : (Nat → Prop) → World → Prop} {w : World} {L : List Ent} {T : List Sli} {v : Value} {n : Nat} {xs : List Value} (h : Sep B (Row1 B I ⟨v, 3, 1, n, xs⟩) w L T) (ds : List Nat) (hn : n = ds.length) (hx : xs = ds.map (fun (d : Nat) => Value.int .i64 (d : Int))) : Sep B (Row1 B I (rwI v ds)) w L T := by
  subst hn hx; exact h
theorem rwI_eq {B : Nat} {I : (Nat → Prop) → World → Prop} {w : World} {L : List Ent} {T : List Sli} {v : Value} {ps : List Nat} (h : Sep B (Row1 B I (rwI v ps)) w L T) (ps' : List Nat) (e : ps' = ps) : Sep B (Row1 B I (rwI v ps')) w L T := by
  rw [e]; exact h
/-- The unlike ones of four and four. -/
def unlikeL (p q : List Pt) (leaf m : Nat) : List Nat := (List.range m).flatMap (fun c => if (nth p c).same (nth q c) then [] else [leaf * 4 + c])
theorem unlikeL_more (p q : List Pt) (leaf m : Nat) : unlikeL p q leaf (m + 1) = unlikeL p q leaf m ++ (if (nth p m).same (nth q m) then [] else [leaf * 4 + m]) := by
  unfold unlikeL; rw [List.range_succ, List.flatMap_append]; simp
def diffsL (C : Nat → List Pt × List Pt) (k : Nat) : List Nat := (List.range k).flatMap (fun j => unlikeL (C j).1 (C j).2 j 4)
theorem diffsL_more (C : Nat → List Pt × List Pt) (k : Nat) : diffsL C (k + 1) = diffsL C k ++ unlikeL (C k).1 (C k).2 k 4 := by
  unfold diffsL; rw [List.range_succ, List.flatMap_append]; simp
theorem natflat_len {f : Nat → List Nat} {b : Nat} (h : ∀ i, (f i).length ≤ b) : ∀ n, ((List.range n).flatMap f).length ≤ n * b
  | 0 => by simp
  | n + 1 => by
    rw [List.range_succ, List.flatMap_append, List.length_append, Nat.succ_mul]
    have h1 := natflat_len h n
    have h2 := h n
    have h3 : ([n].flatMap f).length = (f n).length := by simp
    omega
theorem unlikeL_len (p q : List Pt) (leaf m : Nat) : (unlikeL p q leaf m).length ≤ m := by
  have := natflat_len (f := fun c => if (nth p c).same (nth q c) then [] else [leaf * 4 + c]) (b := 1) (fun i => by split <;> simp) m
  unfold unlikeL; omega
theorem diffsL_len (C : Nat → List Pt × List Pt) (k : Nat) : (diffsL C k).length ≤ k * 4 := natflat_len (fun j => unlikeL_len _ _ j 4) k
/-- What is held against each other, leaf by leaf. -/
def pairs (a b : Pt) (ns ms : List Pt) (cs ds : Nat → List Pt) (j : Nat) : List Pt × List Pt := if a.same b = true then (zeros4, zeros4) else bothL (nth ns j) (nth ms j) (cs j) (ds j)
theorem zeros_nth (j : Nat) : nth zeros4 j = Pt.zero := by
  unfold nth zeros4
  match j with
  | 0 | 1 | 2 | 3 => rfl
  | j + 4 => rfl
theorem bothL_four {a b : Pt} {ns ms : List Pt} (hn : Four ns) (hm : Four ms) : Four (bothL a b ns ms).1 ∧ Four (bothL a b ns ms).2 := by
  unfold bothL
  split
  · exact ⟨Four.zeros, Four.zeros⟩
  · exact ⟨hn, hm⟩

theorem wp_pure1 {P : Program} {w : World} {ops : Array Oper} {rest : List Oper} {o : Oper} {a : Act} {Q : Exit → Act → World → Prop} {v : Value} (hgd : o.guard = none) (hr : (execOp a.eval o).run P w = .ok (.value v) w) (hk : wpList P ops Q rest (a.put o.dst v) w) : wpList P ops Q (o :: rest) a w := by
  refine wpList_plain hgd fun K hK => ?_
  unfold Oper.wp
  rw [hr]
  exact hK _ _ hk
theorem Sep.swapL {B : Nat} {I : (Nat → Prop) → World → Prop} {w : World} {L : List Ent} {T : List Sli} {e e' : Ent} (h : Sep B I w (e :: e' :: L) T) : Sep B I w (e' :: e :: L) T := by
  have hm : ∀ x, x ∈ e' :: e :: L ↔ x ∈ e :: e' :: L := fun x => by simp only [List.mem_cons]; exact ⟨fun h => h.elim (fun h => .inr (.inl h)) (fun h => h.elim .inl (fun h => .inr (.inr h))), fun h => h.elim (fun h => .inr (.inl h)) (fun h => h.elim .inl (fun h => .inr (.inr h)))⟩
  refine ⟨h.fr, h.fr.new h.inv (Below.refl _ _) (fun j hj => .inl ?_), fun x hx => h.blk x ((hm x).1 hx), ?_, fun s hs => ⟨(h.sl s hs).1, fun x hx => ⟨((h.sl s hs).2 x hx).1, ((h.sl s hs).2 x hx).2.1, fun y hy => ((h.sl s hs).2 x hx).2.2 y ((hm y).1 hy)⟩⟩⟩
  · rcases hj with ⟨x, hx, h1⟩ | hj
    · exact .inl ⟨x, (hm x).1 hx, h1⟩
    · exact .inr hj
  · have h1 := h.nd
    simp only [List.map_cons, List.nodup_cons, List.mem_cons, not_or] at h1 ⊢
    exact ⟨⟨fun e => h1.1.1 e.symm, h1.2.1⟩, h1.1.2, h1.2.2⟩
section
variable {w0 w : World} {M : Nat → Prop} {k p g : Nat} {S : DS} {l : List Bool} {n kk : Nat}

/-- What Diff hands back. -/
def DiffOf (w w' : World) (e : Ending) (ds : List Nat) : Prop := ∃ v, e = .returned (.tuple #[v, .int .i64 0]) ∧ (rwI v ds).holds w.heap.size w' ∧ Below w.heap.size w w'

set_option maxHeartbeats 16000000 in
theorem diff_run9 (h : BS w0 w M k p g S l 7) (hV : Vars w0) (hg : Good n kk S) {a b : Pt} {ns ms : List Pt} {cs ds : Nat → List Pt} {pl pl' : List (List Int)} (hv : Vol S kk a ns cs pl) (hu : Vol S kk b ms ds pl') :
    Calls Tryd.prog 24 #[.pointer (some ⟨k, 0, none⟩), .agg a.vs.toArray, .agg b.vs.toArray] w fun e w' => DiffOf w w' e (diffsL (pairs a b ns ms cs ds) 4) := by
  have hav := vals_ptr (hv.root.ok hg.klt)
  have hbv := vals_ptr (hu.root.ok hg.klt)
  have hbo : ∀ u, Below w.heap.size w u → _ := fun u hb => both_run9 (h.stays hb) hV hg hv.root hu.root
  obtain ⟨hf1, hf2⟩ := bothL_four (a := a) (b := b) hv.root.four hu.root.four
  have HB2 : Hid (∀ j, j < 4 → ∀ u, Below w.heap.size w u → Calls Tryd.prog 72 #[.pointer (some ⟨k, 0, none⟩), .agg (nth (bothL a b ns ms).1 j).vs.toArray, .agg (nth (bothL a b ns ms).2 j).vs.toArray] u fun e w' => e = .returned (.tuple #[.agg (fourV (pairs a b ns ms cs ds j).1).toArray, .agg (fourV (pairs a b ns ms cs ds j).2).toArray, .int .i64 0]) ∧ Below u.heap.size u w') := fun j hj u hb => by
    by_cases e : a.same b = true
    · have h1 : bothL a b ns ms = (zeros4, zeros4) := by unfold bothL; rw [if_pos e]
      have h2 : pairs a b ns ms cs ds j = (zeros4, zeros4) := by unfold pairs; rw [if_pos e]
      rw [h1, h2, zeros_nth]
      have := both_run9 (h.stays hb) hV hg (Node.hole S kk) (Node.hole S kk)
      have h3 : bothL Pt.zero Pt.zero zeros4 zeros4 = (zeros4, zeros4) := by unfold bothL; rw [if_pos (Pt.same_self _)]
      rw [h3] at this
      exact this
    · have h1 : bothL a b ns ms = (ns, ms) := by unfold bothL; rw [if_neg e]
      have h2 : pairs a b ns ms cs ds j = bothL (nth ns j) (nth ms j) (cs j) (ds j) := by unfold pairs; rw [if_neg e]
      rw [h1, h2]
      exact both_run9 (h.stays hb) hV hg (hv.leaf j hj) (hu.leaf j hj)
  have HF : Hid (∀ j, j < 4 → Four (pairs a b ns ms cs ds j).1 ∧ Four (pairs a b ns ms cs ds j).2) := fun j hj => by
    unfold pairs
    split
    · exact ⟨Four.zeros, Four.zeros⟩
    · exact bothL_four (hv.leaf j hj).four (hu.leaf j hj).four
  obtain ⟨A, hA⟩ : ∃ A, A = (bothL a b ns ms).1 := ⟨_, rfl⟩
  obtain ⟨D, hD⟩ : ∃ D, D = (bothL a b ns ms).2 := ⟨_, rfl⟩
  rw [← hA] at hf1 hbo HB2
  rw [← hD] at hf2 hbo HB2
  obtain ⟨C, hC⟩ : ∃ C, C = pairs a b ns ms cs ds := ⟨_, rfl⟩
  rw [← hC] at HB2 HF ⊢
  have hv1 := vals_four hf1
  have hv2 := vals_four hf2
  have hal := al_four
  obtain ⟨zf, hzf⟩ : ∃ zf, zf = fourV zeros4 := ⟨_, rfl⟩
  rw [← hzf] at hal
  have hs := (PI.start w).nil 3 1
  have hz0 := rwI_cast hs [] rfl rfl
  clear hs
  have hs := hz0
  clear hz0 hA hD hC hzf h hV hg hv hu
  go_enter Tryd.func24, Tryd.ntmps24
  go_wp2_with (first
    | (refine sep_box hs rfl rfl (by rfl) hav ?_; clear hs; intro w1 gQ hs)
    | (refine sep_box hs rfl rfl (by rfl) hbv ?_; clear hs; intro w1 gB hs)
    | (refine sep_loadw hs rfl rfl (by rfl) (by repeat (first | exact List.Mem.head _ | apply List.Mem.tail)) (by first | exact ty_ptr | exact ty_four) ?_)
    | (go_at_call 72; go_must (refine (hbo _ hs.rbelow).mono ?_); rintro e w1 ⟨rfl, hb1⟩; replace hs := hs.stays hb1; clear hb1)
    | ((with_reducible show wpList _ _ _ (Oper.mk (some 8) _ _ _ _ _ :: _) _ _); refine sep_alloc hs rfl rfl hal ?_; clear hs; intro w1 gA hs)
    | ((with_reducible show wpList _ _ _ (Oper.mk (some 9) _ _ _ _ _ :: _) _ _); refine sep_alloc hs rfl rfl hal ?_; clear hs; intro w1 gD hs)
    | (refine sep_storew hs rfl rfl (by rfl) (by rfl) (by repeat (first | exact Upd.head | apply Upd.tail)) ty_four (by first | exact hv1 | exact hv2) ?_; clear hs; intro w1 hs))
  clear hbo
  go_loopw [28, 11] (fun x o wr => ∃ (j : Nat) (u : World), u = wr ∧ x = .int .i64 (j : Int) ∧ j ≤ 4 ∧ Sep w.heap.size (Row1 w.heap.size (PI w) (rwI o (diffsL C j))) u [⟨gD, 139, 140, fourV D⟩, ⟨gA, 139, 140, fourV A⟩, ⟨gB, 42, 35, b.vs⟩, ⟨gQ, 42, 35, a.vs⟩] []) (fun x _ _ => 4 - (intOf x).toNat)
  case atStart => exact ⟨0, _, rfl, rfl, by omega, hs⟩
  case round =>
    clear hs
    rename_i hrel
    obtain ⟨j, u, rfl, rfl, hj4, hs⟩ := hrel
    by_cases hj : j < 4
    · have hj' : (j : Int) < 4 := by omega
      have hpa := four_part hf1.ok (k := j) (by rw [hf1.len]; exact hj)
      have hpd := four_part hf2.ok (k := j) (by rw [hf2.len]; exact hj)
      have hla := Pt.vs_len (nth_ok hf1.ok j)
      have hld := Pt.vs_len (nth_ok hf2.ok j)
      have hbo := HB2.out j hj
      have hF := HF.out j hj
      have hw1 := vals_four hF.1
      have hw2 := vals_four hF.2
      have hixA := fun u => ix_four gA 0 hj u
      have hixD := fun u => ix_four gD 0 hj u
      simp only [Nat.zero_add] at hixA hixD
      have hdl := diffsL_len C j
      have HDM := diffsL_more C j
      obtain ⟨pa, hpae⟩ : ∃ x, x = (nth A j).vs := ⟨_, rfl⟩
      obtain ⟨pd, hpde⟩ : ∃ x, x = (nth D j).vs := ⟨_, rfl⟩
      rw [← hpae] at hpa hla hbo
      rw [← hpde] at hpd hld hbo
      obtain ⟨P, hPe⟩ : ∃ x, x = (C j).1 := ⟨_, rfl⟩
      obtain ⟨Q, hQe⟩ : ∃ x, x = (C j).2 := ⟨_, rfl⟩
      rw [← hPe] at hbo hF hw1 HDM
      rw [← hQe] at hbo hF hw2 HDM
      have HDM : Hid _ := HDM
      have HPA : Hid _ := hpa
      have HPD : Hid _ := hpd
      have HFF : Hid _ := hF
      obtain ⟨X, hX⟩ : ∃ X, X = diffsL C j := ⟨_, rfl⟩
      have hXl : X.length ≤ 16 := by rw [hX]; omega
      have HX : Hid (X = diffsL C j) := hX
      rw [← hX] at hs
      obtain ⟨fp, hfp⟩ : ∃ x, x = fourV P := ⟨_, rfl⟩
      obtain ⟨fq, hfq⟩ : ∃ x, x = fourV Q := ⟨_, rfl⟩
      have HFP : Hid (fp = fourV P) := hfp
      have HFQ : Hid (fq = fourV Q) := hfq
      rw [← hfp] at hbo hw1
      rw [← hfq] at hbo hw2
      clear hpae hpde hpa hpd hdl hPe hQe hX hF hfp hfq
      go_wp2
      refine UpT.wp_region_opt2 7 12 13 [8, 9, 10, 11] [14, 15, 16] (by rfl) (by rfl) (UpT.tell [(12, blkT 139 u.heap.size zf), (13, blkT 139 u.heap.size zf)]) (fun i => i == 12 || i == 13) (by kernel_rfl) (by kernel_rfl) (UpT.tell_steady _ (by
        intro p hp
        simp only [List.mem_cons, List.not_mem_nil, or_false] at hp
        rcases hp with rfl | rfl <;> exact blkT_steady _ _ _)) ?_
      simp only [List.take_succ_cons, List.take_zero]
      iterate 3 (apply UpT.wpUp_pure; (case hw => rfl); (case hψ => rfl); (case hv => (intro wz hp; clear hp; go_simp; try (with_reducible rfl))); simp only [Act.put, List.setIfInBounds_toArray, List.set_cons_zero, List.set_cons_succ])
      refine UpT.wpUp_pure (.agg pa.toArray) (by rfl) (by rfl) (fun wz hp => exec_load (by rfl) (by rfl) (hs.ldp hp.1 ty_ptr (by repeat (first | exact List.Mem.head _ | apply List.Mem.tail)) HPA.out hla)) ?_
      simp only [Act.put, List.setIfInBounds_toArray, List.set_cons_zero, List.set_cons_succ]
      iterate 2 (apply UpT.wpUp_pure; (case hw => rfl); (case hψ => rfl); (case hv => (intro wz hp; clear hp; go_simp; try (with_reducible rfl))); simp only [Act.put, List.setIfInBounds_toArray, List.set_cons_zero, List.set_cons_succ])
      refine UpT.wpUp_pure (.agg pd.toArray) (by rfl) (by rfl) (fun wz hp => exec_load (by rfl) (by rfl) (hs.ldp hp.1 ty_ptr (by repeat (first | exact List.Mem.head _ | apply List.Mem.tail)) HPD.out hld)) ?_
      simp only [Act.put, List.setIfInBounds_toArray, List.set_cons_zero, List.set_cons_succ]
      clear hixA hixD
      refine UpT.wpUp_end ⟨?_, ?_, ?_⟩
      · intro wC hbC hf
        clear hf
        simp only [UpT.opsAt, List.cons_append, List.nil_append, List.filterMap_cons, List.filterMap_nil, List.getElem?_toArray, List.getElem?_cons_zero, List.getElem?_cons_succ]
        replace hs := hs.stays hbC
        clear hbC
        go_wp2_with (go_at_call 72; go_must (refine (hbo _ hs.rbelow).mono ?_); rintro e w1 ⟨rfl, hb1⟩; replace hs := hs.stays hb1; clear hb1)
        try dsimp only [midQ]
        refine ⟨?_, ?_⟩
        · refine wp_move1 rfl rfl (by rfl) ?_; simp only [Act.put, List.setIfInBounds_toArray, List.set_cons_zero, List.set_cons_succ]; refine wp_extract1 rfl rfl (by rfl) (by rfl) ?_; simp only [Act.put, List.setIfInBounds_toArray, List.set_cons_zero, List.set_cons_succ]; refine wp_extract1 rfl rfl (by rfl) (by rfl) ?_; simp only [Act.put, List.setIfInBounds_toArray, List.set_cons_zero, List.set_cons_succ]; refine wp_extract1 rfl rfl (by rfl) (by rfl) ?_; simp only [Act.put, List.setIfInBounds_toArray, List.set_cons_zero, List.set_cons_succ]; refine sep_alloc hs rfl rfl hal ?_; clear hs; intro w1 gX hs; simp only [Act.put, List.setIfInBounds_toArray, List.set_cons_zero, List.set_cons_succ]; refine sep_alloc hs rfl rfl hal ?_; clear hs; intro w1 gY hs; simp only [Act.put, List.setIfInBounds_toArray, List.set_cons_zero, List.set_cons_succ]; refine sep_storew hs rfl rfl (by rfl) (by rfl) (by repeat (first | exact Upd.head | apply Upd.tail)) ty_four hw1 ?_; clear hs; intro w1 hs; simp only [Act.put, List.setIfInBounds_toArray, List.set_cons_zero, List.set_cons_succ]; refine sep_storew hs rfl rfl (by rfl) (by rfl) (by repeat (first | exact Upd.head | apply Upd.tail)) ty_four hw2 ?_; clear hs; intro w1 hs; go_wp2
          try dsimp only [midQ]
          go_wp2
          have hst := rwI_eq hs (X ++ unlikeL P Q j 0) (by simp [unlikeL])
          clear hs
          go_loopw [46, 11] (fun x o wq => ∃ (m : Nat) (z : World), z = wq ∧ x = .int .i64 (m : Int) ∧ m ≤ 4 ∧ Sep w.heap.size (Row1 w.heap.size (PI w) (rwI o (X ++ unlikeL P Q j m))) z (⟨gY, 139, 140, fq⟩ :: ⟨gX, 139, 140, fp⟩ :: [⟨gD, 139, 140, fourV D⟩, ⟨gA, 139, 140, fourV A⟩, ⟨gB, 42, 35, b.vs⟩, ⟨gQ, 42, 35, a.vs⟩]) []) (fun x _ _ => 4 - (intOf x).toNat)
          case atStart => exact ⟨0, _, rfl, rfl, by omega, hst⟩
          case round =>
            clear hst
            rename_i hrel
            obtain ⟨m, z, rfl, rfl, hm4, hs⟩ := hrel
            by_cases hm : m < 4
            · have hm' : (m : Int) < 4 := by omega
              have hpp := four_part HFF.out.1.ok (k := m) (by rw [HFF.out.1.len]; exact hm)
              have hqq := four_part HFF.out.2.ok (k := m) (by rw [HFF.out.2.len]; exact hm)
              rw [← HFP.out] at hpp
              rw [← HFQ.out] at hqq
              have hlp := Pt.vs_len (nth_ok HFF.out.1.ok m)
              have hlq := Pt.vs_len (nth_ok HFF.out.2.ok m)
              have hix1 := fun u => ix_four gX 0 hm u
              have hix2 := fun u => ix_four gY 0 hm u
              simp only [Nat.zero_add] at hix1 hix2
              have heq : ∀ u, (Op.equalIn 10000 42 (.agg (nth P m).vs.toArray) (.agg (nth Q m).vs.toArray)).run Tryd.prog u = .ok ((nth P m).same (nth Q m)) u := fun u => equal_ptr (nth_ok HFF.out.1.ok m) (nth_ok HFF.out.2.ok m) 9997 u
              have HUM := unlikeL_more P Q j m
              have hul := unlikeL_len P Q j m
              obtain ⟨Y, hY⟩ : ∃ Y, Y = X ++ unlikeL P Q j m := ⟨_, rfl⟩
              have hYl : Y.length ≤ 40 := by rw [hY, List.length_append]; omega
              have HY : Hid (Y = X ++ unlikeL P Q j m) := hY
              rw [← hY] at hs
              obtain ⟨pm, hpm⟩ : ∃ x, x = (nth P m).vs := ⟨_, rfl⟩
              obtain ⟨qm, hqm⟩ : ∃ x, x = (nth Q m).vs := ⟨_, rfl⟩
              rw [← hpm] at hpp hlp heq
              rw [← hqm] at hqq hlq heq
              have HPP : Hid _ := hpp
              have HQQ : Hid _ := hqq
              cases hsm : (nth P m).same (nth Q m)
              all_goals
                rw [hsm] at heq HUM
                have HUM2 : Hid _ := HUM
                clear HUM hpm hqm hY hpp hqq hul hsm
                go_wp2
                refine UpT.wp_region_tail 6 (UpT.tell []) (fun _ => false) (by kernel_rfl) (by kernel_rfl) (UpT.tell_steady _ (fun p hp => by cases hp)) ?_
                simp only [List.take_succ_cons, List.take_zero]
                iterate 2 (apply UpT.wpUp_pure; (case hw => rfl); (case hψ => rfl); (case hv => (intro wz hp; clear hp; go_simp; try (with_reducible rfl))); simp only [Act.put, List.setIfInBounds_toArray, List.set_cons_zero, List.set_cons_succ])
                refine UpT.wpUp_pure (.agg pm.toArray) (by rfl) (by rfl) (fun wz hp => exec_load (by rfl) (by rfl) (hs.ldp hp.1 ty_ptr (by repeat (first | exact List.Mem.head _ | apply List.Mem.tail)) HPP.out hlp)) ?_
                simp only [Act.put, List.setIfInBounds_toArray, List.set_cons_zero, List.set_cons_succ]
                iterate 2 (apply UpT.wpUp_pure; (case hw => rfl); (case hψ => rfl); (case hv => (intro wz hp; clear hp; go_simp; try (with_reducible rfl))); simp only [Act.put, List.setIfInBounds_toArray, List.set_cons_zero, List.set_cons_succ])
                refine UpT.wpUp_pure (.agg qm.toArray) (by rfl) (by rfl) (fun wz hp => exec_load (by rfl) (by rfl) (hs.ldp hp.1 ty_ptr (by repeat (first | exact List.Mem.head _ | apply List.Mem.tail)) HQQ.out hlq)) ?_
                simp only [Act.put, List.setIfInBounds_toArray, List.set_cons_zero, List.set_cons_succ]
                refine UpT.wpUp_end ?_
                intro w2' hb2' hf
                simp only [List.drop_succ_cons, List.drop_zero]
                replace hs := hs.stays hb2'
                clear hf hb2' hix1 hix2
              · refine wp_pure1 (v := .bool true) rfl (by go_simp) ?_
                simp only [Act.put, List.setIfInBounds_toArray, List.set_cons_zero, List.set_cons_succ]
                unfold rwI at hs
                have hwm : IntKind.i64.wrap ((j : Int) * 4) = (j : Int) * 4 := by rw [IntKind.wrap_i64]; omega
                have hwa : IntKind.i64.wrap ((j : Int) * 4 + (m : Int)) = (j : Int) * 4 + (m : Int) := by rw [IntKind.wrap_i64]; omega
                go_wp2_with (refine sep_append (hs.add (t := 3) (n := 1) (vs := [.int .i64 ((j : Int) * 4 + (m : Int))]) ((Below.refl _ _).alloc (Nat.le_refl _) _) (Blk.newAt rfl rfl) ⟨rfl, by simp [Value.oneCell']⟩) (PI.frame w) rfl rfl elem_int (by rfl) (by rfl) (List.Mem.head _) (by omega) ?_; clear hs; intro v1 w1 hs)
                replace hs := rwI_cast hs.drop (Y ++ [j * 4 + m]) (by simp) (by simp)
                clear heq
                go_roundw
                case rel => exact ⟨m + 1, _, rfl, by go_num, by omega, rwI_eq hs (X ++ unlikeL P Q j (m + 1)) (by rw [HUM2.out, ← List.append_assoc, ← HY.out]; rfl)⟩
                case measure => simp [intOf]; omega
              · refine wp_pure1 (v := .bool false) rfl (by go_simp) ?_
                simp only [Act.put, List.setIfInBounds_toArray, List.set_cons_zero, List.set_cons_succ]
                clear heq
                go_wp2
                go_roundw
                case rel => exact ⟨m + 1, _, rfl, by go_num, by omega, rwI_eq hs (X ++ unlikeL P Q j (m + 1)) (by rw [HUM2.out, ← List.append_assoc, ← HY.out]; simp)⟩
                case measure => simp [intOf]; omega
            · have hm4' : m = 4 := by omega
              subst hm4'
              replace hs := rwI_eq hs.drop.drop (diffsL C (j + 1)) (by rw [HDM.out, HX.out])
              go_wp2
              go_roundw
              case rel => exact ⟨j + 1, _, rfl, by go_num, by omega, hs⟩
              case measure => simp [intOf]; omega
        · refine wp_move1 rfl rfl (by rfl) ?_; simp only [Act.put, List.setIfInBounds_toArray, List.set_cons_zero, List.set_cons_succ]; refine wp_extract1 rfl rfl (by rfl) (by rfl) ?_; simp only [Act.put, List.setIfInBounds_toArray, List.set_cons_zero, List.set_cons_succ]; refine wp_extract1 rfl rfl (by rfl) (by rfl) ?_; simp only [Act.put, List.setIfInBounds_toArray, List.set_cons_zero, List.set_cons_succ]; refine wp_extract1 rfl rfl (by rfl) (by rfl) ?_; simp only [Act.put, List.setIfInBounds_toArray, List.set_cons_zero, List.set_cons_succ]; refine sep_alloc hs rfl rfl hal ?_; clear hs; intro w1 gY hs; simp only [Act.put, List.setIfInBounds_toArray, List.set_cons_zero, List.set_cons_succ]; refine sep_alloc hs rfl rfl hal ?_; clear hs; intro w1 gX hs; simp only [Act.put, List.setIfInBounds_toArray, List.set_cons_zero, List.set_cons_succ]; refine sep_storew hs rfl rfl (by rfl) (by rfl) (by repeat (first | exact Upd.head | apply Upd.tail)) ty_four hw1 ?_; clear hs; intro w1 hs; simp only [Act.put, List.setIfInBounds_toArray, List.set_cons_zero, List.set_cons_succ]; refine sep_storew hs rfl rfl (by rfl) (by rfl) (by repeat (first | exact Upd.head | apply Upd.tail)) ty_four hw2 ?_; clear hs; intro w1 hs; go_wp2
          try dsimp only [midQ]
          replace hs := hs.swapL
          go_wp2
          have hst := rwI_eq hs (X ++ unlikeL P Q j 0) (by simp [unlikeL])
          clear hs
          go_loopw [46, 11] (fun x o wq => ∃ (m : Nat) (z : World), z = wq ∧ x = .int .i64 (m : Int) ∧ m ≤ 4 ∧ Sep w.heap.size (Row1 w.heap.size (PI w) (rwI o (X ++ unlikeL P Q j m))) z (⟨gY, 139, 140, fq⟩ :: ⟨gX, 139, 140, fp⟩ :: [⟨gD, 139, 140, fourV D⟩, ⟨gA, 139, 140, fourV A⟩, ⟨gB, 42, 35, b.vs⟩, ⟨gQ, 42, 35, a.vs⟩]) []) (fun x _ _ => 4 - (intOf x).toNat)
          case atStart => exact ⟨0, _, rfl, rfl, by omega, hst⟩
          case round =>
            clear hst
            rename_i hrel
            obtain ⟨m, z, rfl, rfl, hm4, hs⟩ := hrel
            by_cases hm : m < 4
            · have hm' : (m : Int) < 4 := by omega
              have hpp := four_part HFF.out.1.ok (k := m) (by rw [HFF.out.1.len]; exact hm)
              have hqq := four_part HFF.out.2.ok (k := m) (by rw [HFF.out.2.len]; exact hm)
              rw [← HFP.out] at hpp
              rw [← HFQ.out] at hqq
              have hlp := Pt.vs_len (nth_ok HFF.out.1.ok m)
              have hlq := Pt.vs_len (nth_ok HFF.out.2.ok m)
              have hix1 := fun u => ix_four gX 0 hm u
              have hix2 := fun u => ix_four gY 0 hm u
              simp only [Nat.zero_add] at hix1 hix2
              have heq : ∀ u, (Op.equalIn 10000 42 (.agg (nth P m).vs.toArray) (.agg (nth Q m).vs.toArray)).run Tryd.prog u = .ok ((nth P m).same (nth Q m)) u := fun u => equal_ptr (nth_ok HFF.out.1.ok m) (nth_ok HFF.out.2.ok m) 9997 u
              have HUM := unlikeL_more P Q j m
              have hul := unlikeL_len P Q j m
              obtain ⟨Y, hY⟩ : ∃ Y, Y = X ++ unlikeL P Q j m := ⟨_, rfl⟩
              have hYl : Y.length ≤ 40 := by rw [hY, List.length_append]; omega
              have HY : Hid (Y = X ++ unlikeL P Q j m) := hY
              rw [← hY] at hs
              obtain ⟨pm, hpm⟩ : ∃ x, x = (nth P m).vs := ⟨_, rfl⟩
              obtain ⟨qm, hqm⟩ : ∃ x, x = (nth Q m).vs := ⟨_, rfl⟩
              rw [← hpm] at hpp hlp heq
              rw [← hqm] at hqq hlq heq
              have HPP : Hid _ := hpp
              have HQQ : Hid _ := hqq
              cases hsm : (nth P m).same (nth Q m)
              all_goals
                rw [hsm] at heq HUM
                have HUM2 : Hid _ := HUM
                clear HUM hpm hqm hY hpp hqq hul hsm
                go_wp2
                refine UpT.wp_region_tail 6 (UpT.tell []) (fun _ => false) (by kernel_rfl) (by kernel_rfl) (UpT.tell_steady _ (fun p hp => by cases hp)) ?_
                simp only [List.take_succ_cons, List.take_zero]
                iterate 2 (apply UpT.wpUp_pure; (case hw => rfl); (case hψ => rfl); (case hv => (intro wz hp; clear hp; go_simp; try (with_reducible rfl))); simp only [Act.put, List.setIfInBounds_toArray, List.set_cons_zero, List.set_cons_succ])
                refine UpT.wpUp_pure (.agg pm.toArray) (by rfl) (by rfl) (fun wz hp => exec_load (by rfl) (by rfl) (hs.ldp hp.1 ty_ptr (by repeat (first | exact List.Mem.head _ | apply List.Mem.tail)) HPP.out hlp)) ?_
                simp only [Act.put, List.setIfInBounds_toArray, List.set_cons_zero, List.set_cons_succ]
                iterate 2 (apply UpT.wpUp_pure; (case hw => rfl); (case hψ => rfl); (case hv => (intro wz hp; clear hp; go_simp; try (with_reducible rfl))); simp only [Act.put, List.setIfInBounds_toArray, List.set_cons_zero, List.set_cons_succ])
                refine UpT.wpUp_pure (.agg qm.toArray) (by rfl) (by rfl) (fun wz hp => exec_load (by rfl) (by rfl) (hs.ldp hp.1 ty_ptr (by repeat (first | exact List.Mem.head _ | apply List.Mem.tail)) HQQ.out hlq)) ?_
                simp only [Act.put, List.setIfInBounds_toArray, List.set_cons_zero, List.set_cons_succ]
                refine UpT.wpUp_end ?_
                intro w2' hb2' hf
                simp only [List.drop_succ_cons, List.drop_zero]
                replace hs := hs.stays hb2'
                clear hf hb2' hix1 hix2
              · refine wp_pure1 (v := .bool true) rfl (by go_simp) ?_
                simp only [Act.put, List.setIfInBounds_toArray, List.set_cons_zero, List.set_cons_succ]
                unfold rwI at hs
                have hwm : IntKind.i64.wrap ((j : Int) * 4) = (j : Int) * 4 := by rw [IntKind.wrap_i64]; omega
                have hwa : IntKind.i64.wrap ((j : Int) * 4 + (m : Int)) = (j : Int) * 4 + (m : Int) := by rw [IntKind.wrap_i64]; omega
                go_wp2_with (refine sep_append (hs.add (t := 3) (n := 1) (vs := [.int .i64 ((j : Int) * 4 + (m : Int))]) ((Below.refl _ _).alloc (Nat.le_refl _) _) (Blk.newAt rfl rfl) ⟨rfl, by simp [Value.oneCell']⟩) (PI.frame w) rfl rfl elem_int (by rfl) (by rfl) (List.Mem.head _) (by omega) ?_; clear hs; intro v1 w1 hs)
                replace hs := rwI_cast hs.drop (Y ++ [j * 4 + m]) (by simp) (by simp)
                clear heq
                go_roundw
                case rel => exact ⟨m + 1, _, rfl, by go_num, by omega, rwI_eq hs (X ++ unlikeL P Q j (m + 1)) (by rw [HUM2.out, ← List.append_assoc, ← HY.out]; rfl)⟩
                case measure => simp [intOf]; omega
              · refine wp_pure1 (v := .bool false) rfl (by go_simp) ?_
                simp only [Act.put, List.setIfInBounds_toArray, List.set_cons_zero, List.set_cons_succ]
                clear heq
                go_wp2
                go_roundw
                case rel => exact ⟨m + 1, _, rfl, by go_num, by omega, rwI_eq hs (X ++ unlikeL P Q j (m + 1)) (by rw [HUM2.out, ← List.append_assoc, ← HY.out]; simp)⟩
                case measure => simp [intOf]; omega
            · have hm4' : m = 4 := by omega
              subst hm4'
              replace hs := rwI_eq hs.drop.drop (diffsL C (j + 1)) (by rw [HDM.out, HX.out])
              go_wp2
              go_roundw
              case rel => exact ⟨j + 1, _, rfl, by go_num, by omega, hs⟩
              case measure => simp [intOf]; omega
      · refine (UpT.wpUp_make (blkT 139 u.heap.size zf) (by rfl) (by rfl) (fun wz hp => ⟨.pointer (some ⟨wz.heap.size, 0, none⟩), wz.alloc (.cells zf.toArray 139), exec_alloc0 (by rfl) (hal.1 wz), (Below.refl _ _).alloc (Nat.le_refl _) _, ⟨_, rfl, hp.1.size, Blk.newAt rfl rfl⟩, fun _ => ⟨_, rfl, Nat.le_refl _, by simp⟩⟩) ?_).out
        rintro v ⟨u', _, hf⟩
        obtain ⟨gX, rfl, _, _⟩ := hf.of 12 v _ rfl rfl
        clear hf
        simp only [Act.put, List.setIfInBounds_toArray, List.set_cons_zero, List.set_cons_succ]
        refine UpT.wpUp_end ⟨?_, ?_⟩
        · intro wC hbC hf
          obtain ⟨g2, hgE, hglgX, hBgX⟩ := hf.of 12 _ _ rfl rfl
          cases hgE
          clear hf
          simp only [UpT.opsAt, List.cons_append, List.nil_append, List.filterMap_cons, List.filterMap_nil, List.getElem?_toArray, List.getElem?_cons_zero, List.getElem?_cons_succ]
          replace hs := hs.addAt hbC hBgX hglgX hal.2
          clear hbC hBgX
          go_wp2_with (go_at_call 72; go_must (refine (hbo _ hs.rbelow).mono ?_); rintro e w1 ⟨rfl, hb1⟩; replace hs := hs.stays hb1; clear hb1; dsimp only []; apply_assumption; refine wp_move1 rfl rfl (by rfl) ?_; simp only [Act.put, List.setIfInBounds_toArray, List.set_cons_zero, List.set_cons_succ]; refine wp_extract1 rfl rfl (by rfl) (by rfl) ?_; simp only [Act.put, List.setIfInBounds_toArray, List.set_cons_zero, List.set_cons_succ]; refine wp_extract1 rfl rfl (by rfl) (by rfl) ?_; simp only [Act.put, List.setIfInBounds_toArray, List.set_cons_zero, List.set_cons_succ]; refine wp_extract1 rfl rfl (by rfl) (by rfl) ?_; simp only [Act.put, List.setIfInBounds_toArray, List.set_cons_zero, List.set_cons_succ]; refine sep_alloc hs rfl rfl hal ?_; clear hs; intro w1 gY hs; simp only [Act.put, List.setIfInBounds_toArray, List.set_cons_zero, List.set_cons_succ]; refine sep_storew hs rfl rfl (by rfl) (by rfl) (by repeat (first | exact Upd.head | apply Upd.tail)) ty_four hw1 ?_; clear hs; intro w1 hs; simp only [Act.put, List.setIfInBounds_toArray, List.set_cons_zero, List.set_cons_succ]; refine sep_storew hs rfl rfl (by rfl) (by rfl) (by repeat (first | exact Upd.head | apply Upd.tail)) ty_four hw2 ?_; clear hs; intro w1 hs; go_wp2)
          try dsimp only [midQ]
          go_wp2
          have hst := rwI_eq hs (X ++ unlikeL P Q j 0) (by simp [unlikeL])
          clear hs
          go_loopw [46, 11] (fun x o wq => ∃ (m : Nat) (z : World), z = wq ∧ x = .int .i64 (m : Int) ∧ m ≤ 4 ∧ Sep w.heap.size (Row1 w.heap.size (PI w) (rwI o (X ++ unlikeL P Q j m))) z (⟨gY, 139, 140, fq⟩ :: ⟨gX, 139, 140, fp⟩ :: [⟨gD, 139, 140, fourV D⟩, ⟨gA, 139, 140, fourV A⟩, ⟨gB, 42, 35, b.vs⟩, ⟨gQ, 42, 35, a.vs⟩]) []) (fun x _ _ => 4 - (intOf x).toNat)
          case atStart => exact ⟨0, _, rfl, rfl, by omega, hst⟩
          case round =>
            clear hst
            rename_i hrel
            obtain ⟨m, z, rfl, rfl, hm4, hs⟩ := hrel
            by_cases hm : m < 4
            · have hm' : (m : Int) < 4 := by omega
              have hpp := four_part HFF.out.1.ok (k := m) (by rw [HFF.out.1.len]; exact hm)
              have hqq := four_part HFF.out.2.ok (k := m) (by rw [HFF.out.2.len]; exact hm)
              rw [← HFP.out] at hpp
              rw [← HFQ.out] at hqq
              have hlp := Pt.vs_len (nth_ok HFF.out.1.ok m)
              have hlq := Pt.vs_len (nth_ok HFF.out.2.ok m)
              have hix1 := fun u => ix_four gX 0 hm u
              have hix2 := fun u => ix_four gY 0 hm u
              simp only [Nat.zero_add] at hix1 hix2
              have heq : ∀ u, (Op.equalIn 10000 42 (.agg (nth P m).vs.toArray) (.agg (nth Q m).vs.toArray)).run Tryd.prog u = .ok ((nth P m).same (nth Q m)) u := fun u => equal_ptr (nth_ok HFF.out.1.ok m) (nth_ok HFF.out.2.ok m) 9997 u
              have HUM := unlikeL_more P Q j m
              have hul := unlikeL_len P Q j m
              obtain ⟨Y, hY⟩ : ∃ Y, Y = X ++ unlikeL P Q j m := ⟨_, rfl⟩
              have hYl : Y.length ≤ 40 := by rw [hY, List.length_append]; omega
              have HY : Hid (Y = X ++ unlikeL P Q j m) := hY
              rw [← hY] at hs
              obtain ⟨pm, hpm⟩ : ∃ x, x = (nth P m).vs := ⟨_, rfl⟩
              obtain ⟨qm, hqm⟩ : ∃ x, x = (nth Q m).vs := ⟨_, rfl⟩
              rw [← hpm] at hpp hlp heq
              rw [← hqm] at hqq hlq heq
              have HPP : Hid _ := hpp
              have HQQ : Hid _ := hqq
              cases hsm : (nth P m).same (nth Q m)
              all_goals
                rw [hsm] at heq HUM
                have HUM2 : Hid _ := HUM
                clear HUM hpm hqm hY hpp hqq hul hsm
                go_wp2
                refine UpT.wp_region_tail 6 (UpT.tell []) (fun _ => false) (by kernel_rfl) (by kernel_rfl) (UpT.tell_steady _ (fun p hp => by cases hp)) ?_
                simp only [List.take_succ_cons, List.take_zero]
                iterate 2 (apply UpT.wpUp_pure; (case hw => rfl); (case hψ => rfl); (case hv => (intro wz hp; clear hp; go_simp; try (with_reducible rfl))); simp only [Act.put, List.setIfInBounds_toArray, List.set_cons_zero, List.set_cons_succ])
                refine UpT.wpUp_pure (.agg pm.toArray) (by rfl) (by rfl) (fun wz hp => exec_load (by rfl) (by rfl) (hs.ldp hp.1 ty_ptr (by repeat (first | exact List.Mem.head _ | apply List.Mem.tail)) HPP.out hlp)) ?_
                simp only [Act.put, List.setIfInBounds_toArray, List.set_cons_zero, List.set_cons_succ]
                iterate 2 (apply UpT.wpUp_pure; (case hw => rfl); (case hψ => rfl); (case hv => (intro wz hp; clear hp; go_simp; try (with_reducible rfl))); simp only [Act.put, List.setIfInBounds_toArray, List.set_cons_zero, List.set_cons_succ])
                refine UpT.wpUp_pure (.agg qm.toArray) (by rfl) (by rfl) (fun wz hp => exec_load (by rfl) (by rfl) (hs.ldp hp.1 ty_ptr (by repeat (first | exact List.Mem.head _ | apply List.Mem.tail)) HQQ.out hlq)) ?_
                simp only [Act.put, List.setIfInBounds_toArray, List.set_cons_zero, List.set_cons_succ]
                refine UpT.wpUp_end ?_
                intro w2' hb2' hf
                simp only [List.drop_succ_cons, List.drop_zero]
                replace hs := hs.stays hb2'
                clear hf hb2' hix1 hix2
              · refine wp_pure1 (v := .bool true) rfl (by go_simp) ?_
                simp only [Act.put, List.setIfInBounds_toArray, List.set_cons_zero, List.set_cons_succ]
                unfold rwI at hs
                have hwm : IntKind.i64.wrap ((j : Int) * 4) = (j : Int) * 4 := by rw [IntKind.wrap_i64]; omega
                have hwa : IntKind.i64.wrap ((j : Int) * 4 + (m : Int)) = (j : Int) * 4 + (m : Int) := by rw [IntKind.wrap_i64]; omega
                go_wp2_with (refine sep_append (hs.add (t := 3) (n := 1) (vs := [.int .i64 ((j : Int) * 4 + (m : Int))]) ((Below.refl _ _).alloc (Nat.le_refl _) _) (Blk.newAt rfl rfl) ⟨rfl, by simp [Value.oneCell']⟩) (PI.frame w) rfl rfl elem_int (by rfl) (by rfl) (List.Mem.head _) (by omega) ?_; clear hs; intro v1 w1 hs)
                replace hs := rwI_cast hs.drop (Y ++ [j * 4 + m]) (by simp) (by simp)
                clear heq
                go_roundw
                case rel => exact ⟨m + 1, _, rfl, by go_num, by omega, rwI_eq hs (X ++ unlikeL P Q j (m + 1)) (by rw [HUM2.out, ← List.append_assoc, ← HY.out]; rfl)⟩
                case measure => simp [intOf]; omega
              · refine wp_pure1 (v := .bool false) rfl (by go_simp) ?_
                simp only [Act.put, List.setIfInBounds_toArray, List.set_cons_zero, List.set_cons_succ]
                clear heq
                go_wp2
                go_roundw
                case rel => exact ⟨m + 1, _, rfl, by go_num, by omega, rwI_eq hs (X ++ unlikeL P Q j (m + 1)) (by rw [HUM2.out, ← List.append_assoc, ← HY.out]; simp)⟩
                case measure => simp [intOf]; omega
            · have hm4' : m = 4 := by omega
              subst hm4'
              replace hs := rwI_eq hs.drop.drop (diffsL C (j + 1)) (by rw [HDM.out, HX.out])
              go_wp2
              go_roundw
              case rel => exact ⟨j + 1, _, rfl, by go_num, by omega, hs⟩
              case measure => simp [intOf]; omega
        · refine (UpT.wpUp_make (blkT 139 u.heap.size zf) (by rfl) (by rfl) (fun wz hp => ⟨.pointer (some ⟨wz.heap.size, 0, none⟩), wz.alloc (.cells zf.toArray 139), exec_alloc0 (by rfl) (hal.1 wz), (Below.refl _ _).alloc (Nat.le_refl _) _, ⟨_, rfl, hp.1.size, Blk.newAt rfl rfl⟩, fun _ => ⟨_, rfl, Nat.le_refl _, by simp⟩⟩) ?_).out
          rintro v ⟨u', _, hf⟩
          obtain ⟨gY, rfl, _, _⟩ := hf.of 13 v _ rfl rfl
          clear hf
          simp only [Act.put, List.setIfInBounds_toArray, List.set_cons_zero, List.set_cons_succ]
          refine UpT.wpUp_end ?_
          intro wC hbC hf
          obtain ⟨g2, hgE, hglgX, hBgX⟩ := hf.of 12 _ _ rfl rfl
          cases hgE
          obtain ⟨g2, hgE, hglgY, hBgY⟩ := hf.of 13 _ _ rfl rfl
          cases hgE
          have hne : gX ≠ gY := hf.ne 12 13 _ _ (by decide) rfl rfl rfl rfl
          clear hf
          simp only [UpT.opsAt, List.cons_append, List.nil_append, List.filterMap_cons, List.filterMap_nil, List.getElem?_toArray, List.getElem?_cons_zero, List.getElem?_cons_succ]
          replace hs := hs.addAt2 hbC hBgX hglgX hal.2 hBgY hglgY hal.2 hne
          clear hbC hBgX hBgY
          go_wp2_with (go_at_call 72; go_must (refine (hbo _ hs.rbelow).mono ?_); rintro e w1 ⟨rfl, hb1⟩; replace hs := hs.stays hb1; clear hb1; dsimp only []; apply_assumption; refine wp_move1 rfl rfl (by rfl) ?_; simp only [Act.put, List.setIfInBounds_toArray, List.set_cons_zero, List.set_cons_succ]; refine wp_extract1 rfl rfl (by rfl) (by rfl) ?_; simp only [Act.put, List.setIfInBounds_toArray, List.set_cons_zero, List.set_cons_succ]; refine wp_extract1 rfl rfl (by rfl) (by rfl) ?_; simp only [Act.put, List.setIfInBounds_toArray, List.set_cons_zero, List.set_cons_succ]; refine wp_extract1 rfl rfl (by rfl) (by rfl) ?_; simp only [Act.put, List.setIfInBounds_toArray, List.set_cons_zero, List.set_cons_succ]; refine sep_storew hs rfl rfl (by rfl) (by rfl) (by repeat (first | exact Upd.head | apply Upd.tail)) ty_four hw1 ?_; clear hs; intro w1 hs; simp only [Act.put, List.setIfInBounds_toArray, List.set_cons_zero, List.set_cons_succ]; refine sep_storew hs rfl rfl (by rfl) (by rfl) (by repeat (first | exact Upd.head | apply Upd.tail)) ty_four hw2 ?_; clear hs; intro w1 hs; go_wp2)
          try dsimp only [midQ]
          go_wp2
          have hst := rwI_eq hs (X ++ unlikeL P Q j 0) (by simp [unlikeL])
          clear hs
          go_loopw [46, 11] (fun x o wq => ∃ (m : Nat) (z : World), z = wq ∧ x = .int .i64 (m : Int) ∧ m ≤ 4 ∧ Sep w.heap.size (Row1 w.heap.size (PI w) (rwI o (X ++ unlikeL P Q j m))) z (⟨gY, 139, 140, fq⟩ :: ⟨gX, 139, 140, fp⟩ :: [⟨gD, 139, 140, fourV D⟩, ⟨gA, 139, 140, fourV A⟩, ⟨gB, 42, 35, b.vs⟩, ⟨gQ, 42, 35, a.vs⟩]) []) (fun x _ _ => 4 - (intOf x).toNat)
          case atStart => exact ⟨0, _, rfl, rfl, by omega, hst⟩
          case round =>
            clear hst
            rename_i hrel
            obtain ⟨m, z, rfl, rfl, hm4, hs⟩ := hrel
            by_cases hm : m < 4
            · have hm' : (m : Int) < 4 := by omega
              have hpp := four_part HFF.out.1.ok (k := m) (by rw [HFF.out.1.len]; exact hm)
              have hqq := four_part HFF.out.2.ok (k := m) (by rw [HFF.out.2.len]; exact hm)
              rw [← HFP.out] at hpp
              rw [← HFQ.out] at hqq
              have hlp := Pt.vs_len (nth_ok HFF.out.1.ok m)
              have hlq := Pt.vs_len (nth_ok HFF.out.2.ok m)
              have hix1 := fun u => ix_four gX 0 hm u
              have hix2 := fun u => ix_four gY 0 hm u
              simp only [Nat.zero_add] at hix1 hix2
              have heq : ∀ u, (Op.equalIn 10000 42 (.agg (nth P m).vs.toArray) (.agg (nth Q m).vs.toArray)).run Tryd.prog u = .ok ((nth P m).same (nth Q m)) u := fun u => equal_ptr (nth_ok HFF.out.1.ok m) (nth_ok HFF.out.2.ok m) 9997 u
              have HUM := unlikeL_more P Q j m
              have hul := unlikeL_len P Q j m
              obtain ⟨Y, hY⟩ : ∃ Y, Y = X ++ unlikeL P Q j m := ⟨_, rfl⟩
              have hYl : Y.length ≤ 40 := by rw [hY, List.length_append]; omega
              have HY : Hid (Y = X ++ unlikeL P Q j m) := hY
              rw [← hY] at hs
              obtain ⟨pm, hpm⟩ : ∃ x, x = (nth P m).vs := ⟨_, rfl⟩
              obtain ⟨qm, hqm⟩ : ∃ x, x = (nth Q m).vs := ⟨_, rfl⟩
              rw [← hpm] at hpp hlp heq
              rw [← hqm] at hqq hlq heq
              have HPP : Hid _ := hpp
              have HQQ : Hid _ := hqq
              cases hsm : (nth P m).same (nth Q m)
              all_goals
                rw [hsm] at heq HUM
                have HUM2 : Hid _ := HUM
                clear HUM hpm hqm hY hpp hqq hul hsm
                go_wp2
                refine UpT.wp_region_tail 6 (UpT.tell []) (fun _ => false) (by kernel_rfl) (by kernel_rfl) (UpT.tell_steady _ (fun p hp => by cases hp)) ?_
                simp only [List.take_succ_cons, List.take_zero]
                iterate 2 (apply UpT.wpUp_pure; (case hw => rfl); (case hψ => rfl); (case hv => (intro wz hp; clear hp; go_simp; try (with_reducible rfl))); simp only [Act.put, List.setIfInBounds_toArray, List.set_cons_zero, List.set_cons_succ])
                refine UpT.wpUp_pure (.agg pm.toArray) (by rfl) (by rfl) (fun wz hp => exec_load (by rfl) (by rfl) (hs.ldp hp.1 ty_ptr (by repeat (first | exact List.Mem.head _ | apply List.Mem.tail)) HPP.out hlp)) ?_
                simp only [Act.put, List.setIfInBounds_toArray, List.set_cons_zero, List.set_cons_succ]
                iterate 2 (apply UpT.wpUp_pure; (case hw => rfl); (case hψ => rfl); (case hv => (intro wz hp; clear hp; go_simp; try (with_reducible rfl))); simp only [Act.put, List.setIfInBounds_toArray, List.set_cons_zero, List.set_cons_succ])
                refine UpT.wpUp_pure (.agg qm.toArray) (by rfl) (by rfl) (fun wz hp => exec_load (by rfl) (by rfl) (hs.ldp hp.1 ty_ptr (by repeat (first | exact List.Mem.head _ | apply List.Mem.tail)) HQQ.out hlq)) ?_
                simp only [Act.put, List.setIfInBounds_toArray, List.set_cons_zero, List.set_cons_succ]
                refine UpT.wpUp_end ?_
                intro w2' hb2' hf
                simp only [List.drop_succ_cons, List.drop_zero]
                replace hs := hs.stays hb2'
                clear hf hb2' hix1 hix2
              · refine wp_pure1 (v := .bool true) rfl (by go_simp) ?_
                simp only [Act.put, List.setIfInBounds_toArray, List.set_cons_zero, List.set_cons_succ]
                unfold rwI at hs
                have hwm : IntKind.i64.wrap ((j : Int) * 4) = (j : Int) * 4 := by rw [IntKind.wrap_i64]; omega
                have hwa : IntKind.i64.wrap ((j : Int) * 4 + (m : Int)) = (j : Int) * 4 + (m : Int) := by rw [IntKind.wrap_i64]; omega
                go_wp2_with (refine sep_append (hs.add (t := 3) (n := 1) (vs := [.int .i64 ((j : Int) * 4 + (m : Int))]) ((Below.refl _ _).alloc (Nat.le_refl _) _) (Blk.newAt rfl rfl) ⟨rfl, by simp [Value.oneCell']⟩) (PI.frame w) rfl rfl elem_int (by rfl) (by rfl) (List.Mem.head _) (by omega) ?_; clear hs; intro v1 w1 hs)
                replace hs := rwI_cast hs.drop (Y ++ [j * 4 + m]) (by simp) (by simp)
                clear heq
                go_roundw
                case rel => exact ⟨m + 1, _, rfl, by go_num, by omega, rwI_eq hs (X ++ unlikeL P Q j (m + 1)) (by rw [HUM2.out, ← List.append_assoc, ← HY.out]; rfl)⟩
                case measure => simp [intOf]; omega
              · refine wp_pure1 (v := .bool false) rfl (by go_simp) ?_
                simp only [Act.put, List.setIfInBounds_toArray, List.set_cons_zero, List.set_cons_succ]
                clear heq
                go_wp2
                go_roundw
                case rel => exact ⟨m + 1, _, rfl, by go_num, by omega, rwI_eq hs (X ++ unlikeL P Q j (m + 1)) (by rw [HUM2.out, ← List.append_assoc, ← HY.out]; simp)⟩
                case measure => simp [intOf]; omega
            · have hm4' : m = 4 := by omega
              subst hm4'
              replace hs := rwI_eq hs.drop.drop (diffsL C (j + 1)) (by rw [HDM.out, HX.out])
              go_wp2
              go_roundw
              case rel => exact ⟨j + 1, _, rfl, by go_num, by omega, hs⟩
              case measure => simp [intOf]; omega
      · refine (UpT.wpUp_make (blkT 139 u.heap.size zf) (by rfl) (by rfl) (fun wz hp => ⟨.pointer (some ⟨wz.heap.size, 0, none⟩), wz.alloc (.cells zf.toArray 139), exec_alloc0 (by rfl) (hal.1 wz), (Below.refl _ _).alloc (Nat.le_refl _) _, ⟨_, rfl, hp.1.size, Blk.newAt rfl rfl⟩, fun _ => ⟨_, rfl, Nat.le_refl _, by simp⟩⟩) ?_).out
        rintro v ⟨u', _, hf⟩
        obtain ⟨gY, rfl, _, _⟩ := hf.of 13 v _ rfl rfl
        clear hf
        simp only [Act.put, List.setIfInBounds_toArray, List.set_cons_zero, List.set_cons_succ]
        refine UpT.wpUp_end ⟨?_, ?_⟩
        · intro wC hbC hf
          obtain ⟨g2, hgE, hglgY, hBgY⟩ := hf.of 13 _ _ rfl rfl
          cases hgE
          clear hf
          simp only [UpT.opsAt, List.cons_append, List.nil_append, List.filterMap_cons, List.filterMap_nil, List.getElem?_toArray, List.getElem?_cons_zero, List.getElem?_cons_succ]
          replace hs := hs.addAt hbC hBgY hglgY hal.2
          clear hbC hBgY
          go_wp2_with (go_at_call 72; go_must (refine (hbo _ hs.rbelow).mono ?_); rintro e w1 ⟨rfl, hb1⟩; replace hs := hs.stays hb1; clear hb1; dsimp only []; apply_assumption; refine wp_move1 rfl rfl (by rfl) ?_; simp only [Act.put, List.setIfInBounds_toArray, List.set_cons_zero, List.set_cons_succ]; refine wp_extract1 rfl rfl (by rfl) (by rfl) ?_; simp only [Act.put, List.setIfInBounds_toArray, List.set_cons_zero, List.set_cons_succ]; refine wp_extract1 rfl rfl (by rfl) (by rfl) ?_; simp only [Act.put, List.setIfInBounds_toArray, List.set_cons_zero, List.set_cons_succ]; refine wp_extract1 rfl rfl (by rfl) (by rfl) ?_; simp only [Act.put, List.setIfInBounds_toArray, List.set_cons_zero, List.set_cons_succ]; refine sep_alloc hs rfl rfl hal ?_; clear hs; intro w1 gX hs; simp only [Act.put, List.setIfInBounds_toArray, List.set_cons_zero, List.set_cons_succ]; refine sep_storew hs rfl rfl (by rfl) (by rfl) (by repeat (first | exact Upd.head | apply Upd.tail)) ty_four hw1 ?_; clear hs; intro w1 hs; simp only [Act.put, List.setIfInBounds_toArray, List.set_cons_zero, List.set_cons_succ]; refine sep_storew hs rfl rfl (by rfl) (by rfl) (by repeat (first | exact Upd.head | apply Upd.tail)) ty_four hw2 ?_; clear hs; intro w1 hs; go_wp2)
          try dsimp only [midQ]
          replace hs := hs.swapL
          go_wp2
          have hst := rwI_eq hs (X ++ unlikeL P Q j 0) (by simp [unlikeL])
          clear hs
          go_loopw [46, 11] (fun x o wq => ∃ (m : Nat) (z : World), z = wq ∧ x = .int .i64 (m : Int) ∧ m ≤ 4 ∧ Sep w.heap.size (Row1 w.heap.size (PI w) (rwI o (X ++ unlikeL P Q j m))) z (⟨gY, 139, 140, fq⟩ :: ⟨gX, 139, 140, fp⟩ :: [⟨gD, 139, 140, fourV D⟩, ⟨gA, 139, 140, fourV A⟩, ⟨gB, 42, 35, b.vs⟩, ⟨gQ, 42, 35, a.vs⟩]) []) (fun x _ _ => 4 - (intOf x).toNat)
          case atStart => exact ⟨0, _, rfl, rfl, by omega, hst⟩
          case round =>
            clear hst
            rename_i hrel
            obtain ⟨m, z, rfl, rfl, hm4, hs⟩ := hrel
            by_cases hm : m < 4
            · have hm' : (m : Int) < 4 := by omega
              have hpp := four_part HFF.out.1.ok (k := m) (by rw [HFF.out.1.len]; exact hm)
              have hqq := four_part HFF.out.2.ok (k := m) (by rw [HFF.out.2.len]; exact hm)
              rw [← HFP.out] at hpp
              rw [← HFQ.out] at hqq
              have hlp := Pt.vs_len (nth_ok HFF.out.1.ok m)
              have hlq := Pt.vs_len (nth_ok HFF.out.2.ok m)
              have hix1 := fun u => ix_four gX 0 hm u
              have hix2 := fun u => ix_four gY 0 hm u
              simp only [Nat.zero_add] at hix1 hix2
              have heq : ∀ u, (Op.equalIn 10000 42 (.agg (nth P m).vs.toArray) (.agg (nth Q m).vs.toArray)).run Tryd.prog u = .ok ((nth P m).same (nth Q m)) u := fun u => equal_ptr (nth_ok HFF.out.1.ok m) (nth_ok HFF.out.2.ok m) 9997 u
              have HUM := unlikeL_more P Q j m
              have hul := unlikeL_len P Q j m
              obtain ⟨Y, hY⟩ : ∃ Y, Y = X ++ unlikeL P Q j m := ⟨_, rfl⟩
              have hYl : Y.length ≤ 40 := by rw [hY, List.length_append]; omega
              have HY : Hid (Y = X ++ unlikeL P Q j m) := hY
              rw [← hY] at hs
              obtain ⟨pm, hpm⟩ : ∃ x, x = (nth P m).vs := ⟨_, rfl⟩
              obtain ⟨qm, hqm⟩ : ∃ x, x = (nth Q m).vs := ⟨_, rfl⟩
              rw [← hpm] at hpp hlp heq
              rw [← hqm] at hqq hlq heq
              have HPP : Hid _ := hpp
              have HQQ : Hid _ := hqq
              cases hsm : (nth P m).same (nth Q m)
              all_goals
                rw [hsm] at heq HUM
                have HUM2 : Hid _ := HUM
                clear HUM hpm hqm hY hpp hqq hul hsm
                go_wp2
                refine UpT.wp_region_tail 6 (UpT.tell []) (fun _ => false) (by kernel_rfl) (by kernel_rfl) (UpT.tell_steady _ (fun p hp => by cases hp)) ?_
                simp only [List.take_succ_cons, List.take_zero]
                iterate 2 (apply UpT.wpUp_pure; (case hw => rfl); (case hψ => rfl); (case hv => (intro wz hp; clear hp; go_simp; try (with_reducible rfl))); simp only [Act.put, List.setIfInBounds_toArray, List.set_cons_zero, List.set_cons_succ])
                refine UpT.wpUp_pure (.agg pm.toArray) (by rfl) (by rfl) (fun wz hp => exec_load (by rfl) (by rfl) (hs.ldp hp.1 ty_ptr (by repeat (first | exact List.Mem.head _ | apply List.Mem.tail)) HPP.out hlp)) ?_
                simp only [Act.put, List.setIfInBounds_toArray, List.set_cons_zero, List.set_cons_succ]
                iterate 2 (apply UpT.wpUp_pure; (case hw => rfl); (case hψ => rfl); (case hv => (intro wz hp; clear hp; go_simp; try (with_reducible rfl))); simp only [Act.put, List.setIfInBounds_toArray, List.set_cons_zero, List.set_cons_succ])
                refine UpT.wpUp_pure (.agg qm.toArray) (by rfl) (by rfl) (fun wz hp => exec_load (by rfl) (by rfl) (hs.ldp hp.1 ty_ptr (by repeat (first | exact List.Mem.head _ | apply List.Mem.tail)) HQQ.out hlq)) ?_
                simp only [Act.put, List.setIfInBounds_toArray, List.set_cons_zero, List.set_cons_succ]
                refine UpT.wpUp_end ?_
                intro w2' hb2' hf
                simp only [List.drop_succ_cons, List.drop_zero]
                replace hs := hs.stays hb2'
                clear hf hb2' hix1 hix2
              · refine wp_pure1 (v := .bool true) rfl (by go_simp) ?_
                simp only [Act.put, List.setIfInBounds_toArray, List.set_cons_zero, List.set_cons_succ]
                unfold rwI at hs
                have hwm : IntKind.i64.wrap ((j : Int) * 4) = (j : Int) * 4 := by rw [IntKind.wrap_i64]; omega
                have hwa : IntKind.i64.wrap ((j : Int) * 4 + (m : Int)) = (j : Int) * 4 + (m : Int) := by rw [IntKind.wrap_i64]; omega
                go_wp2_with (refine sep_append (hs.add (t := 3) (n := 1) (vs := [.int .i64 ((j : Int) * 4 + (m : Int))]) ((Below.refl _ _).alloc (Nat.le_refl _) _) (Blk.newAt rfl rfl) ⟨rfl, by simp [Value.oneCell']⟩) (PI.frame w) rfl rfl elem_int (by rfl) (by rfl) (List.Mem.head _) (by omega) ?_; clear hs; intro v1 w1 hs)
                replace hs := rwI_cast hs.drop (Y ++ [j * 4 + m]) (by simp) (by simp)
                clear heq
                go_roundw
                case rel => exact ⟨m + 1, _, rfl, by go_num, by omega, rwI_eq hs (X ++ unlikeL P Q j (m + 1)) (by rw [HUM2.out, ← List.append_assoc, ← HY.out]; rfl)⟩
                case measure => simp [intOf]; omega
              · refine wp_pure1 (v := .bool false) rfl (by go_simp) ?_
                simp only [Act.put, List.setIfInBounds_toArray, List.set_cons_zero, List.set_cons_succ]
                clear heq
                go_wp2
                go_roundw
                case rel => exact ⟨m + 1, _, rfl, by go_num, by omega, rwI_eq hs (X ++ unlikeL P Q j (m + 1)) (by rw [HUM2.out, ← List.append_assoc, ← HY.out]; simp)⟩
                case measure => simp [intOf]; omega
            · have hm4' : m = 4 := by omega
              subst hm4'
              replace hs := rwI_eq hs.drop.drop (diffsL C (j + 1)) (by rw [HDM.out, HX.out])
              go_wp2
              go_roundw
              case rel => exact ⟨j + 1, _, rfl, by go_num, by omega, hs⟩
              case measure => simp [intOf]; omega
        · refine (UpT.wpUp_make (blkT 139 u.heap.size zf) (by rfl) (by rfl) (fun wz hp => ⟨.pointer (some ⟨wz.heap.size, 0, none⟩), wz.alloc (.cells zf.toArray 139), exec_alloc0 (by rfl) (hal.1 wz), (Below.refl _ _).alloc (Nat.le_refl _) _, ⟨_, rfl, hp.1.size, Blk.newAt rfl rfl⟩, fun _ => ⟨_, rfl, Nat.le_refl _, by simp⟩⟩) ?_).out
          rintro v ⟨u', _, hf⟩
          obtain ⟨gX, rfl, _, _⟩ := hf.of 12 v _ rfl rfl
          clear hf
          simp only [Act.put, List.setIfInBounds_toArray, List.set_cons_zero, List.set_cons_succ]
          refine UpT.wpUp_end ?_
          intro wC hbC hf
          obtain ⟨g2, hgE, hglgY, hBgY⟩ := hf.of 13 _ _ rfl rfl
          cases hgE
          obtain ⟨g2, hgE, hglgX, hBgX⟩ := hf.of 12 _ _ rfl rfl
          cases hgE
          have hne : gX ≠ gY := hf.ne 12 13 _ _ (by decide) rfl rfl rfl rfl
          clear hf
          simp only [UpT.opsAt, List.cons_append, List.nil_append, List.filterMap_cons, List.filterMap_nil, List.getElem?_toArray, List.getElem?_cons_zero, List.getElem?_cons_succ]
          replace hs := hs.addAt2 hbC hBgX hglgX hal.2 hBgY hglgY hal.2 hne
          clear hbC hBgX hBgY
          go_wp2_with (go_at_call 72; go_must (refine (hbo _ hs.rbelow).mono ?_); rintro e w1 ⟨rfl, hb1⟩; replace hs := hs.stays hb1; clear hb1; dsimp only []; apply_assumption; refine wp_move1 rfl rfl (by rfl) ?_; simp only [Act.put, List.setIfInBounds_toArray, List.set_cons_zero, List.set_cons_succ]; refine wp_extract1 rfl rfl (by rfl) (by rfl) ?_; simp only [Act.put, List.setIfInBounds_toArray, List.set_cons_zero, List.set_cons_succ]; refine wp_extract1 rfl rfl (by rfl) (by rfl) ?_; simp only [Act.put, List.setIfInBounds_toArray, List.set_cons_zero, List.set_cons_succ]; refine wp_extract1 rfl rfl (by rfl) (by rfl) ?_; simp only [Act.put, List.setIfInBounds_toArray, List.set_cons_zero, List.set_cons_succ]; refine sep_storew hs rfl rfl (by rfl) (by rfl) (by repeat (first | exact Upd.head | apply Upd.tail)) ty_four hw1 ?_; clear hs; intro w1 hs; simp only [Act.put, List.setIfInBounds_toArray, List.set_cons_zero, List.set_cons_succ]; refine sep_storew hs rfl rfl (by rfl) (by rfl) (by repeat (first | exact Upd.head | apply Upd.tail)) ty_four hw2 ?_; clear hs; intro w1 hs; go_wp2)
          try dsimp only [midQ]
          go_wp2
          have hst := rwI_eq hs (X ++ unlikeL P Q j 0) (by simp [unlikeL])
          clear hs
          go_loopw [46, 11] (fun x o wq => ∃ (m : Nat) (z : World), z = wq ∧ x = .int .i64 (m : Int) ∧ m ≤ 4 ∧ Sep w.heap.size (Row1 w.heap.size (PI w) (rwI o (X ++ unlikeL P Q j m))) z (⟨gY, 139, 140, fq⟩ :: ⟨gX, 139, 140, fp⟩ :: [⟨gD, 139, 140, fourV D⟩, ⟨gA, 139, 140, fourV A⟩, ⟨gB, 42, 35, b.vs⟩, ⟨gQ, 42, 35, a.vs⟩]) []) (fun x _ _ => 4 - (intOf x).toNat)
          case atStart => exact ⟨0, _, rfl, rfl, by omega, hst⟩
          case round =>
            clear hst
            rename_i hrel
            obtain ⟨m, z, rfl, rfl, hm4, hs⟩ := hrel
            by_cases hm : m < 4
            · have hm' : (m : Int) < 4 := by omega
              have hpp := four_part HFF.out.1.ok (k := m) (by rw [HFF.out.1.len]; exact hm)
              have hqq := four_part HFF.out.2.ok (k := m) (by rw [HFF.out.2.len]; exact hm)
              rw [← HFP.out] at hpp
              rw [← HFQ.out] at hqq
              have hlp := Pt.vs_len (nth_ok HFF.out.1.ok m)
              have hlq := Pt.vs_len (nth_ok HFF.out.2.ok m)
              have hix1 := fun u => ix_four gX 0 hm u
              have hix2 := fun u => ix_four gY 0 hm u
              simp only [Nat.zero_add] at hix1 hix2
              have heq : ∀ u, (Op.equalIn 10000 42 (.agg (nth P m).vs.toArray) (.agg (nth Q m).vs.toArray)).run Tryd.prog u = .ok ((nth P m).same (nth Q m)) u := fun u => equal_ptr (nth_ok HFF.out.1.ok m) (nth_ok HFF.out.2.ok m) 9997 u
              have HUM := unlikeL_more P Q j m
              have hul := unlikeL_len P Q j m
              obtain ⟨Y, hY⟩ : ∃ Y, Y = X ++ unlikeL P Q j m := ⟨_, rfl⟩
              have hYl : Y.length ≤ 40 := by rw [hY, List.length_append]; omega
              have HY : Hid (Y = X ++ unlikeL P Q j m) := hY
              rw [← hY] at hs
              obtain ⟨pm, hpm⟩ : ∃ x, x = (nth P m).vs := ⟨_, rfl⟩
              obtain ⟨qm, hqm⟩ : ∃ x, x = (nth Q m).vs := ⟨_, rfl⟩
              rw [← hpm] at hpp hlp heq
              rw [← hqm] at hqq hlq heq
              have HPP : Hid _ := hpp
              have HQQ : Hid _ := hqq
              cases hsm : (nth P m).same (nth Q m)
              all_goals
                rw [hsm] at heq HUM
                have HUM2 : Hid _ := HUM
                clear HUM hpm hqm hY hpp hqq hul hsm
                go_wp2
                refine UpT.wp_region_tail 6 (UpT.tell []) (fun _ => false) (by kernel_rfl) (by kernel_rfl) (UpT.tell_steady _ (fun p hp => by cases hp)) ?_
                simp only [List.take_succ_cons, List.take_zero]
                iterate 2 (apply UpT.wpUp_pure; (case hw => rfl); (case hψ => rfl); (case hv => (intro wz hp; clear hp; go_simp; try (with_reducible rfl))); simp only [Act.put, List.setIfInBounds_toArray, List.set_cons_zero, List.set_cons_succ])
                refine UpT.wpUp_pure (.agg pm.toArray) (by rfl) (by rfl) (fun wz hp => exec_load (by rfl) (by rfl) (hs.ldp hp.1 ty_ptr (by repeat (first | exact List.Mem.head _ | apply List.Mem.tail)) HPP.out hlp)) ?_
                simp only [Act.put, List.setIfInBounds_toArray, List.set_cons_zero, List.set_cons_succ]
                iterate 2 (apply UpT.wpUp_pure; (case hw => rfl); (case hψ => rfl); (case hv => (intro wz hp; clear hp; go_simp; try (with_reducible rfl))); simp only [Act.put, List.setIfInBounds_toArray, List.set_cons_zero, List.set_cons_succ])
                refine UpT.wpUp_pure (.agg qm.toArray) (by rfl) (by rfl) (fun wz hp => exec_load (by rfl) (by rfl) (hs.ldp hp.1 ty_ptr (by repeat (first | exact List.Mem.head _ | apply List.Mem.tail)) HQQ.out hlq)) ?_
                simp only [Act.put, List.setIfInBounds_toArray, List.set_cons_zero, List.set_cons_succ]
                refine UpT.wpUp_end ?_
                intro w2' hb2' hf
                simp only [List.drop_succ_cons, List.drop_zero]
                replace hs := hs.stays hb2'
                clear hf hb2' hix1 hix2
              · refine wp_pure1 (v := .bool true) rfl (by go_simp) ?_
                simp only [Act.put, List.setIfInBounds_toArray, List.set_cons_zero, List.set_cons_succ]
                unfold rwI at hs
                have hwm : IntKind.i64.wrap ((j : Int) * 4) = (j : Int) * 4 := by rw [IntKind.wrap_i64]; omega
                have hwa : IntKind.i64.wrap ((j : Int) * 4 + (m : Int)) = (j : Int) * 4 + (m : Int) := by rw [IntKind.wrap_i64]; omega
                go_wp2_with (refine sep_append (hs.add (t := 3) (n := 1) (vs := [.int .i64 ((j : Int) * 4 + (m : Int))]) ((Below.refl _ _).alloc (Nat.le_refl _) _) (Blk.newAt rfl rfl) ⟨rfl, by simp [Value.oneCell']⟩) (PI.frame w) rfl rfl elem_int (by rfl) (by rfl) (List.Mem.head _) (by omega) ?_; clear hs; intro v1 w1 hs)
                replace hs := rwI_cast hs.drop (Y ++ [j * 4 + m]) (by simp) (by simp)
                clear heq
                go_roundw
                case rel => exact ⟨m + 1, _, rfl, by go_num, by omega, rwI_eq hs (X ++ unlikeL P Q j (m + 1)) (by rw [HUM2.out, ← List.append_assoc, ← HY.out]; rfl)⟩
                case measure => simp [intOf]; omega
              · refine wp_pure1 (v := .bool false) rfl (by go_simp) ?_
                simp only [Act.put, List.setIfInBounds_toArray, List.set_cons_zero, List.set_cons_succ]
                clear heq
                go_wp2
                go_roundw
                case rel => exact ⟨m + 1, _, rfl, by go_num, by omega, rwI_eq hs (X ++ unlikeL P Q j (m + 1)) (by rw [HUM2.out, ← List.append_assoc, ← HY.out]; simp)⟩
                case measure => simp [intOf]; omega
            · have hm4' : m = 4 := by omega
              subst hm4'
              replace hs := rwI_eq hs.drop.drop (diffsL C (j + 1)) (by rw [HDM.out, HX.out])
              go_wp2
              go_roundw
              case rel => exact ⟨j + 1, _, rfl, by go_num, by omega, hs⟩
              case measure => simp [intOf]; omega
    · have hj4' : j = 4 := by omega
      subst hj4'
      have hrow := hs.row
      have hbel := hs.rbelow
      go_wp2
      go_ret2
      exact ⟨_, rfl, hrow, hbel⟩
end

end Go.Proofs.YthbldjnpnligpaaDoor
