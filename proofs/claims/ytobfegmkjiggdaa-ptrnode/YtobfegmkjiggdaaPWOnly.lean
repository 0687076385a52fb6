/-
  PtrOnly: bytes that are decoded, encoded again, are the bytes; so is a node: the statement's walk.
-/
import Derived.Test.YtobfegmkjiggdaaPWBack
namespace Go.Proofs.Ytobfegmkjiggdaa
set_option linter.unusedSimpArgs false
set_option linter.unusedVariables false
open Go.RowKit

/-- The value is this one. -/
def isV (x : Value) : Value → World → Prop := fun v _ => v = x
theorem isV_steady (x : Value) : Up.Steady (isV x) := fun v w w' hb h => h
/-- The value is a slice of these bytes. -/
def slB (n : Nat) (xs : List Int) : Value → World → Prop := fun v w => ∃ a c, v = .slice a n c ∧ Bs w a c xs
theorem slB_steady (n : Nat) (xs : List Int) : Up.Steady (slB n xs) := fun v w w' hb ⟨a, c, h1, h2⟩ => ⟨a, c, h1, h2.stays hb⟩

theorem calls_isV {f : FuncId} {args : Array Value} {w : World} {x : Value} (h : Calls Try.prog f args w fun e w' => e = .returned x ∧ Below w.heap.size w w') :
    Calls Try.prog f args w fun e w' => ∃ v, e = .returned v ∧ Below w.heap.size w w' ∧ isV x v w' := h.mono fun e w' ⟨h1, h2⟩ => ⟨_, h1, h2, rfl⟩
theorem calls_slB {f : FuncId} {args : Array Value} {w : World} {n : Nat} {xs : List Int} (h : Calls Try.prog f args w fun e w' => ∃ a c, e = .returned (.slice a n c) ∧ Bs w' a c xs ∧ Below w.heap.size w w') :
    Calls Try.prog f args w fun e w' => ∃ v, e = .returned v ∧ Below w.heap.size w w' ∧ slB n xs v w' := h.mono fun e w' ⟨a, c, h1, h2, h3⟩ => ⟨_, h1, h3, a, c, rfl, h2⟩

theorem exec_build0 {P : Program} {a : Act} {o : Oper} {w : World} {t : TypeId} {V : Value} (ho : o.op = Op.build t #[]) (hr : (Instr.build t #[]).run P w = .ok V w) : (execOp a.eval o).run P w = .ok (.value V) w := by
  have e : (#[] : Array (Nat × Operand)).map (fun (i, x) => (i, a.eval x)) = #[] := by simp
  unfold execOp
  simp only [ho, Sem.run_bind, Sem.run_pure, Result.andThen_ok, e, hr]

theorem conv_bs {w : World} {a : Option Addr} {n c : Nat} {xs : List Int} (h : Bs w a c xs) (hn : n = xs.length) : (convert 30 9 (.slice a n c)).run Try.prog w = .ok (.string (strOfNums xs)) w :=
  h.conv n hn 30 5 Try.underlying30 Try.underlying5 9 Try.underlying9

theorem decodeL_only {xs : List Int} (hr : ∀ x ∈ xs, 0 ≤ x ∧ x ≤ 255) : ((decodeL xs).2 = 0 ∧ (decodeL xs).1.enc = xs) ∨ ((decodeL xs).2 = 2 ∨ (decodeL xs).2 = 3) := by
  unfold decodeL
  by_cases h1 : xs.length < 44
  · rw [if_pos h1]; exact .inr (.inl rfl)
  · rw [if_neg h1]
    by_cases h2 : 44 < xs.length
    · rw [if_pos h2]; exact .inr (.inr rfl)
    · rw [if_neg h2]
      by_cases h3 : (decP xs).may
      · rw [if_pos h3]; exact .inl ⟨rfl, enc_decP hr (by omega)⟩
      · rw [if_neg h3]; exact .inr (.inr rfl)

theorem all_zero : ∀ {l : List Int}, l.all (· == 0) = true → l = List.replicate l.length 0
  | [], _ => rfl
  | x :: l, h => by
    simp only [List.all_cons, Bool.and_eq_true, beq_iff_eq] at h
    rw [List.length_cons, List.replicate_succ, ← all_zero h.2, h.1]

theorem readL_only {xs : List Int} (hr : ∀ x ∈ xs, 0 ≤ x ∧ x ≤ 255) : ((readL xs).2 = 0 ∧ (readL xs).1 = pieces xs ∧ xs.length = 256 ∧ nodeL (pieces xs) = xs) ∨ ((readL xs).2 = 3 ∧ (readL xs).1 = zeros4) := by
  unfold readL
  by_cases h1 : xs.length = 256
  · rw [if_pos h1]
    cases h2 : ((pieces xs).all Pt.may && (xs.drop 176).all (· == 0))
    · rw [if_neg (by simp)]; exact .inr ⟨rfl, rfl⟩
    · rw [if_pos rfl]
      refine .inl ⟨rfl, rfl, h1, ?_⟩
      have hz := (Bool.and_eq_true_iff.1 h2).2
      have hz' := all_zero hz
      have h80 : (xs.drop 176).length = 80 := by simp; omega
      rw [h80] at hz'
      unfold nodeL pieces
      simp only [encs]
      rw [enc_decP (piece_rng hr 0) (piece_len h1 (by omega)), enc_decP (piece_rng hr 1) (piece_len h1 (by omega)), enc_decP (piece_rng hr 2) (piece_len h1 (by omega)), enc_decP (piece_rng hr 3) (piece_len h1 (by omega)), ← hz']
      unfold piece
      have c0 : xs = (xs.drop (44 * 0)).take 44 ++ xs.drop 44 := by rw [Nat.mul_zero, List.drop_zero]; exact (List.take_append_drop _ _).symm
      have c1 : xs.drop 44 = (xs.drop (44 * 1)).take 44 ++ xs.drop 88 := by rw [show 88 = 44 + 44 from rfl, ← List.drop_drop]; exact (List.take_append_drop _ _).symm
      have c2 : xs.drop 88 = (xs.drop (44 * 2)).take 44 ++ xs.drop 132 := by rw [show 132 = 88 + 44 from rfl, ← List.drop_drop]; exact (List.take_append_drop _ _).symm
      have c3 : xs.drop 132 = (xs.drop (44 * 3)).take 44 ++ xs.drop 176 := by rw [show 176 = 132 + 44 from rfl, ← List.drop_drop]; exact (List.take_append_drop _ _).symm
      simp only [List.append_nil, List.append_assoc]
      rw [← c3, ← c2, ← c1, ← c0]
  · rw [if_neg h1]; exact .inr ⟨rfl, rfl⟩

set_option maxHeartbeats 1500000 in
set_option maxRecDepth 100000 in
theorem only_walk (a : Option Addr) (c : Nat) (xs : List Int) (w : World) (hB : Bs w a c xs) :
    Calls Try.prog 7 #[.slice a xs.length c] w fun e w' => e = .returned (.bool true) ∧ Below w.heap.size w w' := by
  have HAV : Hid (∀ u, Calls Try.prog 9 #[] u fun e w' => e = .returned (.bool true) ∧ Below u.heap.size u w') := alive_run
  by_cases hbig : 300 < xs.length
  · have hbig' : (300 : Int) < (xs.length : Int) := by omega
    clear hB
    go_enter Try.func7, Try.ntmps7
    go_wp2_with (go_at_call 9; go_must (refine (HAV.out _).mono ?_); rintro e w1 ⟨rfl, hb1⟩)
    go_ret
    exact ⟨rfl, hb1⟩
  · have hsm : ¬ ((300 : Int) < (xs.length : Int)) := by omega
    have hrng := hB.rng
    have hpz : Pt.zero.vs.length = 35 := Pt.vs_len Pt.zero_ok
    have hz4 : ((List.replicate 44 (0 : Int)).map (Value.int .u8)).length = 44 := rfl
    obtain ⟨p, hp⟩ : ∃ p, p = (decodeL xs).1 := ⟨_, rfl⟩
    obtain ⟨e, he⟩ : ∃ e, e = (decodeL xs).2 := ⟨_, rfl⟩
    have hok : p.ok := hp ▸ decodeL_ok hrng
    have hvl := Pt.vs_len hok
    have hel := Pt.enc_len hok
    have hevl : (p.enc.map (Value.int .u8)).length = 44 := by rw [List.length_map]; exact hel
    have her := Pt.enc_rng hok
    obtain ⟨N, hN⟩ : ∃ N, N = xs.length := ⟨_, rfl⟩
    have HDE : Hid (∀ u, Below w.heap.size w u → Calls Try.prog 17 #[.slice a N c] u fun e' w' => e' = .returned (.tuple #[.agg p.vs.toArray, .int .i64 (e : Int)]) ∧ Below u.heap.size u w') := fun u hu => by rw [hp, he]; exact decode_run a c N xs u hN (hB.stays hu)
    have HEN : Hid (∀ u, Calls Try.prog 8 #[.agg p.vs.toArray] u fun e w' => e = .returned (.agg (p.enc.map (Value.int .u8)).toArray) ∧ Below u.heap.size u w') := encode_run p hok
    have HONLY : Hid ((e = 0 ∧ p.enc = xs) ∨ (e = 2 ∨ e = 3)) := by rw [hp, he]; exact decodeL_only hrng
    have HCX : Hid (∀ u, Below w.heap.size w u → (convert 30 9 (.slice a N c)).run Try.prog u = .ok (.string (strOfNums xs)) u) := fun u hu => conv_bs (hB.stays hu) hN
    have HRD : Hid (∀ u, Below w.heap.size w u → Calls Try.prog 19 #[.slice a N c] u fun e w' => e = .returned (.tuple #[.agg (fourV (readL xs).1).toArray, .int .i64 ((readL xs).2 : Int)]) ∧ Below u.heap.size u w') := fun u hu => read_run a c N xs u hN (hB.stays hu)
    have HRO := readL_only hrng
    have HRO' : Hid (((readL xs).2 = 0 ∧ (readL xs).1 = pieces xs ∧ xs.length = 256 ∧ nodeL (pieces xs) = xs) ∨ ((readL xs).2 = 3 ∧ (readL xs).1 = zeros4)) := HRO
    have HNX : Hid (N = xs.length) := hN
    obtain ⟨Z, hZ⟩ : ∃ Z, Z = strOfNums xs := ⟨_, rfl⟩
    have HZ : Hid (Z = strOfNums xs) := hZ
    rw [← hZ] at HCX
    have HCW := HCX
    rw [← hN] at hsm hbig ⊢
    clear hp he hN HRO hB hZ
    obtain ⟨zs, hzs⟩ : ∃ zs, zs = fourV zeros4 := ⟨_, rfl⟩
    have hzl : zs.length = 140 := by rw [hzs]; exact zeros4_len
    have HAL : Hid (∀ w : World, (Instr.alloc 36 true (.tuple #[])).run Try.prog w = .ok (.pointer (some ⟨w.heap.size, 0, none⟩)) (w.alloc (.cells zs.toArray 36))) := by rw [hzs]; exact alloc_four0
    have HBU : Hid (∀ w : World, (Instr.build 36 #[]).run Try.prog w = .ok (.agg zs.toArray) w) := by rw [hzs]; exact build_four0
    have hz1 : ∀ v ∈ zs, v.oneCell' = true := by rw [hzs]; exact fourV_one _
    have heqz : ∀ u, (Op.equalIn 10000 36 (.agg zs.toArray) (.agg zs.toArray)).run Try.prog u = .ok true u := fun u => by
      rw [hzs, equal_four zeros4_ok zeros4_ok rfl rfl 9996 u, (sameAll_iff rfl).2 rfl]
    have HZS : Hid (zs = fourV zeros4) := hzs
    clear hzs
    go_enter Try.func7, Try.ntmps7
    go_wp2_with (first
      | (go_at_call 17; go_must (refine (HDE.out _ (Below.refl _ _)).mono ?_); rintro e w3 ⟨rfl, hb3⟩)
      | (refine wpList_alloc0 (by rfl) 26 (by rfl) (some 3) (by rfl) Pt.zero.vs alloc_ptr0 ?_; intro w4 hP4 hb4 hs4)
      | (refine wpList_store_blk (by rfl) (.tmp 3) (.tmp 15) 26 (by rfl) _ 0 35 (by rfl) _ (by rfl) size_ptr hP4 hvl (by omega) (Pt.vs_one _) _ (whole_store hpz) ?_
         intro w5 hP5 hbut5 hs5)
      | (refine wpList_load_blk (by rfl) (.tmp 3) 26 (by rfl) _ 0 35 (by rfl) agg_ptr size_ptr hP5 _ (whole_load hvl) hvl ?_)
      | (go_at_call 8; go_must (refine (HEN.out _).mono ?_); rintro e w6 ⟨rfl, hb6⟩)
      | (refine wpList_alloc0 (by rfl) 27 (by rfl) (some 5) (by rfl) _ alloc_44 ?_; intro w7 hE7 hb7 hs7)
      | (refine wpList_store_blk (by rfl) (.tmp 5) (.tmp 18) 27 (by rfl) _ 0 44 (by rfl) _ (by rfl) size_44 hE7 hevl (by rw [hz4]; omega) (int_oneCell _ _) _ (whole_store hz4) ?_
         intro w8 hE8 hbut8 hs8))
    have hX8 : Below w.heap.size w w8 := by
      have z3 := hb3.size
      have z6 := hb6.size
      have k5 := ((hb3.trans (hb4.mono (by omega))).trans (hbut5.below (by omega) (by omega)))
      exact ((k5.trans (hb6.mono (by omega))).trans (hb7.mono (by omega))).trans (hbut8.below (by omega) (by omega))
    obtain ⟨E, hE⟩ : ∃ E, E = w6.heap.size := ⟨_, rfl⟩
    rw [← hE] at hE8 ⊢
    have HCE : Hid (∀ u, Below w8.heap.size w8 u → (convert 30 9 (.slice (some ⟨E, 0, none⟩) 44 44)).run Try.prog u = .ok (.string (strOfNums p.enc)) u) := fun u hu => by
      refine conv_bs (xs := p.enc) ⟨her, by omega, by decide, by simp, .inr ⟨_, 0, rfl, fun i hi => ?_⟩⟩ hel.symm
      rw [(hE8.stays hu).cell]; simp [List.getD, hi]
    have HXC : Hid (∀ u, Below w8.heap.size w8 u → (convert 30 9 (.slice a N c)).run Try.prog u = .ok (.string Z) u) := fun u hu => HCX.out u (hX8.trans (hu.mono hX8.size))
    have hEb : ∃ ek : Bool, ek = decide (e = 0) := ⟨_, rfl⟩
    clear hb3 hb4 hb6 hb7 hbut5 hbut8 hs4 hs5 hs7 hs8 hP4 hP5 hE7 hE HCX HDE HEN
    have hstep : ∀ (Q : Prop), Q → Q := fun _ h => h
    rcases HONLY.out with ⟨rfl, hex⟩ | h23
    · have hce := HCE.out
      rw [hex, ← HZ.out] at hce
      have HCE' : Hid (∀ u, Below w8.heap.size w8 u → (convert 30 9 (.slice (some ⟨E, 0, none⟩) 44 44)).run Try.prog u = .ok (.string Z) u) := hce
      clear hce hex HCE HONLY hEb hstep
      refine Up.wp_region_up (Up.tell []) (by kernel_rfl) (by kernel_rfl) (Up.tell_steady _ (by simp)) ?_
      repeat (first
        | (refine Up.wpUp_pass (by rfl) ?_; simp only [Act.put, List.setIfInBounds_toArray, List.set_cons_zero, List.set_cons_succ])
        | (apply Up.wpUp_pure
           case hw => rfl
           case hψ => rfl
           case hv => (intro w1 hp; have hq1 := HCE'.out w1 hp.1; have hq2 := HXC.out w1 hp.1; clear hp; go_simp; try (with_reducible rfl))
           simp only [Act.put, List.setIfInBounds_toArray, List.set_cons_zero, List.set_cons_succ]))
      refine Up.wpUp_end ?_
      intro w9 hb9 _
      have hX9 : Below w.heap.size w w9 := hX8.trans (hb9.mono hX8.size)
      clear hE8 HCE' HXC hb9 hX8
      rcases HRO'.out with ⟨h1, h2, h3, h4⟩ | ⟨h1, h2⟩
      · have hrd := HRD.out
        rw [h1, h2] at hrd
        have hpok := pieces_ok h3 hrng
        have hfl : (fourV (pieces xs)).length = 140 := by rw [fourV_len hpok]; rfl
        have hnd := fun u => node_run (pieces xs) hpok rfl u
        rw [h4] at hnd
        obtain ⟨fv, hfv⟩ : ∃ fv, fv = fourV (pieces xs) := ⟨_, rfl⟩
        have hf1 : ∀ v ∈ fv, v.oneCell' = true := by rw [hfv]; exact fourV_one _
        rw [← hfv] at hrd hfl hnd
        have HR : Hid (∀ u, Below w.heap.size w u → Calls Try.prog 19 #[.slice a N c] u fun e w' => e = .returned (.tuple #[.agg fv.toArray, .int .i64 0]) ∧ Below u.heap.size u w') := hrd
        have HND : Hid (∀ u, Calls Try.prog 21 #[.agg fv.toArray] u fun e w' => ∃ v, e = .returned v ∧ Below u.heap.size u w' ∧ slB 256 xs v w') := fun u => calls_slB (hnd u)
        have HC2 : Hid (∀ a' c' u, slB 256 xs (.slice a' 256 c') u → (convert 30 9 (.slice a' 256 c')).run Try.prog u = .ok (.string Z) u) := fun a' c' u hu => by
          obtain ⟨a2, c2, h5, h6⟩ := hu
          cases h5
          rw [HZ.out]; exact conv_bs h6 h3.symm
        have hn256 : N = 256 := HNX.out.trans h3
        subst hn256
        clear hrd hnd hfv h1 h2 h4 hpok HRD HRO'
        go_wp2_with (first
          | (go_at_call 19; go_must (refine (HR.out _ hX9).mono ?_); rintro e wA ⟨rfl, hbA⟩)
          | (refine wpList_alloc0 (by rfl) 36 (by rfl) (some 6) (by rfl) zs HAL.out ?_; intro wB hLB hbB hsB)
          | (refine wpList_store_blk (by rfl) (.tmp 6) (.tmp 31) 36 (by rfl) _ 0 140 (by rfl) _ (by rfl) size_four hLB hfl (by omega) hf1 _ (whole_store hzl) ?_
             intro wC hLC hbutC hsC))
        have hXA := hX9.trans (hbA.mono hX9.size)
        have hXC : Below w.heap.size w wC := (hXA.trans (hbB.mono hXA.size)).trans (hbutC.below hXA.size (by have := hXA.size; omega))
        obtain ⟨G, hG⟩ : ∃ G, G = wA.heap.size := ⟨_, rfl⟩
        rw [← hG] at hLC ⊢
        have HLD : Hid (∀ u : World, Below wC.heap.size wC u → (Instr.loadAt 36 (.pointer (some ⟨G, 0, none⟩))).run Try.prog u = .ok (.agg fv.toArray) u) := fun u hu => run_load_blk agg_four size_four (hLC.stays hu) (whole_load hfl) hfl
        have HCB : Hid (∀ u, Below wC.heap.size wC u → (convert 30 9 (.slice a 256 c)).run Try.prog u = .ok (.string Z) u) := fun u hu => HCW.out u (hXC.trans (hu.mono hXC.size))
        clear hG hLC hLB hbA hbB hsB hbutC hsC hX9 hXA
        refine Up.wp_region_up (Up.tell [(0, isV (.bool true)), (14, slB 256 xs)]) (by kernel_rfl) (by kernel_rfl) (Up.tell_steady _ (by
          intro p hp
          simp only [List.mem_cons, List.not_mem_nil, or_false] at hp
          rcases hp with rfl | rfl
          · exact isV_steady _
          · exact slB_steady _ _)) ?_
        refine Up.wpUp_call _ 9 #[] (by rfl) (by rfl) (fun w1 => by go_simp) (fun w1 hp => calls_isV (HAV.out w1)) ?_
        rintro v ⟨u, _, hf⟩
        obtain rfl := hf 0 v _ rfl rfl
        clear hf
        simp only [Act.put, List.setIfInBounds_toArray, List.set_cons_zero, List.set_cons_succ]
        repeat (first
          | (refine Up.wpUp_pass (by rfl) ?_; simp only [Act.put, List.setIfInBounds_toArray, List.set_cons_zero, List.set_cons_succ])
          | (refine Up.wpUp_pure (.agg fv.toArray) (by rfl) (by rfl) (fun w1 hp => exec_load (t := 36) (x := .tmp 6) (p := ⟨G, 0, none⟩) (by rfl) (by rfl) (HLD.out w1 hp.1)) ?_; simp only [Act.put, List.setIfInBounds_toArray, List.set_cons_zero, List.set_cons_succ])
          | (apply Up.wpUp_pure
             case hw => rfl
             case hψ => rfl
             case hv => (intro w1 hp; clear hp; go_simp; try (with_reducible rfl))
             simp only [Act.put, List.setIfInBounds_toArray, List.set_cons_zero, List.set_cons_succ]))
        refine Up.wpUp_call _ 21 #[.agg fv.toArray] (by rfl) (by rfl) (fun w1 => by go_simp) (fun w1 hp => HND.out w1) ?_
        rintro v ⟨u, _, hf⟩
        obtain ⟨a', c', rfl, _⟩ := hf 14 v _ rfl rfl
        clear hf
        simp only [Act.put, List.setIfInBounds_toArray, List.set_cons_zero, List.set_cons_succ]
        repeat (first
          | (refine Up.wpUp_pass (by rfl) ?_; simp only [Act.put, List.setIfInBounds_toArray, List.set_cons_zero, List.set_cons_succ])
          | (apply Up.wpUp_pure
             case hw => rfl
             case hψ => rfl
             case hv => (intro w1 hp; have hq2 := HCB.out w1 hp.1; clear hp; go_simp; try (with_reducible rfl))
             simp only [Act.put, List.setIfInBounds_toArray, List.set_cons_zero, List.set_cons_succ])
          | (apply Up.wpUp_pure
             case hw => rfl
             case hψ => rfl
             case hv => (intro w1 hp; have hq3 := HC2.out _ _ _ (hp.2 14 _ _ rfl rfl rfl); clear hp; go_simp; try (with_reducible rfl))
             simp only [Act.put, List.setIfInBounds_toArray, List.set_cons_zero, List.set_cons_succ]))
        refine Up.wpUp_end ?_
        intro wD hbD _
        go_wp2
        go_ret
        exact ⟨rfl, hXC.trans (hbD.mono hXC.size)⟩
      · have hrd := HRD.out
        rw [h1, h2] at hrd
        have HR : Hid (∀ u, Below w.heap.size w u → Calls Try.prog 19 #[.slice a N c] u fun e w' => e = .returned (.tuple #[.agg zs.toArray, .int .i64 3]) ∧ Below u.heap.size u w') := by rw [HZS.out]; exact hrd
        clear hrd h1 h2 HRD HRO'
        go_wp2_with (first
          | (go_at_call 19; go_must (refine (HR.out _ hX9).mono ?_); rintro e wA ⟨rfl, hbA⟩)
          | (refine wpList_alloc0 (by rfl) 36 (by rfl) (some 6) (by rfl) zs HAL.out ?_; intro wB hLB hbB hsB)
          | (refine wpList_store_blk (by rfl) (.tmp 6) (.tmp 31) 36 (by rfl) _ 0 140 (by rfl) _ (by rfl) size_four hLB hzl (by omega) hz1 _ (whole_store hzl) ?_
             intro wC hLC hbutC hsC))
        have hXA := hX9.trans (hbA.mono hX9.size)
        have hXC : Below w.heap.size w wC := (hXA.trans (hbB.mono hXA.size)).trans (hbutC.below hXA.size (by have := hXA.size; omega))
        obtain ⟨G, hG⟩ : ∃ G, G = wA.heap.size := ⟨_, rfl⟩
        rw [← hG] at hLC ⊢
        have HLD : Hid (∀ u : World, Below wC.heap.size wC u → (Instr.loadAt 36 (.pointer (some ⟨G, 0, none⟩))).run Try.prog u = .ok (.agg zs.toArray) u) := fun u hu => run_load_blk agg_four size_four (hLC.stays hu) (whole_load hzl) hzl
        clear hG hLC hLB hbA hbB hsB hbutC hsC hX9 hXA
        refine Up.wp_region_up (Up.tell [(0, isV (.bool true))]) (by kernel_rfl) (by kernel_rfl) (Up.tell_steady _ (by
          intro p hp
          simp only [List.mem_cons, List.not_mem_nil, or_false] at hp
          rcases hp with rfl
          exact isV_steady _)) ?_
        refine Up.wpUp_call _ 9 #[] (by rfl) (by rfl) (fun w1 => by go_simp) (fun w1 hp => calls_isV (HAV.out w1)) ?_
        rintro v ⟨u, _, hf⟩
        obtain rfl := hf 0 v _ rfl rfl
        clear hf
        simp only [Act.put, List.setIfInBounds_toArray, List.set_cons_zero, List.set_cons_succ]
        repeat (first
          | (refine Up.wpUp_pass (by rfl) ?_; simp only [Act.put, List.setIfInBounds_toArray, List.set_cons_zero, List.set_cons_succ])
          | (refine Up.wpUp_pure (.agg zs.toArray) (by rfl) (by rfl) (fun w1 hp => exec_load (t := 36) (x := .tmp 6) (p := ⟨G, 0, none⟩) (by rfl) (by rfl) (HLD.out w1 hp.1)) ?_; simp only [Act.put, List.setIfInBounds_toArray, List.set_cons_zero, List.set_cons_succ])
          | (refine Up.wpUp_pure (.agg zs.toArray) (by rfl) (by rfl) (fun w1 hp => exec_build0 (t := 36) (by rfl) (HBU.out w1)) ?_; simp only [Act.put, List.setIfInBounds_toArray, List.set_cons_zero, List.set_cons_succ])
          | (apply Up.wpUp_pure
             case hw => rfl
             case hψ => rfl
             case hv => (intro w1 hp; clear hp; go_simp; try (with_reducible rfl))
             simp only [Act.put, List.setIfInBounds_toArray, List.set_cons_zero, List.set_cons_succ]))
        refine Up.wpUp_end ?_
        intro wD hbD _
        go_wp2
        go_ret
        exact ⟨rfl, hXC.trans (hbD.mono hXC.size)⟩
    · rcases h23 with rfl | rfl
      · clear HCE HONLY hEb hstep
        refine Up.wp_region_up (Up.tell []) (by kernel_rfl) (by kernel_rfl) (Up.tell_steady _ (by simp)) ?_
        repeat (first
          | (refine Up.wpUp_pass (by rfl) ?_; simp only [Act.put, List.setIfInBounds_toArray, List.set_cons_zero, List.set_cons_succ])
          | (apply Up.wpUp_pure
             case hw => rfl
             case hψ => rfl
             case hv => (intro w1 hp; clear hp; go_simp; try (with_reducible rfl))
             simp only [Act.put, List.setIfInBounds_toArray, List.set_cons_zero, List.set_cons_succ]))
        refine Up.wpUp_end ?_
        intro w9 hb9 _
        have hX9 : Below w.heap.size w w9 := hX8.trans (hb9.mono hX8.size)
        clear hE8 HXC hb9 hX8
        rcases HRO'.out with ⟨h1, h2, h3, h4⟩ | ⟨h1, h2⟩
        · have hrd := HRD.out
          rw [h1, h2] at hrd
          have hpok := pieces_ok h3 hrng
          have hfl : (fourV (pieces xs)).length = 140 := by rw [fourV_len hpok]; rfl
          have hnd := fun u => node_run (pieces xs) hpok rfl u
          rw [h4] at hnd
          obtain ⟨fv, hfv⟩ : ∃ fv, fv = fourV (pieces xs) := ⟨_, rfl⟩
          have hf1 : ∀ v ∈ fv, v.oneCell' = true := by rw [hfv]; exact fourV_one _
          rw [← hfv] at hrd hfl hnd
          have HR : Hid (∀ u, Below w.heap.size w u → Calls Try.prog 19 #[.slice a N c] u fun e w' => e = .returned (.tuple #[.agg fv.toArray, .int .i64 0]) ∧ Below u.heap.size u w') := hrd
          have HND : Hid (∀ u, Calls Try.prog 21 #[.agg fv.toArray] u fun e w' => ∃ v, e = .returned v ∧ Below u.heap.size u w' ∧ slB 256 xs v w') := fun u => calls_slB (hnd u)
          have HC2 : Hid (∀ a' c' u, slB 256 xs (.slice a' 256 c') u → (convert 30 9 (.slice a' 256 c')).run Try.prog u = .ok (.string Z) u) := fun a' c' u hu => by
            obtain ⟨a2, c2, h5, h6⟩ := hu
            cases h5
            rw [HZ.out]; exact conv_bs h6 h3.symm
          have hn256 : N = 256 := HNX.out.trans h3
          subst hn256
          clear hrd hnd hfv h1 h2 h4 hpok HRD HRO'
          go_wp2_with (first
            | (go_at_call 19; go_must (refine (HR.out _ hX9).mono ?_); rintro e wA ⟨rfl, hbA⟩)
            | (refine wpList_alloc0 (by rfl) 36 (by rfl) (some 6) (by rfl) zs HAL.out ?_; intro wB hLB hbB hsB)
            | (refine wpList_store_blk (by rfl) (.tmp 6) (.tmp 31) 36 (by rfl) _ 0 140 (by rfl) _ (by rfl) size_four hLB hfl (by omega) hf1 _ (whole_store hzl) ?_
               intro wC hLC hbutC hsC))
          have hXA := hX9.trans (hbA.mono hX9.size)
          have hXC : Below w.heap.size w wC := (hXA.trans (hbB.mono hXA.size)).trans (hbutC.below hXA.size (by have := hXA.size; omega))
          obtain ⟨G, hG⟩ : ∃ G, G = wA.heap.size := ⟨_, rfl⟩
          rw [← hG] at hLC ⊢
          have HLD : Hid (∀ u : World, Below wC.heap.size wC u → (Instr.loadAt 36 (.pointer (some ⟨G, 0, none⟩))).run Try.prog u = .ok (.agg fv.toArray) u) := fun u hu => run_load_blk agg_four size_four (hLC.stays hu) (whole_load hfl) hfl
          have HCB : Hid (∀ u, Below wC.heap.size wC u → (convert 30 9 (.slice a 256 c)).run Try.prog u = .ok (.string Z) u) := fun u hu => HCW.out u (hXC.trans (hu.mono hXC.size))
          clear hG hLC hLB hbA hbB hsB hbutC hsC hX9 hXA
          refine Up.wp_region_up (Up.tell [(0, isV (.bool true)), (14, slB 256 xs)]) (by kernel_rfl) (by kernel_rfl) (Up.tell_steady _ (by
            intro p hp
            simp only [List.mem_cons, List.not_mem_nil, or_false] at hp
            rcases hp with rfl | rfl
            · exact isV_steady _
            · exact slB_steady _ _)) ?_
          refine Up.wpUp_call _ 9 #[] (by rfl) (by rfl) (fun w1 => by go_simp) (fun w1 hp => calls_isV (HAV.out w1)) ?_
          rintro v ⟨u, _, hf⟩
          obtain rfl := hf 0 v _ rfl rfl
          clear hf
          simp only [Act.put, List.setIfInBounds_toArray, List.set_cons_zero, List.set_cons_succ]
          repeat (first
            | (refine Up.wpUp_pass (by rfl) ?_; simp only [Act.put, List.setIfInBounds_toArray, List.set_cons_zero, List.set_cons_succ])
            | (refine Up.wpUp_pure (.agg fv.toArray) (by rfl) (by rfl) (fun w1 hp => exec_load (t := 36) (x := .tmp 6) (p := ⟨G, 0, none⟩) (by rfl) (by rfl) (HLD.out w1 hp.1)) ?_; simp only [Act.put, List.setIfInBounds_toArray, List.set_cons_zero, List.set_cons_succ])
            | (apply Up.wpUp_pure
               case hw => rfl
               case hψ => rfl
               case hv => (intro w1 hp; clear hp; go_simp; try (with_reducible rfl))
               simp only [Act.put, List.setIfInBounds_toArray, List.set_cons_zero, List.set_cons_succ]))
          refine Up.wpUp_call _ 21 #[.agg fv.toArray] (by rfl) (by rfl) (fun w1 => by go_simp) (fun w1 hp => HND.out w1) ?_
          rintro v ⟨u, _, hf⟩
          obtain ⟨a', c', rfl, _⟩ := hf 14 v _ rfl rfl
          clear hf
          simp only [Act.put, List.setIfInBounds_toArray, List.set_cons_zero, List.set_cons_succ]
          repeat (first
            | (refine Up.wpUp_pass (by rfl) ?_; simp only [Act.put, List.setIfInBounds_toArray, List.set_cons_zero, List.set_cons_succ])
            | (apply Up.wpUp_pure
               case hw => rfl
               case hψ => rfl
               case hv => (intro w1 hp; have hq2 := HCB.out w1 hp.1; clear hp; go_simp; try (with_reducible rfl))
               simp only [Act.put, List.setIfInBounds_toArray, List.set_cons_zero, List.set_cons_succ])
            | (apply Up.wpUp_pure
               case hw => rfl
               case hψ => rfl
               case hv => (intro w1 hp; have hq3 := HC2.out _ _ _ (hp.2 14 _ _ rfl rfl rfl); clear hp; go_simp; try (with_reducible rfl))
               simp only [Act.put, List.setIfInBounds_toArray, List.set_cons_zero, List.set_cons_succ]))
          refine Up.wpUp_end ?_
          intro wD hbD _
          go_wp2
          go_ret
          exact ⟨rfl, hXC.trans (hbD.mono hXC.size)⟩
        · have hrd := HRD.out
          rw [h1, h2] at hrd
          have HR : Hid (∀ u, Below w.heap.size w u → Calls Try.prog 19 #[.slice a N c] u fun e w' => e = .returned (.tuple #[.agg zs.toArray, .int .i64 3]) ∧ Below u.heap.size u w') := by rw [HZS.out]; exact hrd
          clear hrd h1 h2 HRD HRO'
          go_wp2_with (first
            | (go_at_call 19; go_must (refine (HR.out _ hX9).mono ?_); rintro e wA ⟨rfl, hbA⟩)
            | (refine wpList_alloc0 (by rfl) 36 (by rfl) (some 6) (by rfl) zs HAL.out ?_; intro wB hLB hbB hsB)
            | (refine wpList_store_blk (by rfl) (.tmp 6) (.tmp 31) 36 (by rfl) _ 0 140 (by rfl) _ (by rfl) size_four hLB hzl (by omega) hz1 _ (whole_store hzl) ?_
               intro wC hLC hbutC hsC))
          have hXA := hX9.trans (hbA.mono hX9.size)
          have hXC : Below w.heap.size w wC := (hXA.trans (hbB.mono hXA.size)).trans (hbutC.below hXA.size (by have := hXA.size; omega))
          obtain ⟨G, hG⟩ : ∃ G, G = wA.heap.size := ⟨_, rfl⟩
          rw [← hG] at hLC ⊢
          have HLD : Hid (∀ u : World, Below wC.heap.size wC u → (Instr.loadAt 36 (.pointer (some ⟨G, 0, none⟩))).run Try.prog u = .ok (.agg zs.toArray) u) := fun u hu => run_load_blk agg_four size_four (hLC.stays hu) (whole_load hzl) hzl
          clear hG hLC hLB hbA hbB hsB hbutC hsC hX9 hXA
          refine Up.wp_region_up (Up.tell [(0, isV (.bool true))]) (by kernel_rfl) (by kernel_rfl) (Up.tell_steady _ (by
            intro p hp
            simp only [List.mem_cons, List.not_mem_nil, or_false] at hp
            rcases hp with rfl
            exact isV_steady _)) ?_
          refine Up.wpUp_call _ 9 #[] (by rfl) (by rfl) (fun w1 => by go_simp) (fun w1 hp => calls_isV (HAV.out w1)) ?_
          rintro v ⟨u, _, hf⟩
          obtain rfl := hf 0 v _ rfl rfl
          clear hf
          simp only [Act.put, List.setIfInBounds_toArray, List.set_cons_zero, List.set_cons_succ]
          repeat (first
            | (refine Up.wpUp_pass (by rfl) ?_; simp only [Act.put, List.setIfInBounds_toArray, List.set_cons_zero, List.set_cons_succ])
            | (refine Up.wpUp_pure (.agg zs.toArray) (by rfl) (by rfl) (fun w1 hp => exec_load (t := 36) (x := .tmp 6) (p := ⟨G, 0, none⟩) (by rfl) (by rfl) (HLD.out w1 hp.1)) ?_; simp only [Act.put, List.setIfInBounds_toArray, List.set_cons_zero, List.set_cons_succ])
            | (refine Up.wpUp_pure (.agg zs.toArray) (by rfl) (by rfl) (fun w1 hp => exec_build0 (t := 36) (by rfl) (HBU.out w1)) ?_; simp only [Act.put, List.setIfInBounds_toArray, List.set_cons_zero, List.set_cons_succ])
            | (apply Up.wpUp_pure
               case hw => rfl
               case hψ => rfl
               case hv => (intro w1 hp; clear hp; go_simp; try (with_reducible rfl))
               simp only [Act.put, List.setIfInBounds_toArray, List.set_cons_zero, List.set_cons_succ]))
          refine Up.wpUp_end ?_
          intro wD hbD _
          go_wp2
          go_ret
          exact ⟨rfl, hXC.trans (hbD.mono hXC.size)⟩
      · clear HCE HONLY hEb hstep
        refine Up.wp_region_up (Up.tell []) (by kernel_rfl) (by kernel_rfl) (Up.tell_steady _ (by simp)) ?_
        repeat (first
          | (refine Up.wpUp_pass (by rfl) ?_; simp only [Act.put, List.setIfInBounds_toArray, List.set_cons_zero, List.set_cons_succ])
          | (apply Up.wpUp_pure
             case hw => rfl
             case hψ => rfl
             case hv => (intro w1 hp; clear hp; go_simp; try (with_reducible rfl))
             simp only [Act.put, List.setIfInBounds_toArray, List.set_cons_zero, List.set_cons_succ]))
        refine Up.wpUp_end ?_
        intro w9 hb9 _
        have hX9 : Below w.heap.size w w9 := hX8.trans (hb9.mono hX8.size)
        clear hE8 HXC hb9 hX8
        rcases HRO'.out with ⟨h1, h2, h3, h4⟩ | ⟨h1, h2⟩
        · have hrd := HRD.out
          rw [h1, h2] at hrd
          have hpok := pieces_ok h3 hrng
          have hfl : (fourV (pieces xs)).length = 140 := by rw [fourV_len hpok]; rfl
          have hnd := fun u => node_run (pieces xs) hpok rfl u
          rw [h4] at hnd
          obtain ⟨fv, hfv⟩ : ∃ fv, fv = fourV (pieces xs) := ⟨_, rfl⟩
          have hf1 : ∀ v ∈ fv, v.oneCell' = true := by rw [hfv]; exact fourV_one _
          rw [← hfv] at hrd hfl hnd
          have HR : Hid (∀ u, Below w.heap.size w u → Calls Try.prog 19 #[.slice a N c] u fun e w' => e = .returned (.tuple #[.agg fv.toArray, .int .i64 0]) ∧ Below u.heap.size u w') := hrd
          have HND : Hid (∀ u, Calls Try.prog 21 #[.agg fv.toArray] u fun e w' => ∃ v, e = .returned v ∧ Below u.heap.size u w' ∧ slB 256 xs v w') := fun u => calls_slB (hnd u)
          have HC2 : Hid (∀ a' c' u, slB 256 xs (.slice a' 256 c') u → (convert 30 9 (.slice a' 256 c')).run Try.prog u = .ok (.string Z) u) := fun a' c' u hu => by
            obtain ⟨a2, c2, h5, h6⟩ := hu
            cases h5
            rw [HZ.out]; exact conv_bs h6 h3.symm
          have hn256 : N = 256 := HNX.out.trans h3
          subst hn256
          clear hrd hnd hfv h1 h2 h4 hpok HRD HRO'
          go_wp2_with (first
            | (go_at_call 19; go_must (refine (HR.out _ hX9).mono ?_); rintro e wA ⟨rfl, hbA⟩)
            | (refine wpList_alloc0 (by rfl) 36 (by rfl) (some 6) (by rfl) zs HAL.out ?_; intro wB hLB hbB hsB)
            | (refine wpList_store_blk (by rfl) (.tmp 6) (.tmp 31) 36 (by rfl) _ 0 140 (by rfl) _ (by rfl) size_four hLB hfl (by omega) hf1 _ (whole_store hzl) ?_
               intro wC hLC hbutC hsC))
          have hXA := hX9.trans (hbA.mono hX9.size)
          have hXC : Below w.heap.size w wC := (hXA.trans (hbB.mono hXA.size)).trans (hbutC.below hXA.size (by have := hXA.size; omega))
          obtain ⟨G, hG⟩ : ∃ G, G = wA.heap.size := ⟨_, rfl⟩
          rw [← hG] at hLC ⊢
          have HLD : Hid (∀ u : World, Below wC.heap.size wC u → (Instr.loadAt 36 (.pointer (some ⟨G, 0, none⟩))).run Try.prog u = .ok (.agg fv.toArray) u) := fun u hu => run_load_blk agg_four size_four (hLC.stays hu) (whole_load hfl) hfl
          have HCB : Hid (∀ u, Below wC.heap.size wC u → (convert 30 9 (.slice a 256 c)).run Try.prog u = .ok (.string Z) u) := fun u hu => HCW.out u (hXC.trans (hu.mono hXC.size))
          clear hG hLC hLB hbA hbB hsB hbutC hsC hX9 hXA
          refine Up.wp_region_up (Up.tell [(0, isV (.bool true)), (14, slB 256 xs)]) (by kernel_rfl) (by kernel_rfl) (Up.tell_steady _ (by
            intro p hp
            simp only [List.mem_cons, List.not_mem_nil, or_false] at hp
            rcases hp with rfl | rfl
            · exact isV_steady _
            · exact slB_steady _ _)) ?_
          refine Up.wpUp_call _ 9 #[] (by rfl) (by rfl) (fun w1 => by go_simp) (fun w1 hp => calls_isV (HAV.out w1)) ?_
          rintro v ⟨u, _, hf⟩
          obtain rfl := hf 0 v _ rfl rfl
          clear hf
          simp only [Act.put, List.setIfInBounds_toArray, List.set_cons_zero, List.set_cons_succ]
          repeat (first
            | (refine Up.wpUp_pass (by rfl) ?_; simp only [Act.put, List.setIfInBounds_toArray, List.set_cons_zero, List.set_cons_succ])
            | (refine Up.wpUp_pure (.agg fv.toArray) (by rfl) (by rfl) (fun w1 hp => exec_load (t := 36) (x := .tmp 6) (p := ⟨G, 0, none⟩) (by rfl) (by rfl) (HLD.out w1 hp.1)) ?_; simp only [Act.put, List.setIfInBounds_toArray, List.set_cons_zero, List.set_cons_succ])
            | (apply Up.wpUp_pure
               case hw => rfl
               case hψ => rfl
               case hv => (intro w1 hp; clear hp; go_simp; try (with_reducible rfl))
               simp only [Act.put, List.setIfInBounds_toArray, List.set_cons_zero, List.set_cons_succ]))
          refine Up.wpUp_call _ 21 #[.agg fv.toArray] (by rfl) (by rfl) (fun w1 => by go_simp) (fun w1 hp => HND.out w1) ?_
          rintro v ⟨u, _, hf⟩
          obtain ⟨a', c', rfl, _⟩ := hf 14 v _ rfl rfl
          clear hf
          simp only [Act.put, List.setIfInBounds_toArray, List.set_cons_zero, List.set_cons_succ]
          repeat (first
            | (refine Up.wpUp_pass (by rfl) ?_; simp only [Act.put, List.setIfInBounds_toArray, List.set_cons_zero, List.set_cons_succ])
            | (apply Up.wpUp_pure
               case hw => rfl
               case hψ => rfl
               case hv => (intro w1 hp; have hq2 := HCB.out w1 hp.1; clear hp; go_simp; try (with_reducible rfl))
               simp only [Act.put, List.setIfInBounds_toArray, List.set_cons_zero, List.set_cons_succ])
            | (apply Up.wpUp_pure
               case hw => rfl
               case hψ => rfl
               case hv => (intro w1 hp; have hq3 := HC2.out _ _ _ (hp.2 14 _ _ rfl rfl rfl); clear hp; go_simp; try (with_reducible rfl))
               simp only [Act.put, List.setIfInBounds_toArray, List.set_cons_zero, List.set_cons_succ]))
          refine Up.wpUp_end ?_
          intro wD hbD _
          go_wp2
          go_ret
          exact ⟨rfl, hXC.trans (hbD.mono hXC.size)⟩
        · have hrd := HRD.out
          rw [h1, h2] at hrd
          have HR : Hid (∀ u, Below w.heap.size w u → Calls Try.prog 19 #[.slice a N c] u fun e w' => e = .returned (.tuple #[.agg zs.toArray, .int .i64 3]) ∧ Below u.heap.size u w') := by rw [HZS.out]; exact hrd
          clear hrd h1 h2 HRD HRO'
          go_wp2_with (first
            | (go_at_call 19; go_must (refine (HR.out _ hX9).mono ?_); rintro e wA ⟨rfl, hbA⟩)
            | (refine wpList_alloc0 (by rfl) 36 (by rfl) (some 6) (by rfl) zs HAL.out ?_; intro wB hLB hbB hsB)
            | (refine wpList_store_blk (by rfl) (.tmp 6) (.tmp 31) 36 (by rfl) _ 0 140 (by rfl) _ (by rfl) size_four hLB hzl (by omega) hz1 _ (whole_store hzl) ?_
               intro wC hLC hbutC hsC))
          have hXA := hX9.trans (hbA.mono hX9.size)
          have hXC : Below w.heap.size w wC := (hXA.trans (hbB.mono hXA.size)).trans (hbutC.below hXA.size (by have := hXA.size; omega))
          obtain ⟨G, hG⟩ : ∃ G, G = wA.heap.size := ⟨_, rfl⟩
          rw [← hG] at hLC ⊢
          have HLD : Hid (∀ u : World, Below wC.heap.size wC u → (Instr.loadAt 36 (.pointer (some ⟨G, 0, none⟩))).run Try.prog u = .ok (.agg zs.toArray) u) := fun u hu => run_load_blk agg_four size_four (hLC.stays hu) (whole_load hzl) hzl
          clear hG hLC hLB hbA hbB hsB hbutC hsC hX9 hXA
          refine Up.wp_region_up (Up.tell [(0, isV (.bool true))]) (by kernel_rfl) (by kernel_rfl) (Up.tell_steady _ (by
            intro p hp
            simp only [List.mem_cons, List.not_mem_nil, or_false] at hp
            rcases hp with rfl
            exact isV_steady _)) ?_
          refine Up.wpUp_call _ 9 #[] (by rfl) (by rfl) (fun w1 => by go_simp) (fun w1 hp => calls_isV (HAV.out w1)) ?_
          rintro v ⟨u, _, hf⟩
          obtain rfl := hf 0 v _ rfl rfl
          clear hf
          simp only [Act.put, List.setIfInBounds_toArray, List.set_cons_zero, List.set_cons_succ]
          repeat (first
            | (refine Up.wpUp_pass (by rfl) ?_; simp only [Act.put, List.setIfInBounds_toArray, List.set_cons_zero, List.set_cons_succ])
            | (refine Up.wpUp_pure (.agg zs.toArray) (by rfl) (by rfl) (fun w1 hp => exec_load (t := 36) (x := .tmp 6) (p := ⟨G, 0, none⟩) (by rfl) (by rfl) (HLD.out w1 hp.1)) ?_; simp only [Act.put, List.setIfInBounds_toArray, List.set_cons_zero, List.set_cons_succ])
            | (refine Up.wpUp_pure (.agg zs.toArray) (by rfl) (by rfl) (fun w1 hp => exec_build0 (t := 36) (by rfl) (HBU.out w1)) ?_; simp only [Act.put, List.setIfInBounds_toArray, List.set_cons_zero, List.set_cons_succ])
            | (apply Up.wpUp_pure
               case hw => rfl
               case hψ => rfl
               case hv => (intro w1 hp; clear hp; go_simp; try (with_reducible rfl))
               simp only [Act.put, List.setIfInBounds_toArray, List.set_cons_zero, List.set_cons_succ]))
          refine Up.wpUp_end ?_
          intro wD hbD _
          go_wp2
          go_ret
          exact ⟨rfl, hXC.trans (hbD.mono hXC.size)⟩
end Go.Proofs.Ytobfegmkjiggdaa
