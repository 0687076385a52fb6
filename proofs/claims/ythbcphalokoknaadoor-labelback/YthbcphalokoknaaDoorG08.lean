/-
  Whole noughts: built and laid in memory; the whole number at the beginning.
-/
import Derived.Test.YthbcphalokoknaaDoorG07
namespace Go.Proofs.YthbcphalokoknaaDoor
set_option linter.unusedSimpArgs false
set_option linter.unusedVariables false
open Go.RowKit

def zeros4 : List Pt := [Pt.zero, Pt.zero, Pt.zero, Pt.zero]
theorem zeros4_ok : ∀ p ∈ zeros4, p.ok := by
  intro p hp
  simp only [zeros4, List.mem_cons, List.not_mem_nil, or_false, or_self] at hp
  subst hp; exact Pt.zero_ok
theorem zeros4_len : (fourV zeros4).length = 140 := fourV_len zeros4_ok

theorem build_ptr0 (w : World) : (Instr.build 26 #[]).run Tryd.prog w = .ok (.agg Pt.zero.vs.toArray) w := by kernel_rfl

theorem alloc_ptr0 (w : World) : (Instr.alloc 26 true (.tuple #[])).run Tryd.prog w = .ok (.pointer (some ⟨w.heap.size, 0, none⟩)) (w.alloc (.cells Pt.zero.vs.toArray 26)) := by kernel_rfl

theorem alloc_44 (w : World) : (Instr.alloc 74 true (.tuple #[])).run Tryd.prog w = .ok (.pointer (some ⟨w.heap.size, 0, none⟩)) (w.alloc (.cells ((List.replicate 44 (0 : Int)).map (Value.int .u8)).toArray 74)) := by kernel_rfl

/-- A value that is built of nothing. -/
theorem wpList_build0 {P : Program} {w : World} {ops : Array Oper} {rest : List Oper} {o : Oper} {a : Act} {Q : Exit → Act → World → Prop} (hw : Region.wanted o (yielded ops a.tmps) = true) (t : TypeId) (ho : o.op = Op.build t #[]) (V : Value) (hr : ∀ w, (Instr.build t #[]).run P w = .ok V w)
    (h : wpList P ops Q rest (a.put o.dst V) w) : wpList P ops Q (o :: rest) a w := by
  refine wpList_step fun K hK => ?_
  rw [if_pos hw]
  have e : (#[] : Array (Nat × Operand)).map (fun (i, x) => (i, a.eval x)) = #[] := by simp
  unfold Oper.wp execOp
  simp only [ho, Sem.run_bind, Sem.run_pure, Result.andThen_ok, e, hr]
  exact hK _ _ h

/-- A variable in a new block. -/
theorem wpList_alloc0 {P : Program} {w : World} {ops : Array Oper} {rest : List Oper} {o : Oper} {a : Act} {Q : Exit → Act → World → Prop} (hgd : o.guard = none) (t : TypeId) (ho : o.op = Op.alloc t) (d : Option Tmp) (hd : o.dst = d) (vs : List Value)
    (hr : ∀ w, (Instr.alloc t true (.tuple #[])).run P w = .ok (.pointer (some ⟨w.heap.size, 0, none⟩)) (w.alloc (.cells vs.toArray t)))
    (h : ∀ w', Blk t w' w.heap.size vs → Below w.heap.size w w' → w'.heap.size = w.heap.size + 1 → wpList P ops Q rest (a.put d (.pointer (some ⟨w.heap.size, 0, none⟩))) w') : wpList P ops Q (o :: rest) a w := by
  subst hd
  refine wpList_plain hgd fun K hK => ?_
  unfold Oper.wp execOp
  simp only [ho, Sem.run_bind, Sem.run_pure, Result.andThen_ok, hr]
  exact hK _ _ (h _ (Blk.newAt rfl rfl) ((Below.refl _ _).alloc (Nat.le_refl _) _) (by simp))

/-- A parameter in a new block. -/
theorem wpList_box0 {P : Program} {w : World} {ops : Array Oper} {rest : List Oper} {o : Oper} {a : Act} {Q : Exit → Act → World → Prop} (hgd : o.guard = none) (t : TypeId) (x : Operand) (ho : o.op = Op.box t x) (vs : List Value) (hx : a.eval x = .agg vs.toArray)
    (h : ∀ w', Blk t w' w.heap.size vs → Below w.heap.size w w' → w'.heap.size = w.heap.size + 1 → wpList P ops Q rest (a.put o.dst (.pointer (some ⟨w.heap.size, 0, none⟩))) w') : wpList P ops Q (o :: rest) a w := by
  refine wpList_plain hgd fun K hK => ?_
  have hr : (Instr.box t (.agg vs.toArray)).run P w = .ok (.pointer (some ⟨w.heap.size, 0, none⟩)) (w.alloc (.cells vs.toArray t)) := by
    simp [Instr.box, newVar, go_sem, Value.cells]
  unfold Oper.wp execOp
  simp only [ho, hx, Sem.run_bind, Sem.run_pure, Result.andThen_ok, hr]
  exact hK _ _ (h _ (Blk.newAt rfl rfl) ((Below.refl _ _).alloc (Nat.le_refl _) _) (by simp))

theorem run_store_int {P : Program} {w : World} {t e : TypeId} {g off : Nat} {vs : List Value} {K : IntKind} {n : Int} (hZ : ∀ w, (sizeOf t).run P w = .ok 1 w) (hb : Blk e w g vs) (hle : off < vs.length) :
    (Instr.storeAt t (.pointer (some ⟨g, off, none⟩)) (.int K n)).run P w = .ok () (w.setRow g (vs.set off (.int K n)).toArray) := by
  have h := run_storeCells_at (P := P) g off e [.int K n] 0 vs.toArray w hb (by simp; omega) (by simp; rfl)
  simp only [Nat.add_zero, List.length_singleton] at h
  have hs : vs.take off ++ [Value.int K n] ++ vs.drop (off + 1) = vs.set off (.int K n) := by rw [List.set_eq_take_append_cons_drop, if_pos hle]; simp
  simp only [List.toList_toArray, hs] at h
  simp [Instr.storeAt, Instr.sureAddr, storeVar, hZ, h, Sem.run_bind, Value.cells]

/-- A number, stored in a block. -/
theorem wpList_store_int {P : Program} {w : World} {ops : Array Oper} {rest : List Oper} {o : Oper} {a : Act} {Q : Exit → Act → World → Prop} (hgd : o.guard = none) (x y : Operand) (t : TypeId) (ho : o.op = Op.store t x y)
    (g off : Nat) (hx : a.eval x = .pointer (some ⟨g, off, none⟩)) (K : IntKind) (n : Int) (hy : a.eval y = .int K n) (hZ : ∀ w, (sizeOf t).run P w = .ok 1 w) {e : TypeId} {vs : List Value} (hb : Blk e w g vs) (hle : off < vs.length)
    (h : ∀ w', Blk e w' g (vs.set off (.int K n)) → But g w w' → w'.heap.size = w.heap.size → wpList P ops Q rest (a.put o.dst undef) w') : wpList P ops Q (o :: rest) a w := by
  refine wpList_plain hgd fun K' hK => ?_
  have hr := run_store_int (P := P) (w := w) (K := K) (n := n) hZ hb hle
  unfold Oper.wp execOp
  simp only [ho, hx, hy, Sem.run_bind, Sem.run_pure, Result.andThen_ok, hr]
  exact hK _ _ (h _ (setRow_heap w g _ _ e _ hb) ((But.refl g w).setRow _) (by simp [World.setRow]))

theorem Bs.lt {w : World} {a : Option Addr} {c : Nat} {xs : List Int} (h : Bs w a c xs) (hne : xs ≠ []) {b : Addr} (ha : a = some b) : b.block < w.heap.size := by
  rcases h.lay with h0 | ⟨b', off, rfl, hc⟩
  · exact absurd h0 hne
  · cases ha
    exact World.block_lt_of_cell? w _ (hc 0 (List.length_pos_iff.2 hne))

theorem size_u32 (w : World) : (sizeOf 22).run Tryd.prog w = .ok 1 w := sizeOf_run sizes23 w

/-- Two results, of which the first one lives in a block. -/
theorem bodyPost_ret_blk2 {P : Program} {fn : Func} {R : Ending → World → Prop} {a : Act} {w : World} {p q : Tmp} {t e : TypeId} {g n : Nat} {us : List Value} {v : Value} (hf : fn.results = #[.cell p t, .tmp q]) (hd : a.defers = [])
    (hp : a.tmps.getD p undef = .pointer (some ⟨g, 0, none⟩)) (hq : a.tmps.getD q undef = v) (hA : ∀ w, (isAgg t).run P w = .ok true w) (hZ : ∀ w, (sizeOf t).run P w = .ok n w) (hb : Blk e w g us) (hl : us.length = n)
    (hR : R (.returned (.tuple #[.agg us.toArray, v])) w) : bodyPost P fn R .ret a w := by
  refine bodyPost_ret_by (v := .tuple #[.agg us.toArray, v]) ?_ hd hR
  have hr := run_load_blk (P := P) (w := w) (off := 0) hA hZ hb (us := us) (by rw [List.drop_zero, List.take_of_length_le (by omega)]) hl
  simp only [Instr.loadAt, Instr.sureAddr, Sem.run_bind, Sem.run_pure, Result.andThen_ok] at hr
  rw [Array.getD_eq_getD_getElem?] at hp hq
  simp [results, hf, hp, hq, asAddr, Sem.run_bind, hr]

theorem whole_load {vs : List Value} {n : Nat} (h : vs.length = n) : vs = (vs.drop 0).take n := by
  rw [List.drop_zero, List.take_of_length_le (by omega)]
theorem whole_store {us vs : List Value} {n : Nat} (h : vs.length = n) : us = vs.take 0 ++ us ++ vs.drop (0 + n) := by
  rw [List.take_zero, List.nil_append, List.drop_eq_nil_of_le (by omega), List.append_nil]

theorem Pt.vs_setb {h : List Int} (hl : h.length = 32) (b x y n : Nat) : (Pt.vs ⟨h, b, x, y⟩).set 32 (.int .u32 (n : Int)) = Pt.vs ⟨h, n, x, y⟩ := by
  unfold Pt.vs; rw [List.set_append_right _ _ (by simp [hl])]; simp [hl]
theorem Pt.vs_setx {h : List Int} (hl : h.length = 32) (b x y n : Nat) : (Pt.vs ⟨h, b, x, y⟩).set 33 (.int .u32 (n : Int)) = Pt.vs ⟨h, b, n, y⟩ := by
  unfold Pt.vs; rw [List.set_append_right _ _ (by simp [hl])]; simp [hl]
theorem Pt.vs_sety {h : List Int} (hl : h.length = 32) (b x y n : Nat) : (Pt.vs ⟨h, b, x, y⟩).set 34 (.int .u32 (n : Int)) = Pt.vs ⟨h, b, x, n⟩ := by
  unfold Pt.vs; rw [List.set_append_right _ _ (by simp [hl])]; simp [hl]

theorem Pt.vs_one (p : Pt) : ∀ v ∈ p.vs, v.oneCell' = true := by
  intro v hv
  simp only [Pt.vs, List.mem_append, List.mem_map, List.mem_cons, List.not_mem_nil, or_false] at hv
  rcases hv with ⟨x, _, rfl⟩ | rfl | rfl | rfl <;> rfl
theorem fourV_one : ∀ (l : List Pt), ∀ v ∈ fourV l, v.oneCell' = true
  | [], _, h => by simp [fourV] at h
  | p :: l, v, h => by
    rcases List.mem_append.1 h with h | h
    · exact p.vs_one v h
    · exact fourV_one l v h

theorem take32_nat (a : Option Addr) (c n m : Nat) (xs : List Int) (w : World) (hB : Bs w a c xs) (hn : n = xs.length) (hm : n = m + 4) (hlen : xs.length ≤ 1000000) :
    Calls Tryd.prog 44 #[.slice a n c] w fun e w' => ∃ a1 c1, e = .returned (.tuple #[.int .u32 (n32 xs : Int), .slice a1 m c1, .int .i64 0]) ∧ Bs w' a1 c1 (xs.drop 4) ∧ Below w.heap.size w w' ∧ ∀ b, a1 = some b → w.heap.size ≤ b.block := by
  subst hn
  refine (take32_new a c xs w hB hlen).mono ?_
  rintro e w' ⟨a1, c1, rfl, h1, h2, h3⟩
  have hi := (take32_int hB.rng).1
  have ht : (take32L xs).2.1 = xs.drop 4 ∧ (take32L xs).2.2 = 0 := by unfold take32L; rw [if_neg (by omega)]; exact ⟨rfl, rfl⟩
  rw [ht.1] at h1 ⊢
  rw [ht.2, hi]
  refine ⟨a1, c1, ?_, h1, h2, h3⟩
  rw [List.length_drop, show xs.length - 4 = m by omega]; rfl

end Go.Proofs.YthbcphalokoknaaDoor

/-
  The walks over ptr.written and ptr.Decode.
-/

namespace Go.Proofs.YthbcphalokoknaaDoor
set_option linter.unusedSimpArgs false
set_option linter.unusedVariables false
open Go.RowKit

theorem zero_splice {xs : List Int} (h : xs.length = 32) : splice Pt.zero.vs 0 (xs.map (Value.int .u8)) = Pt.vs ⟨xs, 0, 0, 0⟩ := by
  unfold splice Pt.vs
  simp [h, Pt.zero]

set_option maxHeartbeats 1000000 in
set_option maxRecDepth 100000 in
theorem written_run (a : Option Addr) (c : Nat) (xs : List Int) (w : World) (hB : Bs w a c xs) (hl : xs.length = 44) :
    Calls Tryd.prog 68 #[.slice a 44 c] w fun e w' => e = .returned (.agg (decP xs).vs.toArray) ∧ Below w.heap.size w w' := by
  obtain ⟨a', c', hrun, hB'⟩ := Bs.fromAll (P := Tryd.prog) a c xs 27 5 Tryd.underlying27 sizes5 Tryd.elem27 32 (by omega)
  have hsl : ∀ u : World, (Instr.slice 27 (.slice a 44 c) (some (.int .i64 32)) none none).run Tryd.prog u = .ok (.slice a' 12 c') u := fun u => by
    have := hrun u .i64
    rw [hl] at this
    exact this
  have hx1 : (xs.take 32).length = 32 := by simp; omega
  have hx2 : (xs.drop 32).length = 12 := by simp; omega
  have hx3 : (xs.drop 36).length = 8 := by simp; omega
  have hx4 : (xs.drop 40).length = 4 := by simp; omega
  have H32 : Hid ((xs.drop 32).drop 4 = xs.drop 36) := by show _ = _; rw [List.drop_drop]
  have H36 : Hid ((xs.drop 36).drop 4 = xs.drop 40) := by show _ = _; rw [List.drop_drop]
  obtain ⟨n0, hn0⟩ : ∃ n, n = n32 (xs.drop 32) := ⟨_, rfl⟩
  obtain ⟨n1, hn1⟩ : ∃ n, n = n32 (xs.drop 36) := ⟨_, rfl⟩
  obtain ⟨n2, hn2⟩ : ∃ n, n = n32 (xs.drop 40) := ⟨_, rfl⟩
  have HN : Hid (n0 = n32 (xs.drop 32) ∧ n1 = n32 (xs.drop 36) ∧ n2 = n32 (xs.drop 40)) := ⟨hn0, hn1, hn2⟩
  have hzl : Pt.zero.vs.length = 35 := Pt.vs_len Pt.zero_ok
  clear hrun hn0 hn1 hn2
  have hok : ∀ b x y : Nat, (Pt.vs ⟨xs.take 32, b, x, y⟩).length = 35 := fun b x y => by rw [Pt.vs, List.length_append, List.length_map]; simp only; rw [hx1]; rfl
  have hne : xs ≠ [] := by intro h; rw [h] at hl; simp at hl
  go_enter Tryd.func68, Tryd.ntmps68
  go_wp2_with (first
    | (refine wpList_alloc0 (by rfl) 26 (by rfl) (some 2) (by rfl) Pt.zero.vs alloc_ptr0 ?_; intro w1 hR1 hb1 hs1)
    | (refine wpList_alloc0 (by rfl) 26 (by rfl) (some 3) (by rfl) Pt.zero.vs alloc_ptr0 ?_; intro w2 hP2 hb2 hs2; have hR2 := hR1.stays hb2; have hB2 := (hB.stays hb1).stays hb2; rw [hs1] at hP2 hs2)
    | (refine wpList_copy_blk (by rfl) (.tmp 7) (.tmp 8) 27 27 (by rfl) 5 Tryd.underlying27 sizes5 _ 0 32 32 _ 44 c (by rfl) (by rfl) hP2 xs 32 hB2 (by decide) (by rfl) (by omega) (by rw [hzl]; omega) ?_
       intro w3 hP3 hbut3 hs3
       rw [zero_splice hx1] at hP3
       have hR3 := hR2.but hbut3 (by omega)
       have hB3 := hB' _ (hB2.but hbut3 (fun _ b hb => by have := hB.lt hne hb; omega))
       have hc0 := take32_nat a' c' 12 8 _ w3 hB3 hx2.symm rfl (by omega)
       rw [← HN.out.1, H32.out] at hc0)
    | (go_at_call_of 44 (Value.slice a' 12 c'); go_must (refine hc0.mono ?_); rintro e w4 ⟨a4, c4, rfl, hB4, hb4, hN4⟩
       have hP4 := hP3.stays hb4; have hR4 := hR3.stays hb4)
    | (refine wpList_store_int (by rfl) (.tmp 17) (.tmp 14) 22 (by rfl) _ 32 (by rfl) .u32 n0 (by rfl) size_u32 hP4 (by rw [hok]; omega) ?_
       intro w5 hP5 hbut5 hs5
       rw [Pt.vs_setb hx1] at hP5
       have hR5 := hR4.but hbut5 (by omega)
       have hB5 := hB4.but hbut5 (fun _ b hb => by have := hN4 b hb; omega)
       have hc1 := take32_nat a4 c4 8 4 _ w5 hB5 hx3.symm rfl (by omega)
       rw [← HN.out.2.1, H36.out] at hc1)
    | (go_at_call_of 44 (Value.slice a4 8 c4); go_must (refine hc1.mono ?_); rintro e w6 ⟨a6, c6, rfl, hB6, hb6, hN6⟩
       have hP6 := hP5.stays hb6; have hR6 := hR5.stays hb6)
    | (refine wpList_store_int (by rfl) (.tmp 25) (.tmp 21) 22 (by rfl) _ 33 (by rfl) .u32 n1 (by rfl) size_u32 hP6 (by rw [hok]; omega) ?_
       intro w7 hP7 hbut7 hs7
       rw [Pt.vs_setx hx1] at hP7
       have hR7 := hR6.but hbut7 (by omega)
       have hB7 := hB6.but hbut7 (fun _ b hb => by have := hN6 b hb; have := hb4.size; omega)
       have hc2 := take32_nat a6 c6 4 0 _ w7 hB7 hx4.symm rfl (by omega)
       rw [← HN.out.2.2] at hc2)
    | (go_at_call_of 44 (Value.slice a6 4 c6); go_must (refine hc2.mono ?_); rintro e w8 ⟨a8, c8, rfl, hB8, hb8, hN8⟩
       have hP8 := hP7.stays hb8; have hR8 := hR7.stays hb8)
    | (refine wpList_store_int (by rfl) (.tmp 33) (.tmp 29) 22 (by rfl) _ 34 (by rfl) .u32 n2 (by rfl) size_u32 hP8 (by rw [hok]; omega) ?_
       intro w9 hP9 hbut9 hs9
       go_must (rw [Pt.vs_sety hx1] at hP9)
       go_must (have hR9 := hR8.but hbut9 (by omega)))
    | (refine wpList_load_blk (by rfl) (.tmp 3) 26 (by rfl) _ 0 35 (by rfl) agg_ptr size_ptr hP9 _ (whole_load (hok _ _ _)) (hok _ _ _) ?_)
    | (refine wpList_store_blk (by rfl) (.tmp 2) (.tmp 34) 26 (by rfl) _ 0 35 (by rfl) _ (by rfl) size_ptr hR9 (hok _ _ _) (by omega) (Pt.vs_one _) _ (whole_store hzl) ?_
       intro wA hRA hbutA hsA))
  refine bodyPost_ret_blk rfl rfl (by rfl) agg_ptr size_ptr hRA (hok _ _ _) ⟨?_, ?_⟩
  · obtain ⟨h1, h2, h3⟩ := HN.out
    unfold decP
    rw [h1, h2, h3]
  · have k1 := hb1.trans (hb2.mono (by omega))
    have k3 := k1.trans (hbut3.below (by omega) (by omega))
    have k4 := k3.trans (hb4.mono (by omega))
    have k5 := k4.trans (hbut5.below (by omega) (by have := hb4.size; omega))
    have k6 := k5.trans (hb6.mono (by have := hb4.size; omega))
    have k7 := k6.trans (hbut7.below (by omega) (by have := hb4.size; have := hb6.size; omega))
    have k8 := k7.trans (hb8.mono (by have := hb4.size; have := hb6.size; omega))
    have k9 := k8.trans (hbut9.below (by omega) (by have := hb4.size; have := hb6.size; have := hb8.size; omega))
    exact k9.trans (hbutA.below (by omega) (by have := hb4.size; have := hb6.size; have := hb8.size; omega))
set_option maxHeartbeats 1000000 in
set_option maxRecDepth 100000 in
theorem decode_run (a : Option Addr) (c n : Nat) (xs : List Int) (w : World) (hn : n = xs.length) (hB : Bs w a c xs) :
    Calls Tryd.prog 42 #[.slice a n c] w fun e w' => e = .returned (.tuple #[.agg (decodeL xs).1.vs.toArray, .int .i64 ((decodeL xs).2 : Int)]) ∧ Below w.heap.size w w' := by
  have hzl : Pt.zero.vs.length = 35 := Pt.vs_len Pt.zero_ok
  unfold decodeL
  rw [← hn]
  rcases (by omega : n < 44 ∨ 44 < n ∨ n = 44) with h | h | h
  · rw [if_pos h]
    have h' : (n : Int) < 44 := by omega
    clear hn hB
    go_enter Tryd.func42, Tryd.ntmps42
    go_wp2_with (first
      | (refine wpList_alloc0 (by rfl) 26 (by rfl) (some 2) (by rfl) Pt.zero.vs alloc_ptr0 ?_; intro w1 hR1 hb1 hs1)
      | (refine wpList_build0 (by rfl) 26 (by rfl) _ build_ptr0 ?_)
      | (refine wpList_store_blk (by rfl) (.tmp 2) (.tmp 8) 26 (by rfl) _ 0 35 (by rfl) _ (by rfl) size_ptr hR1 hzl (by omega) (Pt.vs_one _) _ (whole_store hzl) ?_
         intro w2 hR2 hbut2 hs2))
    refine bodyPost_ret_blk2 rfl rfl (by rfl) (by rfl) agg_ptr size_ptr hR2 hzl ⟨rfl, ?_⟩
    exact hb1.trans (hbut2.below (Nat.le_refl _) (by omega))
  · rw [if_neg (by omega), if_pos h]
    have h' : ¬ (n : Int) < 44 := by omega
    have h'' : (44 : Int) < n := by omega
    clear hn hB
    go_enter Tryd.func42, Tryd.ntmps42
    go_wp2_with (first
      | (refine wpList_alloc0 (by rfl) 26 (by rfl) (some 2) (by rfl) Pt.zero.vs alloc_ptr0 ?_; intro w1 hR1 hb1 hs1)
      | (refine wpList_build0 (by rfl) 26 (by rfl) _ build_ptr0 ?_)
      | (refine wpList_store_blk (by rfl) (.tmp 2) (.tmp 12) 26 (by rfl) _ 0 35 (by rfl) _ (by rfl) size_ptr hR1 hzl (by omega) (Pt.vs_one _) _ (whole_store hzl) ?_
         intro w2 hR2 hbut2 hs2))
    refine bodyPost_ret_blk2 rfl rfl (by rfl) (by rfl) agg_ptr size_ptr hR2 hzl ⟨rfl, ?_⟩
    exact hb1.trans (hbut2.below (Nat.le_refl _) (by omega))
  · rw [if_neg (by omega), if_neg (by omega)]
    have hl : xs.length = 44 := by omega
    have hok := decP_ok hB.rng (by omega)
    have hvl := Pt.vs_len hok
    have hm := may_run (decP xs) hok
    subst h
    clear hn
    obtain ⟨p, hp⟩ : ∃ p, p = decP xs := ⟨_, rfl⟩
    have hwr : ∀ u, Bs u a c xs → Calls Tryd.prog 68 #[.slice a 44 c] u fun e w' => e = .returned (.agg p.vs.toArray) ∧ Below u.heap.size u w' := fun u hu => by rw [hp]; exact written_run a c xs u hu hl
    have HWR : Hid (∀ u, Bs u a c xs → Calls Tryd.prog 68 #[.slice a 44 c] u fun e w' => e = .returned (.agg p.vs.toArray) ∧ Below u.heap.size u w') := hwr
    rw [← hp] at hok hvl hm ⊢
    clear hwr hp
    cases hmv : p.may
    · rw [hmv] at hm
      rw [if_neg (by simp)]
      go_enter Tryd.func42, Tryd.ntmps42
      go_wp2_with (first
        | (refine wpList_alloc0 (by rfl) 26 (by rfl) (some 2) (by rfl) Pt.zero.vs alloc_ptr0 ?_; intro w1 hR1 hb1 hs1)
        | (go_at_call 68; go_must (refine (HWR.out _ (hB.stays hb1)).mono ?_); rintro e w2 ⟨rfl, hb2⟩; have hR2 := hR1.stays hb2)
        | (refine wpList_alloc0 (by rfl) 26 (by rfl) (some 4) (by rfl) Pt.zero.vs alloc_ptr0 ?_; intro w3 hP3 hb3 hs3; have hR3 := hR2.stays hb3)
        | (refine wpList_store_blk (by rfl) (.tmp 4) (.tmp 14) 26 (by rfl) _ 0 35 (by rfl) _ (by rfl) size_ptr hP3 hvl (by omega) (Pt.vs_one _) _ (whole_store hzl) ?_
           intro w4 hP4 hbut4 hs4; have hR4 := hR3.but hbut4 (by have := hb2.size; omega))
        | (refine wpList_load_blk (by rfl) (.tmp 4) 26 (by rfl) _ 0 35 (by rfl) agg_ptr size_ptr hP4 _ (whole_load hvl) hvl ?_)
        | (go_at_call 33; go_must (refine (hm _).mono ?_); rintro e w5 ⟨rfl, hb5⟩; have hR5 := hR4.stays hb5)
        | (refine wpList_build0 (by rfl) 26 (by rfl) _ build_ptr0 ?_)
        | (refine wpList_store_blk (by rfl) (.tmp 2) (.tmp 18) 26 (by rfl) _ 0 35 (by rfl) _ (by rfl) size_ptr hR5 hzl (by omega) (Pt.vs_one _) _ (whole_store hzl) ?_
           intro w6 hR6 hbut6 hs6))
      refine bodyPost_ret_blk2 rfl rfl (by rfl) (by rfl) agg_ptr size_ptr hR6 hzl ⟨rfl, ?_⟩
      have z2 := hb2.size
      have z5 := hb5.size
      exact ((((hb1.trans (hb2.mono (by omega))).trans (hb3.mono (by omega))).trans (hbut4.below (by omega) (by omega))).trans (hb5.mono (by omega))).trans (hbut6.below (Nat.le_refl _) (by omega))
    · rw [hmv] at hm
      rw [if_pos rfl]
      go_enter Tryd.func42, Tryd.ntmps42
      go_wp2_with (first
        | (refine wpList_alloc0 (by rfl) 26 (by rfl) (some 2) (by rfl) Pt.zero.vs alloc_ptr0 ?_; intro w1 hR1 hb1 hs1)
        | (go_at_call 68; go_must (refine (HWR.out _ (hB.stays hb1)).mono ?_); rintro e w2 ⟨rfl, hb2⟩; have hR2 := hR1.stays hb2)
        | (refine wpList_alloc0 (by rfl) 26 (by rfl) (some 4) (by rfl) Pt.zero.vs alloc_ptr0 ?_; intro w3 hP3 hb3 hs3; have hR3 := hR2.stays hb3)
        | (refine wpList_store_blk (by rfl) (.tmp 4) (.tmp 14) 26 (by rfl) _ 0 35 (by rfl) _ (by rfl) size_ptr hP3 hvl (by omega) (Pt.vs_one _) _ (whole_store hzl) ?_
           intro w4 hP4 hbut4 hs4; have hR4 := hR3.but hbut4 (by have := hb2.size; omega))
        | (refine wpList_load_blk (by rfl) (.tmp 4) 26 (by rfl) _ 0 35 (by rfl) agg_ptr size_ptr hP4 _ (whole_load hvl) hvl ?_)
        | (go_at_call 33; go_must (refine (hm _).mono ?_); rintro e w5 ⟨rfl, hb5⟩; have hR5 := hR4.stays hb5; have hP5 := hP4.stays hb5)
        | (refine wpList_load_blk (by rfl) (.tmp 4) 26 (by rfl) _ 0 35 (by rfl) agg_ptr size_ptr hP5 _ (whole_load hvl) hvl ?_)
        | (refine wpList_store_blk (by rfl) (.tmp 2) (.tmp 19) 26 (by rfl) _ 0 35 (by rfl) _ (by rfl) size_ptr hR5 hvl (by omega) (Pt.vs_one _) _ (whole_store hzl) ?_
           intro w6 hR6 hbut6 hs6))
      refine bodyPost_ret_blk2 rfl rfl (by rfl) (by rfl) agg_ptr size_ptr hR6 hvl ⟨rfl, ?_⟩
      have z2 := hb2.size
      have z5 := hb5.size
      exact ((((hb1.trans (hb2.mono (by omega))).trans (hb3.mono (by omega))).trans (hbut4.below (by omega) (by omega))).trans (hb5.mono (by omega))).trans (hbut6.below (Nat.le_refl _) (by omega))

end Go.Proofs.YthbcphalokoknaaDoor

/-
  Parts of bytes; elements of arrays.
-/

namespace Go.Proofs.YthbcphalokoknaaDoor
set_option linter.unusedSimpArgs false
set_option linter.unusedVariables false
open Go.RowKit

theorem slice_mid {P : Program} {t e : TypeId} {b off n c i m : Nat} (ht : P.underlying t = some (.slice e)) (he : P.elem t = e) (hs : (P.info? e).map (·.size) = some 1) (hc : i + m ≤ c) (hm : 0 < m) (K K' : IntKind) (w : World) :
    (Instr.slice t (.slice (some ⟨b, off, none⟩) n c) (some (.int K (i : Int))) (some (.int K' ((i + m : Nat) : Int))) none).run P w = .ok (.slice (some ⟨b, off + i, none⟩) m (c - i)) w := by
  have hz := sizeOf_run hs w
  have hadd : (⟨b, off, none⟩ : Addr).add i = ⟨b, off + i, none⟩ := by unfold Addr.add; split <;> simp_all
  have hne : ¬ c = i := by omega
  rw [run_slice_lh w t (some ⟨b, off, none⟩) n c (by rw [he]; exact ht) K K' i ((i + m : Nat) : Int) (by omega) (by omega) (by omega), he, hz]
  simp [Result.andThen, sliced, hne, hadd]
  omega

theorem Bs.mid {w : World} {b off c : Nat} {xs : List Int} (h : Bs w (some ⟨b, off, none⟩) c xs) (q m : Nat) (hq : q + m ≤ xs.length) (hm0 : 0 < m) : Bs w (some ⟨b, off + q, none⟩) (c - q) ((xs.drop q).take m) := by
  have hl : ((xs.drop q).take m).length = m := by simp; omega
  have hc := h.cap
  have hm := h.capm
  refine ⟨fun x hx => h.rng x (List.mem_of_mem_drop (List.mem_of_mem_take hx)), by omega, by omega, (fun h => by cases h), .inr ⟨b, off + q, rfl, fun i hi => ?_⟩⟩
  rw [hl] at hi
  obtain ⟨b1, o1, he, hc1⟩ := h.cell (by omega)
  cases he
  rw [Nat.add_assoc, hc1 (q + i) (by omega)]
  simp [List.getD, List.getElem?_take, List.getElem?_drop, hi]

theorem index_ptr {P : Program} {t e : TypeId} {n m g off : Nat} {K : IntKind} {j : Nat} (ht : P.underlying t = some (.array n e)) (hs : (P.info? e).map (·.size) = some m) (hj : j < n) (w : World) :
    (Instr.indexAt t (.pointer (some ⟨g, off, none⟩)) (.int K (j : Int))).run P w = .ok (.pointer (some ⟨g, off + j * m, none⟩)) w := by
  have hz := sizeOf_run hs w
  have hb : (0 : Int) ≤ (j : Int) ∧ (j : Int) < (n : Int) := by omega
  have hadd : (⟨g, off, none⟩ : Addr).add (j * m) = ⟨g, off + j * m, none⟩ := by unfold Addr.add; split <;> simp_all
  simp [Instr.indexAt, asIntOf, run_underlying ht, hz, hb, hadd, Sem.run_bind, Instr.sureAddr]
  omega

end Go.Proofs.YthbcphalokoknaaDoor
