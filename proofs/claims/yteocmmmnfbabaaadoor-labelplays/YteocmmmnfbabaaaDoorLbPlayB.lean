/-
  What the law LabelPlays needs of its acts, and of both disks beside each other.
-/
import Derived.Test.YteocmmmnfbabaaaDoorLbOpens
import Derived.Test.YteocmmmnfbabaaaDoorLbRLay
import Derived.Test.YteocmmmnfbabaaaDoorLbAlive
namespace Go.Proofs.YteocmmmnfbabaaaDoor
set_option linter.unusedSimpArgs false
set_option linter.unusedVariables false
set_option maxRecDepth 100000
open Go.RowKit

theorem run_load_cells {P : Program} {w : World} {t : TypeId} {b off n : Nat} {us : List Value} (hA : ∀ w, (isAgg t).run P w = .ok true w) (hZ : ∀ w, (sizeOf t).run P w = .ok n w)
    (hc : ∀ j, j < n → w.cell? ⟨b, off + j, none⟩ = us[j]?) (hl : us.length = n) : (Instr.loadAt t (.pointer (some ⟨b, off, none⟩))).run P w = .ok (.agg us.toArray) w := by
  have h := run_loadCells_list (P := P) w ⟨b, off, none⟩ us (fun j v hj => by
    have hadd : (⟨b, off, none⟩ : Addr).add j = ⟨b, off + j, none⟩ := by unfold Addr.add; split <;> simp_all
    have hjl : j < n := by
      rcases Nat.lt_or_ge j n with h1 | h1
      · exact h1
      · rw [List.getElem?_eq_none (by omega)] at hj; cases hj
    rw [hadd, hc j hjl]
    exact hj)
  rw [hl] at h
  simp [Instr.loadAt, Instr.sureAddr, loadVar, hA, hZ, h, Sem.run_bind]

/-- A load of a whole value that lies somewhere. -/
theorem wpList_load_cells {P : Program} {w : World} {ops : Array Oper} {rest : List Oper} {o : Oper} {a : Act} {Q : Exit → Act → World → Prop} (hgd : o.guard = none) (x : Operand) (t : TypeId) (ho : o.op = Op.load t x)
    (b off n : Nat) (hx : a.eval x = .pointer (some ⟨b, off, none⟩)) (hA : ∀ w, (isAgg t).run P w = .ok true w) (hZ : ∀ w, (sizeOf t).run P w = .ok n w)
    (us : List Value) (hc : ∀ j, j < n → w.cell? ⟨b, off + j, none⟩ = us[j]?) (hl : us.length = n) (h : wpList P ops Q rest (a.put o.dst (.agg us.toArray)) w) : wpList P ops Q (o :: rest) a w := by
  refine wpList_plain hgd fun K hK => ?_
  have hr := run_load_cells (P := P) (w := w) hA hZ hc hl
  unfold Oper.wp execOp
  simp only [ho, hx, Sem.run_bind, Sem.run_pure, Result.andThen_ok, hr]
  exact hK _ _ h

theorem index_sl42 {P : Program} {t e : TypeId} {b off n c j m : Nat} (ht : P.underlying t = some (.slice e)) (hs : (P.info? e).map (·.size) = some m) (hj : j < n) (w : World) :
    (Instr.indexAt t (.slice (some ⟨b, off, none⟩) n c) (.int .i64 (j : Int))).run P w = .ok (.pointer (some ⟨b, off + j * m, none⟩)) w := by
  have hz := sizeOf_run hs w
  have hb : (0 : Int) ≤ (j : Int) ∧ (j : Int) < (n : Int) := by omega
  have hadd : (⟨b, off, none⟩ : Addr).add (j * m) = ⟨b, off + j * m, none⟩ := by unfold Addr.add; split <;> simp_all
  simp [Instr.indexAt, asIntOf, run_underlying ht, hz, hb, hadd, Sem.run_bind, Instr.sureAddr]
  try omega

theorem agg_act (w : World) : (isAgg 55).run Tryd.prog w = .ok true w := by
  have hfs : Tryd.prog.underlying 55 = some (.struct (Tryd.prog.fieldsOf 55)) := by kernel_rfl
  exact isAgg_struct hfs w
theorem size_act (w : World) : (sizeOf 55).run Tryd.prog w = .ok 42 w := sizeOf_run (by kernel_rfl) w
def actZero : List Value := Lb.zero.vs none 0 ++ [.bool false, .int .i64 0, .slice none 0 0, .bool false, .slice none 0 0]
theorem actZero_len : actZero.length = 42 := by unfold actZero; rw [List.length_append, zero_vs_len]; rfl
theorem alloc_act0 (w : World) : (Instr.alloc 55 true (.tuple #[])).run Tryd.prog w = .ok (.pointer (some ⟨w.heap.size, 0, none⟩)) (w.alloc (.cells actZero.toArray 55)) := by kernel_rfl

theorem ActL.cells_len {x : ActL} (h : x.l.p.ok) : x.cells.length = 42 := by
  unfold ActL.cells; rw [List.length_append, Lb.vs_len h]; rfl
theorem ActL.cells_label {x : ActL} (h : x.l.p.ok) : x.l.vs x.la x.lc = (x.cells.drop 0).take 37 := by
  unfold ActL.cells; rw [List.drop_zero, List.take_left' (Lb.vs_len h x.la x.lc)]
theorem ActL.cells_one (x : ActL) : ∀ v ∈ x.cells, v.oneCell' = true := by
  intro v hv
  unfold ActL.cells at hv
  rcases List.mem_append.1 hv with h | h
  · exact Lb.vs_one _ _ _ v h
  · simp only [ActL.tail, List.mem_cons, List.not_mem_nil, or_false] at h
    rcases h with rfl | rfl | rfl | rfl | rfl <;> rfl
theorem ActL.cells_at {x : ActL} (h : x.l.p.ok) : x.cells[36]? = some (.slice x.la x.l.m.length x.lc) ∧ x.cells[37]? = some (.bool x.fl) ∧ x.cells[38]? = some (.int .i64 x.at') ∧
    x.cells[39]? = some (.slice x.ma x.ms.length x.mc) ∧ x.cells[40]? = some (.bool x.cr) ∧ x.cells[41]? = some (.slice x.ka x.ks.length x.kc) := by
  have hl := Lb.vs_len h x.la x.lc
  unfold ActL.cells
  refine ⟨?_, ?_, ?_, ?_, ?_, ?_⟩
  · rw [List.getElem?_append_left (by omega)]; exact Lb.vs_map h x.la x.lc
  all_goals rw [List.getElem?_append_right (by omega), hl]; rfl

theorem ActsL.at {W : World} {a : Option Addr} {xs : List ActL} (h : ActsL W a xs) {i : Nat} (hi : i < xs.length) :
    ∃ b off, a = some ⟨b, off, none⟩ ∧ (∀ j, j < 42 → W.cell? ⟨b, off + i * 42 + j, none⟩ = (xs.getD i default).cells[j]?) ∧ ActLOk W (xs.getD i default) := by
  rcases h.lay with rfl | ⟨b, off, rfl, hc⟩
  · simp at hi
  · refine ⟨b, off, rfl, fun j hj => ?_, h.ok _ (by simp [List.getD, hi])⟩
    rw [show off + i * 42 + j = off + 42 * i + j by omega]
    exact hc i hi j hj

/-- How many writes may wait behind a label that is laid. -/
theorem layL_len (S : DS) (l : Lb) : (layL S l).1.ws.length ≤ S.ws.length + 2 := by
  unfold layL
  split
  · split
    · have h1 := write_len S (plc l.t : Int) l.bytes
      have h2 := write_len (S.write (plc l.t : Int) l.bytes).1 ((plc l.t + 1 : Nat) : Int) l.bytes
      omega
    · have h1 := write_len S (plc l.t : Int) l.bytes
      omega
  · simp

section
variable {B p : Nat} {w : World} {F G : Nat → Prop} {S T : DS} {cs : List Value}

theorem pair_lay (h : Pair B w F G p S cs T) (hB : B ≤ w.heap.size) (l : Lb) (hl : l.ok) (a : Option Addr) (c : Nat) (hm : Bs w a c l.m) (hV : Vars w) (hlen : S.ws.length ≤ 800000) :
    Calls Tryd.prog 20 #[.pointer (some ⟨p, 0, none⟩), .agg (l.vs a c).toArray] w fun e w' => e = .returned (.int .i64 (layL S l).2) ∧ ∃ F', Pair B w' F' G p (layL S l).1 cs T ∧ (∀ k, F' k → F k ∨ w.heap.size ≤ k) ∧ Frm F w w' ∧ Below B w w' := by
  refine (labLay_run h.dk (fun k hk => (h.low k hk).2) l hl a c hm hV (by omega)).mono ?_
  rintro e w' ⟨rfl, ht⟩
  obtain ⟨F', h1, h2, h3⟩ := h.disk hB ht
  exact ⟨rfl, F', h1, h2, ht.2, h3⟩
theorem pair_rlay (h : Pair B w F G p S cs T) (l : Lb) (hl : l.ok) (a : Option Addr) (c : Nat) (hm : Bs w a c l.m) (hlen : T.ws.length ≤ 800000) :
    Calls Tryd.prog 21 #[.agg cs.toArray, .agg (l.vs a c).toArray] w fun e w' => ∃ cs', e = .returned (.tuple #[.agg cs'.toArray, .int .i64 (layL T l).2]) ∧ Pair B w' F (fun k => (G k ∨ w.heap.size ≤ k) ∧ k < w'.heap.size) p S cs' (layL T l).1 ∧ Below w.heap.size w w' := by
  refine (labRLay_run h.rf h.lowG l hl a c hm hlen).mono ?_
  rintro e w' ⟨cs', rfl, ht⟩
  exact ⟨cs', rfl, h.ref ht, ht.2⟩
end

/-- Choose, the power on or off. -/
theorem choose_run {w : World} {F : Nat → Prop} {p : Nat} {S : DS} (h : Dk w F p S) (hl : S.ws.length ≤ 900000) (hV : Vars w) :
    Calls Tryd.prog 28 #[.pointer (some ⟨p, 0, none⟩)] w fun e w' => ∃ a c, e = .returned (.tuple #[.agg ((chooseL S).1.1.vs a c).toArray, .int .i64 ((chooseL S).1.2 : Int), .int .i64 ((chooseL S).2 : Int)]) ∧ Bs w' a c (chooseL S).1.1.m ∧ Below w.heap.size w w' := by
  cases ho : S.off
  · exact choose_on h (by omega) ho hV
  · refine (choose_off h (by omega) ho).mono ?_
    rintro e w' ⟨rfl, hb⟩
    unfold chooseL
    rw [ho, if_pos rfl]
    exact ⟨none, 0, rfl, Bs.empty _, hb⟩
theorem rchoose_run {w : World} {G : Nat → Prop} {cs : List Value} {S : DS} (h : Rf w G cs S) (hl : S.ws.length ≤ 900000) :
    Calls Tryd.prog 29 #[.agg cs.toArray] w fun e w' => ∃ a c, e = .returned (.tuple #[.agg ((chooseL S).1.1.vs a c).toArray, .int .i64 ((chooseL S).1.2 : Int), .int .i64 ((chooseL S).2 : Int)]) ∧ Bs w' a c (chooseL S).1.1.m ∧ Below w.heap.size w w' := by
  cases ho : S.off
  · exact rchoose_on h hl ho
  · refine (rchoose_off h hl ho).mono ?_
    rintro e w' ⟨rfl, hb⟩
    unfold chooseL
    rw [ho, if_pos rfl]
    exact ⟨none, 0, rfl, Bs.empty _, hb⟩

end Go.Proofs.YteocmmmnfbabaaaDoor
