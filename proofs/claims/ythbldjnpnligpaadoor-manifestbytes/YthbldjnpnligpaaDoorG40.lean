/-
  What came in for package tree's laws: edits.
-/
import Derived.Test.YthbldjnpnligpaaDoorG39
import Derived.Test.YthbldjnpnligpaaDoorG23
import Derived.Test.YthbldjnpnligpaaDoorG04
import Derived.Test.YthbldjnpnligpaaDoorG19
import Derived.Deep.Slices
import Derived.Lib.LaidTab
import Derived.LaidHandle
import Derived.LaidLaws
import Derived.Stop.LaidErr
namespace Go.Proofs.YthbldjnpnligpaaDoor
set_option linter.unusedSimpArgs false
set_option linter.unusedVariables false
set_option maxRecDepth 100000
open Go.RowKit Go.ChangeShapes Go.WideShapes

/-- An edit of the laws: a cell, bytes behind a slice, whether it is trimmed. -/
structure EdT where
  cell : Int
  ba : Option Addr
  bc : Nat
  bs : List Int
  trim : Bool
instance : Inhabited EdT := ⟨⟨0, none, 0, [], false⟩⟩
def EdT.cells (x : EdT) : List Value := edV x.cell x.ba x.bs.length x.bc x.trim
structure EdOk (W : World) (x : EdT) : Prop where
  cell : -9223372036854775808 ≤ x.cell ∧ x.cell ≤ 9223372036854775807
  bs : Bs W x.ba x.bc x.bs
structure Eds (W : World) (a : Option Addr) (xs : List EdT) : Prop where
  lay : xs = [] ∨ ∃ b off, a = some ⟨b, off, none⟩ ∧ ∀ i, i < xs.length → ∀ j, j < 3 → W.cell? ⟨b, off + 3 * i + j, none⟩ = (xs.getD i default).cells[j]?
  ok : ∀ x ∈ xs, EdOk W x

section
variable {H : Type} {enc : TypeId × Value → H} {W : World} {base : Nat}

theorem open_edit {fuel : Nat} {held : Bool} {cs : List Value} {x : DataW H × List MemPlace} (h : DataW.trod enc Tryd.prog W base (fun _ => true) held fuel 67 cs = some x) :
    ∃ y : EdT, cs = y.cells ∧ EdOk W y := by
  have hI : Tryd.prog.cellsOf 3 = 1 := by kernel_rfl
  have hS : Tryd.prog.cellsOf 43 = 1 := by kernel_rfl
  have hB : Tryd.prog.cellsOf 4 = 1 := by kernel_rfl
  have hA : Tryd.prog.cellsOf 67 = 3 := by kernel_rfl
  cases fuel with
  | zero => simp [DataW.trod] at h
  | succ fuel =>
    simp only [DataW.trod, Tryd.underlying67, hA] at h
    split at h
    · rename_i hl
      obtain ⟨xs, hm, hx⟩ := Option.map_eq_some_iff.1 h
      obtain ⟨_, _, h0⟩ := Lib.mapM_at hm 0 _ rfl
      obtain ⟨_, _, h1⟩ := Lib.mapM_at hm 1 _ rfl
      obtain ⟨_, _, h2⟩ := Lib.mapM_at hm 2 _ rfl
      simp only [hI, hS, hB] at h0 h1 h2
      obtain ⟨n0, e0, _, w0⟩ := DataW.trod_int Tryd.underlying3 h0
      obtain ⟨a1, c1, x1, e1, b1⟩ := open_bs h1
      obtain ⟨t2, e2, _⟩ := DataW.trod_bool Tryd.underlying4 h2
      refine ⟨⟨n0, a1, c1, x1, t2⟩, ?_, wf_i64 w0, b1⟩
      have g0 := take1 e0
      have g1 := take1 e1
      have g2 := take1 e2
      unfold EdT.cells edV
      simp only
      match cs, hl, g0, g1, g2 with
      | [x0, x1', x2], _, g0, g1, g2 =>
        simp at g0 g1 g2
        subst g0 g1 g2
        rfl
    · cases h

theorem open_edits {r : Reach} {b0 : Nat} {v : Value} {d : DataW H} {p : List MemPlace} {held : Bool} (hv : Value.okWide Tryd.prog W r b0 62 v) (h : DataW.Trod enc Tryd.prog W base (fun _ => true) held 62 v d p) :
    ∃ a c xs, v = .slice a (List.length xs) c ∧ Eds W a xs ∧ xs.length ≤ 9223372036854775807 := by
  obtain ⟨a, len, cap, rfl⟩ := okWide_slice Tryd.underlying62 hv
  obtain ⟨fuel, hf⟩ := h
  have hA : Tryd.prog.cellsOf 67 = 3 := by kernel_rfl
  rcases Go.Deep.open_slice Tryd.underlying62 hf with ⟨hcs, _⟩ | ⟨x, l, c, m, n, D, Pl, hcs, _, hl, hmx, hm, _, hel⟩
  · simp [Value.cells] at hcs
    obtain ⟨rfl, rfl, rfl⟩ := hcs
    exact ⟨none, 0, [], rfl, ⟨.inl rfl, fun x hx => by cases hx⟩, by simp⟩
  · simp [Value.cells] at hcs
    obtain ⟨rfl, rfl, rfl⟩ := hcs
    simp only [if_true] at hm
    subst hm
    rw [hA] at hel
    obtain ⟨Y, hY⟩ := Go.Deep.choose_lt (n := len) (p := fun i (y : EdT) => W.cells? base (x.add (i * 3)) 3 = some y.cells ∧ EdOk W y) (fun i hi => by
      obtain ⟨cs', h1, h2⟩ := hel i (by omega)
      obtain ⟨y, rfl, hy⟩ := open_edit h2
      exact ⟨y, h1, hy⟩)
    unfold maxLen at hmx
    refine ⟨some x, m, (List.range len).map Y, by simp, ⟨?_, ?_⟩, by simp; omega⟩
    · by_cases h0 : len = 0
      · exact .inl (by simp [h0])
      · right
        have hcell : ∀ i, i < len → ∀ j, j < 3 → W.cell? ((x.add (i * 3)).add j) = (Y i).cells[j]? := fun i hi j hj => by
          have h1 := (hY i hi).1
          unfold World.cells? at h1
          split at h1
          · obtain ⟨b, hb, hc⟩ := Lib.mapM_at h1 j j (by simp [hj])
            rw [hb]; exact hc
          · cases h1
        obtain ⟨b, off, spot⟩ := x
        have hspot : spot = none := by
          have h1 := hcell 0 (by omega) 0 (by omega)
          rw [show (Y 0).cells[0]? = some (.int .i64 (Y 0).cell) from rfl] at h1
          simpa [Addr.add] using World.cell?_spot h1
        subst hspot
        refine ⟨b, off, rfl, fun i hi j hj => ?_⟩
        simp at hi
        have h1 := hcell i hi j hj
        have hpl : ((⟨b, off, none⟩ : Addr).add (i * 3)).add j = ⟨b, off + 3 * i + j, none⟩ := by
          rw [Go.Deep.add_add]
          unfold Addr.add
          split <;> simp_all
          omega
        rw [hpl] at h1
        rw [h1]
        simp [List.getD, hi]
    · intro y hy
      obtain ⟨i, hi, rfl⟩ := List.mem_map.1 hy
      exact (hY i (by simpa using hi)).2

theorem Eds.stays {W W' : World} {a : Option Addr} {xs : List EdT} (h : Eds W a xs) (hb : Below W.heap.size W W') : Eds W' a xs := by
  refine ⟨?_, fun x hx => ⟨(h.ok x hx).cell, (h.ok x hx).bs.stays hb⟩⟩
  rcases h.lay with h0 | ⟨b, off, rfl, hc⟩
  · exact .inl h0
  · refine .inr ⟨b, off, rfl, fun i hi j hj => ?_⟩
    have h1 := hc i hi j hj
    obtain ⟨v, hv⟩ : ∃ v, (xs.getD i default).cells[j]? = some v := ⟨_, List.getElem?_eq_getElem (show j < 3 from hj)⟩
    rw [hv] at h1 ⊢
    rw [hb.cell (World.block_lt_of_cell? W _ h1)]
    exact h1
theorem Eds.at {W : World} {a : Option Addr} {xs : List EdT} (h : Eds W a xs) {i : Nat} (hi : i < xs.length) :
    ∃ b off, a = some ⟨b, off, none⟩ ∧ (∀ j, j < 3 → W.cell? ⟨b, off + i * 3 + j, none⟩ = (xs.getD i default).cells[j]?) ∧ EdOk W (xs.getD i default) := by
  have hx : (xs.getD i default) ∈ xs := by simp [List.getD, hi]
  rcases h.lay with h0 | ⟨b, off, h1, h2⟩
  · rw [h0] at hi; simp at hi
  · exact ⟨b, off, h1, fun j hj => by rw [Nat.mul_comm i 3]; exact h2 i hi j hj, h.ok _ hx⟩
end
end Go.Proofs.YthbldjnpnligpaaDoor

/-
  From what a row lists to what the walks ask: the two tables of package sha; a world that has them.
-/

namespace Go.Proofs.YthbldjnpnligpaaDoor
set_option linter.unusedSimpArgs false
set_option linter.unusedVariables false
set_option maxRecDepth 100000
open Go.RowKit

theorem stepsData : (Rows.laid_cautery_sha_steps : DataW Unit) = Lib.tabData .u32 (ints stepNums) := rfl
theorem firstsData : (Rows.laid_cautery_sha_firsts : DataW Unit) = Lib.tabData .u32 (ints firsts8.list) := rfl
theorem stepsAt : Tryd.prog.globalNamed "cautery/sha.steps" = some 1 := by kernel_rfl
theorem firstsAt : Tryd.prog.globalNamed "cautery/sha.firsts" = some 0 := by kernel_rfl
theorem stepsType : (Tryd.prog.globals[1]?).map (·.type) = some 238 := by kernel_rfl
theorem firstsType : (Tryd.prog.globals[0]?).map (·.type) = some 217 := by kernel_rfl

theorem vars_of_laid {W : World} (h : laidMet Tryd.prog [("cautery/sha.steps", Rows.laid_cautery_sha_steps), ("cautery/sha.firsts", Rows.laid_cautery_sha_firsts)] W) : Vars W := by
  rw [stepsData, firstsData] at h
  have h1 := Lib.tabIs_of_head stepsAt stepsType Tryd.underlying238 Tryd.underlying34 (by kernel_rfl) (by kernel_rfl) h
  have h2 := Lib.tabIs_of_head firstsAt firstsType Tryd.underlying217 Tryd.underlying34 (by kernel_rfl) (by kernel_rfl) h.tail
  exact ⟨fun i hi => h1.cell stepsAt i hi, fun i hi => h2.cell firstsAt i hi⟩

noncomputable def laidWorld (os : Os) : World :=
  let w0 := World.holding Tryd.prog os ⟨#[], #[], []⟩
  { w0 with heap := (w0.heap.modify 1 fun
      | .cells _ t frozen => .cells ((ints stepNums).map (Value.int .u32)).toArray t frozen
      | o => o).modify 0 fun
      | .cells _ t frozen => .cells ((ints firsts8.list).map (Value.int .u32)).toArray t frozen
      | o => o }

theorem laid_met (os : Os) (args : Array Value) : laidMet Tryd.prog [("cautery/sha.steps", Rows.laid_cautery_sha_steps), ("cautery/sha.firsts", Rows.laid_cautery_sha_firsts)] ((laidWorld os).forCall (fun _ _ => 0) ⟨#[], args, []⟩).memory :=
  laidMet_of_run' 8 (by kernel_rfl) (by kernel_rfl)
end Go.Proofs.YthbldjnpnligpaaDoor

/-
  The live question of law 9.
-/

namespace Go.Proofs.YthbldjnpnligpaaDoor
set_option linter.unusedSimpArgs false
set_option linter.unusedVariables false
set_option maxRecDepth 100000
open Go.RowKit

theorem run_one8 (w : World) : (Instr.buildSlice 43 1 [(0, Value.int .u8 1)].toArray).run Tryd.prog w = .ok (.slice (some ⟨w.heap.size, 0, none⟩) 1 1) (w.alloc (.cells [Value.int .u8 1].toArray 5)) := by kernel_rfl
theorem exec_one {P : Program} {a : Act} {o : Oper} {w : World} {st e : TypeId} {x : Operand} {u : Value} {vs : List Value} (ho : o.op = Op.buildSlice st 1 [(0, x)].toArray) (hx : a.eval x = u)
    (hr : (Instr.buildSlice st 1 [(0, u)].toArray).run P w = .ok (.slice (some ⟨w.heap.size, 0, none⟩) 1 1) (w.alloc (.cells vs.toArray e))) : (execOp a.eval o).run P w = .ok (.value (.slice (some ⟨w.heap.size, 0, none⟩) 1 1)) (w.alloc (.cells vs.toArray e)) := by
  have e : [(0, x)].toArray.map (fun (i, x) => (i, a.eval x)) = [(0, u)].toArray := by simp [hx]
  unfold execOp
  simp only [ho, Sem.run_bind, Sem.run_pure, Result.andThen_ok, e, hr]
theorem one8_bs {w : World} {g : Nat} (h : Blk 5 w g [.int .u8 1]) : Bs w (some ⟨g, 0, none⟩) 1 [1] :=
  (show Row 5 w g [1] from h).bs (by decide) (by decide)
theorem ty_at : Ty Tryd.prog 40 2 := ⟨agg_at, size_at⟩
theorem build_at (x y : Int) (w : World) : (Instr.build 40 [(0, Value.int .u32 x), (1, .int .u32 y)].toArray).run Tryd.prog w = .ok (.agg #[.int .u32 x, .int .u32 y]) w := by kernel_rfl
theorem pl0_set (W : List Int) : ((List.replicate 16 []).set 5 W).getD 5 [] = W := rfl

set_option maxHeartbeats 16000000 in
theorem alive9_run (w : World) (hV : Vars w) : Calls Tryd.prog 25 #[] w fun e w' => e = .returned (.bool true) ∧ Below w.heap.size w w' := by
  have hfr : Calls Tryd.prog 22 #[.int .i64 32] w _ := fresh9_run 32 (by omega) (by omega) w
  obtain ⟨zb, hab, hzb⟩ := al_rbank
  have hg0 : Good 32 4 (DS.new 32) := Good.new (by omega) (by omega)
  obtain ⟨W, hW⟩ : ∃ W, W = wholeL [1] := ⟨_, rfl⟩
  have hwl : W.length = 256 := by rw [hW]; exact wholeL_len (by decide)
  have hwr : ∀ x ∈ W, 0 ≤ x ∧ x ≤ 255 := by rw [hW]; exact wholeL_rng (by decide) _
  have hne : W ≠ [] := fun e => by rw [e] at hwl; simp at hwl
  have hcl : cellL W = W := by unfold cellL; rw [if_neg hne]
  have hwh : ∀ u a c, Bs u a c [1] → Calls Tryd.prog 71 #[.slice a 1 c] u fun e w' => ∃ a' c', e = .returned (.slice a' 256 c') ∧ NewB u.heap.size w' a' c' W ∧ Below u.heap.size u w' := fun u a c hb => by
    have := whole9_run a c [1] u hb (by decide)
    rw [← hW, hwl] at this
    exact this
  have hse : ∀ u N k p g a' c', BS w u N k p g (DS.new 32) (lab 32 4) 7 → Bs u a' c' W → (∀ x, a' = some x → N x.block) → Calls Tryd.prog 70 #[.pointer (some ⟨k, 0, none⟩), .agg Pt.zero.vs.toArray, .int .i64 5, .slice a' 256 c'] u fun e w' => ∃ root, e = .returned (.tuple #[.agg root.vs.toArray, .int .i64 0]) ∧ EditOf w u N k p g (DS.new 32) 32 4 (fun _ => zeros4) (List.replicate 16 []) 5 W root w' :=
    fun u N k p g a' c' h1 h2 h3 => set_run h1 hV hg0 (Vol.new _ _) (i := 5) (by omega) h2 h3 hwl hwr (by omega)
  have hge : ∀ u N k p g S2 root ns2 cs2, BS w u N k p g S2 (lab 32 9) 7 → Good 32 9 S2 → Vol S2 9 root ns2 cs2 ((List.replicate 16 []).set 5 W) → Calls Tryd.prog 73 #[.pointer (some ⟨k, 0, none⟩), .agg root.vs.toArray, .int .i64 5] u fun e w' => ∃ a c, e = .returned (.tuple #[.slice a 256 c, .int .i64 0]) ∧ NewB u.heap.size w' a c W ∧ Below u.heap.size u w' := fun u N k p g S2 root ns2 cs2 h1 h2 h3 => by
    have := get_run h1 hV h2 (i := 5) (by omega) h3.root (h3.leaf 1 (by omega)) (h3.cell 5 (by omega))
    rw [pl0_set, hcl] at this
    exact this
  have hfi : ∀ u N k p g S2 root ns2 cs2, BS w u N k p g S2 (lab 32 9) 7 → Good 32 9 S2 → Vol S2 9 root ns2 cs2 ((List.replicate 16 []).set 5 W) → Calls Tryd.prog 74 #[.pointer (some ⟨k, 0, none⟩), .agg root.vs.toArray, .int .i64 5] u fun e w' => e = .returned (.tuple #[.agg (nth (cs2 1) 1).vs.toArray, .int .i64 0]) ∧ Below u.heap.size u w' := fun u N k p g S2 root ns2 cs2 h1 h2 h3 =>
    find_run h1 hV h2 (i := 5) (by omega) h3.root (h3.leaf 1 (by omega))
  have hzv := vals_ptr Pt.zero_ok
  have hpok : (ptrAt W 4 1).ok := ptrAt_ok (by omega)
  have hpv := vals_ptr hpok
  have HPA : Hid ([Value.int .u32 4, .int .u32 0] = ((ptrAt W 4 1).vs.drop 33).take 2) := Pt.vs_at hpok
  obtain ⟨ST, hST⟩ : ∃ ST, ST = strOfNums W := ⟨_, rfl⟩
  have HST : Hid (ST = strOfNums W) := hST
  have HWL : Hid (256 = W.length) := hwl.symm
  have HNE : Hid (W ≠ []) := hne
  have hss : (ST.toList == ST.toList) = true := by simp
  clear hcl hwr hwl hST hpok hg0 hW
  go_enter Tryd.func25, Tryd.ntmps25
  go_wp2_with (first
    | (go_at_call 22; go_must (refine hfr.mono ?_); rintro e w1 ⟨k, p, g, bv, rfl, ⟨vs, rfl, hbv⟩, hK⟩; have hs := BI.start hK; clear hK)
    | (refine sep_alloc hs rfl rfl (by first | exact al_ptr | exact ⟨hab, hzb⟩) ?_; clear hs; intro w1 g1 hs)
    | (refine sep_storew hs rfl rfl (by rfl) (by rfl) (by repeat (first | exact Upd.head | apply Upd.tail)) (by first | exact ty_ptr | exact ty_rbank) (by assumption) ?_; clear hs; intro w1 hs)
    | (refine sep_loadw hs rfl rfl (by rfl) (by repeat (first | exact List.Mem.head _ | apply List.Mem.tail)) ty_ptr ?_)
    | (refine wpList_build0 (by rfl) 42 (by rfl) _ build_ptr0 ?_)
    | (refine sep_one hs rfl (by rfl) (by rfl) run_one8 ⟨rfl, by simp [Value.oneCell']⟩ ?_; clear hs; intro w1 g1 hs)
    | (go_at_call 71; go_must (refine (hwh _ _ _ (one8_bs (hs.blk _ (List.Mem.head _)).1)).mono ?_); rintro e w1 ⟨a2, c2, rfl, hN2, hb2⟩; replace hs := hs.slice hb2 hN2.1 hN2.2 HNE.out; clear hN2 hb2)
    | (go_at_call 70; go_must (refine (hse _ _ _ _ _ _ _ hs.bank (hs.bs (by repeat (first | exact List.Mem.head _ | apply List.Mem.tail))) (fun x hx => .inr (Sep.mine_sl (by repeat (first | exact List.Mem.head _ | apply List.Mem.tail)) hx))).mono ?_); rintro e w1 ⟨root, rfl, S2, k2, ns2, cs2, h1, h2, hg2, hE⟩; obtain ⟨rfl, hx1, hx2, hx3⟩ := hE.exact HNE.out; replace hs := hs.turn h1 h2; have hrok := hE.vol.root.ok hg2.klt; have hrv := vals_ptr hrok; have hvol := hE.vol; have HRA : Hid ([Value.int .u32 7, .int .u32 8] = (root.vs.drop 33).take 2) := (by have := Pt.vs_at hrok; rw [hx1, hx2] at this; exact this); have HX3 : Hid _ := hx3; clear h1 h2 hE hx1 hx2 hrok hx3)
    | (go_at_call 73; go_must (refine (hge _ _ _ _ _ _ _ _ _ hs.bank hg2 hvol).mono ?_); rintro e w1 ⟨a3, c3, rfl, hN3, hb3⟩; replace hs := hs.slice hb3 hN3.1 hN3.2 HNE.out; clear hN3 hb3)
    | (go_at_call 74; go_must (refine (hfi _ _ _ _ _ _ _ _ _ hs.bank hg2 hvol).mono ?_); rintro e w1 ⟨rfl, hb4⟩; replace hs := hs.stays hb4; have hfv : (nth (cs2 1) 1).vs = (ptrAt W 4 1).vs := congrArg Pt.vs HX3.out; rw [hfv]; clear hb4 hfv))
  have hcb : ∀ u, Below w1.heap.size w1 u → (convert 43 9 (.slice a3 256 c3)).run Tryd.prog u = .ok (.string ST) u := fun u hu => by
    rw [HST.out]; exact conv_str ((hs.bs (by repeat (first | exact List.Mem.head _ | apply List.Mem.tail))).stays hu) HWL.out
  have hcn : ∀ b u a c, newB b 256 W (.slice a 256 c) u → (convert 43 9 (.slice a 256 c)).run Tryd.prog u = .ok (.string ST) u := fun b u a c ⟨a', c', h1, h2⟩ => by
    cases h1
    rw [HST.out]; exact conv_str h2.1 HWL.out
  have hwt : ∀ b u a c, newB b 1 [1] (.slice a 1 c) u → b ≤ u.heap.size → Calls Tryd.prog 71 #[.slice a 1 c] u fun e w' => ∃ v, e = .returned v ∧ Below u.heap.size u w' ∧ newB b 256 W v w' := fun b u a c ⟨a', c', h1, h2⟩ hbu => by
    cases h1
    exact (hwh u a c h2.1).mono fun e w' ⟨a', c', h1, h2, h3⟩ => ⟨_, h1, h3, a', c', rfl, h2.1, fun x hx => Nat.le_trans hbu (h2.2 x hx)⟩
  have heqA : ∀ u, (Op.equalIn 10000 40 (.agg #[.int .u32 4, .int .u32 0]) (.agg #[.int .u32 4, .int .u32 0])).run Tryd.prog u = .ok true u := fun u => by kernel_rfl
  have heqB : ∀ u, (Op.equalIn 10000 40 (.agg #[.int .u32 7, .int .u32 8]) (.agg #[.int .u32 7, .int .u32 8])).run Tryd.prog u = .ok true u := fun u => by kernel_rfl
  clear hge hfi hse hfr hwh
  refine UpT.wp_region_tail 30 (UpT.tell [(13, newB w1.heap.size 1 [1]), (14, newB w1.heap.size 256 W)]) (fun _ => false) (by kernel_rfl) (by kernel_rfl) (UpT.tell_steady _ (by
    intro p hp
    simp only [List.mem_cons, List.not_mem_nil, or_false] at hp
    rcases hp with rfl | rfl <;> first | exact isV_steady _ | exact slB_steady _ _ | exact newB_steady _ _ _)) ?_
  simp only [List.take_succ_cons, List.take_zero]
  iterate 12 (apply UpT.wpUp_pure; (case hw => rfl); (case hψ => rfl); (case hv => (intro wz hp; clear hp; go_simp; try (with_reducible rfl))); simp only [Act.put, List.setIfInBounds_toArray, List.set_cons_zero, List.set_cons_succ])
  apply UpT.wpUp_pure
  case hw => rfl
  case hψ => rfl
  case hv => (intro wz hp; have hcc := hcb wz hp.1; clear hp; go_simp; try (with_reducible rfl))
  simp only [Act.put, List.setIfInBounds_toArray, List.set_cons_zero, List.set_cons_succ]
  refine UpT.wpUp_make (newB w1.heap.size 1 [1]) (by rfl) (by rfl) (fun wz hp => ⟨_, _, exec_one (by rfl) (by rfl) (run_one8 wz), (Below.refl _ _).alloc (Nat.le_refl _) _, ⟨_, _, rfl, one8_bs (Blk.newAt rfl rfl), fun x hx => by cases hx; exact hp.1.size⟩, fun h => by cases h⟩) ?_
  rintro v ⟨u, _, hf⟩
  obtain ⟨a5, c5, rfl, _⟩ := hf.of 13 v _ rfl rfl
  clear hf
  simp only [Act.put, List.setIfInBounds_toArray, List.set_cons_zero, List.set_cons_succ]
  refine UpT.wpUp_call _ 71 #[.slice a5 1 c5] (by rfl) (by rfl) (by rfl) (fun wz => by go_simp) (fun wz hp => hwt _ wz a5 c5 (hp.2 13 _ _ (by kernel_rfl) rfl rfl) hp.1.size) ?_
  rintro v ⟨u, _, hf⟩
  obtain ⟨a6, c6, rfl, _⟩ := hf.of 14 v _ rfl rfl
  clear hf
  simp only [Act.put, List.setIfInBounds_toArray, List.set_cons_zero, List.set_cons_succ]
  apply UpT.wpUp_pure
  case hw => rfl
  case hψ => rfl
  case hv => (intro wz hp; have hcc := hcn _ wz a6 c6 (hp.2 14 _ _ (by kernel_rfl) rfl rfl); clear hp; go_simp; try (with_reducible rfl))
  simp only [Act.put, List.setIfInBounds_toArray, List.set_cons_zero, List.set_cons_succ]
  iterate 4 (apply UpT.wpUp_pure; (case hw => rfl); (case hψ => rfl); (case hv => (intro wz hp; clear hp; go_simp; try (with_reducible rfl))); simp only [Act.put, List.setIfInBounds_toArray, List.set_cons_zero, List.set_cons_succ])
  refine UpT.wpUp_pure (.agg #[.int .u32 4, .int .u32 0]) (by rfl) (by rfl) (fun wz hp => exec_load (by rfl) (by rfl) (hs.ldp (us := [.int .u32 4, .int .u32 0]) hp.1 ty_at (by repeat (first | exact List.Mem.head _ | apply List.Mem.tail)) HPA.out rfl)) ?_
  simp only [Act.put, List.setIfInBounds_toArray, List.set_cons_zero, List.set_cons_succ]
  refine UpT.wpUp_pure (.agg #[.int .u32 4, .int .u32 0]) (by rfl) (by rfl) (fun wz hp => exec_buildL [(0, .const (.int .u32 4)), (1, .const (.int .u32 0))] (by rfl) [(0, .int .u32 4), (1, .int .u32 0)] (by rfl) (build_at 4 0 wz)) ?_
  simp only [Act.put, List.setIfInBounds_toArray, List.set_cons_zero, List.set_cons_succ]
  iterate 4 (apply UpT.wpUp_pure; (case hw => rfl); (case hψ => rfl); (case hv => (intro wz hp; clear hp; go_simp; try (with_reducible rfl))); simp only [Act.put, List.setIfInBounds_toArray, List.set_cons_zero, List.set_cons_succ])
  refine UpT.wpUp_pure (.agg #[.int .u32 7, .int .u32 8]) (by rfl) (by rfl) (fun wz hp => exec_load (by rfl) (by rfl) (hs.ldp (us := [.int .u32 7, .int .u32 8]) hp.1 ty_at (by repeat (first | exact List.Mem.head _ | apply List.Mem.tail)) HRA.out rfl)) ?_
  simp only [Act.put, List.setIfInBounds_toArray, List.set_cons_zero, List.set_cons_succ]
  refine UpT.wpUp_pure (.agg #[.int .u32 7, .int .u32 8]) (by rfl) (by rfl) (fun wz hp => exec_buildL [(0, .const (.int .u32 7)), (1, .const (.int .u32 8))] (by rfl) [(0, .int .u32 7), (1, .int .u32 8)] (by rfl) (build_at 7 8 wz)) ?_
  simp only [Act.put, List.setIfInBounds_toArray, List.set_cons_zero, List.set_cons_succ]
  iterate 2 (apply UpT.wpUp_pure; (case hw => rfl); (case hψ => rfl); (case hv => (intro wz hp; clear hp; go_simp; try (with_reducible rfl))); simp only [Act.put, List.setIfInBounds_toArray, List.set_cons_zero, List.set_cons_succ])
  refine UpT.wpUp_end ?_
  intro w2 hb2 hf
  simp only [List.drop_succ_cons, List.drop_zero]
  replace hs := hs.stays hb2
  clear hf hb2
  go_wp2
  go_ret
  exact ⟨rfl, hs.done.1.bel⟩

end Go.Proofs.YthbldjnpnligpaaDoor
