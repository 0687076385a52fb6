/-
  The laws' helper apply: an edit.
-/
import Derived.Test.YthbldjnpnligpaaDoorG38
namespace Go.Proofs.YthbldjnpnligpaaDoor
set_option linter.unusedSimpArgs false
set_option linter.unusedVariables false
set_option maxRecDepth 100000
open Go.RowKit

/-- Cells as strings; an edit's cells. -/
def plV (pl : List (List Int)) : List Value := pl.map (fun b => Value.string (strOfNums b))
def edV (c : Int) (a : Option Addr) (n cc : Nat) (tr : Bool) : List Value := [.int .i64 c, .slice a n cc, .bool tr]
theorem vals_pl {pl : List (List Int)} (h : pl.length = 16) : Vals 16 (plV pl) := ⟨by simp [plV, h], fun v hv => by obtain ⟨b, _, rfl⟩ := List.mem_map.1 hv; rfl⟩
theorem vals_ed (c : Int) (a : Option Addr) (n cc : Nat) (tr : Bool) : Vals 3 [Value.int .i64 c, .slice a n cc, .bool tr] := ⟨rfl, by simp [Value.oneCell']⟩
theorem plV_set (pl : List (List Int)) (i : Nat) (b : List Int) : plV (pl.set i b) = (plV pl).set i (.string (strOfNums b)) := by unfold plV; rw [List.map_set]
theorem ty_plain : Ty Tryd.prog 65 16 := ⟨fun w => isAgg_array Tryd.underlying65 w, fun w => sizeOf_run (by kernel_rfl) w⟩
theorem ty_edit : Ty Tryd.prog 67 3 := ⟨fun w => isAgg_struct (show Tryd.prog.underlying 67 = some (.struct (Tryd.prog.fieldsOf 67)) by kernel_rfl) w, fun w => sizeOf_run (by kernel_rfl) w⟩
theorem ty1_bool : Ty1 Tryd.prog 4 := ⟨fun w => not_agg Tryd.underlying4 rfl w, fun w => sizeOf_run (by kernel_rfl) w⟩
theorem ty1_bytes : Ty1 Tryd.prog 43 := ⟨fun w => not_agg Tryd.underlying43 rfl w, fun w => sizeOf_run (by kernel_rfl) w⟩
theorem ty1_str : Ty1 Tryd.prog 9 := ⟨fun w => not_agg Tryd.underlying9 rfl w, fun w => sizeOf_run (by kernel_rfl) w⟩
theorem al_plain : (∀ w, (Instr.alloc 65 true (.tuple #[])).run Tryd.prog w = .ok (.pointer (some ⟨w.heap.size, 0, none⟩)) (w.alloc (.cells (plV (List.replicate 16 [])).toArray 65))) ∧ Vals 16 (plV (List.replicate 16 [])) := ⟨fun w => by kernel_rfl, vals_pl rfl⟩
theorem conv_str {w : World} {a : Option Addr} {n c : Nat} {xs : List Int} (h : Bs w a c xs) (hn : n = xs.length) : (convert 43 9 (.slice a n c)).run Tryd.prog w = .ok (.string (strOfNums xs)) w :=
  h.conv n hn 43 5 Tryd.underlying43 Tryd.underlying5 9 Tryd.underlying9
theorem ix_plain (g : Nat) {i : Nat} (hi : i < 16) (u : World) : (Instr.indexAt 65 (.pointer (some ⟨g, 0, none⟩)) (.int .i64 (i : Int))).run Tryd.prog u = .ok (.pointer (some ⟨g, i, none⟩)) u := by
  have := index_ptr (P := Tryd.prog) (t := 65) (e := 9) (n := 16) (m := 1) (g := g) (off := 0) (K := .i64) (j := i) Tryd.underlying65 (by kernel_rfl) hi u
  rw [this, Nat.zero_add, Nat.mul_one]
/-- A new slice of these bytes. -/
def newB (base n : Nat) (xs : List Int) : Value → World → Prop := fun v w => ∃ a c, v = .slice a n c ∧ NewB base w a c xs
theorem newB_steady (base n : Nat) (xs : List Int) : UpT.Steady (newB base n xs) := fun v w w' hb ⟨a, c, h1, h2⟩ => ⟨a, c, h1, h2.1.stays hb, h2.2⟩

section
variable {B : Nat} {I : (Nat → Prop) → World → Prop} {w w' : World} {L : List Ent} {T : List Sli} {P : Program} {g n : Nat} {t e : TypeId} {us : List Value} {v : Value}
theorem wp_move1 {ops : Array Oper} {rest : List Oper} {o : Oper} {a : Act} {Q : Exit → Act → World → Prop} {x : Operand} (hgd : o.guard = none) (ho : o.op = Op.move x) (hv : a.eval x = v) (hk : wpList P ops Q rest (a.put o.dst v) w) : wpList P ops Q (o :: rest) a w := by
  refine wpList_plain hgd fun K hK => ?_
  unfold Oper.wp execOp
  simp only [ho, hv, Sem.run_pure]
  exact hK _ _ hk
theorem wp_extract1 {ops : Array Oper} {rest : List Oper} {o : Oper} {a : Act} {Q : Exit → Act → World → Prop} {x : Operand} {i : Nat} {vs : Array Value} (hgd : o.guard = none) (ho : o.op = Op.extract x i) (hx : a.eval x = .tuple vs) (hv : vs[i]? = some v) (hk : wpList P ops Q rest (a.put o.dst v) w) : wpList P ops Q (o :: rest) a w := by
  refine wpList_plain hgd fun K hK => ?_
  unfold Oper.wp execOp
  simp only [ho, hx, Instr.extract, hv, Sem.run_bind, Sem.run_pure, Result.andThen_ok]
  exact hK _ _ hk
theorem sep_load1g {ops : Array Oper} {rest : List Oper} {o : Oper} {a : Act} {Q : Exit → Act → World → Prop} {off m : Nat} {vs : List Value} {x : Operand} (h : Sep B I w L T) (hw : Region.wanted o (yielded ops a.tmps) = true) (ho : o.op = Op.load t x) (hx : a.eval x = .pointer (some ⟨g, off, none⟩)) (hm : (⟨g, e, m, vs⟩ : Ent) ∈ L) (hT : Ty1 P t) (hv : vs[off]? = some v)
    (hk : wpList P ops Q rest (a.put o.dst v) w) : wpList P ops Q (o :: rest) a w := by
  refine wpList_step fun K hK => ?_
  rw [if_pos hw]
  have hr := h.ld1 (Below.refl _ _) hT hm hv
  unfold Oper.wp execOp
  simp only [ho, hx, Sem.run_bind, Sem.run_pure, Result.andThen_ok, hr]
  exact hK _ _ hk
theorem sep_ret_cct2 {a : Act} {fn : Func} {R : Ending → World → Prop} {p q r : Tmp} (h : Sep B I w L T) {g' n' : Nat} {us' : List Value} {t' e' : TypeId} (hf : fn.results = #[.cell p t, .cell q t', .tmp r]) (hd : a.defers = []) (hp : a.tmps.getD p undef = .pointer (some ⟨g, 0, none⟩)) (hq : a.tmps.getD q undef = .pointer (some ⟨g', 0, none⟩)) (hq' : a.tmps.getD r undef = v) (hT : Ty P t n) (hT' : Ty P t' n') (hm : (⟨g, e, n, us⟩ : Ent) ∈ L) (hm' : (⟨g', e', n', us'⟩ : Ent) ∈ L)
    (hR : R (.returned (.tuple #[.agg us.toArray, .agg us'.toArray, v])) w) : bodyPost P fn R .ret a w := by
  refine bodyPost_ret_by (v := .tuple #[.agg us.toArray, .agg us'.toArray, v]) ?_ hd hR
  have hr := sep_load_run h hT hm
  have hr' := sep_load_run h hT' hm'
  rw [Array.getD_eq_getD_getElem?] at hp hq hq'
  simp [results, hf, hp, hq, hq', asAddr, Sem.run_bind, hr, hr']
end

section
variable {w0 w : World} {M : Nat → Prop} {k p g : Nat} {S : DS} {n kk : Nat}
/-- What an edit leaves. -/
structure Applied (S : DS) (kk : Nat) (cs : Nat → List Pt) (c : Int) (root : Pt) (pl' : List (List Int)) (code : Int) (S2 : DS) (k2 : Nat) (ns2 : List Pt) (cs2 : Nat → List Pt) : Prop where
  keep : Keeps S kk S2 k2
  small : k2 ≤ kk + 5
  vol : Vol S2 k2 root ns2 cs2 pl'
  code : (code = 0 ∧ 0 ≤ c ∧ c < 16) ∨ (code = 1 ∧ (c < 0 ∨ 16 ≤ c))
  same : ∀ j : Nat, j < 16 → (j : Int) ≠ c → nth (cs2 (j / 4)) (j % 4) = nth (cs (j / 4)) (j % 4)
def ApplyOf (w0 w : World) (M : Nat → Prop) (k p g : Nat) (S : DS) (n kk : Nat) (cs : Nat → List Pt) (c : Int) (root : Pt) (pl' : List (List Int)) (code : Int) (w' : World) : Prop :=
  ∃ S2 k2 ns2 cs2, BS w0 w' M k p g S2 (lab n k2) 7 ∧ Stay M w w' ∧ Good n k2 S2 ∧ Applied S kk cs c root pl' code S2 k2 ns2 cs2

set_option maxHeartbeats 16000000 in
theorem apply_trim (h : BS w0 w M k p g S (lab n kk) 7) (hV : Vars w0) (hg : Good n kk S) {q : Pt} {ns : List Pt} {cs : Nat → List Pt} {pl : List (List Int)} (hv : Vol S kk q ns cs pl) {c : Int} {a : Option Addr} {cc : Nat} {bs : List Int} (hB : Bs w0 a cc bs) (hbl : bs.length ≤ 256) (hk : kk + 5 ≤ n) (hc : 0 ≤ c ∧ c < 16) :
    Calls Tryd.prog 23 #[.pointer (some ⟨k, 0, none⟩), .agg q.vs.toArray, .agg (plV pl).toArray, .agg (edV c a bs.length cc true).toArray] w fun e w' => ∃ root pl' code, e = .returned (.tuple #[.agg root.vs.toArray, .agg (plV pl').toArray, .int .i64 code]) ∧ ApplyOf w0 w M k p g S n kk cs c root pl' code w' := by
  have hqok := hv.root.ok hg.klt
  have hqv := vals_ptr hqok
  have hpv := vals_pl hv.len
  have hzv := vals_ptr Pt.zero_ok
  unfold edV
  obtain ⟨i, rfl⟩ : ∃ i : Nat, c = (i : Int) := ⟨c.toNat, by omega⟩
  have hi : i < 16 := by omega
  have h0 : (0 : Int) ≤ i := by omega
  have h16 : (i : Int) < 16 := by omega
  have hix := fun (g u) => ix_plain g hi u
  have htr : ∀ u N, BS w0 u N k p g S (lab n kk) 7 → Calls Tryd.prog 69 #[.pointer (some ⟨k, 0, none⟩), .agg q.vs.toArray, .int .i64 (i : Int)] u fun e w' => ∃ root, e = .returned (.tuple #[.agg root.vs.toArray, .int .i64 0]) ∧ EditOf w0 u N k p g S n kk cs pl i [] root w' := fun u N h1 => trim_run h1 hV hg hv hi hk
  have HPS : Hid (plV (pl.set i []) = (plV pl).set i (.string { data := #[] })) := plV_set pl i []
  have hnpv := vals_pl (pl := pl.set i []) (by rw [List.length_set]; exact hv.len)
  have hev := vals_ed i a bs.length cc true
  obtain ⟨vs, hvs⟩ : ∃ vs, vs = q.vs := ⟨_, rfl⟩
  have HVS : Hid (vs = q.vs) := hvs
  rw [← hvs] at hqv htr ⊢
  obtain ⟨pv, hpve⟩ : ∃ pv, pv = plV pl := ⟨_, rfl⟩
  have HPV : Hid (pv = plV pl) := hpve
  rw [← hpve] at hpv HPS ⊢
  obtain ⟨zp, hzpe⟩ : ∃ zp, zp = plV (List.replicate 16 []) := ⟨_, rfl⟩
  have hap := al_plain
  rw [← hzpe] at hap
  obtain ⟨nb, hnb⟩ : ∃ nb, nb = bs.length := ⟨_, rfl⟩
  have HNB : Hid (nb = bs.length) := hnb
  rw [← hnb] at hev ⊢
  have hs := BI.start h
  clear hvs hpve hzpe hnb h hg hv hqok hB
  go_enter Tryd.func23, Tryd.ntmps23
  go_wp2_with (first
    | (refine sep_box hs rfl rfl (by rfl) (by first | exact hqv | exact hpv | exact hev) ?_; clear hs; intro w1 g1 hs)
    | (refine sep_alloc hs rfl rfl (by first | exact al_ptr | exact hap) ?_; clear hs; intro w1 g1 hs)
    | (refine wpList_build0 (by rfl) 42 (by rfl) _ build_ptr0 ?_)
    | (refine sep_storew hs rfl rfl (by rfl) (by rfl) (by repeat (first | exact Upd.head | apply Upd.tail)) (by first | exact ty_ptr | exact ty_plain) (by assumption) ?_; clear hs; intro w1 hs)
    | (refine sep_load1 hs rfl rfl (by rfl) (by repeat (first | exact List.Mem.head _ | apply List.Mem.tail)) (by first | exact ty1_bool | exact ty1_int | exact ty1_bytes) rfl ?_)
    | (refine sep_load1g hs (by rfl) rfl (by rfl) (by repeat (first | exact List.Mem.head _ | apply List.Mem.tail)) ty1_int rfl ?_)
    | (refine sep_loadw hs rfl rfl (by rfl) (by repeat (first | exact List.Mem.head _ | apply List.Mem.tail)) ty_ptr ?_)
    | (refine sep_store1 hs rfl rfl (by rfl) (by rfl) rfl rfl (by repeat (first | exact Upd.head | apply Upd.tail)) ty1_str.2 HPS.out hi ?_; clear hs; intro w1 hs)
    | (go_at_call 69; go_must (refine (htr _ _ hs.bank).mono ?_); rintro e w1 ⟨root, rfl, S2, k2, ns2, cs2, h1, h2, hg2, hE⟩; replace hs := hs.turn h1 h2; have hrv := vals_ptr (hE.vol.root.ok hg2.klt); have HE : Hid _ := hE; have HG2 : Hid _ := hg2; clear h1 h2 hE hg2))
  clear htr hap hix
  refine wp_region_any (by kernel_rfl) ?_
  change wpAny _ _ _ _ _ _ _ (World.drew _)
  replace hs := hs.stays (Below.refl _ _).drew
  refine any_take 2 rfl (some 59) rfl (.int .i64 0) (by kernel_rfl) (by kernel_rfl) (by kernel_rfl) (fun _ _ _ h => h) (Or.inl ⟨by rfl, fun w => by go_simp⟩) ?_
  simp only [Act.put, List.setIfInBounds_toArray, List.set_cons_succ, List.set_cons_zero]
  refine sep_any2 0 1 (by kernel_rfl) rfl rfl (fun K hK => sep_step_loadw hs rfl rfl (by rfl) (by repeat (first | exact List.Mem.head _ | apply List.Mem.tail)) (by first | exact ty_ptr | exact ty_plain) (hK _ _ ?_)) (fun K hK => sep_step_loadw hs rfl rfl (by rfl) (by repeat (first | exact List.Mem.head _ | apply List.Mem.tail)) (by first | exact ty_ptr | exact ty_plain) (hK _ _ ?_))
  · simp only [Act.put, List.setIfInBounds_toArray, List.set_cons_succ, List.set_cons_zero]
    refine sep_any2 1 3 (by kernel_rfl) rfl rfl (fun K hK => sep_step_loadw hs rfl rfl (by rfl) (by repeat (first | exact List.Mem.head _ | apply List.Mem.tail)) (by first | exact ty_ptr | exact ty_plain) (hK _ _ ?_)) (fun K hK => sep_step_storew hs rfl rfl (by rfl) (by rfl) (by repeat (first | exact Upd.head | apply Upd.tail)) (by first | exact ty_ptr | exact ty_plain) (by assumption) (fun w1 hs => hK _ _ ?_))
    · simp only [Act.put, List.setIfInBounds_toArray, List.set_cons_succ, List.set_cons_zero]
      refine sep_any1 3 (by kernel_rfl) rfl (fun K hK => sep_step_storew hs rfl rfl (by rfl) (by rfl) (by repeat (first | exact Upd.head | apply Upd.tail)) (by first | exact ty_ptr | exact ty_plain) (by assumption) (fun w1 hs => hK _ _ ?_))
      simp only [Act.put, List.setIfInBounds_toArray, List.set_cons_succ, List.set_cons_zero]
      refine any_seq 4 (by rfl) (by kernel_rfl) ?_
      simp only [List.drop_succ_cons, List.drop_zero]
      go_wp2_with (refine sep_storew hs rfl rfl (by rfl) (by rfl) (by repeat (first | exact Upd.head | apply Upd.tail)) (by first | exact ty_ptr | exact ty_plain) (by assumption) ?_; clear hs; intro w1 hs)
      exact sep_ret_cct2 hs rfl rfl (by rfl) (by rfl) (by rfl) ty_ptr ty_plain (by repeat (first | exact List.Mem.head _ | apply List.Mem.tail)) (by repeat (first | exact List.Mem.head _ | apply List.Mem.tail)) ⟨root, pl.set i [], 0, rfl, S2, k2, ns2, cs2, hs.done.1, hs.done.2, HG2.out, Edited.keep HE.out, Edited.small HE.out, Edited.vol HE.out, .inl ⟨rfl, h0, h16⟩, fun j hj hne => Edited.same HE.out j hj (fun e => hne (by rw [e]))⟩
    · simp only [Act.put, List.setIfInBounds_toArray, List.set_cons_succ, List.set_cons_zero]
      refine sep_any1 1 (by kernel_rfl) rfl (fun K hK => sep_step_loadw hs rfl rfl (by rfl) (by repeat (first | exact List.Mem.head _ | apply List.Mem.tail)) (by first | exact ty_ptr | exact ty_plain) (hK _ _ ?_))
      simp only [Act.put, List.setIfInBounds_toArray, List.set_cons_succ, List.set_cons_zero]
      refine any_seq 4 (by rfl) (by kernel_rfl) ?_
      simp only [List.drop_succ_cons, List.drop_zero]
      go_wp2_with (refine sep_storew hs rfl rfl (by rfl) (by rfl) (by repeat (first | exact Upd.head | apply Upd.tail)) (by first | exact ty_ptr | exact ty_plain) (by assumption) ?_; clear hs; intro w1 hs)
      exact sep_ret_cct2 hs rfl rfl (by rfl) (by rfl) (by rfl) ty_ptr ty_plain (by repeat (first | exact List.Mem.head _ | apply List.Mem.tail)) (by repeat (first | exact List.Mem.head _ | apply List.Mem.tail)) ⟨root, pl.set i [], 0, rfl, S2, k2, ns2, cs2, hs.done.1, hs.done.2, HG2.out, Edited.keep HE.out, Edited.small HE.out, Edited.vol HE.out, .inl ⟨rfl, h0, h16⟩, fun j hj hne => Edited.same HE.out j hj (fun e => hne (by rw [e]))⟩
  · simp only [Act.put, List.setIfInBounds_toArray, List.set_cons_succ, List.set_cons_zero]
    refine sep_any1 0 (by kernel_rfl) rfl (fun K hK => sep_step_loadw hs rfl rfl (by rfl) (by repeat (first | exact List.Mem.head _ | apply List.Mem.tail)) (by first | exact ty_ptr | exact ty_plain) (hK _ _ ?_))
    simp only [Act.put, List.setIfInBounds_toArray, List.set_cons_succ, List.set_cons_zero]
    refine sep_any1 3 (by kernel_rfl) rfl (fun K hK => sep_step_storew hs rfl rfl (by rfl) (by rfl) (by repeat (first | exact Upd.head | apply Upd.tail)) (by first | exact ty_ptr | exact ty_plain) (by assumption) (fun w1 hs => hK _ _ ?_))
    simp only [Act.put, List.setIfInBounds_toArray, List.set_cons_succ, List.set_cons_zero]
    refine any_seq 4 (by rfl) (by kernel_rfl) ?_
    simp only [List.drop_succ_cons, List.drop_zero]
    go_wp2_with (refine sep_storew hs rfl rfl (by rfl) (by rfl) (by repeat (first | exact Upd.head | apply Upd.tail)) (by first | exact ty_ptr | exact ty_plain) (by assumption) ?_; clear hs; intro w1 hs)
    exact sep_ret_cct2 hs rfl rfl (by rfl) (by rfl) (by rfl) ty_ptr ty_plain (by repeat (first | exact List.Mem.head _ | apply List.Mem.tail)) (by repeat (first | exact List.Mem.head _ | apply List.Mem.tail)) ⟨root, pl.set i [], 0, rfl, S2, k2, ns2, cs2, hs.done.1, hs.done.2, HG2.out, Edited.keep HE.out, Edited.small HE.out, Edited.vol HE.out, .inl ⟨rfl, h0, h16⟩, fun j hj hne => Edited.same HE.out j hj (fun e => hne (by rw [e]))⟩

set_option maxHeartbeats 16000000 in
theorem apply_trim_no (h : BS w0 w M k p g S (lab n kk) 7) (hV : Vars w0) (hg : Good n kk S) {q : Pt} {ns : List Pt} {cs : Nat → List Pt} {pl : List (List Int)} (hv : Vol S kk q ns cs pl) {c : Int} {a : Option Addr} {cc : Nat} {bs : List Int} (hB : Bs w0 a cc bs) (hbl : bs.length ≤ 256) (hk : kk + 5 ≤ n) (hc : c < 0 ∨ 16 ≤ c) :
    Calls Tryd.prog 23 #[.pointer (some ⟨k, 0, none⟩), .agg q.vs.toArray, .agg (plV pl).toArray, .agg (edV c a bs.length cc true).toArray] w fun e w' => ∃ root pl' code, e = .returned (.tuple #[.agg root.vs.toArray, .agg (plV pl').toArray, .int .i64 code]) ∧ ApplyOf w0 w M k p g S n kk cs c root pl' code w' := by
  have hqok := hv.root.ok hg.klt
  have hqv := vals_ptr hqok
  have hpv := vals_pl hv.len
  have hzv := vals_ptr Pt.zero_ok
  unfold edV
  have htr := fun u => trim_no (k := k) q hqok hc u
  have hev := vals_ed c a bs.length cc true
  obtain ⟨vs, hvs⟩ : ∃ vs, vs = q.vs := ⟨_, rfl⟩
  have HVS : Hid (vs = q.vs) := hvs
  rw [← hvs] at hqv htr ⊢
  obtain ⟨pv, hpve⟩ : ∃ pv, pv = plV pl := ⟨_, rfl⟩
  have HPV : Hid (pv = plV pl) := hpve
  rw [← hpve] at hpv ⊢
  obtain ⟨zp, hzpe⟩ : ∃ zp, zp = plV (List.replicate 16 []) := ⟨_, rfl⟩
  have hap := al_plain
  rw [← hzpe] at hap
  obtain ⟨nb, hnb⟩ : ∃ nb, nb = bs.length := ⟨_, rfl⟩
  have HNB : Hid (nb = bs.length) := hnb
  rw [← hnb] at hev ⊢
  have hs := BI.start h
  clear hvs hpve hzpe hnb h hqok 
  go_enter Tryd.func23, Tryd.ntmps23
  go_wp2_with (first
    | (refine sep_box hs rfl rfl (by rfl) (by first | exact hqv | exact hpv | exact hev) ?_; clear hs; intro w1 g1 hs)
    | (refine sep_alloc hs rfl rfl (by first | exact al_ptr | exact hap) ?_; clear hs; intro w1 g1 hs)
    | (refine wpList_build0 (by rfl) 42 (by rfl) _ build_ptr0 ?_)
    | (refine sep_storew hs rfl rfl (by rfl) (by rfl) (by repeat (first | exact Upd.head | apply Upd.tail)) (by first | exact ty_ptr | exact ty_plain) (by assumption) ?_; clear hs; intro w1 hs)
    | (refine sep_load1 hs rfl rfl (by rfl) (by repeat (first | exact List.Mem.head _ | apply List.Mem.tail)) (by first | exact ty1_bool | exact ty1_int | exact ty1_bytes) rfl ?_)
    | (refine sep_load1g hs (by rfl) rfl (by rfl) (by repeat (first | exact List.Mem.head _ | apply List.Mem.tail)) ty1_int rfl ?_)
    | (refine sep_loadw hs rfl rfl (by rfl) (by repeat (first | exact List.Mem.head _ | apply List.Mem.tail)) ty_ptr ?_)
    | (go_at_call 69; go_must (refine (htr _).mono ?_); rintro e w1 ⟨rfl, hb1⟩; replace hs := hs.stays hb1; clear hb1))
  clear htr hap
  refine wp_region_any (by kernel_rfl) ?_
  change wpAny _ _ _ _ _ _ _ (World.drew _)
  replace hs := hs.stays (Below.refl _ _).drew
  refine any_take 2 rfl (some 44) rfl (.int .i64 1) (by kernel_rfl) (by kernel_rfl) (by kernel_rfl) (fun _ _ _ h => h) (Or.inl ⟨by rfl, fun w => by go_simp⟩) ?_
  simp only [Act.put, List.setIfInBounds_toArray, List.set_cons_succ, List.set_cons_zero]
  refine sep_any2 0 1 (by kernel_rfl) rfl rfl (fun K hK => sep_step_loadw hs rfl rfl (by rfl) (by repeat (first | exact List.Mem.head _ | apply List.Mem.tail)) (by first | exact ty_ptr | exact ty_plain) (hK _ _ ?_)) (fun K hK => sep_step_loadw hs rfl rfl (by rfl) (by repeat (first | exact List.Mem.head _ | apply List.Mem.tail)) (by first | exact ty_ptr | exact ty_plain) (hK _ _ ?_))
  · simp only [Act.put, List.setIfInBounds_toArray, List.set_cons_succ, List.set_cons_zero]
    refine sep_any2 1 3 (by kernel_rfl) rfl rfl (fun K hK => sep_step_loadw hs rfl rfl (by rfl) (by repeat (first | exact List.Mem.head _ | apply List.Mem.tail)) (by first | exact ty_ptr | exact ty_plain) (hK _ _ ?_)) (fun K hK => sep_step_storew hs rfl rfl (by rfl) (by rfl) (by repeat (first | exact Upd.head | apply Upd.tail)) (by first | exact ty_ptr | exact ty_plain) (by assumption) (fun w1 hs => hK _ _ ?_))
    · simp only [Act.put, List.setIfInBounds_toArray, List.set_cons_succ, List.set_cons_zero]
      refine sep_any1 3 (by kernel_rfl) rfl (fun K hK => sep_step_storew hs rfl rfl (by rfl) (by rfl) (by repeat (first | exact Upd.head | apply Upd.tail)) (by first | exact ty_ptr | exact ty_plain) (by assumption) (fun w1 hs => hK _ _ ?_))
      simp only [Act.put, List.setIfInBounds_toArray, List.set_cons_succ, List.set_cons_zero]
      refine any_seq 4 (by rfl) (by kernel_rfl) ?_
      simp only [List.drop_succ_cons, List.drop_zero]
      go_wp2_with (refine sep_storew hs rfl rfl (by rfl) (by rfl) (by repeat (first | exact Upd.head | apply Upd.tail)) (by first | exact ty_ptr | exact ty_plain) (by assumption) ?_; clear hs; intro w1 hs)
      exact sep_ret_cct2 hs rfl rfl (by rfl) (by rfl) (by rfl) ty_ptr ty_plain (by repeat (first | exact List.Mem.head _ | apply List.Mem.tail)) (by repeat (first | exact List.Mem.head _ | apply List.Mem.tail)) ⟨q, pl, 1, by rw [← HVS.out, ← HPV.out]; rfl, S, kk, ns, cs, hs.done.1, hs.done.2, hg, Keeps.refl _ _, by omega, hv, .inr ⟨rfl, hc⟩, fun _ _ _ => rfl⟩
    · simp only [Act.put, List.setIfInBounds_toArray, List.set_cons_succ, List.set_cons_zero]
      refine sep_any1 1 (by kernel_rfl) rfl (fun K hK => sep_step_loadw hs rfl rfl (by rfl) (by repeat (first | exact List.Mem.head _ | apply List.Mem.tail)) (by first | exact ty_ptr | exact ty_plain) (hK _ _ ?_))
      simp only [Act.put, List.setIfInBounds_toArray, List.set_cons_succ, List.set_cons_zero]
      refine any_seq 4 (by rfl) (by kernel_rfl) ?_
      simp only [List.drop_succ_cons, List.drop_zero]
      go_wp2_with (refine sep_storew hs rfl rfl (by rfl) (by rfl) (by repeat (first | exact Upd.head | apply Upd.tail)) (by first | exact ty_ptr | exact ty_plain) (by assumption) ?_; clear hs; intro w1 hs)
      exact sep_ret_cct2 hs rfl rfl (by rfl) (by rfl) (by rfl) ty_ptr ty_plain (by repeat (first | exact List.Mem.head _ | apply List.Mem.tail)) (by repeat (first | exact List.Mem.head _ | apply List.Mem.tail)) ⟨q, pl, 1, by rw [← HVS.out, ← HPV.out]; rfl, S, kk, ns, cs, hs.done.1, hs.done.2, hg, Keeps.refl _ _, by omega, hv, .inr ⟨rfl, hc⟩, fun _ _ _ => rfl⟩
  · simp only [Act.put, List.setIfInBounds_toArray, List.set_cons_succ, List.set_cons_zero]
    refine sep_any1 0 (by kernel_rfl) rfl (fun K hK => sep_step_loadw hs rfl rfl (by rfl) (by repeat (first | exact List.Mem.head _ | apply List.Mem.tail)) (by first | exact ty_ptr | exact ty_plain) (hK _ _ ?_))
    simp only [Act.put, List.setIfInBounds_toArray, List.set_cons_succ, List.set_cons_zero]
    refine sep_any1 3 (by kernel_rfl) rfl (fun K hK => sep_step_storew hs rfl rfl (by rfl) (by rfl) (by repeat (first | exact Upd.head | apply Upd.tail)) (by first | exact ty_ptr | exact ty_plain) (by assumption) (fun w1 hs => hK _ _ ?_))
    simp only [Act.put, List.setIfInBounds_toArray, List.set_cons_succ, List.set_cons_zero]
    refine any_seq 4 (by rfl) (by kernel_rfl) ?_
    simp only [List.drop_succ_cons, List.drop_zero]
    go_wp2_with (refine sep_storew hs rfl rfl (by rfl) (by rfl) (by repeat (first | exact Upd.head | apply Upd.tail)) (by first | exact ty_ptr | exact ty_plain) (by assumption) ?_; clear hs; intro w1 hs)
    exact sep_ret_cct2 hs rfl rfl (by rfl) (by rfl) (by rfl) ty_ptr ty_plain (by repeat (first | exact List.Mem.head _ | apply List.Mem.tail)) (by repeat (first | exact List.Mem.head _ | apply List.Mem.tail)) ⟨q, pl, 1, by rw [← HVS.out, ← HPV.out]; rfl, S, kk, ns, cs, hs.done.1, hs.done.2, hg, Keeps.refl _ _, by omega, hv, .inr ⟨rfl, hc⟩, fun _ _ _ => rfl⟩

set_option maxHeartbeats 16000000 in
theorem apply_set (h : BS w0 w M k p g S (lab n kk) 7) (hV : Vars w0) (hg : Good n kk S) {q : Pt} {ns : List Pt} {cs : Nat → List Pt} {pl : List (List Int)} (hv : Vol S kk q ns cs pl) {c : Int} {a : Option Addr} {cc : Nat} {bs : List Int} (hB : Bs w0 a cc bs) (hbl : bs.length ≤ 256) (hk : kk + 5 ≤ n) (hc : 0 ≤ c ∧ c < 16) :
    Calls Tryd.prog 23 #[.pointer (some ⟨k, 0, none⟩), .agg q.vs.toArray, .agg (plV pl).toArray, .agg (edV c a bs.length cc false).toArray] w fun e w' => ∃ root pl' code, e = .returned (.tuple #[.agg root.vs.toArray, .agg (plV pl').toArray, .int .i64 code]) ∧ ApplyOf w0 w M k p g S n kk cs c root pl' code w' := by
  have hqok := hv.root.ok hg.klt
  have hqv := vals_ptr hqok
  have hpv := vals_pl hv.len
  have hzv := vals_ptr Pt.zero_ok
  unfold edV
  obtain ⟨i, rfl⟩ : ∃ i : Nat, c = (i : Int) := ⟨c.toNat, by omega⟩
  have hi : i < 16 := by omega
  have h0 : (0 : Int) ≤ i := by omega
  have h16 : (i : Int) < 16 := by omega
  have hix := fun (g u) => ix_plain g hi u
  have hwl := wholeL_len hbl
  have hwr : ∀ x ∈ wholeL bs, 0 ≤ x ∧ x ≤ 255 := wholeL_rng hB.rng _
  have hwh : ∀ u, Below w0.heap.size w0 u → Calls Tryd.prog 71 #[.slice a bs.length cc] u fun e w' => ∃ a' c', e = .returned (.slice a' 256 c') ∧ NewB u.heap.size w' a' c' (wholeL bs) ∧ Below u.heap.size u w' := fun u hu => by
    have := whole9_run a cc bs u (hB.stays hu) (by omega)
    rw [hwl] at this
    exact this
  have hwt : ∀ b u, Below w0.heap.size w0 u → b ≤ u.heap.size → Calls Tryd.prog 71 #[.slice a bs.length cc] u fun e w' => ∃ v, e = .returned v ∧ Below u.heap.size u w' ∧ newB b 256 (wholeL bs) v w' := fun b u hu hbu =>
    (hwh u hu).mono fun e w' ⟨a', c', h1, h2, h3⟩ => ⟨_, h1, h3, a', c', rfl, h2.1, fun x hx => Nat.le_trans hbu (h2.2 x hx)⟩
  have hse : ∀ u N a' c', BS w0 u N k p g S (lab n kk) 7 → Bs u a' c' (wholeL bs) → (∀ x, a' = some x → N x.block) → Calls Tryd.prog 70 #[.pointer (some ⟨k, 0, none⟩), .agg q.vs.toArray, .int .i64 (i : Int), .slice a' 256 c'] u fun e w' => ∃ root, e = .returned (.tuple #[.agg root.vs.toArray, .int .i64 0]) ∧ EditOf w0 u N k p g S n kk cs pl i (wholeL bs) root w' := fun u N a' c' h1 h2 h3 => set_run h1 hV hg hv hi h2 h3 hwl hwr hk
  obtain ⟨W, hW⟩ : ∃ W, W = wholeL bs := ⟨_, rfl⟩
  have HW : Hid (W = wholeL bs) := hW
  rw [← hW] at hwl hwh hwt hse hwr
  obtain ⟨ST, hST⟩ : ∃ ST, ST = strOfNums W := ⟨_, rfl⟩
  have HST : Hid (ST = strOfNums W) := hST
  have HPS : Hid (plV (pl.set i W) = (plV pl).set i (.string ST)) := by show _ = _; rw [hST]; exact plV_set pl i W
  have hnpv := vals_pl (pl := pl.set i W) (by rw [List.length_set]; exact hv.len)
  have hne : W ≠ [] := fun e => by rw [e] at hwl; simp at hwl
  have HWL : Hid (256 = W.length) := hwl.symm
  have hev := vals_ed i a bs.length cc false
  obtain ⟨vs, hvs⟩ : ∃ vs, vs = q.vs := ⟨_, rfl⟩
  have HVS : Hid (vs = q.vs) := hvs
  rw [← hvs] at hqv hse ⊢
  obtain ⟨pv, hpve⟩ : ∃ pv, pv = plV pl := ⟨_, rfl⟩
  have HPV : Hid (pv = plV pl) := hpve
  rw [← hpve] at hpv HPS ⊢
  obtain ⟨zp, hzpe⟩ : ∃ zp, zp = plV (List.replicate 16 []) := ⟨_, rfl⟩
  have hap := al_plain
  rw [← hzpe] at hap
  obtain ⟨nb, hnb⟩ : ∃ nb, nb = bs.length := ⟨_, rfl⟩
  have HNB : Hid (nb = bs.length) := hnb
  rw [← hnb] at hev hwh hwt ⊢
  have hs := BI.start h
  clear hvs hpve hzpe hnb h hg hv hqok hB hW hST hwl hwr
  go_enter Tryd.func23, Tryd.ntmps23
  go_wp2_with (first
    | (refine sep_box hs rfl rfl (by rfl) (by first | exact hqv | exact hpv | exact hev) ?_; clear hs; intro w1 g1 hs)
    | (refine sep_alloc hs rfl rfl (by first | exact al_ptr | exact hap) ?_; clear hs; intro w1 g1 hs)
    | (refine wpList_build0 (by rfl) 42 (by rfl) _ build_ptr0 ?_)
    | (refine sep_storew hs rfl rfl (by rfl) (by rfl) (by repeat (first | exact Upd.head | apply Upd.tail)) (by first | exact ty_ptr | exact ty_plain) (by assumption) ?_; clear hs; intro w1 hs)
    | (refine sep_load1 hs rfl rfl (by rfl) (by repeat (first | exact List.Mem.head _ | apply List.Mem.tail)) (by first | exact ty1_bool | exact ty1_int | exact ty1_bytes) rfl ?_)
    | (refine sep_load1g hs (by rfl) rfl (by rfl) (by repeat (first | exact List.Mem.head _ | apply List.Mem.tail)) ty1_int rfl ?_)
    | (refine sep_loadw hs rfl rfl (by rfl) (by repeat (first | exact List.Mem.head _ | apply List.Mem.tail)) ty_ptr ?_)
    | (refine sep_store1 hs rfl rfl (by rfl) (by rfl) rfl rfl (by repeat (first | exact Upd.head | apply Upd.tail)) ty1_str.2 HPS.out hi ?_; clear hs; intro w1 hs))
  clear hap
  refine UpT.wp_region_seq 7 [7, 8, 9, 10, 11, 12] (UpT.tell [(6, newB w1.heap.size 256 W)]) (fun _ => false) (by kernel_rfl) (by kernel_rfl) (UpT.tell_steady _ (by
    intro p hp
    simp only [List.mem_cons, List.not_mem_nil, or_false] at hp
    rcases hp with rfl <;> first | exact isV_steady _ | exact slB_steady _ _ | exact newB_steady _ _ _)) ?_
  simp only [List.take_succ_cons, List.take_zero]
  iterate 1 (apply UpT.wpUp_pure; (case hw => rfl); (case hψ => rfl); (case hv => (intro wz hp; clear hp; go_simp; try (with_reducible rfl))); simp only [Act.put, List.setIfInBounds_toArray, List.set_cons_zero, List.set_cons_succ])
  refine UpT.wpUp_pure (.agg vs.toArray) (by rfl) (by rfl) (fun wz hp => exec_load (by rfl) (by rfl) (hs.ld hp.1 ty_ptr (by repeat (first | exact List.Mem.head _ | apply List.Mem.tail)))) ?_
  simp only [Act.put, List.setIfInBounds_toArray, List.set_cons_zero, List.set_cons_succ]
  iterate 1 (apply UpT.wpUp_pure; (case hw => rfl); (case hψ => rfl); (case hv => (intro wz hp; clear hp; go_simp; try (with_reducible rfl))); simp only [Act.put, List.setIfInBounds_toArray, List.set_cons_zero, List.set_cons_succ])
  refine UpT.wpUp_pure (.int .i64 i) (by rfl) (by rfl) (fun wz hp => exec_load (by rfl) (by rfl) (hs.ld1 hp.1 ty1_int (by repeat (first | exact List.Mem.head _ | apply List.Mem.tail)) rfl)) ?_
  simp only [Act.put, List.setIfInBounds_toArray, List.set_cons_zero, List.set_cons_succ]
  iterate 1 (apply UpT.wpUp_pure; (case hw => rfl); (case hψ => rfl); (case hv => (intro wz hp; clear hp; go_simp; try (with_reducible rfl))); simp only [Act.put, List.setIfInBounds_toArray, List.set_cons_zero, List.set_cons_succ])
  refine UpT.wpUp_pure (.slice a nb cc) (by rfl) (by rfl) (fun wz hp => exec_load (by rfl) (by rfl) (hs.ld1 hp.1 ty1_bytes (by repeat (first | exact List.Mem.head _ | apply List.Mem.tail)) rfl)) ?_
  simp only [Act.put, List.setIfInBounds_toArray, List.set_cons_zero, List.set_cons_succ]
  refine UpT.wpUp_call _ 71 #[.slice a nb cc] (by rfl) (by rfl) (by rfl) (fun wz => by go_simp) (fun wz hp => hwt w1.heap.size wz (below_then hs.bank.bel hp.1) hp.1.size) ?_
  rintro v ⟨u, _, hf⟩
  obtain ⟨a2, c2, rfl, _⟩ := hf.of 6 v _ rfl rfl
  clear hf
  simp only [Act.put, List.setIfInBounds_toArray, List.set_cons_zero, List.set_cons_succ]
  refine UpT.wpUp_end ?_
  intro w2 hb2 hf
  simp only [UpT.opsAt, List.filterMap_cons, List.filterMap_nil, List.getElem?_toArray, List.getElem?_cons_zero, List.getElem?_cons_succ]
  obtain ⟨a3, c3, he, hN⟩ := hf.of 6 _ _ rfl rfl
  obtain ⟨rfl, rfl⟩ : a2 = a3 ∧ c2 = c3 := by simpa using he
  replace hs := hs.slice hb2 hN.1 hN.2 hne
  clear hf he hN hb2
  go_wp2_with (first
    | (refine sep_box hs rfl rfl (by rfl) (by first | exact hqv | exact hpv | exact hev) ?_; clear hs; intro w1 g1 hs)
    | (refine sep_alloc hs rfl rfl (by first | exact al_ptr | exact hap) ?_; clear hs; intro w1 g1 hs)
    | (refine wpList_build0 (by rfl) 42 (by rfl) _ build_ptr0 ?_)
    | (refine sep_storew hs rfl rfl (by rfl) (by rfl) (by repeat (first | exact Upd.head | apply Upd.tail)) (by first | exact ty_ptr | exact ty_plain) (by assumption) ?_; clear hs; intro w1 hs)
    | (refine sep_load1 hs rfl rfl (by rfl) (by repeat (first | exact List.Mem.head _ | apply List.Mem.tail)) (by first | exact ty1_bool | exact ty1_int | exact ty1_bytes) rfl ?_)
    | (refine sep_load1g hs (by rfl) rfl (by rfl) (by repeat (first | exact List.Mem.head _ | apply List.Mem.tail)) ty1_int rfl ?_)
    | (refine sep_loadw hs rfl rfl (by rfl) (by repeat (first | exact List.Mem.head _ | apply List.Mem.tail)) ty_ptr ?_)
    | (go_at_call 70; go_must (refine (hse _ _ _ _ hs.bank (hs.bs (by repeat (first | exact List.Mem.head _ | apply List.Mem.tail))) (fun x hx => .inr (Sep.mine_sl (by repeat (first | exact List.Mem.head _ | apply List.Mem.tail)) hx))).mono ?_); rintro e w1 ⟨root, rfl, S2, k2, ns2, cs2, h1, h2, hg2, hE⟩; replace hs := hs.turn h1 h2; have hrv := vals_ptr (hE.vol.root.ok hg2.klt); have HE : Hid _ := hE; have HG2 : Hid _ := hg2; clear h1 h2 hE hg2; dsimp only []; apply_assumption; refine wp_move1 rfl rfl (by rfl) ?_; simp only [Act.put, List.setIfInBounds_toArray, List.set_cons_zero, List.set_cons_succ]; refine wp_extract1 rfl rfl (by rfl) (by rfl) ?_; simp only [Act.put, List.setIfInBounds_toArray, List.set_cons_zero, List.set_cons_succ]; refine wp_extract1 rfl rfl (by rfl) (by rfl) ?_; simp only [Act.put, List.setIfInBounds_toArray, List.set_cons_zero, List.set_cons_succ]; refine sep_storew hs rfl rfl (by rfl) (by rfl) (by repeat (first | exact Upd.head | apply Upd.tail)) ty_ptr (by assumption) ?_; clear hs; intro w1 hs; go_wp2))
  dsimp only [midQ]
  go_wp2_with (first
    | (refine sep_box hs rfl rfl (by rfl) (by first | exact hqv | exact hpv | exact hev) ?_; clear hs; intro w1 g1 hs)
    | (refine sep_alloc hs rfl rfl (by first | exact al_ptr | exact hap) ?_; clear hs; intro w1 g1 hs)
    | (refine wpList_build0 (by rfl) 42 (by rfl) _ build_ptr0 ?_)
    | (refine sep_storew hs rfl rfl (by rfl) (by rfl) (by repeat (first | exact Upd.head | apply Upd.tail)) (by first | exact ty_ptr | exact ty_plain) (by assumption) ?_; clear hs; intro w1 hs)
    | (refine sep_load1 hs rfl rfl (by rfl) (by repeat (first | exact List.Mem.head _ | apply List.Mem.tail)) (by first | exact ty1_bool | exact ty1_int | exact ty1_bytes) rfl ?_)
    | (refine sep_load1g hs (by rfl) rfl (by rfl) (by repeat (first | exact List.Mem.head _ | apply List.Mem.tail)) ty1_int rfl ?_)
    | (refine sep_loadw hs rfl rfl (by rfl) (by repeat (first | exact List.Mem.head _ | apply List.Mem.tail)) ty_ptr ?_)
    | (refine sep_store1 hs rfl rfl (by rfl) (by rfl) rfl rfl (by repeat (first | exact Upd.head | apply Upd.tail)) ty1_str.2 HPS.out hi ?_; clear hs; intro w1 hs)
    | (go_at_call 71; go_must (refine (hwh _ hs.bank.bel).mono ?_); rintro e w1 ⟨a3, c3, rfl, hN3, hb3⟩; replace hs := hs.stays hb3; have hcv := conv_str hN3.1 HWL.out; rw [← HST.out] at hcv; clear hN3 hb3))
  clear hse hix hwh hwt
  refine wp_region_any (by kernel_rfl) ?_
  change wpAny _ _ _ _ _ _ _ (World.drew _)
  replace hs := hs.stays (Below.refl _ _).drew
  refine any_take 2 rfl (some 59) rfl (.int .i64 0) (by kernel_rfl) (by kernel_rfl) (by kernel_rfl) (fun _ _ _ h => h) (Or.inl ⟨by rfl, fun w => by go_simp⟩) ?_
  simp only [Act.put, List.setIfInBounds_toArray, List.set_cons_succ, List.set_cons_zero]
  refine sep_any2 0 1 (by kernel_rfl) rfl rfl (fun K hK => sep_step_loadw hs rfl rfl (by rfl) (by repeat (first | exact List.Mem.head _ | apply List.Mem.tail)) (by first | exact ty_ptr | exact ty_plain) (hK _ _ ?_)) (fun K hK => sep_step_loadw hs rfl rfl (by rfl) (by repeat (first | exact List.Mem.head _ | apply List.Mem.tail)) (by first | exact ty_ptr | exact ty_plain) (hK _ _ ?_))
  · simp only [Act.put, List.setIfInBounds_toArray, List.set_cons_succ, List.set_cons_zero]
    refine sep_any2 1 3 (by kernel_rfl) rfl rfl (fun K hK => sep_step_loadw hs rfl rfl (by rfl) (by repeat (first | exact List.Mem.head _ | apply List.Mem.tail)) (by first | exact ty_ptr | exact ty_plain) (hK _ _ ?_)) (fun K hK => sep_step_storew hs rfl rfl (by rfl) (by rfl) (by repeat (first | exact Upd.head | apply Upd.tail)) (by first | exact ty_ptr | exact ty_plain) (by assumption) (fun w1 hs => hK _ _ ?_))
    · simp only [Act.put, List.setIfInBounds_toArray, List.set_cons_succ, List.set_cons_zero]
      refine sep_any1 3 (by kernel_rfl) rfl (fun K hK => sep_step_storew hs rfl rfl (by rfl) (by rfl) (by repeat (first | exact Upd.head | apply Upd.tail)) (by first | exact ty_ptr | exact ty_plain) (by assumption) (fun w1 hs => hK _ _ ?_))
      simp only [Act.put, List.setIfInBounds_toArray, List.set_cons_succ, List.set_cons_zero]
      refine any_seq 4 (by rfl) (by kernel_rfl) ?_
      simp only [List.drop_succ_cons, List.drop_zero]
      go_wp2_with (refine sep_storew hs rfl rfl (by rfl) (by rfl) (by repeat (first | exact Upd.head | apply Upd.tail)) (by first | exact ty_ptr | exact ty_plain) (by assumption) ?_; clear hs; intro w1 hs)
      exact sep_ret_cct2 hs rfl rfl (by rfl) (by rfl) (by rfl) ty_ptr ty_plain (by repeat (first | exact List.Mem.head _ | apply List.Mem.tail)) (by repeat (first | exact List.Mem.head _ | apply List.Mem.tail)) ⟨root, pl.set i W, 0, rfl, S2, k2, ns2, cs2, hs.done.1, hs.done.2, HG2.out, Edited.keep HE.out, Edited.small HE.out, Edited.vol HE.out, .inl ⟨rfl, h0, h16⟩, fun j hj hne => Edited.same HE.out j hj (fun e => hne (by rw [e]))⟩
    · simp only [Act.put, List.setIfInBounds_toArray, List.set_cons_succ, List.set_cons_zero]
      refine sep_any1 1 (by kernel_rfl) rfl (fun K hK => sep_step_loadw hs rfl rfl (by rfl) (by repeat (first | exact List.Mem.head _ | apply List.Mem.tail)) (by first | exact ty_ptr | exact ty_plain) (hK _ _ ?_))
      simp only [Act.put, List.setIfInBounds_toArray, List.set_cons_succ, List.set_cons_zero]
      refine any_seq 4 (by rfl) (by kernel_rfl) ?_
      simp only [List.drop_succ_cons, List.drop_zero]
      go_wp2_with (refine sep_storew hs rfl rfl (by rfl) (by rfl) (by repeat (first | exact Upd.head | apply Upd.tail)) (by first | exact ty_ptr | exact ty_plain) (by assumption) ?_; clear hs; intro w1 hs)
      exact sep_ret_cct2 hs rfl rfl (by rfl) (by rfl) (by rfl) ty_ptr ty_plain (by repeat (first | exact List.Mem.head _ | apply List.Mem.tail)) (by repeat (first | exact List.Mem.head _ | apply List.Mem.tail)) ⟨root, pl.set i W, 0, rfl, S2, k2, ns2, cs2, hs.done.1, hs.done.2, HG2.out, Edited.keep HE.out, Edited.small HE.out, Edited.vol HE.out, .inl ⟨rfl, h0, h16⟩, fun j hj hne => Edited.same HE.out j hj (fun e => hne (by rw [e]))⟩
  · simp only [Act.put, List.setIfInBounds_toArray, List.set_cons_succ, List.set_cons_zero]
    refine sep_any1 0 (by kernel_rfl) rfl (fun K hK => sep_step_loadw hs rfl rfl (by rfl) (by repeat (first | exact List.Mem.head _ | apply List.Mem.tail)) (by first | exact ty_ptr | exact ty_plain) (hK _ _ ?_))
    simp only [Act.put, List.setIfInBounds_toArray, List.set_cons_succ, List.set_cons_zero]
    refine sep_any1 3 (by kernel_rfl) rfl (fun K hK => sep_step_storew hs rfl rfl (by rfl) (by rfl) (by repeat (first | exact Upd.head | apply Upd.tail)) (by first | exact ty_ptr | exact ty_plain) (by assumption) (fun w1 hs => hK _ _ ?_))
    simp only [Act.put, List.setIfInBounds_toArray, List.set_cons_succ, List.set_cons_zero]
    refine any_seq 4 (by rfl) (by kernel_rfl) ?_
    simp only [List.drop_succ_cons, List.drop_zero]
    go_wp2_with (refine sep_storew hs rfl rfl (by rfl) (by rfl) (by repeat (first | exact Upd.head | apply Upd.tail)) (by first | exact ty_ptr | exact ty_plain) (by assumption) ?_; clear hs; intro w1 hs)
    exact sep_ret_cct2 hs rfl rfl (by rfl) (by rfl) (by rfl) ty_ptr ty_plain (by repeat (first | exact List.Mem.head _ | apply List.Mem.tail)) (by repeat (first | exact List.Mem.head _ | apply List.Mem.tail)) ⟨root, pl.set i W, 0, rfl, S2, k2, ns2, cs2, hs.done.1, hs.done.2, HG2.out, Edited.keep HE.out, Edited.small HE.out, Edited.vol HE.out, .inl ⟨rfl, h0, h16⟩, fun j hj hne => Edited.same HE.out j hj (fun e => hne (by rw [e]))⟩

set_option maxHeartbeats 16000000 in
theorem apply_set_no (h : BS w0 w M k p g S (lab n kk) 7) (hV : Vars w0) (hg : Good n kk S) {q : Pt} {ns : List Pt} {cs : Nat → List Pt} {pl : List (List Int)} (hv : Vol S kk q ns cs pl) {c : Int} {a : Option Addr} {cc : Nat} {bs : List Int} (hB : Bs w0 a cc bs) (hbl : bs.length ≤ 256) (hk : kk + 5 ≤ n) (hc : c < 0 ∨ 16 ≤ c) :
    Calls Tryd.prog 23 #[.pointer (some ⟨k, 0, none⟩), .agg q.vs.toArray, .agg (plV pl).toArray, .agg (edV c a bs.length cc false).toArray] w fun e w' => ∃ root pl' code, e = .returned (.tuple #[.agg root.vs.toArray, .agg (plV pl').toArray, .int .i64 code]) ∧ ApplyOf w0 w M k p g S n kk cs c root pl' code w' := by
  have hqok := hv.root.ok hg.klt
  have hqv := vals_ptr hqok
  have hpv := vals_pl hv.len
  have hzv := vals_ptr Pt.zero_ok
  unfold edV
  have hwl := wholeL_len hbl
  have hwr : ∀ x ∈ wholeL bs, 0 ≤ x ∧ x ≤ 255 := wholeL_rng hB.rng _
  have hwh : ∀ u, Below w0.heap.size w0 u → Calls Tryd.prog 71 #[.slice a bs.length cc] u fun e w' => ∃ a' c', e = .returned (.slice a' 256 c') ∧ NewB u.heap.size w' a' c' (wholeL bs) ∧ Below u.heap.size u w' := fun u hu => by
    have := whole9_run a cc bs u (hB.stays hu) (by omega)
    rw [hwl] at this
    exact this
  have hwt : ∀ b u, Below w0.heap.size w0 u → b ≤ u.heap.size → Calls Tryd.prog 71 #[.slice a bs.length cc] u fun e w' => ∃ v, e = .returned v ∧ Below u.heap.size u w' ∧ newB b 256 (wholeL bs) v w' := fun b u hu hbu =>
    (hwh u hu).mono fun e w' ⟨a', c', h1, h2, h3⟩ => ⟨_, h1, h3, a', c', rfl, h2.1, fun x hx => Nat.le_trans hbu (h2.2 x hx)⟩
  have hse : ∀ (u : World) (a' : Option Addr) (c' : Nat), Calls Tryd.prog 70 #[.pointer (some ⟨k, 0, none⟩), .agg q.vs.toArray, .int .i64 c, .slice a' 256 c'] u fun e w' => e = .returned (.tuple #[.agg Pt.zero.vs.toArray, .int .i64 1]) ∧ Below u.heap.size u w' := fun u a' c' => set_no (k := k) q hqok hc u
  obtain ⟨W, hW⟩ : ∃ W, W = wholeL bs := ⟨_, rfl⟩
  have HW : Hid (W = wholeL bs) := hW
  rw [← hW] at hwl hwh hwt hwr
  obtain ⟨ST, hST⟩ : ∃ ST, ST = strOfNums W := ⟨_, rfl⟩
  have HST : Hid (ST = strOfNums W) := hST
  have hne : W ≠ [] := fun e => by rw [e] at hwl; simp at hwl
  have HWL : Hid (256 = W.length) := hwl.symm
  have hev := vals_ed c a bs.length cc false
  obtain ⟨vs, hvs⟩ : ∃ vs, vs = q.vs := ⟨_, rfl⟩
  have HVS : Hid (vs = q.vs) := hvs
  rw [← hvs] at hqv hse ⊢
  obtain ⟨pv, hpve⟩ : ∃ pv, pv = plV pl := ⟨_, rfl⟩
  have HPV : Hid (pv = plV pl) := hpve
  rw [← hpve] at hpv ⊢
  obtain ⟨zp, hzpe⟩ : ∃ zp, zp = plV (List.replicate 16 []) := ⟨_, rfl⟩
  have hap := al_plain
  rw [← hzpe] at hap
  obtain ⟨nb, hnb⟩ : ∃ nb, nb = bs.length := ⟨_, rfl⟩
  have HNB : Hid (nb = bs.length) := hnb
  rw [← hnb] at hev hwh hwt ⊢
  have hs := BI.start h
  clear hvs hpve hzpe hnb h hqok hB hW hST hwl hwr
  go_enter Tryd.func23, Tryd.ntmps23
  go_wp2_with (first
    | (refine sep_box hs rfl rfl (by rfl) (by first | exact hqv | exact hpv | exact hev) ?_; clear hs; intro w1 g1 hs)
    | (refine sep_alloc hs rfl rfl (by first | exact al_ptr | exact hap) ?_; clear hs; intro w1 g1 hs)
    | (refine wpList_build0 (by rfl) 42 (by rfl) _ build_ptr0 ?_)
    | (refine sep_storew hs rfl rfl (by rfl) (by rfl) (by repeat (first | exact Upd.head | apply Upd.tail)) (by first | exact ty_ptr | exact ty_plain) (by assumption) ?_; clear hs; intro w1 hs)
    | (refine sep_load1 hs rfl rfl (by rfl) (by repeat (first | exact List.Mem.head _ | apply List.Mem.tail)) (by first | exact ty1_bool | exact ty1_int | exact ty1_bytes) rfl ?_)
    | (refine sep_load1g hs (by rfl) rfl (by rfl) (by repeat (first | exact List.Mem.head _ | apply List.Mem.tail)) ty1_int rfl ?_)
    | (refine sep_loadw hs rfl rfl (by rfl) (by repeat (first | exact List.Mem.head _ | apply List.Mem.tail)) ty_ptr ?_))
  clear hap
  refine UpT.wp_region_seq 7 [7, 8, 9, 10, 11, 12] (UpT.tell [(6, newB w1.heap.size 256 W)]) (fun _ => false) (by kernel_rfl) (by kernel_rfl) (UpT.tell_steady _ (by
    intro p hp
    simp only [List.mem_cons, List.not_mem_nil, or_false] at hp
    rcases hp with rfl <;> first | exact isV_steady _ | exact slB_steady _ _ | exact newB_steady _ _ _)) ?_
  simp only [List.take_succ_cons, List.take_zero]
  iterate 1 (apply UpT.wpUp_pure; (case hw => rfl); (case hψ => rfl); (case hv => (intro wz hp; clear hp; go_simp; try (with_reducible rfl))); simp only [Act.put, List.setIfInBounds_toArray, List.set_cons_zero, List.set_cons_succ])
  refine UpT.wpUp_pure (.agg vs.toArray) (by rfl) (by rfl) (fun wz hp => exec_load (by rfl) (by rfl) (hs.ld hp.1 ty_ptr (by repeat (first | exact List.Mem.head _ | apply List.Mem.tail)))) ?_
  simp only [Act.put, List.setIfInBounds_toArray, List.set_cons_zero, List.set_cons_succ]
  iterate 1 (apply UpT.wpUp_pure; (case hw => rfl); (case hψ => rfl); (case hv => (intro wz hp; clear hp; go_simp; try (with_reducible rfl))); simp only [Act.put, List.setIfInBounds_toArray, List.set_cons_zero, List.set_cons_succ])
  refine UpT.wpUp_pure (.int .i64 c) (by rfl) (by rfl) (fun wz hp => exec_load (by rfl) (by rfl) (hs.ld1 hp.1 ty1_int (by repeat (first | exact List.Mem.head _ | apply List.Mem.tail)) rfl)) ?_
  simp only [Act.put, List.setIfInBounds_toArray, List.set_cons_zero, List.set_cons_succ]
  iterate 1 (apply UpT.wpUp_pure; (case hw => rfl); (case hψ => rfl); (case hv => (intro wz hp; clear hp; go_simp; try (with_reducible rfl))); simp only [Act.put, List.setIfInBounds_toArray, List.set_cons_zero, List.set_cons_succ])
  refine UpT.wpUp_pure (.slice a nb cc) (by rfl) (by rfl) (fun wz hp => exec_load (by rfl) (by rfl) (hs.ld1 hp.1 ty1_bytes (by repeat (first | exact List.Mem.head _ | apply List.Mem.tail)) rfl)) ?_
  simp only [Act.put, List.setIfInBounds_toArray, List.set_cons_zero, List.set_cons_succ]
  refine UpT.wpUp_call _ 71 #[.slice a nb cc] (by rfl) (by rfl) (by rfl) (fun wz => by go_simp) (fun wz hp => hwt w1.heap.size wz (below_then hs.bank.bel hp.1) hp.1.size) ?_
  rintro v ⟨u, _, hf⟩
  obtain ⟨a2, c2, rfl, _⟩ := hf.of 6 v _ rfl rfl
  clear hf
  simp only [Act.put, List.setIfInBounds_toArray, List.set_cons_zero, List.set_cons_succ]
  refine UpT.wpUp_end ?_
  intro w2 hb2 hf
  simp only [UpT.opsAt, List.filterMap_cons, List.filterMap_nil, List.getElem?_toArray, List.getElem?_cons_zero, List.getElem?_cons_succ]
  obtain ⟨a3, c3, he, hN⟩ := hf.of 6 _ _ rfl rfl
  obtain ⟨rfl, rfl⟩ : a2 = a3 ∧ c2 = c3 := by simpa using he
  replace hs := hs.slice hb2 hN.1 hN.2 hne
  clear hf he hN hb2
  go_wp2_with (first
    | (refine sep_box hs rfl rfl (by rfl) (by first | exact hqv | exact hpv | exact hev) ?_; clear hs; intro w1 g1 hs)
    | (refine sep_alloc hs rfl rfl (by first | exact al_ptr | exact hap) ?_; clear hs; intro w1 g1 hs)
    | (refine wpList_build0 (by rfl) 42 (by rfl) _ build_ptr0 ?_)
    | (refine sep_storew hs rfl rfl (by rfl) (by rfl) (by repeat (first | exact Upd.head | apply Upd.tail)) (by first | exact ty_ptr | exact ty_plain) (by assumption) ?_; clear hs; intro w1 hs)
    | (refine sep_load1 hs rfl rfl (by rfl) (by repeat (first | exact List.Mem.head _ | apply List.Mem.tail)) (by first | exact ty1_bool | exact ty1_int | exact ty1_bytes) rfl ?_)
    | (refine sep_load1g hs (by rfl) rfl (by rfl) (by repeat (first | exact List.Mem.head _ | apply List.Mem.tail)) ty1_int rfl ?_)
    | (refine sep_loadw hs rfl rfl (by rfl) (by repeat (first | exact List.Mem.head _ | apply List.Mem.tail)) ty_ptr ?_)
    | (go_at_call 70; go_must (refine (hse _ _ _).mono ?_); rintro e w1 ⟨rfl, hb1⟩; replace hs := hs.stays hb1; clear hb1; dsimp only []; apply_assumption; refine wp_move1 rfl rfl (by rfl) ?_; simp only [Act.put, List.setIfInBounds_toArray, List.set_cons_zero, List.set_cons_succ]; refine wp_extract1 rfl rfl (by rfl) (by rfl) ?_; simp only [Act.put, List.setIfInBounds_toArray, List.set_cons_zero, List.set_cons_succ]; refine wp_extract1 rfl rfl (by rfl) (by rfl) ?_; simp only [Act.put, List.setIfInBounds_toArray, List.set_cons_zero, List.set_cons_succ]; refine sep_storew hs rfl rfl (by rfl) (by rfl) (by repeat (first | exact Upd.head | apply Upd.tail)) ty_ptr (by assumption) ?_; clear hs; intro w1 hs; go_wp2))
  dsimp only [midQ]
  go_wp2_with (first
    | (refine sep_box hs rfl rfl (by rfl) (by first | exact hqv | exact hpv | exact hev) ?_; clear hs; intro w1 g1 hs)
    | (refine sep_alloc hs rfl rfl (by first | exact al_ptr | exact hap) ?_; clear hs; intro w1 g1 hs)
    | (refine wpList_build0 (by rfl) 42 (by rfl) _ build_ptr0 ?_)
    | (refine sep_storew hs rfl rfl (by rfl) (by rfl) (by repeat (first | exact Upd.head | apply Upd.tail)) (by first | exact ty_ptr | exact ty_plain) (by assumption) ?_; clear hs; intro w1 hs)
    | (refine sep_load1 hs rfl rfl (by rfl) (by repeat (first | exact List.Mem.head _ | apply List.Mem.tail)) (by first | exact ty1_bool | exact ty1_int | exact ty1_bytes) rfl ?_)
    | (refine sep_load1g hs (by rfl) rfl (by rfl) (by repeat (first | exact List.Mem.head _ | apply List.Mem.tail)) ty1_int rfl ?_)
    | (refine sep_loadw hs rfl rfl (by rfl) (by repeat (first | exact List.Mem.head _ | apply List.Mem.tail)) ty_ptr ?_)
    | (go_at_call 71; go_must (refine (hwh _ hs.bank.bel).mono ?_); rintro e w1 ⟨a3, c3, rfl, hN3, hb3⟩; replace hs := hs.stays hb3; have hcv := conv_str hN3.1 HWL.out; rw [← HST.out] at hcv; clear hN3 hb3))
  clear hse hwh hwt
  refine wp_region_any (by kernel_rfl) ?_
  change wpAny _ _ _ _ _ _ _ (World.drew _)
  replace hs := hs.stays (Below.refl _ _).drew
  refine any_take 2 rfl (some 44) rfl (.int .i64 1) (by kernel_rfl) (by kernel_rfl) (by kernel_rfl) (fun _ _ _ h => h) (Or.inl ⟨by rfl, fun w => by go_simp⟩) ?_
  simp only [Act.put, List.setIfInBounds_toArray, List.set_cons_succ, List.set_cons_zero]
  refine sep_any2 0 1 (by kernel_rfl) rfl rfl (fun K hK => sep_step_loadw hs rfl rfl (by rfl) (by repeat (first | exact List.Mem.head _ | apply List.Mem.tail)) (by first | exact ty_ptr | exact ty_plain) (hK _ _ ?_)) (fun K hK => sep_step_loadw hs rfl rfl (by rfl) (by repeat (first | exact List.Mem.head _ | apply List.Mem.tail)) (by first | exact ty_ptr | exact ty_plain) (hK _ _ ?_))
  · simp only [Act.put, List.setIfInBounds_toArray, List.set_cons_succ, List.set_cons_zero]
    refine sep_any2 1 3 (by kernel_rfl) rfl rfl (fun K hK => sep_step_loadw hs rfl rfl (by rfl) (by repeat (first | exact List.Mem.head _ | apply List.Mem.tail)) (by first | exact ty_ptr | exact ty_plain) (hK _ _ ?_)) (fun K hK => sep_step_storew hs rfl rfl (by rfl) (by rfl) (by repeat (first | exact Upd.head | apply Upd.tail)) (by first | exact ty_ptr | exact ty_plain) (by assumption) (fun w1 hs => hK _ _ ?_))
    · simp only [Act.put, List.setIfInBounds_toArray, List.set_cons_succ, List.set_cons_zero]
      refine sep_any1 3 (by kernel_rfl) rfl (fun K hK => sep_step_storew hs rfl rfl (by rfl) (by rfl) (by repeat (first | exact Upd.head | apply Upd.tail)) (by first | exact ty_ptr | exact ty_plain) (by assumption) (fun w1 hs => hK _ _ ?_))
      simp only [Act.put, List.setIfInBounds_toArray, List.set_cons_succ, List.set_cons_zero]
      refine any_seq 4 (by rfl) (by kernel_rfl) ?_
      simp only [List.drop_succ_cons, List.drop_zero]
      go_wp2_with (refine sep_storew hs rfl rfl (by rfl) (by rfl) (by repeat (first | exact Upd.head | apply Upd.tail)) (by first | exact ty_ptr | exact ty_plain) (by assumption) ?_; clear hs; intro w1 hs)
      exact sep_ret_cct2 hs rfl rfl (by rfl) (by rfl) (by rfl) ty_ptr ty_plain (by repeat (first | exact List.Mem.head _ | apply List.Mem.tail)) (by repeat (first | exact List.Mem.head _ | apply List.Mem.tail)) ⟨q, pl, 1, by rw [← HVS.out, ← HPV.out]; rfl, S, kk, ns, cs, hs.done.1, hs.done.2, hg, Keeps.refl _ _, by omega, hv, .inr ⟨rfl, hc⟩, fun _ _ _ => rfl⟩
    · simp only [Act.put, List.setIfInBounds_toArray, List.set_cons_succ, List.set_cons_zero]
      refine sep_any1 1 (by kernel_rfl) rfl (fun K hK => sep_step_loadw hs rfl rfl (by rfl) (by repeat (first | exact List.Mem.head _ | apply List.Mem.tail)) (by first | exact ty_ptr | exact ty_plain) (hK _ _ ?_))
      simp only [Act.put, List.setIfInBounds_toArray, List.set_cons_succ, List.set_cons_zero]
      refine any_seq 4 (by rfl) (by kernel_rfl) ?_
      simp only [List.drop_succ_cons, List.drop_zero]
      go_wp2_with (refine sep_storew hs rfl rfl (by rfl) (by rfl) (by repeat (first | exact Upd.head | apply Upd.tail)) (by first | exact ty_ptr | exact ty_plain) (by assumption) ?_; clear hs; intro w1 hs)
      exact sep_ret_cct2 hs rfl rfl (by rfl) (by rfl) (by rfl) ty_ptr ty_plain (by repeat (first | exact List.Mem.head _ | apply List.Mem.tail)) (by repeat (first | exact List.Mem.head _ | apply List.Mem.tail)) ⟨q, pl, 1, by rw [← HVS.out, ← HPV.out]; rfl, S, kk, ns, cs, hs.done.1, hs.done.2, hg, Keeps.refl _ _, by omega, hv, .inr ⟨rfl, hc⟩, fun _ _ _ => rfl⟩
  · simp only [Act.put, List.setIfInBounds_toArray, List.set_cons_succ, List.set_cons_zero]
    refine sep_any1 0 (by kernel_rfl) rfl (fun K hK => sep_step_loadw hs rfl rfl (by rfl) (by repeat (first | exact List.Mem.head _ | apply List.Mem.tail)) (by first | exact ty_ptr | exact ty_plain) (hK _ _ ?_))
    simp only [Act.put, List.setIfInBounds_toArray, List.set_cons_succ, List.set_cons_zero]
    refine sep_any1 3 (by kernel_rfl) rfl (fun K hK => sep_step_storew hs rfl rfl (by rfl) (by rfl) (by repeat (first | exact Upd.head | apply Upd.tail)) (by first | exact ty_ptr | exact ty_plain) (by assumption) (fun w1 hs => hK _ _ ?_))
    simp only [Act.put, List.setIfInBounds_toArray, List.set_cons_succ, List.set_cons_zero]
    refine any_seq 4 (by rfl) (by kernel_rfl) ?_
    simp only [List.drop_succ_cons, List.drop_zero]
    go_wp2_with (refine sep_storew hs rfl rfl (by rfl) (by rfl) (by repeat (first | exact Upd.head | apply Upd.tail)) (by first | exact ty_ptr | exact ty_plain) (by assumption) ?_; clear hs; intro w1 hs)
    exact sep_ret_cct2 hs rfl rfl (by rfl) (by rfl) (by rfl) ty_ptr ty_plain (by repeat (first | exact List.Mem.head _ | apply List.Mem.tail)) (by repeat (first | exact List.Mem.head _ | apply List.Mem.tail)) ⟨q, pl, 1, by rw [← HVS.out, ← HPV.out]; rfl, S, kk, ns, cs, hs.done.1, hs.done.2, hg, Keeps.refl _ _, by omega, hv, .inr ⟨rfl, hc⟩, fun _ _ _ => rfl⟩

theorem apply_run (h : BS w0 w M k p g S (lab n kk) 7) (hV : Vars w0) (hg : Good n kk S) {q : Pt} {ns : List Pt} {cs : Nat → List Pt} {pl : List (List Int)} (hv : Vol S kk q ns cs pl) (c : Int) {a : Option Addr} {cc : Nat} {bs : List Int} (tr : Bool) (hB : Bs w0 a cc bs) (hbl : bs.length ≤ 256) (hk : kk + 5 ≤ n) :
    Calls Tryd.prog 23 #[.pointer (some ⟨k, 0, none⟩), .agg q.vs.toArray, .agg (plV pl).toArray, .agg (edV c a bs.length cc tr).toArray] w fun e w' => ∃ root pl' code, e = .returned (.tuple #[.agg root.vs.toArray, .agg (plV pl').toArray, .int .i64 code]) ∧ ApplyOf w0 w M k p g S n kk cs c root pl' code w' := by
  by_cases hc : 0 ≤ c ∧ c < 16
  · cases tr
    · exact apply_set h hV hg hv hB hbl hk hc
    · exact apply_trim h hV hg hv hB hbl hk hc
  · have hc' : c < 0 ∨ 16 ≤ c := by omega
    cases tr
    · exact apply_set_no h hV hg hv hB hbl hk hc'
    · exact apply_trim_no h hV hg hv hB hbl hk hc'
end

end Go.Proofs.YthbldjnpnligpaaDoor
