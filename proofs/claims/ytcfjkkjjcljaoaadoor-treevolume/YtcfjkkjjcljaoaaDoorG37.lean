/-
  tree.way.lay: a way's nodes, put anew from the leaf up.
-/
import Derived.Test.YtcfjkkjjcljaoaaDoorG36
namespace Go.Proofs.YtcfjkkjjcljaoaaDoor
set_option linter.unusedSimpArgs false
set_option linter.unusedVariables false
set_option maxRecDepth 100000
open Go.RowKit

section
variable {w0 w : World} {M : Nat → Prop} {k p g : Nat} {S : DS} {n kk : Nat}

/-- What a way's lay leaves. -/
def LayOf (w0 w : World) (M : Nat → Prop) (k p g : Nat) (S : DS) (n kk : Nat) (r l : List Pt) (i : Nat) (q root : Pt) (w' : World) : Prop :=
  ∃ q1 S2 k2, BS w0 w' M k p g S2 (lab n k2) 7 ∧ Stay M w w' ∧ Good n k2 S2 ∧ Keeps S kk S2 k2 ∧ k2 ≤ kk + 4 ∧ Node S2 k2 q1 (l.set (i % 4) q) ∧ Node S2 k2 root (r.set (i / 4) q1) ∧ (q.hole = false → k2 = kk + 4 ∧ root = ptrAt (nodeL (r.set (i / 4) q1)) (kk + 2) 2)

theorem all_set {l : List Pt} {i : Nat} {q : Pt} (hi : i < l.length) (hq : q.hole = false) : (l.set i q).all Pt.hole = false := by
  rw [List.all_eq_false]
  exact ⟨q, List.mem_set hi q, by rw [hq]; simp⟩

set_option maxHeartbeats 8000000 in
theorem tlay_run (h : BS w0 w M k p g S (lab n kk) 7) (hV : Vars w0) (hg : Good n kk S) {r l : List Pt} (hr : Four r) (hl : Four l) {i : Nat} (hi : i < 16) {q : Pt} (hq : q.ok) (hqm : q.may = true) (hk : kk + 4 ≤ n) {z : Value} (hz : One z) :
    Calls Tryd.prog 87 #[.agg (wayV i r l).toArray, .pointer (some ⟨k, 0, none⟩), .agg q.vs.toArray, z] w fun e w' => ∃ root, e = .returned (.tuple #[.agg root.vs.toArray, .int .i64 0]) ∧ LayOf w0 w M k p g S n kk r l i q root w' := by
  have hj : i % 4 < 4 := by omega
  have hm : i / 4 < 4 := by omega
  have hwv := vals_way hr hl i
  have hqv := vals_ptr hq
  have hix := fun (g u) => ix_four g 141 hj u
  have hix2 := fun (g u) => ix_four g 1 hm u
  have hjm : Int.tmod (i : Int) 4 = ((i % 4 : Nat) : Int) := by rw [Int.tmod_eq_emod_of_nonneg (by omega)]; omega
  have hmm : Int.tdiv (i : Int) 4 = ((i / 4 : Nat) : Int) := by rw [Int.tdiv_eq_ediv_of_nonneg (by omega)]; omega
  have hl2 : Four (l.set (i % 4) q) := hl.set _ hq hqm
  have HS1 : Hid _ := way_set_leaf_at (i := i) hr hl hj q
  have HX : Hid _ := fun (h0 : q.hole = false) => all_set (l := l) (i := i % 4) (by rw [hl.len]; exact hj) h0
  obtain ⟨l2, hl2e⟩ : ∃ l2, l2 = l.set (i % 4) q := ⟨_, rfl⟩
  have HLE : Hid (l2 = l.set (i % 4) q) := hl2e
  rw [← hl2e] at hl2 HS1 HX
  have HLf : Hid _ := way_leaf (i := i) hr hl2
  have H0 : Hid ((wayV i r l)[0]? = some (.int .i64 (i : Int))) := rfl
  have H02 : Hid ((wayV i r l2)[0]? = some (.int .i64 (i : Int))) := rfl
  have hlv := four_len hl2
  obtain ⟨j, hj'⟩ : ∃ j, j = i % 4 := ⟨_, rfl⟩
  rw [← hj'] at hj hix HS1 hjm
  obtain ⟨m, hm'⟩ : ∃ m, m = i / 4 := ⟨_, rfl⟩
  have HME : Hid (m = i / 4) := hm'
  rw [← hm'] at hm hix2 hmm
  have hsr : ∀ q1 : Pt, ∃ r2, Hid (r2 = r.set m q1) ∧ Hid (wayV i r2 l2 = (wayV i r l2).take (1 + m * 35) ++ q1.vs ++ (wayV i r l2).drop (1 + m * 35 + 35)) := fun q1 => ⟨_, rfl, way_set_root_at hr hl2 hm q1⟩
  obtain ⟨wv, hwve⟩ : ∃ wv, wv = wayV i r l := ⟨_, rfl⟩
  rw [← hwve] at hwv HS1 H0 ⊢
  obtain ⟨vs, hvs⟩ : ∃ vs, vs = q.vs := ⟨_, rfl⟩
  rw [← hvs] at hqv HS1 ⊢
  obtain ⟨wv2, hwve2⟩ : ∃ wv, wv = wayV i r l2 := ⟨_, rfl⟩
  rw [← hwve2] at HS1 HLf H02
  have hsr : ∀ q1 : Pt, ∃ r2, Hid (r2 = r.set m q1) ∧ Hid (wayV i r2 l2 = wv2.take (1 + m * 35) ++ q1.vs ++ wv2.drop (1 + m * 35 + 35)) := fun q1 => by rw [hwve2]; exact hsr q1
  have hs := BI.start h
  have HG : Hid (Good n kk S) := hg
  clear hj' hm' hvs hwve hwve2 hl2e hg
  go_enter Tryd.func87, Tryd.ntmps87
  go_wp2_with (first
    | (refine sep_box hs rfl rfl (by rfl) hwv ?_; clear hs; intro w1 g1 hs)
    | (refine sep_box hs rfl rfl (by rfl) hqv ?_; clear hs; intro w1 g1 hs)
    | (refine sep_alloc hs rfl rfl al_ptr ?_; clear hs; intro w1 g1 hs)
    | (refine sep_load1 hs rfl rfl (by rfl) (by repeat (first | exact List.Mem.head _ | apply List.Mem.tail)) ty1_int H0.out ?_)
    | (refine sep_load1 hs rfl rfl (by rfl) (by repeat (first | exact List.Mem.head _ | apply List.Mem.tail)) ty1_int H02.out ?_)
    | (refine sep_loadw hs rfl rfl (by rfl) (by repeat (first | exact List.Mem.head _ | apply List.Mem.tail)) ty_ptr ?_)
    | (refine sep_store hs rfl rfl (by rfl) (by rfl) (by repeat (first | exact Upd.head | apply Upd.tail)) ty_ptr hqv HS1.out (by omega) ?_; clear hs; intro w1 hs)
    | (refine sep_load hs rfl rfl (by rfl) (by repeat (first | exact List.Mem.head _ | apply List.Mem.tail)) ty_four HLf.out hlv ?_)
    | (go_at_call_of 108 (Value.agg (fourV l2).toArray); refine (putNode_run hs.bank hV HG.out hl2 (by omega) hz).mono ?_; rintro e w1 ⟨q1, v1, rfl, hv1, S1, k1, h1, h2, hg1, hk1, hle1, hn1, hx1⟩; replace hs := hs.turn h1 h2; clear h1 h2
       have hq1 := hn1.ok hg1.klt
       have hq1v := vals_ptr hq1
       obtain ⟨r2, HRE, HS2⟩ := hsr q1
       have hr2 : Four r2 := by rw [HRE.out]; exact hr.set _ hq1 hn1.may
       have HRf : Hid _ := way_root (i := i) hr2 hl2
       have hrv := four_len hr2
       have hwv2 := vals_way hr2 hl2 i
       obtain ⟨wv3, hwve3⟩ : ∃ wv, wv = wayV i r2 l2 := ⟨_, rfl⟩
       rw [← hwve3] at HS2 HRf hwv2
       have HG1 : Hid _ := hg1
       have HN1 : Hid _ := hn1
       have HX1 : Hid _ := hx1
       have HK1 : Hid _ := hk1
       clear hwve3 hg1 hn1 hx1 hk1)
    | (refine sep_store hs rfl rfl (by rfl) (by rfl) (by repeat (first | exact Upd.head | apply Upd.tail)) ty_ptr hq1v HS2.out (by omega) ?_; clear hs; intro w1 hs)
    | (refine sep_load hs rfl rfl (by rfl) (by repeat (first | exact List.Mem.head _ | apply List.Mem.tail)) ty_four HRf.out hrv ?_)
    | (refine sep_storew hs rfl rfl (by rfl) (by rfl) (by repeat (first | exact Upd.head | apply Upd.tail)) ty_ptr (by assumption) ?_; clear hs; intro w1 hs)
    | (go_at_call_of 108 (Value.agg (fourV r2).toArray); refine (putNode_run hs.bank hV HG1.out hr2 (by omega) hv1).mono ?_; rintro e w1 ⟨q2, v2, rfl, hv2, S2, k2, h1, h2, hg2, hk2, hle2, hn2, hx2⟩; replace hs := hs.turn h1 h2; have hq2v := vals_ptr (hn2.ok hg2.klt); clear h1 h2))
  refine sep_ret2 hs rfl rfl (by rfl) (by rfl) ty_ptr (by repeat (first | exact List.Mem.head _ | apply List.Mem.tail)) ⟨q2, rfl, q1, S2, k2, hs.done.1, hs.done.2, hg2, Keeps.trans HK1.out hk2, by omega, ?_, ?_, fun h0 => ?_⟩
  · rw [← HLE.out]; exact HN1.out.keep hk2
  · rw [← HME.out, ← HRE.out]; exact hn2
  · obtain ⟨e1, e2⟩ := HX1.out (HX.out h0)
    have h3 : r2.all Pt.hole = false := by
      rw [HRE.out]
      refine all_set (by rw [hr.len]; exact hm) ?_
      rw [e2]
      exact ptrAt_hole HG.out.lo
    obtain ⟨e3, e4⟩ := hx2 h3
    rw [← HME.out, ← HRE.out]
    exact ⟨by omega, by rw [e4, e1]⟩
end

end Go.Proofs.YtcfjkkjjcljaoaaDoor

/-
  tree.follow, tree.Find, tree.Get: the way to a cell, and what it reads.
-/

namespace Go.Proofs.YtcfjkkjjcljaoaaDoor
set_option linter.unusedSimpArgs false
set_option linter.unusedVariables false
set_option maxRecDepth 100000
open Go.RowKit

section
variable {w0 w : World} {M : Nat → Prop} {k p g : Nat} {S : DS} {l : List Bool} {n kk : Nat}

/-- A node, at any world behind. -/
theorem node_later (h : BS w0 w M k p g S l 7) (hV : Vars w0) (hg : Good n kk S) {q : Pt} {ns : List Pt} (hn : Node S kk q ns) : ∀ u, Below w.heap.size w u → Calls Tryd.prog 58 #[.pointer (some ⟨k, 0, none⟩), .agg q.vs.toArray] u fun e w' => e = .returned (.tuple #[.agg (fourV ns).toArray, .int .i64 0]) ∧ Below u.heap.size u w' :=
  fun u hu => tnode_run (h.stays hu) hV hg hn

set_option maxHeartbeats 8000000 in
theorem follow_run (h : BS w0 w M k p g S l 7) (hV : Vars w0) (hg : Good n kk S) {q : Pt} {ns cs : List Pt} {i : Nat} (hi : i < 16) (hn : Node S kk q ns) (hc : Node S kk (nth ns (i / 4)) cs) :
    Calls Tryd.prog 85 #[.pointer (some ⟨k, 0, none⟩), .agg q.vs.toArray, .int .i64 (i : Int)] w fun e w' => e = .returned (.tuple #[.agg (wayV i ns cs).toArray, .int .i64 0]) ∧ Below w.heap.size w w' := by
  have hm : i / 4 < 4 := by omega
  have hqv := vals_ptr (hn.ok hg.klt)
  have hcv := vals_ptr (hc.ok hg.klt)
  have hn1 := node_later h hV hg hn
  have hn2 := node_later h hV hg hc
  have hix2 := fun (g u) => ix_four g 1 hm u
  have hmm : Int.tdiv (i : Int) 4 = ((i / 4 : Nat) : Int) := by rw [Int.tdiv_eq_ediv_of_nonneg (by omega)]; omega
  have hz := vals_way Four.zeros Four.zeros i
  have HS1 : Hid _ := way_set_root (i := i) (r' := ns) Four.zeros Four.zeros
  have HL1 : Hid _ := way_root_at (i := i) hn.four Four.zeros hm
  have HS2 : Hid _ := way_set_leaf (i := i) (l' := cs) hn.four Four.zeros
  have HBW : Hid (∀ u, (Instr.build 160 #[(0, .int .i64 (i : Int))]).run Tryd.prog u = .ok (.agg (wayV i zeros4 zeros4).toArray) u) := build_way i
  have hnv := vals_four hn.four
  have hfv := vals_four hc.four
  have hwv := vals_way hn.four hc.four i
  have h0 : (0 : Int) ≤ i := by omega
  have h16 : (i : Int) < 16 := by omega
  obtain ⟨m, hm'⟩ : ∃ m, m = i / 4 := ⟨_, rfl⟩
  rw [← hm'] at hm hix2 hmm hcv hn2 HL1
  obtain ⟨vs, hvs⟩ : ∃ vs, vs = q.vs := ⟨_, rfl⟩
  rw [← hvs] at hqv hn1 ⊢
  obtain ⟨us, hus⟩ : ∃ us, us = (nth ns m).vs := ⟨_, rfl⟩
  rw [← hus] at hcv hn2 HL1
  obtain ⟨fn, hfn⟩ : ∃ fn, fn = fourV ns := ⟨_, rfl⟩
  rw [← hfn] at hn1 HS1 hnv
  obtain ⟨fc, hfc⟩ : ∃ fc, fc = fourV cs := ⟨_, rfl⟩
  rw [← hfc] at hn2 HS2 hfv
  obtain ⟨za, hza⟩ : ∃ za, za = wayV i zeros4 zeros4 := ⟨_, rfl⟩
  rw [← hza] at HS1 HBW hz
  obtain ⟨zb, hzb⟩ : ∃ zb, zb = wayV i ns zeros4 := ⟨_, rfl⟩
  rw [← hzb] at HS1 HS2 HL1
  obtain ⟨zc, hzc⟩ : ∃ zc, zc = wayV i ns cs := ⟨_, rfl⟩
  rw [← hzc] at HS2 hwv ⊢
  have hs := PI.start w
  clear hm' hvs hus hfn hfc hza hzb hzc h hV hg hn hc
  go_enter Tryd.func85, Tryd.ntmps85
  go_wp2_with (first
    | (refine sep_box hs rfl rfl (by rfl) hqv ?_; clear hs; intro w1 g1 hs)
    | (refine sep_alloc hs rfl rfl al_way ?_; clear hs; intro w1 g1 hs)
    | (refine wpList_build (by rfl) 160 [(0, .tmp 17)] (by rfl) [(0, .int .i64 (i : Int))] (by rfl) _ HBW.out ?_)
    | (refine sep_storew hs rfl rfl (by rfl) (by rfl) (by repeat (first | exact Upd.head | apply Upd.tail)) ty_way (by assumption) ?_; clear hs; intro w1 hs)
    | (refine sep_loadw hs rfl rfl (by rfl) (by repeat (first | exact List.Mem.head _ | apply List.Mem.tail)) (by first | exact ty_ptr | exact ty_way) ?_)
    | (refine sep_load hs rfl rfl (by rfl) (by repeat (first | exact List.Mem.head _ | apply List.Mem.tail)) ty_ptr HL1.out hcv.1 ?_)
    | (refine sep_store hs rfl rfl (by rfl) (by rfl) (by repeat (first | exact Upd.head | apply Upd.tail)) ty_four hnv HS1.out (by omega) ?_; clear hs; intro w1 hs)
    | (refine sep_store hs rfl rfl (by rfl) (by rfl) (by repeat (first | exact Upd.head | apply Upd.tail)) ty_four hfv HS2.out (by omega) ?_; clear hs; intro w1 hs)
    | (go_at_call_of 58 (Value.agg vs.toArray); refine (hn1 _ hs.below).mono ?_; rintro e w1 ⟨rfl, hb1⟩; replace hs := hs.stays hb1; clear hb1)
    | (go_at_call_of 58 (Value.agg us.toArray); refine (hn2 _ hs.below).mono ?_; rintro e w1 ⟨rfl, hb1⟩; replace hs := hs.stays hb1; clear hb1))
  exact sep_ret2 hs rfl rfl (by rfl) (by rfl) ty_way (by repeat (first | exact List.Mem.head _ | apply List.Mem.tail)) ⟨rfl, hs.below⟩

set_option maxHeartbeats 8000000 in
theorem follow_no (q : Pt) (hq : q.ok) {i : Int} (hi : i < 0 ∨ 16 ≤ i) (w : World) :
    Calls Tryd.prog 85 #[.pointer (some ⟨k, 0, none⟩), .agg q.vs.toArray, .int .i64 i] w fun e w' => e = .returned (.tuple #[.agg (wayV 0 zeros4 zeros4).toArray, .int .i64 1]) ∧ Below w.heap.size w w' := by
  have hqv := vals_ptr hq
  have hz := al_way.2
  obtain ⟨vs, hvs⟩ : ∃ vs, vs = q.vs := ⟨_, rfl⟩
  rw [← hvs] at hqv ⊢
  have hs := PI.start w
  clear hvs
  rcases hi with hi | hi
  · go_enter Tryd.func85, Tryd.ntmps85
    go_wp2_with (first
      | (refine sep_box hs rfl rfl (by rfl) hqv ?_; clear hs; intro w1 g1 hs)
      | (refine sep_alloc hs rfl rfl al_way ?_; clear hs; intro w1 g1 hs)
      | (refine wpList_build0 (by rfl) 160 (by rfl) _ build_way0 ?_)
      | (refine sep_storew hs rfl rfl (by rfl) (by rfl) (by repeat (first | exact Upd.head | apply Upd.tail)) ty_way hz ?_; clear hs; intro w1 hs))
    exact sep_ret2 hs rfl rfl (by rfl) (by rfl) ty_way (by repeat (first | exact List.Mem.head _ | apply List.Mem.tail)) ⟨rfl, hs.below⟩
  · go_enter Tryd.func85, Tryd.ntmps85
    go_wp2_with (first
      | (refine sep_box hs rfl rfl (by rfl) hqv ?_; clear hs; intro w1 g1 hs)
      | (refine sep_alloc hs rfl rfl al_way ?_; clear hs; intro w1 g1 hs)
      | (refine wpList_build0 (by rfl) 160 (by rfl) _ build_way0 ?_)
      | (refine sep_storew hs rfl rfl (by rfl) (by rfl) (by repeat (first | exact Upd.head | apply Upd.tail)) ty_way hz ?_; clear hs; intro w1 hs))
    exact sep_ret2 hs rfl rfl (by rfl) (by rfl) ty_way (by repeat (first | exact List.Mem.head _ | apply List.Mem.tail)) ⟨rfl, hs.below⟩

set_option maxHeartbeats 8000000 in
theorem find_run (h : BS w0 w M k p g S l 7) (hV : Vars w0) (hg : Good n kk S) {q : Pt} {ns cs : List Pt} {i : Nat} (hi : i < 16) (hn : Node S kk q ns) (hc : Node S kk (nth ns (i / 4)) cs) :
    Calls Tryd.prog 55 #[.pointer (some ⟨k, 0, none⟩), .agg q.vs.toArray, .int .i64 (i : Int)] w fun e w' => e = .returned (.tuple #[.agg (nth cs (i % 4)).vs.toArray, .int .i64 0]) ∧ Below w.heap.size w w' := by
  have hfo : ∀ u, Below w.heap.size w u → Calls Tryd.prog 85 #[.pointer (some ⟨k, 0, none⟩), .agg q.vs.toArray, .int .i64 (i : Int)] u fun e w' => e = .returned (.tuple #[.agg (wayV i ns cs).toArray, .int .i64 0]) ∧ Below u.heap.size u w' := fun u hu => follow_run (h.stays hu) hV hg hi hn hc
  have hce := fun u => cell_run hn.four hc.four hi u
  have hqv := vals_ptr (hn.ok hg.klt)
  have hcv := vals_ptr (nth_ok hc.four.ok (i % 4))
  have hwv := vals_way hn.four hc.four i
  obtain ⟨vs, hvs⟩ : ∃ vs, vs = q.vs := ⟨_, rfl⟩
  rw [← hvs] at hqv hfo ⊢
  obtain ⟨us, hus⟩ : ∃ us, us = (nth cs (i % 4)).vs := ⟨_, rfl⟩
  rw [← hus] at hcv hce ⊢
  obtain ⟨wv, hwve⟩ : ∃ wv, wv = wayV i ns cs := ⟨_, rfl⟩
  rw [← hwve] at hwv hfo hce
  have hs := PI.start w
  clear hvs hus hwve h hV hg hn hc
  go_enter Tryd.func55, Tryd.ntmps55
  go_wp2_with (first
    | (refine sep_box hs rfl rfl (by rfl) hqv ?_; clear hs; intro w1 g1 hs)
    | (refine sep_alloc hs rfl rfl (by first | exact al_ptr | exact al_way) ?_; clear hs; intro w1 g1 hs)
    | (refine sep_storew hs rfl rfl (by rfl) (by rfl) (by repeat (first | exact Upd.head | apply Upd.tail)) (by first | exact ty_ptr | exact ty_way) (by assumption) ?_; clear hs; intro w1 hs)
    | (refine sep_loadw hs rfl rfl (by rfl) (by repeat (first | exact List.Mem.head _ | apply List.Mem.tail)) (by first | exact ty_ptr | exact ty_way) ?_)
    | (go_at_call 85; go_must (refine (hfo _ hs.below).mono ?_); rintro e w1 ⟨rfl, hb1⟩; replace hs := hs.stays hb1; clear hb1)
    | (go_at_call 86; go_must (refine (hce _).mono ?_); rintro e w1 ⟨rfl, hb1⟩; replace hs := hs.stays hb1; clear hb1))
  exact sep_ret2 hs rfl rfl (by rfl) (by rfl) ty_ptr (by repeat (first | exact List.Mem.head _ | apply List.Mem.tail)) ⟨rfl, hs.below⟩

set_option maxHeartbeats 8000000 in
theorem get_run (h : BS w0 w M k p g S l 7) (hV : Vars w0) (hg : Good n kk S) {q : Pt} {ns cs : List Pt} {i : Nat} (hi : i < 16) (hn : Node S kk q ns) (hc : Node S kk (nth ns (i / 4)) cs) {b : List Int} (hb : Cell S kk (nth cs (i % 4)) b) :
    Calls Tryd.prog 54 #[.pointer (some ⟨k, 0, none⟩), .agg q.vs.toArray, .int .i64 (i : Int)] w fun e w' => ∃ a c, e = .returned (.tuple #[.slice a 256 c, .int .i64 0]) ∧ NewB w.heap.size w' a c (cellL b) ∧ Below w.heap.size w w' := by
  have hfi : ∀ u, Below w.heap.size w u → Calls Tryd.prog 55 #[.pointer (some ⟨k, 0, none⟩), .agg q.vs.toArray, .int .i64 (i : Int)] u fun e w' => e = .returned (.tuple #[.agg (nth cs (i % 4)).vs.toArray, .int .i64 0]) ∧ Below u.heap.size u w' := fun u hu => find_run (h.stays hu) hV hg hi hn hc
  have hcok := nth_ok hc.four.ok (i % 4)
  have hrd : ∀ u, Below w.heap.size w u → Calls Tryd.prog 32 #[.pointer (some ⟨k, 0, none⟩), .agg (nth cs (i % 4)).vs.toArray] u fun e w' => ∃ a c, e = .returned (.tuple #[.slice a 256 c, .int .i64 0]) ∧ NewB w.heap.size w' a c (cellL b) ∧ Below u.heap.size u w' := fun u hu => by
    refine (bs_read (h.stays hu) hV hg.small _ hcok).mono ?_
    rintro e w' ⟨a, c, rfl, hN, hb1⟩
    rw [hb.read hg] at hN ⊢
    have hl : (cellL b).length = 256 := by
      rcases readK_len hg.live.ok (nth cs (i % 4)) with h1 | h1
      · rw [hb.read hg] at h1; exact h1.2
      · rw [hb.read hg] at h1; exact absurd rfl h1.1
    exact ⟨a, c, by rw [hl], hN.mono hu.size, hb1⟩
  have hqv := vals_ptr (hn.ok hg.klt)
  have hcv := vals_ptr hcok
  obtain ⟨vs, hvs⟩ : ∃ vs, vs = q.vs := ⟨_, rfl⟩
  rw [← hvs] at hqv hfi ⊢
  obtain ⟨us, hus⟩ : ∃ us, us = (nth cs (i % 4)).vs := ⟨_, rfl⟩
  rw [← hus] at hcv hfi hrd
  have hs := PI.start w
  clear hvs hus h hV hg hn hc hb hcok
  go_enter Tryd.func54, Tryd.ntmps54
  go_wp2_with (first
    | (refine sep_box hs rfl rfl (by rfl) hqv ?_; clear hs; intro w1 g1 hs)
    | (refine sep_alloc hs rfl rfl al_ptr ?_; clear hs; intro w1 g1 hs)
    | (refine sep_storew hs rfl rfl (by rfl) (by rfl) (by repeat (first | exact Upd.head | apply Upd.tail)) ty_ptr (by assumption) ?_; clear hs; intro w1 hs)
    | (refine sep_loadw hs rfl rfl (by rfl) (by repeat (first | exact List.Mem.head _ | apply List.Mem.tail)) ty_ptr ?_)
    | (go_at_call 55; go_must (refine (hfi _ hs.below).mono ?_); rintro e w1 ⟨rfl, hb1⟩; replace hs := hs.stays hb1; clear hb1)
    | (go_at_call 32; go_must (refine (hrd _ hs.below).mono ?_); rintro e w1 ⟨a1, c1, rfl, hN1, hb1⟩; replace hs := hs.stays hb1; clear hb1))
  go_ret2
  exact ⟨_, _, rfl, hN1, hs.below⟩
end

end Go.Proofs.YtcfjkkjjcljaoaaDoor

/-
  tree.Set, tree.Trim: a volume, edited.
-/

namespace Go.Proofs.YtcfjkkjjcljaoaaDoor
set_option linter.unusedSimpArgs false
set_option linter.unusedVariables false
set_option maxRecDepth 100000
open Go.RowKit

section
variable {w0 w : World} {M : Nat → Prop} {k p g : Nat} {S : DS} {l : List Bool} {n kk : Nat}

/-- A volume behind an edit. -/
structure Edited (S : DS) (kk : Nat) (cs : Nat → List Pt) (pl : List (List Int)) (i : Nat) (b : List Int) (root : Pt) (S2 : DS) (k2 : Nat) (ns2 : List Pt) (cs2 : Nat → List Pt) : Prop where
  keep : Keeps S kk S2 k2
  small : k2 ≤ kk + 5
  vol : Vol S2 k2 root ns2 cs2 (pl.set i b)
  same : ∀ j, j < 16 → j ≠ i → nth (cs2 (j / 4)) (j % 4) = nth (cs (j / 4)) (j % 4)
  exact : b ≠ [] → k2 = kk + 5 ∧ root.x = kk + 3 ∧ root.y = kk + 4 ∧ nth (cs2 (i / 4)) (i % 4) = ptrAt b kk 1
def EditOf (w0 w : World) (M : Nat → Prop) (k p g : Nat) (S : DS) (n kk : Nat) (cs : Nat → List Pt) (pl : List (List Int)) (i : Nat) (b : List Int) (root : Pt) (w' : World) : Prop :=
  ∃ S2 k2 ns2 cs2, BS w0 w' M k p g S2 (lab n k2) 7 ∧ Stay M w w' ∧ Good n k2 S2 ∧ Edited S kk cs pl i b root S2 k2 ns2 cs2
theorem laid_same {cs : Nat → List Pt} {i : Nat} {q : Pt} (hl : (cs (i / 4)).length = 4) {j : Nat} (hj : j < 16) (hne : j ≠ i) : nth ((fun m => if m = i / 4 then (cs (i / 4)).set (i % 4) q else cs m) (j / 4)) (j % 4) = nth (cs (j / 4)) (j % 4) := by
  by_cases e : j / 4 = i / 4
  · simp only [if_pos e]
    rw [nth_set (by omega), if_neg (by omega), e]
  · simp only [if_neg e]
theorem follow_later (h : BS w0 w M k p g S l 7) (hV : Vars w0) (hg : Good n kk S) {q : Pt} {ns cs : List Pt} {i : Nat} (hi : i < 16) (hn : Node S kk q ns) (hc : Node S kk (nth ns (i / 4)) cs) :
    ∀ u, Below w.heap.size w u → Calls Tryd.prog 85 #[.pointer (some ⟨k, 0, none⟩), .agg q.vs.toArray, .int .i64 (i : Int)] u fun e w' => e = .returned (.tuple #[.agg (wayV i ns cs).toArray, .int .i64 0]) ∧ Below u.heap.size u w' := fun u hu => follow_run (h.stays hu) hV hg hi hn hc

set_option maxHeartbeats 8000000 in
theorem set_run (h : BS w0 w M k p g S (lab n kk) 7) (hV : Vars w0) (hg : Good n kk S) {q : Pt} {ns : List Pt} {cs : Nat → List Pt} {pl : List (List Int)} (hv : Vol S kk q ns cs pl) {i : Nat} (hi : i < 16)
    {a : Option Addr} {cc : Nat} {bs : List Int} (hB : Bs w a cc bs) (hn : ∀ x, a = some x → M x.block) (hbl : bs.length = 256) (hbr : ∀ y ∈ bs, 0 ≤ y ∧ y ≤ 255) (hk : kk + 5 ≤ n) :
    Calls Tryd.prog 52 #[.pointer (some ⟨k, 0, none⟩), .agg q.vs.toArray, .int .i64 (i : Int), .slice a 256 cc] w fun e w' => ∃ root, e = .returned (.tuple #[.agg root.vs.toArray, .int .i64 0]) ∧ EditOf w0 w M k p g S n kk cs pl i bs root w' := by
  have hm : i / 4 < 4 := by omega
  have hnr := hv.root
  have hnl := hv.leaf (i / 4) hm
  have hfo : ∀ u N, BS w0 u N k p g S (lab n kk) 7 → Calls Tryd.prog 85 #[.pointer (some ⟨k, 0, none⟩), .agg q.vs.toArray, .int .i64 (i : Int)] u fun e w' => e = .returned (.tuple #[.agg (wayV i ns (cs (i / 4))).toArray, .int .i64 0]) ∧ Below u.heap.size u w' := fun u N h1 => follow_run h1 hV hg hi hnr hnl
  have hpt : ∀ u N, BS w0 u N k p g S (lab n kk) 7 → (∀ j, M j → N j) → Stay M w u → Calls Tryd.prog 89 #[.pointer (some ⟨k, 0, none⟩), .slice a 256 cc, .int .i64 1, .func (.func 88) #[] #[]] u fun e w' => ∃ v, e = .returned (.tuple #[.agg (ptrAt bs kk 1).vs.toArray, v, .int .i64 0]) ∧ One v ∧ PutsOf w0 u N k p g S n kk bs 1 w' :=
    fun u N h1 h2 h3 => tput_run h1 hV hg (h3.bs hB hn) (fun x hx => h2 _ (hn x hx)) hbl hbr (c := 1) (.inl rfl) (by omega) ⟨rfl, rfl⟩
  have hqv := vals_ptr (hnr.ok hg.klt)
  have hwv := vals_way hnr.four hnl.four i
  have hpok : (ptrAt bs kk 1).ok := ptrAt_ok (by have := hg.klt; omega)
  have hpm : (ptrAt bs kk 1).may = true := ptrAt_may hg.lo
  have hpv := vals_ptr hpok
  have HPH : Hid ((ptrAt bs kk 1).hole = false) := ptrAt_hole hg.lo
  have hly : ∀ u N S1 (v : Value), BS w0 u N k p g S1 (lab n (kk + 1)) 7 → Good n (kk + 1) S1 → One v → Calls Tryd.prog 87 #[.agg (wayV i ns (cs (i / 4))).toArray, .pointer (some ⟨k, 0, none⟩), .agg (ptrAt bs kk 1).vs.toArray, v] u fun e w' => ∃ root, e = .returned (.tuple #[.agg root.vs.toArray, .int .i64 0]) ∧ LayOf w0 u N k p g S1 n (kk + 1) ns (cs (i / 4)) i (ptrAt bs kk 1) root w' :=
    fun u N S1 v h1 h2 h3 => tlay_run h1 hV h2 hnr.four hnl.four hi hpok hpm (by omega) h3
  have HP : Hid (∀ S1 root q1 S2 k2, Keeps S kk S1 (kk + 1) → Stands S1 (kk + 1) (ptrAt bs kk 1) bs → Keeps S1 (kk + 1) S2 k2 → k2 ≤ kk + 1 + 4 → Node S2 k2 q1 ((cs (i / 4)).set (i % 4) (ptrAt bs kk 1)) → Node S2 k2 root (ns.set (i / 4) q1) → (k2 = kk + 1 + 4 ∧ root = ptrAt (nodeL (ns.set (i / 4) q1)) (kk + 1 + 2) 2) → Edited S kk cs pl i bs root S2 k2 (ns.set (i / 4) q1) (fun m => if m = i / 4 then (cs (i / 4)).set (i % 4) (ptrAt bs kk 1) else cs m)) :=
    fun S1 root q1 S2 k2 h1 h2 h3 h4 h5 h6 h7 => ⟨h1.trans h3, by omega, hv.lay h1 hi (.inr h2) h3 h5 h6, fun j hj hne => laid_same hnl.four.len hj hne, fun _ => ⟨by omega, by rw [h7.2]; rfl, by rw [h7.2]; rfl, by show nth (if i / 4 = i / 4 then _ else _) _ = _; rw [if_pos rfl, nth_set (by rw [hnl.four.len]; omega), if_pos rfl]⟩⟩
  obtain ⟨vs, hvs⟩ : ∃ vs, vs = q.vs := ⟨_, rfl⟩
  rw [← hvs] at hqv hfo ⊢
  obtain ⟨us, hus⟩ : ∃ us, us = (ptrAt bs kk 1).vs := ⟨_, rfl⟩
  rw [← hus] at hpv hpt hly
  obtain ⟨wv, hwve⟩ : ∃ wv, wv = wayV i ns (cs (i / 4)) := ⟨_, rfl⟩
  rw [← hwve] at hwv hfo hly
  have hs := BI.start h
  clear hvs hus hwve h hg hv hB hnr hnl hbr hpok hpm
  go_enter Tryd.func52, Tryd.ntmps52
  go_wp2_with (first
    | (refine sep_box hs rfl rfl (by rfl) hqv ?_; clear hs; intro w1 g1 hs)
    | (refine sep_alloc hs rfl rfl (by first | exact al_ptr | exact al_way) ?_; clear hs; intro w1 g1 hs)
    | (refine sep_storew hs rfl rfl (by rfl) (by rfl) (by repeat (first | exact Upd.head | apply Upd.tail)) (by first | exact ty_ptr | exact ty_way) (by assumption) ?_; clear hs; intro w1 hs)
    | (refine sep_loadw hs rfl rfl (by rfl) (by repeat (first | exact List.Mem.head _ | apply List.Mem.tail)) (by first | exact ty_ptr | exact ty_way) ?_)
    | (go_at_call 85; go_must (refine (hfo _ _ hs.bank).mono ?_); rintro e w1 ⟨rfl, hb1⟩; replace hs := hs.stays hb1; clear hb1)
    | (go_at_call 89; go_must (refine (hpt _ _ hs.bank (fun j hj => .inl hj) hs.stay).mono ?_); rintro e w1 ⟨v1, rfl, hv1, S1, h1, h2, hg1, hk1, hp1⟩; replace hs := hs.turn h1 h2; have HK1 : Hid _ := hk1; have HP1 : Hid _ := hp1; clear h1 h2 hk1 hp1)
    | (go_at_call 87; go_must (refine (hly _ _ _ _ hs.bank hg1 hv1).mono ?_); rintro e w1 ⟨root, rfl, q1, S2, k2, h1, h2, hg2, hk2, hle2, hn2, hr2, hx2⟩; replace hs := hs.turn h1 h2; have hrv := vals_ptr (hr2.ok hg2.klt); have HX2 : Hid _ := hx2; clear h1 h2 hx2))
  exact sep_ret2 hs rfl rfl (by rfl) (by rfl) ty_ptr (by repeat (first | exact List.Mem.head _ | apply List.Mem.tail)) ⟨root, rfl, S2, k2, _, _, hs.done.1, hs.done.2, hg2, HP.out _ _ _ _ _ HK1.out HP1.out hk2 hle2 hn2 hr2 (HX2.out HPH.out)⟩

theorem edit_none {q : Pt} {ns : List Pt} {cs : Nat → List Pt} {pl : List (List Int)} (hv : Vol S kk q ns cs pl) {i : Nat} (hi : i < 16) (hh : (nth (cs (i / 4)) (i % 4)).hole = true) : Edited S kk cs pl i [] q S kk ns cs := by
  have h1 := hv.cell i hi
  have h2 : pl.getD i [] = [] := by
    have := h1.hole
    rw [hh] at this
    exact of_decide_eq_true this.symm
  have h3 : pl.set i [] = pl := by
    refine List.ext_getElem (by rw [List.length_set]) (fun j hj hj' => ?_)
    rw [List.getElem_set]
    split
    · next e =>
      subst e
      rw [List.getD_eq_getElem?_getD, List.getElem?_eq_getElem hj'] at h2
      exact h2.symm
    · rfl
  exact ⟨Keeps.refl _ _, by omega, by rw [h3]; exact hv, fun _ _ _ => rfl, fun h => absurd rfl h⟩

set_option maxHeartbeats 8000000 in
theorem trim_run (h : BS w0 w M k p g S (lab n kk) 7) (hV : Vars w0) (hg : Good n kk S) {q : Pt} {ns : List Pt} {cs : Nat → List Pt} {pl : List (List Int)} (hv : Vol S kk q ns cs pl) {i : Nat} (hi : i < 16) (hk : kk + 5 ≤ n) :
    Calls Tryd.prog 51 #[.pointer (some ⟨k, 0, none⟩), .agg q.vs.toArray, .int .i64 (i : Int)] w fun e w' => ∃ root, e = .returned (.tuple #[.agg root.vs.toArray, .int .i64 0]) ∧ EditOf w0 w M k p g S n kk cs pl i [] root w' := by
  have hm : i / 4 < 4 := by omega
  have hnr := hv.root
  have hnl := hv.leaf (i / 4) hm
  have hfo : ∀ u N, BS w0 u N k p g S (lab n kk) 7 → Calls Tryd.prog 85 #[.pointer (some ⟨k, 0, none⟩), .agg q.vs.toArray, .int .i64 (i : Int)] u fun e w' => e = .returned (.tuple #[.agg (wayV i ns (cs (i / 4))).toArray, .int .i64 0]) ∧ Below u.heap.size u w' := fun u N h1 => follow_run h1 hV hg hi hnr hnl
  have hce := fun u => cell_run hnr.four hnl.four hi u
  have hcok := nth_ok hnl.four.ok (i % 4)
  have hho := fun u => isHole_run (nth (cs (i / 4)) (i % 4)) hcok u
  have hqv := vals_ptr (hnr.ok hg.klt)
  have hcv := vals_ptr hcok
  have hwv := vals_way hnr.four hnl.four i
  have hzv := vals_ptr Pt.zero_ok
  cases hh : (nth (cs (i / 4)) (i % 4)).hole
  · have hly : ∀ u N (v : Value), BS w0 u N k p g S (lab n kk) 7 → One v → Calls Tryd.prog 87 #[.agg (wayV i ns (cs (i / 4))).toArray, .pointer (some ⟨k, 0, none⟩), .agg Pt.zero.vs.toArray, v] u fun e w' => ∃ root, e = .returned (.tuple #[.agg root.vs.toArray, .int .i64 0]) ∧ LayOf w0 u N k p g S n kk ns (cs (i / 4)) i Pt.zero root w' :=
      fun u N v h1 h3 => tlay_run h1 hV hg hnr.four hnl.four hi Pt.zero_ok Pt.zero_may (by omega) h3
    have HP : Hid (∀ root q1 S2 k2, Keeps S kk S2 k2 → k2 ≤ kk + 4 → Node S2 k2 q1 ((cs (i / 4)).set (i % 4) Pt.zero) → Node S2 k2 root (ns.set (i / 4) q1) → Edited S kk cs pl i [] root S2 k2 (ns.set (i / 4) q1) (fun m => if m = i / 4 then (cs (i / 4)).set (i % 4) Pt.zero else cs m)) :=
      fun root q1 S2 k2 h3 h4 h5 h6 => ⟨h3, by omega, hv.lay (Keeps.refl _ _) hi (.inl ⟨rfl, rfl⟩) h3 h5 h6, fun j hj hne => laid_same hnl.four.len hj hne, fun h => absurd rfl h⟩
    rw [hh] at hho
    obtain ⟨vs, hvs⟩ : ∃ vs, vs = q.vs := ⟨_, rfl⟩
    rw [← hvs] at hqv hfo ⊢
    obtain ⟨us, hus⟩ : ∃ us, us = (nth (cs (i / 4)) (i % 4)).vs := ⟨_, rfl⟩
    rw [← hus] at hcv hce hho
    obtain ⟨wv, hwve⟩ : ∃ wv, wv = wayV i ns (cs (i / 4)) := ⟨_, rfl⟩
    rw [← hwve] at hwv hfo hly hce
    have hs := BI.start h
    clear hvs hus hwve h hg hv hnr hnl hcok hh
    go_enter Tryd.func51, Tryd.ntmps51
    go_wp2_with (first
      | (refine sep_box hs rfl rfl (by rfl) hqv ?_; clear hs; intro w1 g1 hs)
      | (refine sep_alloc hs rfl rfl (by first | exact al_ptr | exact al_way) ?_; clear hs; intro w1 g1 hs)
      | (refine sep_storew hs rfl rfl (by rfl) (by rfl) (by repeat (first | exact Upd.head | apply Upd.tail)) (by first | exact ty_ptr | exact ty_way) (by assumption) ?_; clear hs; intro w1 hs)
      | (refine sep_loadw hs rfl rfl (by rfl) (by repeat (first | exact List.Mem.head _ | apply List.Mem.tail)) (by first | exact ty_ptr | exact ty_way) ?_)
      | (go_at_call 85; go_must (refine (hfo _ _ hs.bank).mono ?_); rintro e w1 ⟨rfl, hb1⟩; replace hs := hs.stays hb1; clear hb1)
      | (go_at_call 86; go_must (refine (hce _).mono ?_); rintro e w1 ⟨rfl, hb1⟩; replace hs := hs.stays hb1; clear hb1)
      | (go_at_call 57; go_must (refine (hho _).mono ?_); rintro e w1 ⟨rfl, hb1⟩; replace hs := hs.stays hb1; clear hb1)
      | (refine wpList_build0 (by rfl) 42 (by rfl) _ build_ptr0 ?_)
      | (go_at_call 87; go_must (refine (hly _ _ _ hs.bank ⟨rfl, rfl⟩).mono ?_); rintro e w1 ⟨root, rfl, q1, S2, k2, h1, h2, hg2, hk2, hle2, hn2, hr2, hx2⟩; replace hs := hs.turn h1 h2; have hrv := vals_ptr (hr2.ok hg2.klt); clear h1 h2 hx2))
    exact sep_ret2 hs rfl rfl (by rfl) (by rfl) ty_ptr (by repeat (first | exact List.Mem.head _ | apply List.Mem.tail)) ⟨root, rfl, S2, k2, _, _, hs.done.1, hs.done.2, hg2, HP.out _ _ _ _ hk2 hle2 hn2 hr2⟩
  · have HP : Hid (∀ w', BS w0 w' M k p g S (lab n kk) 7 ∧ Stay M w w' → EditOf w0 w M k p g S n kk cs pl i [] q w') := fun w' h1 => ⟨S, kk, ns, cs, h1.1, h1.2, hg, edit_none hv hi hh⟩
    rw [hh] at hho
    obtain ⟨vs, hvs⟩ : ∃ vs, vs = q.vs := ⟨_, rfl⟩
    have HVS : Hid (vs = q.vs) := hvs
    rw [← hvs] at hqv hfo ⊢
    obtain ⟨us, hus⟩ : ∃ us, us = (nth (cs (i / 4)) (i % 4)).vs := ⟨_, rfl⟩
    rw [← hus] at hcv hce hho
    obtain ⟨wv, hwve⟩ : ∃ wv, wv = wayV i ns (cs (i / 4)) := ⟨_, rfl⟩
    rw [← hwve] at hwv hfo hce
    have hs := BI.start h
    clear hvs hus hwve h hg hv hnr hnl hcok hh
    go_enter Tryd.func51, Tryd.ntmps51
    go_wp2_with (first
      | (refine sep_box hs rfl rfl (by rfl) hqv ?_; clear hs; intro w1 g1 hs)
      | (refine sep_alloc hs rfl rfl (by first | exact al_ptr | exact al_way) ?_; clear hs; intro w1 g1 hs)
      | (refine sep_storew hs rfl rfl (by rfl) (by rfl) (by repeat (first | exact Upd.head | apply Upd.tail)) (by first | exact ty_ptr | exact ty_way) (by assumption) ?_; clear hs; intro w1 hs)
      | (refine sep_loadw hs rfl rfl (by rfl) (by repeat (first | exact List.Mem.head _ | apply List.Mem.tail)) (by first | exact ty_ptr | exact ty_way) ?_)
      | (go_at_call 85; go_must (refine (hfo _ _ hs.bank).mono ?_); rintro e w1 ⟨rfl, hb1⟩; replace hs := hs.stays hb1; clear hb1)
      | (go_at_call 86; go_must (refine (hce _).mono ?_); rintro e w1 ⟨rfl, hb1⟩; replace hs := hs.stays hb1; clear hb1)
      | (go_at_call 57; go_must (refine (hho _).mono ?_); rintro e w1 ⟨rfl, hb1⟩; replace hs := hs.stays hb1; clear hb1)
      | (refine wpList_build0 (by rfl) 42 (by rfl) _ build_ptr0 ?_))
    exact sep_ret2 hs rfl rfl (by rfl) (by rfl) ty_ptr (by repeat (first | exact List.Mem.head _ | apply List.Mem.tail)) ⟨q, by rw [← HVS.out]; rfl, HP.out _ hs.done⟩

set_option maxHeartbeats 8000000 in
theorem set_no (q : Pt) (hq : q.ok) {i : Int} (hi : i < 0 ∨ 16 ≤ i) {a : Option Addr} {m cc : Nat} (w : World) :
    Calls Tryd.prog 52 #[.pointer (some ⟨k, 0, none⟩), .agg q.vs.toArray, .int .i64 i, .slice a m cc] w fun e w' => e = .returned (.tuple #[.agg Pt.zero.vs.toArray, .int .i64 1]) ∧ Below w.heap.size w w' := by
  have hfo := fun u => follow_no (k := k) q hq hi u
  have hqv := vals_ptr hq
  have hz := al_way.2
  have hzv := vals_ptr Pt.zero_ok
  obtain ⟨vs, hvs⟩ : ∃ vs, vs = q.vs := ⟨_, rfl⟩
  rw [← hvs] at hqv hfo ⊢
  obtain ⟨wv, hwve⟩ : ∃ wv, wv = wayV 0 zeros4 zeros4 := ⟨_, rfl⟩
  rw [← hwve] at hz hfo
  have hs := PI.start w
  clear hvs hwve
  go_enter Tryd.func52, Tryd.ntmps52
  go_wp2_with (first
    | (refine sep_box hs rfl rfl (by rfl) hqv ?_; clear hs; intro w1 g1 hs)
    | (refine sep_alloc hs rfl rfl (by first | exact al_ptr | exact al_way) ?_; clear hs; intro w1 g1 hs)
    | (refine sep_storew hs rfl rfl (by rfl) (by rfl) (by repeat (first | exact Upd.head | apply Upd.tail)) (by first | exact ty_ptr | exact ty_way) (by assumption) ?_; clear hs; intro w1 hs)
    | (refine sep_loadw hs rfl rfl (by rfl) (by repeat (first | exact List.Mem.head _ | apply List.Mem.tail)) (by first | exact ty_ptr | exact ty_way) ?_)
    | (go_at_call 85; go_must (refine (hfo _).mono ?_); rintro e w1 ⟨rfl, hb1⟩; replace hs := hs.stays hb1; clear hb1)
    | (refine wpList_build0 (by rfl) 42 (by rfl) _ build_ptr0 ?_))
  exact sep_ret2 hs rfl rfl (by rfl) (by rfl) ty_ptr (by repeat (first | exact List.Mem.head _ | apply List.Mem.tail)) ⟨rfl, hs.below⟩

set_option maxHeartbeats 8000000 in
theorem trim_no (q : Pt) (hq : q.ok) {i : Int} (hi : i < 0 ∨ 16 ≤ i) (w : World) :
    Calls Tryd.prog 51 #[.pointer (some ⟨k, 0, none⟩), .agg q.vs.toArray, .int .i64 i] w fun e w' => e = .returned (.tuple #[.agg Pt.zero.vs.toArray, .int .i64 1]) ∧ Below w.heap.size w w' := by
  have hfo := fun u => follow_no (k := k) q hq hi u
  have hqv := vals_ptr hq
  have hz := al_way.2
  have hzv := vals_ptr Pt.zero_ok
  obtain ⟨vs, hvs⟩ : ∃ vs, vs = q.vs := ⟨_, rfl⟩
  rw [← hvs] at hqv hfo ⊢
  obtain ⟨wv, hwve⟩ : ∃ wv, wv = wayV 0 zeros4 zeros4 := ⟨_, rfl⟩
  rw [← hwve] at hz hfo
  have hs := PI.start w
  clear hvs hwve
  go_enter Tryd.func51, Tryd.ntmps51
  go_wp2_with (first
    | (refine sep_box hs rfl rfl (by rfl) hqv ?_; clear hs; intro w1 g1 hs)
    | (refine sep_alloc hs rfl rfl (by first | exact al_ptr | exact al_way) ?_; clear hs; intro w1 g1 hs)
    | (refine sep_storew hs rfl rfl (by rfl) (by rfl) (by repeat (first | exact Upd.head | apply Upd.tail)) (by first | exact ty_ptr | exact ty_way) (by assumption) ?_; clear hs; intro w1 hs)
    | (refine sep_loadw hs rfl rfl (by rfl) (by repeat (first | exact List.Mem.head _ | apply List.Mem.tail)) (by first | exact ty_ptr | exact ty_way) ?_)
    | (go_at_call 85; go_must (refine (hfo _).mono ?_); rintro e w1 ⟨rfl, hb1⟩; replace hs := hs.stays hb1; clear hb1)
    | (refine wpList_build0 (by rfl) 42 (by rfl) _ build_ptr0 ?_))
  exact sep_ret2 hs rfl rfl (by rfl) (by rfl) ty_ptr (by repeat (first | exact List.Mem.head _ | apply List.Mem.tail)) ⟨rfl, hs.below⟩
end

end Go.Proofs.YtcfjkkjjcljaoaaDoor
