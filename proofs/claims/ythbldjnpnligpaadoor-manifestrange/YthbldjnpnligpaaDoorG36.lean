/-
  tree.put, tree.putNode: a block, and a node, put where there is room.
-/
import Derived.Test.YthbldjnpnligpaaDoorG35
import Derived.Test.YthbldjnpnligpaaDoorG07
namespace Go.Proofs.YthbldjnpnligpaaDoor
set_option linter.unusedSimpArgs false
set_option linter.unusedVariables false
set_option maxRecDepth 100000
open Go.RowKit

theorem not_agg {P : Program} {t : TypeId} {d : TypeDesc} (h : P.underlying t = some d) (h1 : (match d with | .struct _ | .array _ _ => true | _ => false) = false) (w : World) : (isAgg t).run P w = .ok false w := by
  cases d <;> simp at h1 <;> simp [isAgg, run_underlying h, go_sem]
theorem ty1_bank : Ty1 Tryd.prog 23 := ⟨fun w => not_agg Tryd.underlying23 rfl w, fun w => sizeOf_run (by kernel_rfl) w⟩
theorem ty1_int : Ty1 Tryd.prog 3 := ⟨fun w => not_agg Tryd.underlying3 rfl w, fun w => sizeOf_run (by kernel_rfl) w⟩
/-- A value of one cell. -/
def One (u : Value) : Prop := u.cells = #[u] ∧ u.oneCell' = true

section
variable {w0 w : World} {M : Nat → Prop} {k p g : Nat} {S : DS} {n kk : Nat}

/-- What a put leaves. -/
def PutsOf (w0 w : World) (M : Nat → Prop) (k p g : Nat) (S : DS) (n kk : Nat) (b : List Int) (c : Nat) (w' : World) : Prop :=
  ∃ S', BS w0 w' M k p g S' (lab n (kk + c)) 7 ∧ Stay M w w' ∧ Good n (kk + c) S' ∧ Keeps S kk S' (kk + c) ∧ Stands S' (kk + c) (ptrAt b kk c) b

set_option maxHeartbeats 4000000 in
theorem tput_run (h : BS w0 w M k p g S (lab n kk) 7) (hV : Vars w0) (hg : Good n kk S) {a : Option Addr} {cc : Nat} {bs : List Int} (hB : Bs w a cc bs) (hn : ∀ x, a = some x → M x.block) (hbl : bs.length = 256) (hbr : ∀ y ∈ bs, 0 ≤ y ∧ y ≤ 255) {c : Nat} (hc : c = 1 ∨ c = 2) (hk : kk + c ≤ n) {u : Value} (hu : One u) :
    Calls Tryd.prog 122 #[.pointer (some ⟨k, 0, none⟩), .slice a 256 cc, .int .i64 (c : Int), u] w fun e w' => ∃ v, e = .returned (.tuple #[.agg (ptrAt bs kk c).vs.toArray, v, .int .i64 0]) ∧ One v ∧ PutsOf w0 w M k p g S n kk bs c w' := by
  obtain ⟨S', hpe, hg', hkp, hst⟩ := good_put hg hc hk hbl hbr
  have hput : ∀ u N, BS w0 u N k p g S (lab n kk) 7 → (∀ j, M j → N j) → Stay M w u → Calls Tryd.prog 50 #[.pointer (some ⟨k, 0, none⟩), .slice a 256 cc, .int .i64 (c : Int)] u fun e w' => e = .returned (.tuple #[.agg (ptrAt bs kk c).vs.toArray, .int .i64 0]) ∧ BS w0 w' N k p g S' (lab n (kk + c)) 7 ∧ Stay N u w' := fun u N h1 h2 h3 => by
    have := bs_put h1 hV hg.small a cc bs (h3.bs hB hn) (fun _ x hx => .inl (h2 _ (hn x hx))) (c : Int)
    rw [hpe, hbl] at this
    exact this
  have hqv := vals_ptr (hst.ok hg'.klt)
  obtain ⟨vs, hvs⟩ : ∃ vs, vs = (ptrAt bs kk c).vs := ⟨_, rfl⟩
  rw [← hvs] at hqv hput ⊢
  have HP : Hid (∀ w', BS w0 w' M k p g S' (lab n (kk + c)) 7 ∧ Stay M w w' → PutsOf w0 w M k p g S n kk bs c w') := fun w' h1 => ⟨S', h1.1, h1.2, hg', hkp, hst⟩
  have hs := BI.start h
  clear hvs hpe hg' hkp hst hB hbr hg h
  go_enter Tryd.func122, Tryd.ntmps122
  go_wp2_with (first
    | (refine sep_alloc hs rfl rfl al_ptr ?_; clear hs; intro w1 g1 hs)
    | (refine sep_loadw hs rfl rfl (by rfl) (by repeat (first | exact List.Mem.head _ | apply List.Mem.tail)) (by first | exact ty_ptr) ?_)
    | (refine sep_storew hs rfl rfl (by rfl) (by rfl) (by repeat (first | exact Upd.head | apply Upd.tail)) (by first | exact ty_ptr) (by assumption) ?_; clear hs; intro w1 hs)
    | (refine sep_box1 hs rfl rfl (by rfl) (by first | rfl | exact hu.1) (by first | rfl | exact hu.2) ?_; clear hs; intro w1 g1 hs)
    | (refine sep_load1 hs rfl rfl (by rfl) (by repeat (first | exact List.Mem.head _ | apply List.Mem.tail)) ty1_bank rfl ?_)
    | (go_at_call 50; go_must (refine (hput _ _ hs.bank (fun j hj => .inl hj) hs.stay).mono ?_); rintro e w1 ⟨rfl, h1, h2⟩; replace hs := hs.turn h1 h2; clear h1 h2))
  exact sep_ret3 hs rfl rfl (by rfl) (by rfl) (by rfl) ty_ptr (by repeat (first | exact List.Mem.head _ | apply List.Mem.tail)) ⟨_, rfl, ⟨rfl, rfl⟩, HP.out _ hs.done⟩

/-- What a node's put leaves. -/
def NodeOf (w0 w : World) (M : Nat → Prop) (k p g : Nat) (S : DS) (n kk : Nat) (l : List Pt) (q : Pt) (w' : World) : Prop :=
  ∃ S' k', BS w0 w' M k p g S' (lab n k') 7 ∧ Stay M w w' ∧ Good n k' S' ∧ Keeps S kk S' k' ∧ k' ≤ kk + 2 ∧ Node S' k' q l ∧ (l.all Pt.hole = false → k' = kk + 2 ∧ q = ptrAt (nodeL l) kk 2)

set_option maxHeartbeats 4000000 in
theorem putNode_run (h : BS w0 w M k p g S (lab n kk) 7) (hV : Vars w0) (hg : Good n kk S) {l : List Pt} (hl : Four l) (hk : kk + 2 ≤ n) {z : Value} (hu : One z) :
    Calls Tryd.prog 154 #[.pointer (some ⟨k, 0, none⟩), .agg (fourV l).toArray, z] w fun e w' => ∃ q v, e = .returned (.tuple #[.agg q.vs.toArray, v, .int .i64 0]) ∧ One v ∧ NodeOf w0 w M k p g S n kk l q w' := by
  have hem := fun u => isEmpty_run l hl.ok hl.len u
  have hlv := vals_four hl
  have hs := BI.start h
  rcases node_put hg hl hk with ⟨ha, hn⟩ | ⟨ha, S', hpe, hg', hkp, hn⟩
  · have hzv := vals_ptr Pt.zero_ok
    have HP : Hid (∀ w', BS w0 w' M k p g S (lab n kk) 7 ∧ Stay M w w' → NodeOf w0 w M k p g S n kk l Pt.zero w') := fun w' h1 => ⟨S, kk, h1.1, h1.2, hg, Keeps.refl _ _, by omega, hn, fun e => by rw [ha] at e; cases e⟩
    rw [ha] at hem
    obtain ⟨fs, hfs⟩ : ∃ fs, fs = fourV l := ⟨_, rfl⟩
    rw [← hfs] at hem hlv ⊢
    clear hfs hn ha
    go_enter Tryd.func154, Tryd.ntmps154
    go_wp2_with (first
      | (refine sep_box hs rfl rfl (by rfl) (by assumption) ?_; clear hs; intro w1 g1 hs)
      | (refine sep_alloc hs rfl rfl al_ptr ?_; clear hs; intro w1 g1 hs)
      | (refine sep_loadw hs rfl rfl (by rfl) (by repeat (first | exact List.Mem.head _ | apply List.Mem.tail)) (by first | exact ty_ptr | exact ty_four) ?_)
      | (refine sep_storew hs rfl rfl (by rfl) (by rfl) (by repeat (first | exact Upd.head | apply Upd.tail)) (by first | exact ty_ptr | exact ty_four) (by assumption) ?_; clear hs; intro w1 hs)
      | (refine wpList_build0 (by rfl) 42 (by rfl) _ build_ptr0 ?_)
      | (go_at_call 168; go_must (refine (hem _).mono ?_); rintro e w1 ⟨rfl, hb1⟩; replace hs := hs.stays hb1; clear hb1))
    exact sep_ret3 hs rfl rfl (by rfl) (by rfl) (by rfl) ty_ptr (by repeat (first | exact List.Mem.head _ | apply List.Mem.tail)) ⟨_, _, rfl, hu, HP.out _ hs.done⟩
  · have hnd := fun u => node_new l hl.ok hl.len u
    have hnl := nodeL_len hl.ok hl.len
    have hnr := nodeL_rng hl.ok
    have hpt : ∀ (u : World) (N : Nat → Prop) (a : Option Addr) (cc : Nat), BS w0 u N k p g S (lab n kk) 7 → Bs u a cc (nodeL l) → (∀ x, a = some x → N x.block) → Calls Tryd.prog 122 #[.pointer (some ⟨k, 0, none⟩), .slice a 256 cc, .int .i64 2, z] u fun e w' => ∃ v, e = .returned (.tuple #[.agg (ptrAt (nodeL l) kk 2).vs.toArray, v, .int .i64 0]) ∧ One v ∧ PutsOf w0 u N k p g S n kk (nodeL l) 2 w' :=
      fun u N a cc h1 h2 h3 => tput_run h1 hV hg h2 h3 hnl hnr (c := 2) (.inr rfl) hk hu
    have hqv := vals_ptr (hn.ok hg'.klt)
    have hne : nodeL l ≠ [] := fun e => by rw [e] at hnl; simp at hnl
    have HP : Hid (∀ w' S1, BS w0 w' M k p g S1 (lab n (kk + 2)) 7 ∧ Stay M w w' → Good n (kk + 2) S1 → Keeps S kk S1 (kk + 2) → Stands S1 (kk + 2) (ptrAt (nodeL l) kk 2) (nodeL l) → NodeOf w0 w M k p g S n kk l (ptrAt (nodeL l) kk 2) w') :=
      fun w' S1 h1 h2 h3 h4 => ⟨S1, kk + 2, h1.1, h1.2, h2, h3, Nat.le_refl _, ⟨hl, .inr ⟨h4, ha⟩⟩, fun _ => ⟨rfl, rfl⟩⟩
    rw [ha] at hem
    obtain ⟨fs, hfs⟩ : ∃ fs, fs = fourV l := ⟨_, rfl⟩
    rw [← hfs] at hem hlv hnd ⊢
    obtain ⟨q, hq⟩ : ∃ q, q = ptrAt (nodeL l) kk 2 := ⟨_, rfl⟩
    have HQ : Hid (q = ptrAt (nodeL l) kk 2) := hq
    rw [← hq] at hqv hpt HP
    obtain ⟨vs, hvs⟩ : ∃ vs, vs = q.vs := ⟨_, rfl⟩
    have HVS : Hid (vs = q.vs) := hvs
    rw [← hvs] at hqv hpt
    clear hfs hn ha hpe hg' hkp hnl hnr hq hvs
    go_enter Tryd.func154, Tryd.ntmps154
    go_wp2_with (first
      | (refine sep_box hs rfl rfl (by rfl) (by assumption) ?_; clear hs; intro w1 g1 hs)
      | (refine sep_alloc hs rfl rfl al_ptr ?_; clear hs; intro w1 g1 hs)
      | (refine sep_loadw hs rfl rfl (by rfl) (by repeat (first | exact List.Mem.head _ | apply List.Mem.tail)) (by first | exact ty_ptr | exact ty_four) ?_)
      | (refine sep_storew hs rfl rfl (by rfl) (by rfl) (by repeat (first | exact Upd.head | apply Upd.tail)) (by first | exact ty_ptr | exact ty_four) (by assumption) ?_; clear hs; intro w1 hs)
      | (go_at_call 168; go_must (refine (hem _).mono ?_); rintro e w1 ⟨rfl, hb1⟩; replace hs := hs.stays hb1; clear hb1)
      | (go_at_call 126; go_must (refine (hnd _).mono ?_); rintro e w1 ⟨a1, c1, rfl, hB1, hb1, hn1⟩; replace hs := hs.slice hb1 hB1 hn1 hne; clear hb1 hB1 hn1)
      | (go_at_call 122; go_must (refine (hpt _ _ _ _ hs.bank (hs.bs (by repeat (first | exact List.Mem.head _ | apply List.Mem.tail))) (fun x hx => .inr (Sep.mine_sl (by repeat (first | exact List.Mem.head _ | apply List.Mem.tail)) hx))).mono ?_); rintro e w1 ⟨v1, rfl, hv1, S1, h1, h2, h3, h4, h5⟩; replace hs := hs.turn h1 h2; clear h1 h2))
    exact sep_ret3 hs rfl rfl (by rfl) (by rfl) (by rfl) ty_ptr (by repeat (first | exact List.Mem.head _ | apply List.Mem.tail)) ⟨q, v1, by rw [← HVS.out]; rfl, hv1, HP.out _ _ hs.done h3 h4 (HQ.out ▸ h5)⟩
end

end Go.Proofs.YthbldjnpnligpaaDoor

/-
  A way, as cells; tree.way.cell, tree.way.lay.
-/

namespace Go.Proofs.YthbldjnpnligpaaDoor
set_option linter.unusedSimpArgs false
set_option linter.unusedVariables false
set_option maxRecDepth 100000
open Go.RowKit

/-- A way's cells. -/
def wayV (i : Nat) (r l : List Pt) : List Value := .int .i64 (i : Int) :: (fourV r ++ fourV l)
theorem agg_way (w : World) : (isAgg 186).run Tryd.prog w = .ok true w := isAgg_struct (show Tryd.prog.underlying 186 = some (.struct (Tryd.prog.fieldsOf 186)) by kernel_rfl) w
theorem ty_way : Ty Tryd.prog 186 281 := ⟨agg_way, fun w => sizeOf_run (by kernel_rfl) w⟩
theorem build_way (i : Nat) (w : World) : (Instr.build 186 #[(0, .int .i64 (i : Int))]).run Tryd.prog w = .ok (.agg (wayV i zeros4 zeros4).toArray) w := by kernel_rfl
theorem build_way0 (w : World) : (Instr.build 186 #[]).run Tryd.prog w = .ok (.agg (wayV 0 zeros4 zeros4).toArray) w := by kernel_rfl
theorem four_len {l : List Pt} (h : Four l) : (fourV l).length = 140 := (vals_four h).1
theorem vals_way {r l : List Pt} (hr : Four r) (hl : Four l) (i : Nat) : Vals 281 (wayV i r l) := by
  refine ⟨by simp [wayV, four_len hr, four_len hl], fun v hv => ?_⟩
  rcases List.mem_cons.1 hv with rfl | hv
  · rfl
  · rcases List.mem_append.1 hv with h | h
    · exact fourV_one _ v h
    · exact fourV_one _ v h
theorem al_way : (∀ w, (Instr.alloc 186 true (.tuple #[])).run Tryd.prog w = .ok (.pointer (some ⟨w.heap.size, 0, none⟩)) (w.alloc (.cells (wayV 0 zeros4 zeros4).toArray 186))) ∧ Vals 281 (wayV 0 zeros4 zeros4) := ⟨fun w => by kernel_rfl, vals_way Four.zeros Four.zeros 0⟩

section
variable {r l r' l' : List Pt} {i : Nat}
theorem way_root (hr : Four r) (hl : Four l) : fourV r = ((wayV i r l).drop 1).take 140 := by
  unfold wayV
  rw [List.drop_succ_cons, List.drop_zero, ← four_len hr, List.take_left]
theorem way_leaf (hr : Four r) (hl : Four l) : fourV l = ((wayV i r l).drop 141).take 140 := by
  unfold wayV
  rw [List.drop_succ_cons, ← four_len hr, List.drop_left, four_len hr, ← four_len hl, List.take_length]
theorem way_set_root (hr : Four r) (hl : Four l) : wayV i r' l = (wayV i r l).take 1 ++ fourV r' ++ (wayV i r l).drop (1 + 140) := by
  unfold wayV
  rw [List.take_succ_cons, List.take_zero, show 1 + 140 = 140 + 1 by rfl, List.drop_succ_cons, ← four_len hr, List.drop_left]
  simp
theorem way_set_leaf (hr : Four r) (hl : Four l) : wayV i r l' = (wayV i r l).take 141 ++ fourV l' ++ (wayV i r l).drop (141 + 140) := by
  unfold wayV
  have h1 : (fourV r ++ fourV l).length = 280 := by rw [List.length_append, four_len hr, four_len hl]
  rw [List.take_succ_cons, ← four_len hr, List.take_left, show 141 + (fourV r).length = 280 + 1 by rw [four_len hr], List.drop_succ_cons, ← h1, List.drop_length]
  simp
theorem way_root_at (hr : Four r) (hl : Four l) {j : Nat} (hj : j < 4) : (nth r j).vs = ((wayV i r l).drop (1 + j * 35)).take 35 := by
  have h := four_part hr.ok (k := j) (by rw [hr.len]; exact hj)
  have hq := Pt.vs_len (nth_ok hr.ok j)
  unfold wayV
  rw [Nat.add_comm, List.drop_succ_cons, List.drop_append_of_le_length (by rw [four_len hr]; omega), List.take_append_of_le_length (by rw [List.length_drop, four_len hr]; omega)]
  exact h
theorem way_leaf_at (hr : Four r) (hl : Four l) {j : Nat} (hj : j < 4) : (nth l j).vs = ((wayV i r l).drop (141 + j * 35)).take 35 := by
  have h := four_part hl.ok (k := j) (by rw [hl.len]; exact hj)
  unfold wayV
  rw [show 141 + j * 35 = (140 + j * 35) + 1 by omega, List.drop_succ_cons, ← four_len hr, List.drop_append]
  rw [List.drop_eq_nil_of_le (by omega), List.nil_append, show (fourV r).length + j * 35 - (fourV r).length = j * 35 by omega]
  exact h
theorem way_set_root_at (hr : Four r) (hl : Four l) {j : Nat} (hj : j < 4) (p : Pt) : wayV i (r.set j p) l = (wayV i r l).take (1 + j * 35) ++ p.vs ++ (wayV i r l).drop (1 + j * 35 + 35) := by
  have h := fourV_set hr.ok (k := j) (by rw [hr.len]; exact hj) p
  unfold wayV
  rw [h, show 1 + j * 35 = (j * 35) + 1 by omega, List.take_succ_cons, show j * 35 + 1 + 35 = (j * 35 + 35) + 1 by omega, List.drop_succ_cons, List.take_append_of_le_length (by rw [four_len hr]; omega), List.drop_append_of_le_length (by rw [four_len hr]; omega)]
  simp
theorem way_set_leaf_at (hr : Four r) (hl : Four l) {j : Nat} (hj : j < 4) (p : Pt) : wayV i r (l.set j p) = (wayV i r l).take (141 + j * 35) ++ p.vs ++ (wayV i r l).drop (141 + j * 35 + 35) := by
  have h := fourV_set hl.ok (k := j) (by rw [hl.len]; exact hj) p
  unfold wayV
  rw [h, show 141 + j * 35 = (140 + j * 35) + 1 by omega, List.take_succ_cons, show 140 + j * 35 + 1 + 35 = (140 + (j * 35 + 35)) + 1 by omega, List.drop_succ_cons, ← four_len hr, List.take_append, List.drop_append]
  rw [List.take_of_length_le (show (fourV r).length ≤ (fourV r).length + j * 35 by omega), List.drop_eq_nil_of_le (show (fourV r).length ≤ (fourV r).length + (j * 35 + 35) by omega), show (fourV r).length + j * 35 - (fourV r).length = j * 35 by omega, show (fourV r).length + (j * 35 + 35) - (fourV r).length = j * 35 + 35 by omega]
  simp
end

/-- Where a pointer of four lies. -/
theorem ix_four (g off : Nat) {j : Nat} (hj : j < 4) (u : World) : (Instr.indexAt 139 (.pointer (some ⟨g, off, none⟩)) (.int .i64 (j : Int))).run Tryd.prog u = .ok (.pointer (some ⟨g, off + j * 35, none⟩)) u :=
  index_ptr Tryd.underlying139 (by kernel_rfl) hj u

set_option maxHeartbeats 4000000 in
theorem cell_run {r l : List Pt} (hr : Four r) (hl : Four l) {i : Nat} (hi : i < 16) (w : World) : Calls Tryd.prog 119 #[.agg (wayV i r l).toArray] w fun e w' => e = .returned (.agg (nth l (i % 4)).vs.toArray) ∧ Below w.heap.size w w' := by
  have hj : i % 4 < 4 := by omega
  have hwv := vals_way hr hl i
  have hqv := vals_ptr (nth_ok hl.ok (i % 4))
  have hix := fun (g u) => ix_four g 141 hj u
  have HL : Hid _ := way_leaf_at (i := i) hr hl hj
  have H0 : Hid ((wayV i r l)[0]? = some (.int .i64 (i : Int))) := rfl
  have hm : Int.tmod (i : Int) 4 = ((i % 4 : Nat) : Int) := by rw [Int.tmod_eq_emod_of_nonneg (by omega)]; omega
  obtain ⟨j, hj'⟩ : ∃ j, j = i % 4 := ⟨_, rfl⟩
  rw [← hj'] at hj hqv hix HL hm ⊢
  obtain ⟨vs, hvs⟩ : ∃ vs, vs = (nth l j).vs := ⟨_, rfl⟩
  rw [← hvs] at hqv HL ⊢
  obtain ⟨wv, hwve⟩ : ∃ wv, wv = wayV i r l := ⟨_, rfl⟩
  rw [← hwve] at hwv HL H0 ⊢
  have hs := PI.start w
  clear hj' hvs hwve
  go_enter Tryd.func119, Tryd.ntmps119
  go_wp2_with (first
    | (refine sep_box hs rfl rfl (by rfl) (by assumption) ?_; clear hs; intro w1 g1 hs)
    | (refine sep_alloc hs rfl rfl al_ptr ?_; clear hs; intro w1 g1 hs)
    | (refine sep_load1 hs rfl rfl (by rfl) (by repeat (first | exact List.Mem.head _ | apply List.Mem.tail)) ty1_int H0.out ?_)
    | (refine sep_load hs rfl rfl (by rfl) (by repeat (first | exact List.Mem.head _ | apply List.Mem.tail)) ty_ptr HL.out hqv.1 ?_)
    | (refine sep_storew hs rfl rfl (by rfl) (by rfl) (by repeat (first | exact Upd.head | apply Upd.tail)) ty_ptr hqv ?_; clear hs; intro w1 hs))
  exact sep_ret1 hs rfl rfl (by rfl) ty_ptr (by repeat (first | exact List.Mem.head _ | apply List.Mem.tail)) ⟨rfl, hs.below⟩

end Go.Proofs.YthbldjnpnligpaaDoor

/-
  tree.way.lay: a way's nodes, put anew from the leaf up.
-/

namespace Go.Proofs.YthbldjnpnligpaaDoor
set_option linter.unusedSimpArgs false
set_option linter.unusedVariables false
set_option maxRecDepth 100000
open Go.RowKit

section
variable {w0 w : World} {M : Nat → Prop} {k p g : Nat} {S : DS} {n kk : Nat}

/-- What a way's lay leaves. -/
def LayOf (w0 w : World) (M : Nat → Prop) (k p g : Nat) (S : DS) (n kk : Nat) (r l : List Pt) (i : Nat) (q root : Pt) (w' : World) : Prop :=
  ∃ q1 S2 k2, BS w0 w' M k p g S2 (lab n k2) 7 ∧ Stay M w w' ∧ Good n k2 S2 ∧ Keeps S kk S2 k2 ∧ k2 ≤ kk + 4 ∧ Node S2 k2 q1 (l.set (i % 4) q) ∧ Node S2 k2 root (r.set (i / 4) q1) ∧ (q.hole = false → k2 = kk + 4 ∧ root = ptrAt (nodeL (r.set (i / 4) q1)) (kk + 2) 2)

theorem all_set {l : List Pt} {i : Nat} {q : Pt} (hi : i < l.length) (hq : q.hole = false) : (l.set i q).all Pt.hole = false := by
  rw [List.all_eq_false]
  exact ⟨q, List.mem_set hi q, by rw [hq]; simp⟩

set_option maxHeartbeats 8000000 in
theorem tlay_run (h : BS w0 w M k p g S (lab n kk) 7) (hV : Vars w0) (hg : Good n kk S) {r l : List Pt} (hr : Four r) (hl : Four l) {i : Nat} (hi : i < 16) {q : Pt} (hq : q.ok) (hqm : q.may = true) (hk : kk + 4 ≤ n) {z : Value} (hz : One z) :
    Calls Tryd.prog 120 #[.agg (wayV i r l).toArray, .pointer (some ⟨k, 0, none⟩), .agg q.vs.toArray, z] w fun e w' => ∃ root, e = .returned (.tuple #[.agg root.vs.toArray, .int .i64 0]) ∧ LayOf w0 w M k p g S n kk r l i q root w' := by
  have hj : i % 4 < 4 := by omega
  have hm : i / 4 < 4 := by omega
  have hwv := vals_way hr hl i
  have hqv := vals_ptr hq
  have hix := fun (g u) => ix_four g 141 hj u
  have hix2 := fun (g u) => ix_four g 1 hm u
  have hjm : Int.tmod (i : Int) 4 = ((i % 4 : Nat) : Int) := by rw [Int.tmod_eq_emod_of_nonneg (by omega)]; omega
  have hmm : Int.tdiv (i : Int) 4 = ((i / 4 : Nat) : Int) := by rw [Int.tdiv_eq_ediv_of_nonneg (by omega)]; omega
  have hl2 : Four (l.set (i % 4) q) := hl.set _ hq hqm
  have HS1 : Hid _ := way_set_leaf_at (i := i) hr hl hj q
  have HX : Hid _ := fun (h0 : q.hole = false) => all_set (l := l) (i := i % 4) (by rw [hl.len]; exact hj) h0
  obtain ⟨l2, hl2e⟩ : ∃ l2, l2 = l.set (i % 4) q := ⟨_, rfl⟩
  have HLE : Hid (l2 = l.set (i % 4) q) := hl2e
  rw [← hl2e] at hl2 HS1 HX
  have HLf : Hid _ := way_leaf (i := i) hr hl2
  have H0 : Hid ((wayV i r l)[0]? = some (.int .i64 (i : Int))) := rfl
  have H02 : Hid ((wayV i r l2)[0]? = some (.int .i64 (i : Int))) := rfl
  have hlv := four_len hl2
  obtain ⟨j, hj'⟩ : ∃ j, j = i % 4 := ⟨_, rfl⟩
  rw [← hj'] at hj hix HS1 hjm
  obtain ⟨m, hm'⟩ : ∃ m, m = i / 4 := ⟨_, rfl⟩
  have HME : Hid (m = i / 4) := hm'
  rw [← hm'] at hm hix2 hmm
  have hsr : ∀ q1 : Pt, ∃ r2, Hid (r2 = r.set m q1) ∧ Hid (wayV i r2 l2 = (wayV i r l2).take (1 + m * 35) ++ q1.vs ++ (wayV i r l2).drop (1 + m * 35 + 35)) := fun q1 => ⟨_, rfl, way_set_root_at hr hl2 hm q1⟩
  obtain ⟨wv, hwve⟩ : ∃ wv, wv = wayV i r l := ⟨_, rfl⟩
  rw [← hwve] at hwv HS1 H0 ⊢
  obtain ⟨vs, hvs⟩ : ∃ vs, vs = q.vs := ⟨_, rfl⟩
  rw [← hvs] at hqv HS1 ⊢
  obtain ⟨wv2, hwve2⟩ : ∃ wv, wv = wayV i r l2 := ⟨_, rfl⟩
  rw [← hwve2] at HS1 HLf H02
  have hsr : ∀ q1 : Pt, ∃ r2, Hid (r2 = r.set m q1) ∧ Hid (wayV i r2 l2 = wv2.take (1 + m * 35) ++ q1.vs ++ wv2.drop (1 + m * 35 + 35)) := fun q1 => by rw [hwve2]; exact hsr q1
  have hs := BI.start h
  have HG : Hid (Good n kk S) := hg
  clear hj' hm' hvs hwve hwve2 hl2e hg
  go_enter Tryd.func120, Tryd.ntmps120
  go_wp2_with (first
    | (refine sep_box hs rfl rfl (by rfl) hwv ?_; clear hs; intro w1 g1 hs)
    | (refine sep_box hs rfl rfl (by rfl) hqv ?_; clear hs; intro w1 g1 hs)
    | (refine sep_alloc hs rfl rfl al_ptr ?_; clear hs; intro w1 g1 hs)
    | (refine sep_load1 hs rfl rfl (by rfl) (by repeat (first | exact List.Mem.head _ | apply List.Mem.tail)) ty1_int H0.out ?_)
    | (refine sep_load1 hs rfl rfl (by rfl) (by repeat (first | exact List.Mem.head _ | apply List.Mem.tail)) ty1_int H02.out ?_)
    | (refine sep_loadw hs rfl rfl (by rfl) (by repeat (first | exact List.Mem.head _ | apply List.Mem.tail)) ty_ptr ?_)
    | (refine sep_store hs rfl rfl (by rfl) (by rfl) (by repeat (first | exact Upd.head | apply Upd.tail)) ty_ptr hqv HS1.out (by omega) ?_; clear hs; intro w1 hs)
    | (refine sep_load hs rfl rfl (by rfl) (by repeat (first | exact List.Mem.head _ | apply List.Mem.tail)) ty_four HLf.out hlv ?_)
    | (go_at_call_of 154 (Value.agg (fourV l2).toArray); refine (putNode_run hs.bank hV HG.out hl2 (by omega) hz).mono ?_; rintro e w1 ⟨q1, v1, rfl, hv1, S1, k1, h1, h2, hg1, hk1, hle1, hn1, hx1⟩; replace hs := hs.turn h1 h2; clear h1 h2
       have hq1 := hn1.ok hg1.klt
       have hq1v := vals_ptr hq1
       obtain ⟨r2, HRE, HS2⟩ := hsr q1
       have hr2 : Four r2 := by rw [HRE.out]; exact hr.set _ hq1 hn1.may
       have HRf : Hid _ := way_root (i := i) hr2 hl2
       have hrv := four_len hr2
       have hwv2 := vals_way hr2 hl2 i
       obtain ⟨wv3, hwve3⟩ : ∃ wv, wv = wayV i r2 l2 := ⟨_, rfl⟩
       rw [← hwve3] at HS2 HRf hwv2
       have HG1 : Hid _ := hg1
       have HN1 : Hid _ := hn1
       have HX1 : Hid _ := hx1
       have HK1 : Hid _ := hk1
       clear hwve3 hg1 hn1 hx1 hk1)
    | (refine sep_store hs rfl rfl (by rfl) (by rfl) (by repeat (first | exact Upd.head | apply Upd.tail)) ty_ptr hq1v HS2.out (by omega) ?_; clear hs; intro w1 hs)
    | (refine sep_load hs rfl rfl (by rfl) (by repeat (first | exact List.Mem.head _ | apply List.Mem.tail)) ty_four HRf.out hrv ?_)
    | (refine sep_storew hs rfl rfl (by rfl) (by rfl) (by repeat (first | exact Upd.head | apply Upd.tail)) ty_ptr (by assumption) ?_; clear hs; intro w1 hs)
    | (go_at_call_of 154 (Value.agg (fourV r2).toArray); refine (putNode_run hs.bank hV HG1.out hr2 (by omega) hv1).mono ?_; rintro e w1 ⟨q2, v2, rfl, hv2, S2, k2, h1, h2, hg2, hk2, hle2, hn2, hx2⟩; replace hs := hs.turn h1 h2; have hq2v := vals_ptr (hn2.ok hg2.klt); clear h1 h2))
  refine sep_ret2 hs rfl rfl (by rfl) (by rfl) ty_ptr (by repeat (first | exact List.Mem.head _ | apply List.Mem.tail)) ⟨q2, rfl, q1, S2, k2, hs.done.1, hs.done.2, hg2, Keeps.trans HK1.out hk2, by omega, ?_, ?_, fun h0 => ?_⟩
  · rw [← HLE.out]; exact HN1.out.keep hk2
  · rw [← HME.out, ← HRE.out]; exact hn2
  · obtain ⟨e1, e2⟩ := HX1.out (HX.out h0)
    have h3 : r2.all Pt.hole = false := by
      rw [HRE.out]
      refine all_set (by rw [hr.len]; exact hm) ?_
      rw [e2]
      exact ptrAt_hole HG.out.lo
    obtain ⟨e3, e4⟩ := hx2 h3
    rw [← HME.out, ← HRE.out]
    exact ⟨by omega, by rw [e4, e1]⟩
end

end Go.Proofs.YthbldjnpnligpaaDoor
