/-
  tree.node: what a node's pointer reads.
-/
import Derived.Test.YtcfjkkjjcljaoaaDoorG35
import Derived.Test.YtcfjkkjjcljaoaaDoorG07
namespace Go.Proofs.YtcfjkkjjcljaoaaDoor
set_option linter.unusedSimpArgs false
set_option linter.unusedVariables false
set_option maxRecDepth 100000
open Go.RowKit

theorem ty_ptr : Ty Tryd.prog 42 35 := ⟨agg_ptr, size_ptr⟩
theorem ty_four : Ty Tryd.prog 128 140 := ⟨agg_four, size_four⟩
theorem vals_ptr {q : Pt} (h : q.ok) : Vals 35 q.vs := ⟨Pt.vs_len h, Pt.vs_one q⟩
theorem vals_four {l : List Pt} (h : Four l) : Vals 140 (fourV l) := ⟨by rw [fourV_len h.ok, h.len], fourV_one l⟩
theorem al_ptr : (∀ w, (Instr.alloc 42 true (.tuple #[])).run Tryd.prog w = .ok (.pointer (some ⟨w.heap.size, 0, none⟩)) (w.alloc (.cells Pt.zero.vs.toArray 42))) ∧ Vals 35 Pt.zero.vs := ⟨alloc_ptr0, vals_ptr Pt.zero_ok⟩
theorem al_four : (∀ w, (Instr.alloc 128 true (.tuple #[])).run Tryd.prog w = .ok (.pointer (some ⟨w.heap.size, 0, none⟩)) (w.alloc (.cells (fourV zeros4).toArray 128))) ∧ Vals 140 (fourV zeros4) := ⟨alloc_four0, vals_four Four.zeros⟩

section
variable {w0 w : World} {M : Nat → Prop} {k p g : Nat} {S : DS} {l : List Bool} {n kk : Nat}

set_option maxHeartbeats 4000000 in
theorem tnode_run (h : BS w0 w M k p g S l 7) (hV : Vars w0) (hg : Good n kk S) {q : Pt} {ns : List Pt} (hn : Node S kk q ns) :
    Calls Tryd.prog 58 #[.pointer (some ⟨k, 0, none⟩), .agg q.vs.toArray] w fun e w' => e = .returned (.tuple #[.agg (fourV ns).toArray, .int .i64 0]) ∧ Below w.heap.size w w' := by
  obtain ⟨h1, h2, h3⟩ := hn.read hg
  have hq := hn.ok hg.klt
  have hqv := vals_ptr hq
  have hrd : ∀ u, Below w.heap.size w u → Calls Tryd.prog 32 #[.pointer (some ⟨k, 0, none⟩), .agg q.vs.toArray] u fun e w' => ∃ a c, e = .returned (.tuple #[.slice a 256 c, .int .i64 0]) ∧ Bs w' a c (readK S q).1 ∧ Below u.heap.size u w' := fun u hu => by
    refine (bs_read (h.stays hu) hV hg.small q hq).mono ?_
    rintro e w' ⟨a, c, rfl, hN, hb⟩
    exact ⟨a, c, by rw [h1, h2], hN.1, hb⟩
  have hpr : ∀ u a c, Bs u a c (readK S q).1 → Calls Tryd.prog 90 #[.slice a 256 c] u fun e w' => e = .returned (.tuple #[.agg (fourV ns).toArray, .int .i64 0]) ∧ Below u.heap.size u w' := fun u a c hB => by
    have := read_run a c 256 _ u h2.symm hB
    rw [h3] at this
    exact this
  have hnv := vals_four hn.four
  obtain ⟨vs, hvs⟩ : ∃ vs, vs = q.vs := ⟨_, rfl⟩
  obtain ⟨fs, hfs⟩ : ∃ fs, fs = fourV ns := ⟨_, rfl⟩
  rw [← hvs] at hqv hrd ⊢
  rw [← hfs] at hnv hpr ⊢
  have hs := PI.start w
  clear hvs hfs h1 h2 h3
  go_enter Tryd.func58, Tryd.ntmps58
  go_wp2_with (first
    | (refine sep_box hs rfl rfl (by rfl) (by assumption) ?_; clear hs; intro w1 g1 hs)
    | (refine sep_alloc hs rfl rfl al_four ?_; clear hs; intro w1 g1 hs)
    | (refine sep_loadw hs rfl rfl (by rfl) (by repeat (first | exact List.Mem.head _ | apply List.Mem.tail)) (by first | exact ty_ptr | exact ty_four) ?_)
    | (refine sep_storew hs rfl rfl (by rfl) (by rfl) (by repeat (first | exact Upd.head | apply Upd.tail)) (by first | exact ty_ptr | exact ty_four) (by assumption) ?_; clear hs; intro w1 hs)
    | (go_at_call 32; go_must (refine (hrd _ hs.below).mono ?_); rintro e w1 ⟨a1, c1, rfl, hB1, hb1⟩; replace hs := hs.stays hb1; have hp1 := hpr _ _ _ hB1; clear hb1)
    | (go_at_call 90; go_must (refine hp1.mono ?_); rintro e w1 ⟨rfl, hb1⟩; replace hs := hs.stays hb1; clear hb1))
  exact sep_ret2 hs rfl rfl (by rfl) (by rfl) ty_four (by repeat (first | exact List.Mem.head _ | apply List.Mem.tail)) ⟨rfl, hs.below⟩
end

end Go.Proofs.YtcfjkkjjcljaoaaDoor

/-
  tree.put, tree.putNode: a block, and a node, put where there is room.
-/

namespace Go.Proofs.YtcfjkkjjcljaoaaDoor
set_option linter.unusedSimpArgs false
set_option linter.unusedVariables false
set_option maxRecDepth 100000
open Go.RowKit

theorem not_agg {P : Program} {t : TypeId} {d : TypeDesc} (h : P.underlying t = some d) (h1 : (match d with | .struct _ | .array _ _ => true | _ => false) = false) (w : World) : (isAgg t).run P w = .ok false w := by
  cases d <;> simp at h1 <;> simp [isAgg, run_underlying h, go_sem]
theorem ty1_bank : Ty1 Tryd.prog 23 := ⟨fun w => not_agg Tryd.underlying23 rfl w, fun w => sizeOf_run (by kernel_rfl) w⟩
theorem ty1_int : Ty1 Tryd.prog 3 := ⟨fun w => not_agg Tryd.underlying3 rfl w, fun w => sizeOf_run (by kernel_rfl) w⟩
/-- A value of one cell. -/
def One (u : Value) : Prop := u.cells = #[u] ∧ u.oneCell' = true

section
variable {w0 w : World} {M : Nat → Prop} {k p g : Nat} {S : DS} {n kk : Nat}

/-- What a put leaves. -/
def PutsOf (w0 w : World) (M : Nat → Prop) (k p g : Nat) (S : DS) (n kk : Nat) (b : List Int) (c : Nat) (w' : World) : Prop :=
  ∃ S', BS w0 w' M k p g S' (lab n (kk + c)) 7 ∧ Stay M w w' ∧ Good n (kk + c) S' ∧ Keeps S kk S' (kk + c) ∧ Stands S' (kk + c) (ptrAt b kk c) b

set_option maxHeartbeats 4000000 in
theorem tput_run (h : BS w0 w M k p g S (lab n kk) 7) (hV : Vars w0) (hg : Good n kk S) {a : Option Addr} {cc : Nat} {bs : List Int} (hB : Bs w a cc bs) (hn : ∀ x, a = some x → M x.block) (hbl : bs.length = 256) (hbr : ∀ y ∈ bs, 0 ≤ y ∧ y ≤ 255) {c : Nat} (hc : c = 1 ∨ c = 2) (hk : kk + c ≤ n) {u : Value} (hu : One u) :
    Calls Tryd.prog 89 #[.pointer (some ⟨k, 0, none⟩), .slice a 256 cc, .int .i64 (c : Int), u] w fun e w' => ∃ v, e = .returned (.tuple #[.agg (ptrAt bs kk c).vs.toArray, v, .int .i64 0]) ∧ One v ∧ PutsOf w0 w M k p g S n kk bs c w' := by
  obtain ⟨S', hpe, hg', hkp, hst⟩ := good_put hg hc hk hbl hbr
  have hput : ∀ u N, BS w0 u N k p g S (lab n kk) 7 → (∀ j, M j → N j) → Stay M w u → Calls Tryd.prog 30 #[.pointer (some ⟨k, 0, none⟩), .slice a 256 cc, .int .i64 (c : Int)] u fun e w' => e = .returned (.tuple #[.agg (ptrAt bs kk c).vs.toArray, .int .i64 0]) ∧ BS w0 w' N k p g S' (lab n (kk + c)) 7 ∧ Stay N u w' := fun u N h1 h2 h3 => by
    have := bs_put h1 hV hg.small a cc bs (h3.bs hB hn) (fun _ x hx => .inl (h2 _ (hn x hx))) (c : Int)
    rw [hpe, hbl] at this
    exact this
  have hqv := vals_ptr (hst.ok hg'.klt)
  obtain ⟨vs, hvs⟩ : ∃ vs, vs = (ptrAt bs kk c).vs := ⟨_, rfl⟩
  rw [← hvs] at hqv hput ⊢
  have HP : Hid (∀ w', BS w0 w' M k p g S' (lab n (kk + c)) 7 ∧ Stay M w w' → PutsOf w0 w M k p g S n kk bs c w') := fun w' h1 => ⟨S', h1.1, h1.2, hg', hkp, hst⟩
  have hs := BI.start h
  clear hvs hpe hg' hkp hst hB hbr hg h
  go_enter Tryd.func89, Tryd.ntmps89
  go_wp2_with (first
    | (refine sep_alloc hs rfl rfl al_ptr ?_; clear hs; intro w1 g1 hs)
    | (refine sep_loadw hs rfl rfl (by rfl) (by repeat (first | exact List.Mem.head _ | apply List.Mem.tail)) (by first | exact ty_ptr) ?_)
    | (refine sep_storew hs rfl rfl (by rfl) (by rfl) (by repeat (first | exact Upd.head | apply Upd.tail)) (by first | exact ty_ptr) (by assumption) ?_; clear hs; intro w1 hs)
    | (refine sep_box1 hs rfl rfl (by rfl) (by first | rfl | exact hu.1) (by first | rfl | exact hu.2) ?_; clear hs; intro w1 g1 hs)
    | (refine sep_load1 hs rfl rfl (by rfl) (by repeat (first | exact List.Mem.head _ | apply List.Mem.tail)) ty1_bank rfl ?_)
    | (go_at_call 30; go_must (refine (hput _ _ hs.bank (fun j hj => .inl hj) hs.stay).mono ?_); rintro e w1 ⟨rfl, h1, h2⟩; replace hs := hs.turn h1 h2; clear h1 h2))
  exact sep_ret3 hs rfl rfl (by rfl) (by rfl) (by rfl) ty_ptr (by repeat (first | exact List.Mem.head _ | apply List.Mem.tail)) ⟨_, rfl, ⟨rfl, rfl⟩, HP.out _ hs.done⟩

/-- What a node's put leaves. -/
def NodeOf (w0 w : World) (M : Nat → Prop) (k p g : Nat) (S : DS) (n kk : Nat) (l : List Pt) (q : Pt) (w' : World) : Prop :=
  ∃ S' k', BS w0 w' M k p g S' (lab n k') 7 ∧ Stay M w w' ∧ Good n k' S' ∧ Keeps S kk S' k' ∧ k' ≤ kk + 2 ∧ Node S' k' q l ∧ (l.all Pt.hole = false → k' = kk + 2 ∧ q = ptrAt (nodeL l) kk 2)

set_option maxHeartbeats 4000000 in
theorem putNode_run (h : BS w0 w M k p g S (lab n kk) 7) (hV : Vars w0) (hg : Good n kk S) {l : List Pt} (hl : Four l) (hk : kk + 2 ≤ n) {z : Value} (hu : One z) :
    Calls Tryd.prog 108 #[.pointer (some ⟨k, 0, none⟩), .agg (fourV l).toArray, z] w fun e w' => ∃ q v, e = .returned (.tuple #[.agg q.vs.toArray, v, .int .i64 0]) ∧ One v ∧ NodeOf w0 w M k p g S n kk l q w' := by
  have hem := fun u => isEmpty_run l hl.ok hl.len u
  have hlv := vals_four hl
  have hs := BI.start h
  rcases node_put hg hl hk with ⟨ha, hn⟩ | ⟨ha, S', hpe, hg', hkp, hn⟩
  · have hzv := vals_ptr Pt.zero_ok
    have HP : Hid (∀ w', BS w0 w' M k p g S (lab n kk) 7 ∧ Stay M w w' → NodeOf w0 w M k p g S n kk l Pt.zero w') := fun w' h1 => ⟨S, kk, h1.1, h1.2, hg, Keeps.refl _ _, by omega, hn, fun e => by rw [ha] at e; cases e⟩
    rw [ha] at hem
    obtain ⟨fs, hfs⟩ : ∃ fs, fs = fourV l := ⟨_, rfl⟩
    rw [← hfs] at hem hlv ⊢
    clear hfs hn ha
    go_enter Tryd.func108, Tryd.ntmps108
    go_wp2_with (first
      | (refine sep_box hs rfl rfl (by rfl) (by assumption) ?_; clear hs; intro w1 g1 hs)
      | (refine sep_alloc hs rfl rfl al_ptr ?_; clear hs; intro w1 g1 hs)
      | (refine sep_loadw hs rfl rfl (by rfl) (by repeat (first | exact List.Mem.head _ | apply List.Mem.tail)) (by first | exact ty_ptr | exact ty_four) ?_)
      | (refine sep_storew hs rfl rfl (by rfl) (by rfl) (by repeat (first | exact Upd.head | apply Upd.tail)) (by first | exact ty_ptr | exact ty_four) (by assumption) ?_; clear hs; intro w1 hs)
      | (refine wpList_build0 (by rfl) 42 (by rfl) _ build_ptr0 ?_)
      | (go_at_call 119; go_must (refine (hem _).mono ?_); rintro e w1 ⟨rfl, hb1⟩; replace hs := hs.stays hb1; clear hb1))
    exact sep_ret3 hs rfl rfl (by rfl) (by rfl) (by rfl) ty_ptr (by repeat (first | exact List.Mem.head _ | apply List.Mem.tail)) ⟨_, _, rfl, hu, HP.out _ hs.done⟩
  · have hnd := fun u => node_new l hl.ok hl.len u
    have hnl := nodeL_len hl.ok hl.len
    have hnr := nodeL_rng hl.ok
    have hpt : ∀ (u : World) (N : Nat → Prop) (a : Option Addr) (cc : Nat), BS w0 u N k p g S (lab n kk) 7 → Bs u a cc (nodeL l) → (∀ x, a = some x → N x.block) → Calls Tryd.prog 89 #[.pointer (some ⟨k, 0, none⟩), .slice a 256 cc, .int .i64 2, z] u fun e w' => ∃ v, e = .returned (.tuple #[.agg (ptrAt (nodeL l) kk 2).vs.toArray, v, .int .i64 0]) ∧ One v ∧ PutsOf w0 u N k p g S n kk (nodeL l) 2 w' :=
      fun u N a cc h1 h2 h3 => tput_run h1 hV hg h2 h3 hnl hnr (c := 2) (.inr rfl) hk hu
    have hqv := vals_ptr (hn.ok hg'.klt)
    have hne : nodeL l ≠ [] := fun e => by rw [e] at hnl; simp at hnl
    have HP : Hid (∀ w' S1, BS w0 w' M k p g S1 (lab n (kk + 2)) 7 ∧ Stay M w w' → Good n (kk + 2) S1 → Keeps S kk S1 (kk + 2) → Stands S1 (kk + 2) (ptrAt (nodeL l) kk 2) (nodeL l) → NodeOf w0 w M k p g S n kk l (ptrAt (nodeL l) kk 2) w') :=
      fun w' S1 h1 h2 h3 h4 => ⟨S1, kk + 2, h1.1, h1.2, h2, h3, Nat.le_refl _, ⟨hl, .inr ⟨h4, ha⟩⟩, fun _ => ⟨rfl, rfl⟩⟩
    rw [ha] at hem
    obtain ⟨fs, hfs⟩ : ∃ fs, fs = fourV l := ⟨_, rfl⟩
    rw [← hfs] at hem hlv hnd ⊢
    obtain ⟨q, hq⟩ : ∃ q, q = ptrAt (nodeL l) kk 2 := ⟨_, rfl⟩
    have HQ : Hid (q = ptrAt (nodeL l) kk 2) := hq
    rw [← hq] at hqv hpt HP
    obtain ⟨vs, hvs⟩ : ∃ vs, vs = q.vs := ⟨_, rfl⟩
    have HVS : Hid (vs = q.vs) := hvs
    rw [← hvs] at hqv hpt
    clear hfs hn ha hpe hg' hkp hnl hnr hq hvs
    go_enter Tryd.func108, Tryd.ntmps108
    go_wp2_with (first
      | (refine sep_box hs rfl rfl (by rfl) (by assumption) ?_; clear hs; intro w1 g1 hs)
      | (refine sep_alloc hs rfl rfl al_ptr ?_; clear hs; intro w1 g1 hs)
      | (refine sep_loadw hs rfl rfl (by rfl) (by repeat (first | exact List.Mem.head _ | apply List.Mem.tail)) (by first | exact ty_ptr | exact ty_four) ?_)
      | (refine sep_storew hs rfl rfl (by rfl) (by rfl) (by repeat (first | exact Upd.head | apply Upd.tail)) (by first | exact ty_ptr | exact ty_four) (by assumption) ?_; clear hs; intro w1 hs)
      | (go_at_call 119; go_must (refine (hem _).mono ?_); rintro e w1 ⟨rfl, hb1⟩; replace hs := hs.stays hb1; clear hb1)
      | (go_at_call 120; go_must (refine (hnd _).mono ?_); rintro e w1 ⟨a1, c1, rfl, hB1, hb1, hn1⟩; replace hs := hs.slice hb1 hB1 hn1 hne; clear hb1 hB1 hn1)
      | (go_at_call 89; go_must (refine (hpt _ _ _ _ hs.bank (hs.bs (by repeat (first | exact List.Mem.head _ | apply List.Mem.tail))) (fun x hx => .inr (Sep.mine_sl (by repeat (first | exact List.Mem.head _ | apply List.Mem.tail)) hx))).mono ?_); rintro e w1 ⟨v1, rfl, hv1, S1, h1, h2, h3, h4, h5⟩; replace hs := hs.turn h1 h2; clear h1 h2))
    exact sep_ret3 hs rfl rfl (by rfl) (by rfl) (by rfl) ty_ptr (by repeat (first | exact List.Mem.head _ | apply List.Mem.tail)) ⟨q, v1, by rw [← HVS.out]; rfl, hv1, HP.out _ _ hs.done h3 h4 (HQ.out ▸ h5)⟩
end

end Go.Proofs.YtcfjkkjjcljaoaaDoor

/-
  A way, as cells; tree.way.cell, tree.way.lay.
-/

namespace Go.Proofs.YtcfjkkjjcljaoaaDoor
set_option linter.unusedSimpArgs false
set_option linter.unusedVariables false
set_option maxRecDepth 100000
open Go.RowKit

/-- A way's cells. -/
def wayV (i : Nat) (r l : List Pt) : List Value := .int .i64 (i : Int) :: (fourV r ++ fourV l)
theorem agg_way (w : World) : (isAgg 160).run Tryd.prog w = .ok true w := isAgg_struct (show Tryd.prog.underlying 160 = some (.struct (Tryd.prog.fieldsOf 160)) by kernel_rfl) w
theorem ty_way : Ty Tryd.prog 160 281 := ⟨agg_way, fun w => sizeOf_run (by kernel_rfl) w⟩
theorem build_way (i : Nat) (w : World) : (Instr.build 160 #[(0, .int .i64 (i : Int))]).run Tryd.prog w = .ok (.agg (wayV i zeros4 zeros4).toArray) w := by kernel_rfl
theorem build_way0 (w : World) : (Instr.build 160 #[]).run Tryd.prog w = .ok (.agg (wayV 0 zeros4 zeros4).toArray) w := by kernel_rfl
theorem four_len {l : List Pt} (h : Four l) : (fourV l).length = 140 := (vals_four h).1
theorem vals_way {r l : List Pt} (hr : Four r) (hl : Four l) (i : Nat) : Vals 281 (wayV i r l) := by
  refine ⟨by simp [wayV, four_len hr, four_len hl], fun v hv => ?_⟩
  rcases List.mem_cons.1 hv with rfl | hv
  · rfl
  · rcases List.mem_append.1 hv with h | h
    · exact fourV_one _ v h
    · exact fourV_one _ v h
theorem al_way : (∀ w, (Instr.alloc 160 true (.tuple #[])).run Tryd.prog w = .ok (.pointer (some ⟨w.heap.size, 0, none⟩)) (w.alloc (.cells (wayV 0 zeros4 zeros4).toArray 160))) ∧ Vals 281 (wayV 0 zeros4 zeros4) := ⟨fun w => by kernel_rfl, vals_way Four.zeros Four.zeros 0⟩

section
variable {r l r' l' : List Pt} {i : Nat}
theorem way_root (hr : Four r) (hl : Four l) : fourV r = ((wayV i r l).drop 1).take 140 := by
  unfold wayV
  rw [List.drop_succ_cons, List.drop_zero, ← four_len hr, List.take_left]
theorem way_leaf (hr : Four r) (hl : Four l) : fourV l = ((wayV i r l).drop 141).take 140 := by
  unfold wayV
  rw [List.drop_succ_cons, ← four_len hr, List.drop_left, four_len hr, ← four_len hl, List.take_length]
theorem way_set_root (hr : Four r) (hl : Four l) : wayV i r' l = (wayV i r l).take 1 ++ fourV r' ++ (wayV i r l).drop (1 + 140) := by
  unfold wayV
  rw [List.take_succ_cons, List.take_zero, show 1 + 140 = 140 + 1 by rfl, List.drop_succ_cons, ← four_len hr, List.drop_left]
  simp
theorem way_set_leaf (hr : Four r) (hl : Four l) : wayV i r l' = (wayV i r l).take 141 ++ fourV l' ++ (wayV i r l).drop (141 + 140) := by
  unfold wayV
  have h1 : (fourV r ++ fourV l).length = 280 := by rw [List.length_append, four_len hr, four_len hl]
  rw [List.take_succ_cons, ← four_len hr, List.take_left, show 141 + (fourV r).length = 280 + 1 by rw [four_len hr], List.drop_succ_cons, ← h1, List.drop_length]
  simp
theorem way_root_at (hr : Four r) (hl : Four l) {j : Nat} (hj : j < 4) : (nth r j).vs = ((wayV i r l).drop (1 + j * 35)).take 35 := by
  have h := four_part hr.ok (k := j) (by rw [hr.len]; exact hj)
  have hq := Pt.vs_len (nth_ok hr.ok j)
  unfold wayV
  rw [Nat.add_comm, List.drop_succ_cons, List.drop_append_of_le_length (by rw [four_len hr]; omega), List.take_append_of_le_length (by rw [List.length_drop, four_len hr]; omega)]
  exact h
theorem way_leaf_at (hr : Four r) (hl : Four l) {j : Nat} (hj : j < 4) : (nth l j).vs = ((wayV i r l).drop (141 + j * 35)).take 35 := by
  have h := four_part hl.ok (k := j) (by rw [hl.len]; exact hj)
  unfold wayV
  rw [show 141 + j * 35 = (140 + j * 35) + 1 by omega, List.drop_succ_cons, ← four_len hr, List.drop_append]
  rw [List.drop_eq_nil_of_le (by omega), List.nil_append, show (fourV r).length + j * 35 - (fourV r).length = j * 35 by omega]
  exact h
theorem way_set_root_at (hr : Four r) (hl : Four l) {j : Nat} (hj : j < 4) (p : Pt) : wayV i (r.set j p) l = (wayV i r l).take (1 + j * 35) ++ p.vs ++ (wayV i r l).drop (1 + j * 35 + 35) := by
  have h := fourV_set hr.ok (k := j) (by rw [hr.len]; exact hj) p
  unfold wayV
  rw [h, show 1 + j * 35 = (j * 35) + 1 by omega, List.take_succ_cons, show j * 35 + 1 + 35 = (j * 35 + 35) + 1 by omega, List.drop_succ_cons, List.take_append_of_le_length (by rw [four_len hr]; omega), List.drop_append_of_le_length (by rw [four_len hr]; omega)]
  simp
theorem way_set_leaf_at (hr : Four r) (hl : Four l) {j : Nat} (hj : j < 4) (p : Pt) : wayV i r (l.set j p) = (wayV i r l).take (141 + j * 35) ++ p.vs ++ (wayV i r l).drop (141 + j * 35 + 35) := by
  have h := fourV_set hl.ok (k := j) (by rw [hl.len]; exact hj) p
  unfold wayV
  rw [h, show 141 + j * 35 = (140 + j * 35) + 1 by omega, List.take_succ_cons, show 140 + j * 35 + 1 + 35 = (140 + (j * 35 + 35)) + 1 by omega, List.drop_succ_cons, ← four_len hr, List.take_append, List.drop_append]
  rw [List.take_of_length_le (show (fourV r).length ≤ (fourV r).length + j * 35 by omega), List.drop_eq_nil_of_le (show (fourV r).length ≤ (fourV r).length + (j * 35 + 35) by omega), show (fourV r).length + j * 35 - (fourV r).length = j * 35 by omega, show (fourV r).length + (j * 35 + 35) - (fourV r).length = j * 35 + 35 by omega]
  simp
end

/-- Where a pointer of four lies. -/
theorem ix_four (g off : Nat) {j : Nat} (hj : j < 4) (u : World) : (Instr.indexAt 128 (.pointer (some ⟨g, off, none⟩)) (.int .i64 (j : Int))).run Tryd.prog u = .ok (.pointer (some ⟨g, off + j * 35, none⟩)) u :=
  index_ptr Tryd.underlying128 (by kernel_rfl) hj u

set_option maxHeartbeats 4000000 in
theorem cell_run {r l : List Pt} (hr : Four r) (hl : Four l) {i : Nat} (hi : i < 16) (w : World) : Calls Tryd.prog 86 #[.agg (wayV i r l).toArray] w fun e w' => e = .returned (.agg (nth l (i % 4)).vs.toArray) ∧ Below w.heap.size w w' := by
  have hj : i % 4 < 4 := by omega
  have hwv := vals_way hr hl i
  have hqv := vals_ptr (nth_ok hl.ok (i % 4))
  have hix := fun (g u) => ix_four g 141 hj u
  have HL : Hid _ := way_leaf_at (i := i) hr hl hj
  have H0 : Hid ((wayV i r l)[0]? = some (.int .i64 (i : Int))) := rfl
  have hm : Int.tmod (i : Int) 4 = ((i % 4 : Nat) : Int) := by rw [Int.tmod_eq_emod_of_nonneg (by omega)]; omega
  obtain ⟨j, hj'⟩ : ∃ j, j = i % 4 := ⟨_, rfl⟩
  rw [← hj'] at hj hqv hix HL hm ⊢
  obtain ⟨vs, hvs⟩ : ∃ vs, vs = (nth l j).vs := ⟨_, rfl⟩
  rw [← hvs] at hqv HL ⊢
  obtain ⟨wv, hwve⟩ : ∃ wv, wv = wayV i r l := ⟨_, rfl⟩
  rw [← hwve] at hwv HL H0 ⊢
  have hs := PI.start w
  clear hj' hvs hwve
  go_enter Tryd.func86, Tryd.ntmps86
  go_wp2_with (first
    | (refine sep_box hs rfl rfl (by rfl) (by assumption) ?_; clear hs; intro w1 g1 hs)
    | (refine sep_alloc hs rfl rfl al_ptr ?_; clear hs; intro w1 g1 hs)
    | (refine sep_load1 hs rfl rfl (by rfl) (by repeat (first | exact List.Mem.head _ | apply List.Mem.tail)) ty1_int H0.out ?_)
    | (refine sep_load hs rfl rfl (by rfl) (by repeat (first | exact List.Mem.head _ | apply List.Mem.tail)) ty_ptr HL.out hqv.1 ?_)
    | (refine sep_storew hs rfl rfl (by rfl) (by rfl) (by repeat (first | exact Upd.head | apply Upd.tail)) ty_ptr hqv ?_; clear hs; intro w1 hs))
  exact sep_ret1 hs rfl rfl (by rfl) ty_ptr (by repeat (first | exact List.Mem.head _ | apply List.Mem.tail)) ⟨rfl, hs.below⟩

end Go.Proofs.YtcfjkkjjcljaoaaDoor
