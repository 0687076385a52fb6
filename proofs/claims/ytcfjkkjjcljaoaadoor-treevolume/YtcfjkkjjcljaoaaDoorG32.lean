/-
  bank.Fix.
-/
import Derived.Test.YtcfjkkjjcljaoaaDoorG31
namespace Go.Proofs.YtcfjkkjjcljaoaaDoor
set_option linter.unusedSimpArgs false
set_option linter.unusedVariables false
set_option maxRecDepth 100000
open Go.RowKit

section
variable {B : Nat} {w w' : World} {F : Nat → Prop} {k p g : Nat} {S S' : DS} {l l' : List Bool} {t : Nat}

set_option maxHeartbeats 4000000 in
theorem bfix_err (h : Bk B w F k p g S l t) (hln : S.ws.length ≤ 800000) (hV : Vars w) (hB2 : 2 ≤ B) (q : Pt) (hq : q.ok) (a : Option Addr) (c : Nat) (bs : List Int) (hB : Bs w a c bs) (he : okK S q ≠ 0) :
    Calls Tryd.prog 35 #[.pointer (some ⟨k, 0, none⟩), .agg q.vs.toArray, .slice a bs.length c] w fun e w' => e = .returned (.tuple #[.int .i64 (0), .int .i64 (okK S q)]) ∧ Below w.heap.size w w' := by
  have hal := fun u (hu : Below w.heap.size w u) => allows_run (h.stays hu) (by omega) q hq
  have hho := fun u => isHole_run q hq u
  have hvl := Pt.vs_len hq
  obtain ⟨vs, hvs⟩ : ∃ vs, vs = q.vs := ⟨_, rfl⟩
  rw [← hvs] at hal hho hvl ⊢
  have hne : (okK S q != 0) = true := by simpa using he
  obtain ⟨E, hE⟩ : ∃ E, E = okK S q := ⟨_, rfl⟩
  rw [← hE] at hal hne ⊢
  obtain ⟨n, hn⟩ : ∃ n, n = bs.length := ⟨_, rfl⟩
  rw [← hn]
  clear hE he hvs hn
  go_enter Tryd.func35, Tryd.ntmps35
  go_wp2_with (first
    | ((with_reducible show wpList _ _ _ (Oper.mk _ (Op.box _ _) _ _ _ _ :: _) _ _); refine wpList_box0 (by rfl) 42 (.tmp 1) (by rfl) vs (by rfl) ?_; intro w1 hL1 hb1 hs1
       clear hs1
       have ha1 := hal _ hb1)
    | ((with_reducible show wpList _ _ _ (Oper.mk _ (Op.load 42 _) _ _ _ _ :: _) _ _); refine wpList_load_blk (by rfl) (.tmp 4) 42 (by rfl) _ 0 35 (by rfl) agg_ptr size_ptr hL1 _ (whole_load hvl) hvl ?_)
    | (go_at_call 67; go_must (refine ha1.mono ?_); rintro e w2 ⟨rfl, hb2⟩
       have hL2 := hL1.stays hb2
       have hb2' := below_then hb1 hb2))
  go_ret2
  exact ⟨rfl, hb2'⟩

set_option maxHeartbeats 4000000 in
theorem bfix_hole (h : Bk B w F k p g S l t) (hln : S.ws.length ≤ 800000) (hV : Vars w) (hB2 : 2 ≤ B) (q : Pt) (hq : q.ok) (a : Option Addr) (c : Nat) (bs : List Int) (hB : Bs w a c bs) (he : okK S q = 0) (hh : q.hole = true) :
    Calls Tryd.prog 35 #[.pointer (some ⟨k, 0, none⟩), .agg q.vs.toArray, .slice a bs.length c] w fun e w' => e = .returned (.tuple #[.int .i64 (0), .int .i64 1]) ∧ Below w.heap.size w w' := by
  have hal := fun u (hu : Below w.heap.size w u) => allows_run (h.stays hu) (by omega) q hq
  have hho := fun u => isHole_run q hq u
  have hvl := Pt.vs_len hq
  obtain ⟨vs, hvs⟩ : ∃ vs, vs = q.vs := ⟨_, rfl⟩
  rw [← hvs] at hal hho hvl ⊢
  rw [he] at hal
  rw [hh] at hho
  obtain ⟨n, hn⟩ : ∃ n, n = bs.length := ⟨_, rfl⟩
  rw [← hn]
  clear he hvs hn hh
  go_enter Tryd.func35, Tryd.ntmps35
  go_wp2_with (first
    | ((with_reducible show wpList _ _ _ (Oper.mk _ (Op.box _ _) _ _ _ _ :: _) _ _); refine wpList_box0 (by rfl) 42 (.tmp 1) (by rfl) vs (by rfl) ?_; intro w1 hL1 hb1 hs1
       clear hs1
       have ha1 := hal _ hb1)
    | ((with_reducible show wpList _ _ _ (Oper.mk _ (Op.load 42 _) _ _ _ _ :: _) _ _); refine wpList_load_blk (by rfl) (.tmp 4) 42 (by rfl) _ 0 35 (by rfl) agg_ptr size_ptr hL1 _ (whole_load hvl) hvl ?_)
    | ((with_reducible show wpList _ _ _ (Oper.mk _ (Op.load 42 _) _ _ _ _ :: _) _ _); refine wpList_load_blk (by rfl) (.tmp 4) 42 (by rfl) _ 0 35 (by rfl) agg_ptr size_ptr hL2 _ (whole_load hvl) hvl ?_)
    | (go_at_call 67; go_must (refine ha1.mono ?_); rintro e w2 ⟨rfl, hb2⟩
       have hL2 := hL1.stays hb2
       have hb2' := below_then hb1 hb2)
    | (go_at_call 57; go_must (refine (hho _).mono ?_); rintro e w3 ⟨rfl, hb3⟩
       have hL3 := hL2.stays hb3
       have hb3' := below_then hb2' hb3))
  go_ret2
  exact ⟨rfl, hb3'⟩

set_option maxHeartbeats 4000000 in
theorem bfix_len (h : Bk B w F k p g S l t) (hln : S.ws.length ≤ 800000) (hV : Vars w) (hB2 : 2 ≤ B) (q : Pt) (hq : q.ok) (a : Option Addr) (c : Nat) (bs : List Int) (hB : Bs w a c bs) (he : okK S q = 0) (hh : q.hole = false) (h256 : bs.length ≠ 256) :
    Calls Tryd.prog 35 #[.pointer (some ⟨k, 0, none⟩), .agg q.vs.toArray, .slice a bs.length c] w fun e w' => e = .returned (.tuple #[.int .i64 (0), .int .i64 1]) ∧ Below w.heap.size w w' := by
  have hal := fun u (hu : Below w.heap.size w u) => allows_run (h.stays hu) (by omega) q hq
  have hho := fun u => isHole_run q hq u
  have hvl := Pt.vs_len hq
  obtain ⟨vs, hvs⟩ : ∃ vs, vs = q.vs := ⟨_, rfl⟩
  rw [← hvs] at hal hho hvl ⊢
  rw [he] at hal
  rw [hh] at hho
  obtain ⟨n, hn⟩ : ∃ n, n = bs.length := ⟨_, rfl⟩
  rw [← hn] at h256 ⊢
  have hx1 : ((n : Int) != 256) = true := by simp; omega
  clear he hvs hn hh
  go_enter Tryd.func35, Tryd.ntmps35
  go_wp2_with (first
    | ((with_reducible show wpList _ _ _ (Oper.mk _ (Op.box _ _) _ _ _ _ :: _) _ _); refine wpList_box0 (by rfl) 42 (.tmp 1) (by rfl) vs (by rfl) ?_; intro w1 hL1 hb1 hs1
       clear hs1
       have ha1 := hal _ hb1)
    | ((with_reducible show wpList _ _ _ (Oper.mk _ (Op.load 42 _) _ _ _ _ :: _) _ _); refine wpList_load_blk (by rfl) (.tmp 4) 42 (by rfl) _ 0 35 (by rfl) agg_ptr size_ptr hL1 _ (whole_load hvl) hvl ?_)
    | ((with_reducible show wpList _ _ _ (Oper.mk _ (Op.load 42 _) _ _ _ _ :: _) _ _); refine wpList_load_blk (by rfl) (.tmp 4) 42 (by rfl) _ 0 35 (by rfl) agg_ptr size_ptr hL2 _ (whole_load hvl) hvl ?_)
    | (go_at_call 67; go_must (refine ha1.mono ?_); rintro e w2 ⟨rfl, hb2⟩
       have hL2 := hL1.stays hb2
       have hb2' := below_then hb1 hb2)
    | (go_at_call 57; go_must (refine (hho _).mono ?_); rintro e w3 ⟨rfl, hb3⟩
       have hL3 := hL2.stays hb3
       have hb3' := below_then hb2' hb3))
  go_ret2
  exact ⟨rfl, hb3'⟩

set_option maxHeartbeats 8000000 in
theorem bfix_sum (h : Bk B w F k p g S l t) (hln : S.ws.length ≤ 800000) (hV : Vars w) (hB2 : 2 ≤ B) (q : Pt) (hq : q.ok) (a : Option Addr) (c : Nat) (bs : List Int) (hB : Bs w a c bs) (he : okK S q = 0) (hh : q.hole = false) (h256 : bs.length = 256) (hsum : (shaOf bs == q.h) = false) :
    Calls Tryd.prog 35 #[.pointer (some ⟨k, 0, none⟩), .agg q.vs.toArray, .slice a 256 c] w fun e w' => e = .returned (.tuple #[.int .i64 (0), .int .i64 14]) ∧ Below w.heap.size w w' := by
  have hal := fun u (hu : Below w.heap.size w u) => allows_run (h.stays hu) (by omega) q hq
  have hho := fun u => isHole_run q hq u
  have hsm : ∀ u, Below w.heap.size w u → Calls Tryd.prog 66 #[.slice a 256 c] u fun e w' => e = .returned (.agg ((shaOf bs).map (Value.int .u8)).toArray) ∧ Below u.heap.size u w' := fun u hu => by
    have := sum_run a c bs u (hB.stays hu) (hV.stays hu) (by omega)
    rw [h256] at this
    exact this
  have heq : ∀ u, (Op.equalIn 10000 39 (.agg ((shaOf bs).map (Value.int .u8)).toArray) (.agg (q.h.map (Value.int .u8)).toArray)).run Tryd.prog u = .ok (shaOf bs == q.h) u := fun u => equal_ints Tryd.underlying39 Tryd.underlying5 sizes5 9998 _ _ (shaOf_length _) hq.len u
  rw [hsum] at heq
  have HH : Hid (q.h.map (Value.int .u8) = (q.vs.drop 0).take 32) := Pt.vs_hash hq
  obtain ⟨hs, hhs⟩ : ∃ hs, hs = q.h.map (Value.int .u8) := ⟨_, rfl⟩
  obtain ⟨ss, hss⟩ : ∃ ss, ss = (shaOf bs).map (Value.int .u8) := ⟨_, rfl⟩
  have hhl : hs.length = 32 := by rw [hhs, List.length_map, hq.len]
  rw [← hss] at heq hsm
  rw [← hhs] at heq HH
  have hvl := Pt.vs_len hq
  obtain ⟨vs, hvs⟩ : ∃ vs, vs = q.vs := ⟨_, rfl⟩
  rw [← hvs] at hal hho hvl HH ⊢
  rw [he] at hal
  rw [hh] at hho
  clear he hvs hh hss hhs hsum
  go_enter Tryd.func35, Tryd.ntmps35
  go_wp2_with (first
    | ((with_reducible show wpList _ _ _ (Oper.mk _ (Op.box _ _) _ _ _ _ :: _) _ _); refine wpList_box0 (by rfl) 42 (.tmp 1) (by rfl) vs (by rfl) ?_; intro w1 hL1 hb1 hs1
       clear hs1
       have ha1 := hal _ hb1)
    | ((with_reducible show wpList _ _ _ (Oper.mk _ (Op.load 42 _) _ _ _ _ :: _) _ _); refine wpList_load_blk (by rfl) (.tmp 4) 42 (by rfl) _ 0 35 (by rfl) agg_ptr size_ptr hL1 _ (whole_load hvl) hvl ?_)
    | ((with_reducible show wpList _ _ _ (Oper.mk _ (Op.load 42 _) _ _ _ _ :: _) _ _); refine wpList_load_blk (by rfl) (.tmp 4) 42 (by rfl) _ 0 35 (by rfl) agg_ptr size_ptr hL2 _ (whole_load hvl) hvl ?_)
    | (go_at_call 67; go_must (refine ha1.mono ?_); rintro e w2 ⟨rfl, hb2⟩
       have hL2 := hL1.stays hb2
       have hb2' := below_then hb1 hb2)
    | (go_at_call 57; go_must (refine (hho _).mono ?_); rintro e w3 ⟨rfl, hb3⟩
       have hL3 := hL2.stays hb3
       have hb3' := below_then hb2' hb3))
  have hld : ∀ u, Below w3.heap.size w3 u → (Instr.loadAt 39 (.pointer (some ⟨w.heap.size, 0, none⟩))).run Tryd.prog u = .ok (.agg hs.toArray) u := fun u hu => run_load_blk agg_hsh size_hash (hL3.stays hu) HH.out hhl
  have hsum3 : ∀ u, Below w3.heap.size w3 u → Calls Tryd.prog 66 #[.slice a 256 c] u fun e w' => e = .returned (.agg ss.toArray) ∧ Below u.heap.size u w' := fun u hu => hsm u (below_then hb3' hu)
  have HEQ : Hid (∀ u, (Op.equalIn 10000 39 (.agg ss.toArray) (.agg hs.toArray)).run Tryd.prog u = .ok false u) := heq
  clear heq hsm
  refine UpT.wp_region_tail 4 (UpT.tell [(1, isV (.agg ss.toArray))]) (fun _ => false) (by kernel_rfl) (by kernel_rfl) (UpT.tell_steady _ (by
    intro p hp
    simp only [List.mem_cons, List.not_mem_nil, or_false] at hp
    rcases hp with rfl <;> first | exact isV_steady _ | exact slB_steady _ _)) ?_
  simp only [List.take_succ_cons, List.take_zero]
  apply UpT.wpUp_pure
  case hw => rfl
  case hψ => rfl
  case hv => (intro wz hp; clear hp; go_simp; try (with_reducible rfl))
  simp only [Act.put, List.setIfInBounds_toArray, List.set_cons_zero, List.set_cons_succ]
  refine UpT.wpUp_call _ 66 #[.slice a 256 c] (by rfl) (by rfl) (by rfl) (fun wz => by go_simp) (fun wz hp => calls_isV (hsum3 wz hp.1)) ?_
  rintro v ⟨u, _, hf⟩
  obtain rfl := hf.of 1 v _ rfl rfl
  clear hf
  simp only [Act.put, List.setIfInBounds_toArray, List.set_cons_zero, List.set_cons_succ]
  apply UpT.wpUp_pure
  case hw => rfl
  case hψ => rfl
  case hv => (intro wz hp; clear hp; go_simp; try (with_reducible rfl))
  simp only [Act.put, List.setIfInBounds_toArray, List.set_cons_zero, List.set_cons_succ]
  refine UpT.wpUp_pure (.agg hs.toArray) (by rfl) (by rfl) (fun wz hp => exec_load (by rfl) (by rfl) (hld wz hp.1)) ?_
  simp only [Act.put, List.setIfInBounds_toArray, List.set_cons_zero, List.set_cons_succ]
  refine UpT.wpUp_end ?_
  intro w5 hb5 hf
  clear hf
  simp only [List.drop_succ_cons, List.drop_zero]
  have hL5 := hL3.stays hb5
  have hb5' := below_then hb3' hb5
  have heq := HEQ.out
  go_wp2
  go_ret2
  exact ⟨rfl, hb5'⟩

set_option maxHeartbeats 8000000 in
theorem bfix_go (h : Bk B w F k p g S l t) (hln : S.ws.length ≤ 800000) (hV : Vars w) (hB2 : 2 ≤ B) (q : Pt) (hq : q.ok) (a : Option Addr) (c : Nat) (bs : List Int) (hB : Bs w a c bs) (hnF : ∀ x, a = some x → ¬ F x.block) (he : okK S q = 0) (hh : q.hole = false) (h256 : bs.length = 256) (hsum : (shaOf bs == q.h) = true) :
    Calls Tryd.prog 35 #[.pointer (some ⟨k, 0, none⟩), .agg q.vs.toArray, .slice a 256 c] w fun e w' => e = .returned (.tuple #[.int .i64 ((restK S q bs).1.2), .int .i64 (restK S q bs).2]) ∧ Then F w w' p (restK S q bs).1.1 := by
  have hoff := (okK_zero he).1
  have hrs : ∀ u, Below w.heap.size w u → Calls Tryd.prog 69 #[.pointer (some ⟨k, 0, none⟩), .agg q.vs.toArray, .slice a 256 c] u fun e w' => e = .returned (.tuple #[.int .i64 ((restK S q bs).1.2 : Int), .int .i64 (restK S q bs).2]) ∧ Then F w w' p (restK S q bs).1.1 := fun u hu => by
    refine (restore_run (h.stays hu) (by omega) (hV.stays hu) hB2 hoff q hq a c bs (hB.stays hu) h256 hnF).mono ?_
    rintro e w' ⟨rfl, ht⟩
    exact ⟨rfl, then_below hu ht⟩
  have hal := fun u (hu : Below w.heap.size w u) => allows_run (h.stays hu) (by omega) q hq
  have hho := fun u => isHole_run q hq u
  have hsm : ∀ u, Below w.heap.size w u → Calls Tryd.prog 66 #[.slice a 256 c] u fun e w' => e = .returned (.agg ((shaOf bs).map (Value.int .u8)).toArray) ∧ Below u.heap.size u w' := fun u hu => by
    have := sum_run a c bs u (hB.stays hu) (hV.stays hu) (by omega)
    rw [h256] at this
    exact this
  have heq : ∀ u, (Op.equalIn 10000 39 (.agg ((shaOf bs).map (Value.int .u8)).toArray) (.agg (q.h.map (Value.int .u8)).toArray)).run Tryd.prog u = .ok (shaOf bs == q.h) u := fun u => equal_ints Tryd.underlying39 Tryd.underlying5 sizes5 9998 _ _ (shaOf_length _) hq.len u
  rw [hsum] at heq
  have HH : Hid (q.h.map (Value.int .u8) = (q.vs.drop 0).take 32) := Pt.vs_hash hq
  obtain ⟨hs, hhs⟩ : ∃ hs, hs = q.h.map (Value.int .u8) := ⟨_, rfl⟩
  obtain ⟨ss, hss⟩ : ∃ ss, ss = (shaOf bs).map (Value.int .u8) := ⟨_, rfl⟩
  have hhl : hs.length = 32 := by rw [hhs, List.length_map, hq.len]
  rw [← hss] at heq hsm
  rw [← hhs] at heq HH
  have hvl := Pt.vs_len hq
  obtain ⟨vs, hvs⟩ : ∃ vs, vs = q.vs := ⟨_, rfl⟩
  rw [← hvs] at hal hho hvl hrs HH ⊢
  rw [he] at hal
  rw [hh] at hho
  obtain ⟨N, hN⟩ : ∃ N, N = (restK S q bs).1.2 := ⟨_, rfl⟩
  obtain ⟨E, hE⟩ : ∃ E, E = (restK S q bs).2 := ⟨_, rfl⟩
  rw [← hN, ← hE] at hrs ⊢
  clear he hvs hh hss hhs hsum hoff hN hE
  go_enter Tryd.func35, Tryd.ntmps35
  go_wp2_with (first
    | ((with_reducible show wpList _ _ _ (Oper.mk _ (Op.box _ _) _ _ _ _ :: _) _ _); refine wpList_box0 (by rfl) 42 (.tmp 1) (by rfl) vs (by rfl) ?_; intro w1 hL1 hb1 hs1
       clear hs1
       have ha1 := hal _ hb1)
    | ((with_reducible show wpList _ _ _ (Oper.mk _ (Op.load 42 _) _ _ _ _ :: _) _ _); refine wpList_load_blk (by rfl) (.tmp 4) 42 (by rfl) _ 0 35 (by rfl) agg_ptr size_ptr hL1 _ (whole_load hvl) hvl ?_)
    | ((with_reducible show wpList _ _ _ (Oper.mk _ (Op.load 42 _) _ _ _ _ :: _) _ _); refine wpList_load_blk (by rfl) (.tmp 4) 42 (by rfl) _ 0 35 (by rfl) agg_ptr size_ptr hL2 _ (whole_load hvl) hvl ?_)
    | (go_at_call 67; go_must (refine ha1.mono ?_); rintro e w2 ⟨rfl, hb2⟩
       have hL2 := hL1.stays hb2
       have hb2' := below_then hb1 hb2)
    | (go_at_call 57; go_must (refine (hho _).mono ?_); rintro e w3 ⟨rfl, hb3⟩
       have hL3 := hL2.stays hb3
       have hb3' := below_then hb2' hb3))
  have hld : ∀ u, Below w3.heap.size w3 u → (Instr.loadAt 39 (.pointer (some ⟨w.heap.size, 0, none⟩))).run Tryd.prog u = .ok (.agg hs.toArray) u := fun u hu => run_load_blk agg_hsh size_hash (hL3.stays hu) HH.out hhl
  have hsum3 : ∀ u, Below w3.heap.size w3 u → Calls Tryd.prog 66 #[.slice a 256 c] u fun e w' => e = .returned (.agg ss.toArray) ∧ Below u.heap.size u w' := fun u hu => hsm u (below_then hb3' hu)
  have HEQ : Hid (∀ u, (Op.equalIn 10000 39 (.agg ss.toArray) (.agg hs.toArray)).run Tryd.prog u = .ok true u) := heq
  clear heq hsm
  refine UpT.wp_region_tail 4 (UpT.tell [(1, isV (.agg ss.toArray))]) (fun _ => false) (by kernel_rfl) (by kernel_rfl) (UpT.tell_steady _ (by
    intro p hp
    simp only [List.mem_cons, List.not_mem_nil, or_false] at hp
    rcases hp with rfl <;> first | exact isV_steady _ | exact slB_steady _ _)) ?_
  simp only [List.take_succ_cons, List.take_zero]
  apply UpT.wpUp_pure
  case hw => rfl
  case hψ => rfl
  case hv => (intro wz hp; clear hp; go_simp; try (with_reducible rfl))
  simp only [Act.put, List.setIfInBounds_toArray, List.set_cons_zero, List.set_cons_succ]
  refine UpT.wpUp_call _ 66 #[.slice a 256 c] (by rfl) (by rfl) (by rfl) (fun wz => by go_simp) (fun wz hp => calls_isV (hsum3 wz hp.1)) ?_
  rintro v ⟨u, _, hf⟩
  obtain rfl := hf.of 1 v _ rfl rfl
  clear hf
  simp only [Act.put, List.setIfInBounds_toArray, List.set_cons_zero, List.set_cons_succ]
  apply UpT.wpUp_pure
  case hw => rfl
  case hψ => rfl
  case hv => (intro wz hp; clear hp; go_simp; try (with_reducible rfl))
  simp only [Act.put, List.setIfInBounds_toArray, List.set_cons_zero, List.set_cons_succ]
  refine UpT.wpUp_pure (.agg hs.toArray) (by rfl) (by rfl) (fun wz hp => exec_load (by rfl) (by rfl) (hld wz hp.1)) ?_
  simp only [Act.put, List.setIfInBounds_toArray, List.set_cons_zero, List.set_cons_succ]
  refine UpT.wpUp_end ?_
  intro w5 hb5 hf
  clear hf
  simp only [List.drop_succ_cons, List.drop_zero]
  have hL5 := hL3.stays hb5
  have hb5' := below_then hb3' hb5
  have heq := HEQ.out
  have hr5 := hrs _ hb5'
  go_wp2_with (first
    | ((with_reducible show wpList _ _ _ (Oper.mk _ (Op.load 42 _) _ _ _ _ :: _) _ _); refine wpList_load_blk (by rfl) (.tmp 4) 42 (by rfl) _ 0 35 (by rfl) agg_ptr size_ptr hL5 _ (whole_load hvl) hvl ?_)
    | (go_at_call 69; go_must (refine hr5.mono ?_); rintro e w6 ⟨rfl, ht6⟩))
  go_ret2
  exact ⟨rfl, ht6⟩

theorem bfix_run (h : Bk B w F k p g S l t) (hln : S.ws.length ≤ 800000) (hV : Vars w) (hB2 : 2 ≤ B) (q : Pt) (hq : q.ok) (a : Option Addr) (c : Nat) (bs : List Int) (hB : Bs w a c bs) (hnF : bs ≠ [] → ∀ x, a = some x → ¬ F x.block) :
    Calls Tryd.prog 35 #[.pointer (some ⟨k, 0, none⟩), .agg q.vs.toArray, .slice a bs.length c] w fun e w' => e = .returned (.tuple #[.int .i64 ((fixK S q bs).1.2), .int .i64 (fixK S q bs).2]) ∧ BThen B F w w' k p g (fixK S q bs).1.1 l t := by
  by_cases he : okK S q = 0
  · cases hh : q.hole
    · by_cases h256 : bs.length = 256
      · cases hs : (shaOf bs == q.h)
        · have hv : fixK S q bs = ((S, 0), 14) := by unfold fixK; rw [if_neg (by simpa using he), hh, if_neg (by simp [h256]), if_pos (by simpa using hs)]
          rw [hv, h256]
          exact (bfix_sum h hln hV hB2 q hq a c bs hB he hh h256 hs).mono fun e w' hh => ⟨hh.1, bthen_same h hh.2⟩
        · have hv : fixK S q bs = restK S q bs := by unfold fixK; rw [if_neg (by simpa using he), hh, if_neg (by simp [h256]), if_neg (by simpa using hs)]
          rw [hv, h256]
          exact (bfix_go h hln hV hB2 q hq a c bs hB (hnF (by intro e; rw [e] at h256; simp at h256)) he hh h256 hs).mono fun e w' hh => ⟨hh.1, bthen_dk h h.base hh.2 (by rw [restK_laid])⟩
      · have hv : fixK S q bs = ((S, 0), 1) := by unfold fixK; rw [if_neg (by simpa using he), if_pos (.inr h256)]
        rw [hv]
        exact (bfix_len h hln hV hB2 q hq a c bs hB he hh h256).mono fun e w' hh => ⟨hh.1, bthen_same h hh.2⟩
    · have hv : fixK S q bs = ((S, 0), 1) := by unfold fixK; rw [if_neg (by simpa using he), if_pos (.inl hh)]
      rw [hv]
      exact (bfix_hole h hln hV hB2 q hq a c bs hB he hh).mono fun e w' hh => ⟨hh.1, bthen_same h hh.2⟩
  · have hv : fixK S q bs = ((S, 0), okK S q) := by unfold fixK; rw [if_pos he]
    rw [hv]
    exact (bfix_err h hln hV hB2 q hq a c bs hB he).mono fun e w' hh => ⟨hh.1, bthen_same h hh.2⟩
end

end Go.Proofs.YtcfjkkjjcljaoaaDoor

/-
  The laws' helpers: whole, fresh.
-/

namespace Go.Proofs.YtcfjkkjjcljaoaaDoor
set_option linter.unusedSimpArgs false
set_option linter.unusedVariables false
set_option maxRecDepth 100000
open Go.RowKit

/-- The bytes as a block. -/
def wholeL (bs : List Int) : List Int := bs ++ List.replicate (256 - bs.length) ((bs.length : Int) % 256)
theorem wholeL_rng {bs : List Int} (h : ∀ x ∈ bs, 0 ≤ x ∧ x ≤ 255) (k : Nat) : ∀ x ∈ bs ++ List.replicate k ((bs.length : Int) % 256), 0 ≤ x ∧ x ≤ 255 := by
  intro x hx
  rcases List.mem_append.1 hx with h1 | h1
  · exact h x h1
  · rw [List.eq_of_mem_replicate h1]; omega
theorem wholeL_len {bs : List Int} (h : bs.length ≤ 256) : (wholeL bs).length = 256 := by unfold wholeL; simp; omega
theorem wholeL_most (bs : List Int) (h : bs.length ≤ 300) : (wholeL bs).length ≤ 300 := by unfold wholeL; simp; omega
theorem wholeL_256 {bs : List Int} (h : bs.length = 256) : wholeL bs = bs := by unfold wholeL; rw [h]; simp

def lenV8 : Value → Nat
  | .slice _ n _ => n
  | _ => 0

set_option maxHeartbeats 4000000 in
theorem whole_run (ba : Option Addr) (bc : Nat) (bs : List Int) (w : World) (hB : Bs w ba bc bs) (hl : bs.length ≤ 300) :
    Calls Tryd.prog 50 #[.slice ba bs.length bc] w fun e w' => ∃ a c, e = .returned (.slice a (wholeL bs).length c) ∧ NewB w.heap.size w' a c (wholeL bs) ∧ Below w.heap.size w w' := by
  have hi : (Tryd.prog.info? 5).map (fun i => (i.zero, i.size, i.bytes)) = some (some (.int .u8 0), 1, 1) := by kernel_rfl
  obtain ⟨i0, hi0, hz0, hz1, hz2⟩ := info_parts hi
  obtain ⟨nz, hnz⟩ : ∃ nz, nz = 256 - bs.length := ⟨_, rfl⟩
  have hpr := wholeL_rng hB.rng
  obtain ⟨C, hC⟩ : ∃ C, C = (bs.length : Int) % 256 := ⟨_, rfl⟩
  have hCr : 0 ≤ C ∧ C ≤ 255 := by omega
  rw [← hC] at hpr
  obtain ⟨R, hR⟩ : ∃ R, R = wholeL bs := ⟨_, rfl⟩
  have HR : Hid (R = bs ++ List.replicate nz C) := by show _ = _; rw [hR, hnz, hC]; rfl
  rw [← hR]
  obtain ⟨L, hL⟩ : ∃ L, L = bs.length := ⟨_, rfl⟩
  have HL : Hid (L = bs.length) := hL
  rw [← hL] at hnz hl hC
  have hwrap : IntKind.u8.wrap (L : Int) = C := by rw [hC]; simp [IntKind.wrap, IntKind.bits, IntKind.signed]
  rw [← hL]
  clear hR hC hL
  have hown0 : (w.alloc (.cells #[] 5)).ownsRow w.heap.size 5 1 (.slice (some ⟨w.heap.size, 0, none⟩) 0 0) ([] : List Int).length (([] : List Int).map (Value.int .u8)) :=
    World.ownsRow_made w #[] 0 (Nat.le_refl _) (by decide) rfl
  have hbA : Below w.heap.size w (w.alloc (.cells #[] 5)) := (Below.refl _ _).alloc (Nat.le_refl _) _
  go_enter Tryd.func50, Tryd.ntmps50
  go_wp2_with (at_builtin; go_must (refine wpList_append_bytes (w0 := w) (by rfl) (.tmp 4) (.tmp 5) 43 (by rfl) w.heap.size 5 i0 Tryd.underlying43 hi0 hz0 hz1 hz2 _ [] (by rfl) hown0 ba L bc bs (by rfl) HL.out (hB.stays ((Below.refl _ _).alloc (Nat.le_refl _) _)) (by have := HL.out; simp; omega) (by simp) hbA ?_); rw [List.nil_append]; intro v1 w1 hown1 hb1)
  clear hbA hown0
  go_loopw [3] (fun v wr => ∃ k : Nat, k ≤ nz ∧ wr.ownsRow w.heap.size 5 1 v (bs ++ List.replicate k C).length ((bs ++ List.replicate k C).map (Value.int .u8)) ∧ Below w.heap.size w wr) (fun v _ => L + nz - lenV8 v)
  case atStart => exact ⟨0, by omega, by simpa using hown1, hb1⟩
  case round =>
    clear hown1 hb1
    rename_i hrel
    obtain ⟨k, hk, hown, hbel⟩ := hrel
    obtain ⟨Z, hZ⟩ : ∃ Z, Z = bs ++ List.replicate k C := ⟨_, rfl⟩
    have hZr := hpr k
    have hZl : Z.length = L + k := by rw [hZ, HL.out]; simp
    rw [← hZ] at hown hZr
    obtain ⟨a3, c3, rfl, hB3⟩ := Bs.of_owns hown hZr
    obtain ⟨M, hM⟩ : ∃ M, M = Z.length := ⟨_, rfl⟩
    have HM : Hid (M = Z.length) := hM
    rw [← hM] at hZl ⊢
    have hsr := hbel.size
    by_cases hend : k = nz
    · have hfin : NewB w.heap.size wr a3 c3 R ∧ R.length = M := by
        have hZR : Z = R := by rw [HR.out, hZ, hend]
        rw [← hZR]
        exact ⟨⟨hB3, fun x hx => by subst hx; exact (World.ownsRow.lt hown x.block rfl).1⟩, hM.symm⟩
      have hge : ¬ ((M : Int) < 256) := by omega
      have hge' : decide ((M : Int) < 256) = false := by simp; omega
      clear hend hZ hZl hnz hM hown
      go_wp2
      go_ret
      exact ⟨a3, c3, rfl, hfin.1, hbel⟩
    · have HZ : Hid (bs ++ List.replicate (k + 1) C = Z ++ [C]) := by unfold Hid; rw [hZ, List.replicate_succ', List.append_assoc]
      have hlt : (M : Int) < 256 := by omega
      have hlt' : decide ((M : Int) < 256) = true := by simp; omega
      have hBC : ∀ u : World, Bs (u.alloc (.cells #[.int .u8 C] 5)) (some ⟨u.heap.size, 0, none⟩) 1 [C] := fun u => Bs.one u C hCr _
      have hkn : k < nz := by omega
      have HZl : Hid (M = L + k) := hZl
      have hown' : wr.ownsRow w.heap.size 5 1 (.slice a3 M c3) Z.length (Z.map (Value.int .u8)) := by rw [hM]; exact hown
      clear hown hZ hZl hnz hM hB3 hend
      go_wp2_with (at_builtin; go_must (refine wpList_append_bytes (w0 := w) (by rfl) (.tmp 10) (.tmp 14) 43 (by rfl) w.heap.size 5 i0 Tryd.underlying43 hi0 hz0 hz1 hz2 _ Z (by rfl) (hown'.alloc _) (some ⟨wr.heap.size, 0, none⟩) 1 1 [C] (by rfl) (by rfl) (hBC _) (by have := HM.out; simp; omega) (by simp; omega) (hbel.alloc (by omega) _) ?_); intro v4 w4 hown4 hb4)
      go_roundw
      case rel => exact ⟨k + 1, by omega, by rw [HZ.out]; exact hown4, hb4⟩
      case measure =>
        obtain ⟨a4, c4, rfl, _⟩ := Bs.of_owns hown4 (HZ.out ▸ hpr (k + 1))
        have := HZl.out
        have := HM.out
        simp [lenV8]
        omega

theorem build_bank (p g t : Nat) (w : World) : (Instr.build 119 [(0, Value.pointer (some ⟨p, 0, none⟩)), (1, .pointer (some ⟨g, 0, none⟩)), (2, .int .u32 (t : Int))].toArray).run Tryd.prog w = .ok (.agg (bankV p g t).toArray) w := by kernel_rfl

theorem over_run (p g t : Nat) (w : World) : Calls Tryd.prog 27 #[.pointer (some ⟨p, 0, none⟩), .pointer (some ⟨g, 0, none⟩), .int .u32 (t : Int)] w fun e w' => e = .returned (.pointer (some ⟨w.heap.size, 0, none⟩)) ∧ Blk 119 w' w.heap.size (bankV p g t) ∧ Below w.heap.size w w' := by
  have HBB : Hid (∀ u, (Instr.build 119 [(0, Value.pointer (some ⟨p, 0, none⟩)), (1, .pointer (some ⟨g, 0, none⟩)), (2, .int .u32 (t : Int))].toArray).run Tryd.prog u = .ok (.agg (bankV p g t).toArray) u) := fun u => build_bank p g t u
  obtain ⟨bv, hbv⟩ : ∃ bv, bv = bankV p g t := ⟨_, rfl⟩
  rw [← hbv] at HBB ⊢
  clear hbv
  go_enter Tryd.func27, Tryd.ntmps27
  go_wp2_with (first
    | ((with_reducible show wpList _ _ _ (Oper.mk _ (Op.build _ _) _ _ _ _ :: _) _ _); refine wpList_build (by rfl) 119 [(0, .tmp 7), (1, .tmp 8), (2, .tmp 9)] (by rfl) _ (by rfl) _ HBB.out ?_)
    | ((with_reducible show wpList _ _ _ (Oper.mk _ (Op.box _ _) _ _ _ _ :: _) _ _); refine wpList_box0 (by rfl) 119 (.tmp 10) (by rfl) bv (by rfl) ?_; intro w1 hL1 hb1 hs1; clear hs1))
  go_ret
  exact ⟨rfl, hL1, hb1⟩

/-- A new bank of number 7. -/
def newS (n : Nat) : DS := DS.new n
set_option maxHeartbeats 4000000 in
theorem fresh_run (n : Nat) (w : World) (h16 : 16 ≤ n) (h512 : n ≤ 512) : Calls Tryd.prog 7 #[.int .i64 (n : Int)] w fun e w' => ∃ k p g F, e = .returned (.tuple #[.pointer (some ⟨k, 0, none⟩), .pointer (some ⟨p, 0, none⟩)]) ∧ Bk w.heap.size w' F k p g (DS.new n) (lab n 4) 7 ∧ Below w.heap.size w w' := by
  have hnew := dk_new n w h16 h512
  have hmap := fun u => snew_run n h16 h512 u
  have hov := fun p u => over_run p u 7
  obtain ⟨T, hT⟩ : ∃ T, T = DS.new n := ⟨_, rfl⟩
  obtain ⟨ml, hml⟩ : ∃ ml, ml = lab n 4 := ⟨_, rfl⟩
  have HTL : Hid (ml.length = T.laid.length / 256 ∧ Lab ml) := by
    refine ⟨?_, by rw [hml]; exact Lab.lab (by omega)⟩
    rw [hml, hT, lab_len]
    unfold DS.new
    simp
  rw [← hT] at hnew ⊢
  rw [← hml] at hmap ⊢
  clear hT hml
  go_enter Tryd.func7, Tryd.ntmps7
  go_wp2_with (first
    | (go_at_call 25; go_must (refine hnew.mono ?_); rintro e w1 ⟨p, rfl, hD1, hb1⟩)
    | (go_at_call 26; go_must (refine (hmap _).mono ?_); rintro e w2 ⟨rfl, hM2, hb2⟩)
    | (go_at_call 27; go_must (refine (hov p w1.heap.size w2).mono ?_); rintro e w3 ⟨rfl, hK3, hb3⟩))
  go_ret2
  have hb12 := below_then hb1 hb2
  refine ⟨w2.heap.size, p, w1.heap.size, fun j => w.heap.size ≤ j ∧ j < w1.heap.size, rfl, ⟨?_, hM2.stays hb3, hK3, ?_, ?_, ?_, hb1.size, hb12.size, HTL.out.1, HTL.out.2, by omega⟩, below_then hb12 hb3⟩
  · exact ((hD1.mono (fun j hj hl => ⟨hj, hl⟩)).stays hb2).stays hb3
  · intro j hj; have := hb2.size; have := hb3.size; exact ⟨hj.1, by omega⟩
  · intro hj; have := hj.2; omega
  · intro hj; have := hj.2; have := hb2.size; omega

end Go.Proofs.YtcfjkkjjcljaoaaDoor

/-
  Disks whose power is on and that have no fuse: what calls leave of them; plain data, no function here.
-/

namespace Go.Proofs.YtcfjkkjjcljaoaaDoor
set_option linter.unusedSimpArgs false
set_option linter.unusedVariables false
set_option maxRecDepth 100000
open Go.RowKit

structure Live (S : DS) (n : Nat) : Prop where
  ok : S.Ok n
  off : S.off = false
  fuse : S.fused = false
theorem Live.new {n : Nat} (h1 : 16 ≤ n) (h2 : n ≤ 512) : Live (DS.new n) n := ⟨⟨List.length_replicate, h1, h2, rng_zeros _, fun q hq => by simp [DS.new] at hq, by simp [DS.new]⟩, rfl, rfl⟩
theorem Live.write {S : DS} {n x : Nat} {xs : List Int} (h : Live S n) (hx : x < n) (hl : xs.length = 256) (hr : ∀ y ∈ xs, 0 ≤ y ∧ y ≤ 255) : (S.write (x : Int) xs).2 = 0 ∧ Live (S.write (x : Int) xs).1 n ∧ (S.write (x : Int) xs).1.ws = S.ws ++ [(x, xs)] := by
  have hh : S.has (x : Int) := (DS.has_nat h.ok).2 hx
  unfold DS.write
  rw [h.off, if_neg (by decide), if_neg (by simpa using ⟨hh, hl⟩), h.fuse]
  refine ⟨rfl, ⟨⟨h.ok.len, h.ok.lo, h.ok.hi, h.ok.rng, fun q hq => ?_, ?_⟩, rfl, rfl⟩, rfl⟩
  · rcases List.mem_append.1 hq with h1 | h1
    · exact h.ok.ws q h1
    · simp only [List.mem_singleton] at h1; subst h1; exact ⟨by simpa using hx, hl, hr⟩
  · show DS.left' S < _
    unfold DS.left'; rw [h.fuse]; exact h.ok.left
theorem Live.flush {S : DS} {n : Nat} (h : Live S n) : S.flush.2 = 0 ∧ Live S.flush.1 n ∧ S.flush.1.ws = [] ∧ S.flush.1.laid = layW S.laid S.ws (fun _ => 256) S.ws.length := by
  have hw : ∀ q ∈ S.ws, q.1 < n ∧ q.2.length = 256 := fun q hq => ⟨(h.ok.ws q hq).1, (h.ok.ws q hq).2.1⟩
  unfold DS.flush
  rw [h.off, if_neg (by decide), h.fuse]
  refine ⟨rfl, ⟨⟨?_, h.ok.lo, h.ok.hi, ?_, fun q hq => by simp [may] at hq, ?_⟩, rfl, rfl⟩, rfl, rfl⟩
  · show (layW _ _ _ _).length = _
    rw [layW_length h.ok.len hw _ _ (Nat.le_refl _)]; exact h.ok.len
  · exact layW_rng h.ok _ _ (Nat.le_refl _)
  · show DS.left' S < _
    unfold DS.left'; rw [h.fuse]; exact h.ok.left
theorem Live.rot {S : DS} {n : Nat} (h : Live S n) (i : Int) (ms : List Int) : Live (S.rot i ms).1 n ∧ (S.rot i ms).1.ws = S.ws := by
  unfold DS.rot
  split
  · exact ⟨h, rfl⟩
  · exact ⟨⟨⟨by simp only; rw [xorTo_length]; exact h.ok.len, h.ok.lo, h.ok.hi, xorTo_rng h.ok.rng _, h.ok.ws, h.ok.left⟩, h.off, h.fuse⟩, rfl⟩
theorem rightL_kept {S S' : DS} {x : Nat} {h : List Int} (h1 : S'.laid = S.laid) (h2 : S'.ws = S.ws) : rightL S' x h = rightL S x h := by unfold rightL; rw [h1, h2]

def cntR (a b : Bool) : Nat := (if a then 0 else 1) + (if b then 0 else 1)
/-- One copy, on a live disk. -/
theorem stepR_live {S : DS} {n x : Nat} {b h : List Int} {m : Nat} (hl : Live S n) (hx : x < n) (hx0 : x ≠ 0) (hb : b.length = 256) (hr : ∀ y ∈ b, 0 ≤ y ∧ y ≤ 255) (hs : shaOf b = h) :
    ∃ S', stepR b h x (S, m) = ((S', m + if rightL S x h then 0 else 1), 0) ∧ Live S' n ∧ rightL S' x h = true ∧ S'.ws.length ≤ S.ws.length + 1 ∧ ∀ y, y ≠ x → rightL S' y h = rightL S y h := by
  unfold stepR
  simp only
  cases hc : rightL S x h
  · obtain ⟨h1, h2, h3⟩ := hl.write hx hb hr
    rw [if_neg (by simp [hx0]), if_pos h1]
    exact ⟨_, rfl, h2, rightL_write_same h1 hx0 hs, by rw [h3]; simp, fun y hy => rightL_write S b h (Ne.symm hy)⟩
  · rw [if_pos (.inl rfl)]
    exact ⟨S, by simp, hl, hc, by omega, fun y _ => rfl⟩
theorem restK_live {S : DS} {n : Nat} {p : Pt} {b : List Int} (hl : Live S n) (hx : p.x < n) (hy : p.y < n) (hx0 : p.x ≠ 0) (hy0 : p.y ≠ 0) (hxy : p.x ≠ p.y) (hb : b.length = 256) (hr : ∀ y ∈ b, 0 ≤ y ∧ y ≤ 255) (hs : shaOf b = p.h) :
    ∃ S', restK S p b = ((S', cntR (rightL S p.x p.h) (rightL S p.y p.h)), 0) ∧ Live S' n ∧ rightL S' p.x p.h = true ∧ rightL S' p.y p.h = true ∧ S'.ws.length ≤ S.ws.length + 2 := by
  obtain ⟨S1, h1, h2, h3, h4, h5⟩ := stepR_live (m := 0) hl hx hx0 hb hr hs
  obtain ⟨S2, k1, k2, k3, k4, k5⟩ := stepR_live (m := 0 + if rightL S p.x p.h then 0 else 1) h2 hy hy0 hb hr hs
  refine ⟨S2, ?_, k2, ?_, k3, by omega⟩
  · unfold restK
    rw [h1, if_neg (by simp), k1, h5 p.y (Ne.symm hxy)]
    unfold cntR
    simp only [Nat.zero_add]
  · rw [k5 p.x hxy]; exact h3
theorem okK_live {S : DS} {n : Nat} {p : Pt} (hl : Live S n) (hm : p.may = true) : okK S p = 0 := by unfold okK; rw [hl.off, hm]; rfl

/-- The pointer that the laws make. -/
def pt45 (h : List Int) : Pt := ⟨h, 7, 4, 5⟩
theorem pt45_ok {b : List Int} : (pt45 (shaOf b)).ok := ⟨shaOf_length b, shaOf_rng b, by show (7 : Nat) < _; omega, by show (4 : Nat) < _; omega, by show (5 : Nat) < _; omega⟩
theorem pt45_may (h : List Int) : (pt45 h).may = true := rfl
theorem pt45_hole (h : List Int) : (pt45 h).hole = false := by
  unfold Pt.hole
  refine Pt.same_not (fun e => ?_)
  have := congrArg Pt.x e
  simp [pt45, Pt.zero] at this

theorem take16 : (takeL (lab 16 4) 2).2 = ([4, 5], 0) := by decide +kernel
theorem take32 : (takeL (lab 32 4) 2).2 = ([4, 5], 0) := by decide +kernel
theorem putK_live {S : DS} {n : Nat} {l : List Bool} {B : List Int} (hl : Live S n) (hn : 16 ≤ n) (ht : (takeL l 2).2 = ([4, 5], 0)) (hb : B.length = 256) (hr : ∀ y ∈ B, 0 ≤ y ∧ y ≤ 255) :
    ∃ S' l', putK S l 7 B 2 = ((S', l'), pt45 (shaOf B), 0) ∧ Live S' n ∧ S'.ws = S.ws ++ [(4, B)] ++ [(5, B)] ∧ S'.laid = S.laid := by
  obtain ⟨a1, a2, a3⟩ := hl.write (x := 4) (by omega) hb hr
  obtain ⟨b1, b2, b3⟩ := a2.write (x := 5) (by omega) hb hr
  have e1 : (takeL l 2).2.1 = [4, 5] := by rw [ht]
  have e2 : (takeL l 2).2.2 = 0 := by rw [ht]
  have hw : wrK B S [4, 5] = (((S.write ((4 : Nat) : Int) B).1.write ((5 : Nat) : Int) B).1, 0) := by
    simp only [wrK]
    rw [if_pos a1, if_pos b1]
  refine ⟨_, (takeL l 2).1, ?_, b2, by rw [b3, a3], by rw [write_laid, write_laid]⟩
  unfold putK
  rw [hl.off, if_neg (by decide), if_neg (by omega), e1, e2, if_neg (by simp), hw, if_neg (by simp)]
  rfl

theorem sha_unlike : ¬ (shaOf (List.replicate 256 1) = shaOf (0 :: List.replicate 255 1)) := by decide +kernel
theorem whole_one : wholeL [1] = List.replicate 256 1 := by decide +kernel
theorem xor_one : xorS (List.replicate 256 1) [1] 1 = 0 :: List.replicate 255 1 := by decide +kernel

/-- What the live question finds. -/
theorem alive_pure : ∃ S1 l1 S2 S3 S4, putK (DS.new 16) (lab 16 4) 7 (wholeL [1]) 2 = ((S1, l1), pt45 (shaOf (wholeL [1])), 0) ∧ S1.flush = (S2, 0) ∧ (S2.rot 4 [1]).1 = S3 ∧ healK S3 (pt45 (shaOf (wholeL [1]))) = ((S4, 1), 0) ∧ S1.ws.length ≤ 2 ∧ S2.ws.length ≤ 2 ∧ S3.ws.length ≤ 2 := by
  have hBl : (wholeL [1]).length = 256 := wholeL_len (by decide)
  have hBr : ∀ y ∈ wholeL [1], 0 ≤ y ∧ y ≤ 255 := wholeL_rng (by decide) _
  obtain ⟨S1, l1, h1, h2, h3, h4⟩ := putK_live (Live.new (n := 16) (by omega) (by omega)) (by omega) take16 hBl hBr
  obtain ⟨f1, f2, f3, f4⟩ := h2.flush
  obtain ⟨r1, r2⟩ := f2.rot 4 [1]
  rw [h3] at f4
  have hnl : (DS.new 16).laid.length = 4096 := List.length_replicate
  have hlen4 : (layAt (DS.new 16).laid 4 (wholeL [1])).length = 4096 := by rw [layAt_length (by rw [hBl, hnl]; omega), hnl]
  have hlaid : S1.flush.1.laid = layAt (layAt (DS.new 16).laid 4 (wholeL [1])) 5 (wholeL [1]) := by
    rw [f4, h4]
    have ht : (wholeL [1]).take 256 = wholeL [1] := List.take_of_length_le (by omega)
    have hc : clamp 256 = 256 := by decide
    show layAt (layAt _ 4 ((wholeL [1]).take (clamp 256))) 5 ((wholeL [1]).take (clamp 256)) = _
    rw [hc, ht]
  have hs4 : secOf S1.flush.1.laid 4 = wholeL [1] := by
    rw [hlaid, secOf_other (by rw [hBl, hlen4]; omega) (by omega) (by omega), secOf_same (by rw [hnl]; omega) (by omega), List.drop_eq_nil_of_le (by rw [secOf_length (by rw [hnl]; omega), hBl]; omega), List.append_nil]
  have hs5 : secOf S1.flush.1.laid 5 = wholeL [1] := by
    rw [hlaid, secOf_same (by rw [hlen4]; omega) (by omega), List.drop_eq_nil_of_le (by rw [secOf_length (by rw [hlen4]; omega), hBl]; omega), List.append_nil]
  have hrot : (S1.flush.1.rot 4 [1]).1.laid = xorTo S1.flush.1.laid 4 [1] 1 := by
    unfold DS.rot
    rw [if_neg (by simpa using (DS.has_nat f2.ok (x := 4)).2 (by omega))]
    rfl
  have hws : (S1.flush.1.rot 4 [1]).1.ws = [] := by rw [r2, f3]
  have hr4 : readW (S1.flush.1.rot 4 [1]).1.laid (S1.flush.1.rot 4 [1]).1.ws 4 = 0 :: List.replicate 255 1 := by
    rw [hws, hrot]
    show secOf _ 4 = _
    rw [secOf_xorTo _ _ _ _ _ (by omega), if_pos rfl, hs4, whole_one, xor_one]
  have hr5 : readW (S1.flush.1.rot 4 [1]).1.laid (S1.flush.1.rot 4 [1]).1.ws 5 = wholeL [1] := by
    rw [hws, hrot]
    show secOf _ 5 = _
    rw [secOf_xorTo _ _ _ _ _ (by omega), if_neg (by omega), hs5]
  have g4 : rightL (S1.flush.1.rot 4 [1]).1 (pt45 (shaOf (wholeL [1]))).x (pt45 (shaOf (wholeL [1]))).h = false := by
    show rightL _ 4 (shaOf (wholeL [1])) = false
    have hne : decide (shaOf (0 :: List.replicate 255 1) = shaOf (wholeL [1])) = false := decide_eq_false (fun e => sha_unlike (by rw [← whole_one]; exact e.symm))
    unfold rightL
    rw [hr4, hne]
    simp
  have g5 : rightL (S1.flush.1.rot 4 [1]).1 (pt45 (shaOf (wholeL [1]))).y (pt45 (shaOf (wholeL [1]))).h = true := by
    show rightL _ 5 (shaOf (wholeL [1])) = true
    unfold rightL
    rw [hr5, r1.ok.secs]
    simp
  obtain ⟨S4, q1, q2, _⟩ := restK_live (p := pt45 (shaOf (wholeL [1]))) (b := wholeL [1]) r1 (by decide) (by decide) (by decide) (by decide) (by decide) hBl hBr rfl
  refine ⟨S1, l1, S1.flush.1, _, S4, h1, by rw [← f1], rfl, ?_, by rw [h3]; simp [DS.new], by rw [f3]; simp, by rw [hws]; simp⟩
  have hrd : readK (S1.flush.1.rot 4 [1]).1 (pt45 (shaOf (wholeL [1]))) = (wholeL [1], 0) := by
    unfold readK
    rw [okK_live r1 (pt45_may _), if_neg (by simp), pt45_hole, if_neg (by simp)]
    rw [g4, if_neg (by simp), g5, if_pos rfl]
    show (readW _ _ 5, (0 : Int)) = _
    rw [hr5]
  unfold healK
  rw [hrd, if_neg (by simp), q1]
  rw [g4, g5]
  rfl

end Go.Proofs.YtcfjkkjjcljaoaaDoor
