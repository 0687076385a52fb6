/-
  TreeDiff: two trees, one made of the other by edits, differ just in cells that were edited: the statement's walk.
-/
import Derived.Test.YthbldjnpnligpaaDoorG45
import Derived.Test.YthbldjnpnligpaaDoorG46
import Derived.Test.YthbldjnpnligpaaDoorG40
import Derived.Test.YthbldjnpnligpaaDoorG39
import Derived.Deep.CutRange
namespace Go.Proofs.YthbldjnpnligpaaDoor
set_option linter.unusedSimpArgs false
set_option linter.unusedVariables false
set_option maxRecDepth 100000
open Go.RowKit

/-- Truths as cells. -/
def bV (E : List Bool) : List Value := E.map Value.bool
theorem ty_b16 : Ty Tryd.prog 70 16 := ⟨fun w => isAgg_array Tryd.underlying70 w, fun w => sizeOf_run (by kernel_rfl) w⟩
theorem vals_b16 {E : List Bool} (h : E.length = 16) : Vals 16 (bV E) := ⟨by simp [bV, h], fun v hv => by obtain ⟨b, _, rfl⟩ := List.mem_map.1 hv; rfl⟩
theorem bV_set (E : List Bool) (i : Nat) (x : Bool) : bV (E.set i x) = (bV E).set i (.bool x) := by unfold bV; rw [List.map_set]
theorem ix_b16 (g : Nat) {i : Nat} (hi : i < 16) (u : World) : (Instr.indexAt 70 (.pointer (some ⟨g, 0, none⟩)) (.int .i64 (i : Int))).run Tryd.prog u = .ok (.pointer (some ⟨g, i, none⟩)) u := by
  have := index_ptr (P := Tryd.prog) (t := 70) (e := 4) (n := 16) (m := 1) (g := g) (off := 0) (K := .i64) (j := i) Tryd.underlying70 (by kernel_rfl) hi u
  rw [this, Nat.zero_add, Nat.mul_one]
theorem getD_set9 {E : List Bool} {i j : Nat} (hi : i < E.length) : (E.set i true).getD j false = if i = j then true else E.getD j false := by
  rw [List.getD_eq_getElem?_getD, List.getD_eq_getElem?_getD, List.getElem?_set]
  by_cases e : i = j
  · rw [if_pos e, if_pos hi, if_pos e]; rfl
  · rw [if_neg e, if_neg e]
theorem build_b16 (w : World) : (Instr.build 70 #[]).run Tryd.prog w = .ok (.agg (bV (List.replicate 16 false)).toArray) w := by kernel_rfl
theorem al_b16 : (∀ w, (Instr.alloc 70 true (.tuple #[])).run Tryd.prog w = .ok (.pointer (some ⟨w.heap.size, 0, none⟩)) (w.alloc (.cells (bV (List.replicate 16 false)).toArray 70))) ∧ Vals 16 (bV (List.replicate 16 false)) := ⟨fun w => by kernel_rfl, vals_b16 rfl⟩

theorem ix_ints (b n c : Nat) {i : Nat} (hi : i < n) (u : World) : (Instr.indexAt 71 (.slice (some ⟨b, 0, none⟩) n c) (.int .i64 (i : Int))).run Tryd.prog u = .ok (.pointer (some ⟨b, i, none⟩)) u := by
  have := index_slice (P := Tryd.prog) 71 3 1 Tryd.underlying71 (by kernel_rfl) (by kernel_rfl) b 0 n c .i64 i hi u
  rw [Nat.zero_add, Nat.mul_one] at this
  exact this
theorem run_load_one {P : Program} {w : World} {t : TypeId} {b off : Nat} {v : Value} (hT : Ty1 P t) (hc : w.cell? ⟨b, off, none⟩ = some v) : (Instr.loadAt t (.pointer (some ⟨b, off, none⟩))).run P w = .ok v w := by
  simp [Instr.loadAt, Instr.sureAddr, loadVar, hT.1, Sem.run_bind, hc]
theorem rwI_cells {a : Option Addr} {c n : Nat} {ds : List Nat} {B : Nat} {w : World} (h : (rwI (.slice a n c) ds).holds B w) {i : Nat} (hi : i < ds.length) : ∃ b, a = some ⟨b, 0, none⟩ ∧ w.cell? ⟨b, i, none⟩ = some (.int .i64 ((ds.getD i 0 : Nat) : Int)) := by
  obtain ⟨b, cc, hv, hc⟩ := Rw.holds.cells h hi
  refine ⟨b, by injection hv, ?_⟩
  have h1 := hc 0 (show 0 < 1 by omega)
  have e : i * (rwI (.slice a n c) ds).sz + 0 = i := by show i * 1 + 0 = i; omega
  rw [e] at h1
  rw [h1]
  show (ds.map _)[i]? = _
  rw [List.getElem?_map, List.getD_eq_getElem?_getD, List.getElem?_eq_getElem hi]
  rfl
theorem bV_at {E : List Bool} (h : E.length = 16) {i : Nat} (hi : i < 16) : (bV E)[i]? = some (.bool (E.getD i false)) := by
  unfold bV
  rw [List.getElem?_map, List.getD_eq_getElem?_getD, List.getElem?_eq_getElem (by omega)]
  rfl
theorem wpList_load_run {P : Program} {w : World} {ops : Array Oper} {rest : List Oper} {o : Oper} {a : Act} {Q : Exit → Act → World → Prop} {t : TypeId} {x : Operand} {V v : Value} (hgd : o.guard = none) (ho : o.op = Op.load t x) (hx : a.eval x = V) (hr : (Instr.loadAt t V).run P w = .ok v w) (hk : wpList P ops Q rest (a.put o.dst v) w) : wpList P ops Q (o :: rest) a w := by
  refine wpList_plain hgd fun K hK => ?_
  unfold Oper.wp execOp
  simp only [ho, hx, Sem.run_bind, Sem.run_pure, Result.andThen_ok, hr]
  exact hK _ _ hk
theorem sorted_at {ds : List Nat} (h : ds.Pairwise (· < ·)) {j : Nat} (hj : j + 1 < ds.length) : ds.getD j 0 < ds.getD (j + 1) 0 := by
  rw [List.getD_eq_getElem?_getD, List.getD_eq_getElem?_getD, List.getElem?_eq_getElem (by omega), List.getElem?_eq_getElem hj]
  exact List.pairwise_iff_getElem.1 h j (j + 1) (by omega) hj (by omega)
/-- A volume and one that was made of it by edits. -/
structure Edt (kk : Nat) (S : DS) (q : Pt) (ns : List Pt) (cs : Nat → List Pt) (pl : List (List Int)) (k2 : Nat) (S2 : DS) (q2 : Pt) (ns2 : List Pt) (cs2 : Nat → List Pt) (pl2 : List (List Int)) (E : List Bool) (i : Nat) : Prop where
  good : Good 128 k2 S2
  one : Vol S2 k2 q ns cs pl
  two : Vol S2 k2 q2 ns2 cs2 pl2
  small : k2 ≤ 34 + 5 * i
  len : E.length = 16
  same : ∀ j, j < 16 → E.getD j false = false → nth (cs2 (j / 4)) (j % 4) = nth (cs (j / 4)) (j % 4)

set_option maxHeartbeats 40000000 in
theorem td_walk (a0 : Option Addr) (c0 : Nat) (xs : List EdT) (a1 : Option Addr) (c1 : Nat) (ys : List EdT) (w : World) (hV : Vars w) (hP0 : Eds w a0 xs) (hn0 : xs.length ≤ 9223372036854775807) (hP1 : Eds w a1 ys) (hn1 : ys.length ≤ 9223372036854775807) :
    Calls Tryd.prog 4 #[.slice a0 xs.length c0, .slice a1 ys.length c1] w fun e w' => e = .returned (.bool true) ∧ Below w.heap.size w w' := by
  have hfr : Calls Tryd.prog 22 #[.int .i64 128] w _ := fresh9_run 128 (by omega) (by omega) w
  obtain ⟨zb, hab, hzb⟩ := al_rbank
  have hzv := vals_ptr Pt.zero_ok
  have hpv0 := al_plain.2
  obtain ⟨N, hN⟩ : ∃ N, N = xs.length := ⟨_, rfl⟩
  have HN : Hid (N = xs.length) := hN
  rw [← hN] at hn0 ⊢
  obtain ⟨N1, hN1⟩ : ∃ N, N = ys.length := ⟨_, rfl⟩
  have HN1 : Hid (N1 = ys.length) := hN1
  rw [← hN1] at hn1 ⊢
  clear hN hN1
  go_enter Tryd.func4, Tryd.ntmps4
  go_wp2_with (first
    | (go_at_call 22; go_must (refine hfr.mono ?_); rintro e wF ⟨k, p, g, bv, rfl, ⟨vs, rfl, hbv⟩, hK⟩; have hs := BI.start hK; clear hK)
    | (refine sep_alloc hs rfl rfl ⟨hab, hzb⟩ ?_; clear hs; intro w1 gA hs)
    | (refine sep_alloc hs rfl rfl al_ptr ?_; clear hs; intro w1 gP hs)
    | (refine sep_alloc hs rfl rfl al_plain ?_; clear hs; intro w1 gL hs)
    | (refine sep_storew hs rfl rfl (by rfl) (by rfl) (by repeat (first | exact Upd.head | apply Upd.tail)) (by first | exact ty_ptr | exact ty_plain | exact ty_rbank) (by assumption) ?_; clear hs; intro w1 hs)
    | (refine wpList_build0 (by rfl) 42 (by rfl) _ build_ptr0 ?_)
    | (refine wpList_build0 (by rfl) 65 (by rfl) _ build_plain0 ?_))
  have hst : Hid (Good 128 4 (DS.new 128) ∧ Vol (DS.new 128) 4 Pt.zero zeros4 (fun _ => zeros4) (List.replicate 16 []) ∧ 4 ≤ 4 + 5 * 0) := ⟨Good.new (by omega) (by omega), Vol.new _ _, by omega⟩
  clear hfr hab hzb
  go_loopw [10] (fun x wr => ∃ (i kk : Nat) (S : DS) (q : Pt) (ns : List Pt) (cs : Nat → List Pt) (pl : List (List Int)), x = .int .i64 (i : Int) ∧ i ≤ 6 ∧ i ≤ N ∧ Sep wF.heap.size (BI w (fun _ => False) wF k p g S (lab 128 kk) 7) wr [⟨gL, 65, 16, plV pl⟩, ⟨gP, 42, 35, q.vs⟩, ⟨gA, 36, 7, vs⟩] [] ∧ Hid (Good 128 kk S ∧ Vol S kk q ns cs pl ∧ kk ≤ 4 + 5 * i)) (fun x _ => 6 - (intOf x).toNat)
  case atStart => exact ⟨0, 4, _, _, _, _, _, rfl, by omega, by omega, hs, hst⟩
  case round =>
    clear hs hst hbv
    rename_i wr hrel
    obtain ⟨i, kk, S, q, ns, cs, pl, rfl, hi6, hiN, hs, hH⟩ := hrel
    by_cases hlt : i < 6 ∧ i < N
    · obtain ⟨hl1, hl2⟩ := hlt
      obtain ⟨b, off, rfl, hc, hok⟩ := hP0.at (i := i) (by rw [← HN.out]; exact hl2)
      have hix := fun u => ix_edits9 b off N c0 hl2 u
      obtain ⟨y, hy⟩ : ∃ y, y = xs.getD i default := ⟨_, rfl⟩
      rw [← hy] at hc hok
      clear hy
      have hbel := hs.done.1.bel
      obtain ⟨nb, hnb⟩ : ∃ nb, nb = y.bs.length := ⟨_, rfl⟩
      have hce : ∀ j, j < 3 → w.cell? ⟨b, off + i * 3 + j, none⟩ = (edV y.cell y.ba nb y.bc y.trim)[j]? := by rw [hnb]; exact hc
      have HCE : Hid _ := hce
      have hcr := cells_later (n := 3) (us := edV y.cell y.ba nb y.bc y.trim) hbel rfl hce
      have hc1 : _ = some (Value.slice y.ba nb y.bc) := hcr 1 (by omega)
      have h12 : (i : Int) < 6 := by omega
      have hiN' : (i : Int) < (N : Int) := by omega
      by_cases hb : nb ≤ 256
      · have hb' : (nb : Int) ≤ 256 := by omega
        have hap : ∀ u M', BS w u M' k p g S (lab 128 kk) 7 → Calls Tryd.prog 23 #[.pointer (some ⟨k, 0, none⟩), .agg q.vs.toArray, .agg (plV pl).toArray, .agg (edV y.cell y.ba nb y.bc y.trim).toArray] u fun e w' => ∃ root pl' code, e = .returned (.tuple #[.agg root.vs.toArray, .agg (plV pl').toArray, .int .i64 code]) ∧ ApplyOf w u M' k p g S 128 kk cs y.cell root pl' code w' := fun u M' h1 => by
          rw [hnb]
          exact apply_run h1 hV hH.out.1 hH.out.2.1 y.cell y.trim hok.bs (by omega) (by have := hH.out.2.2; omega)
        have hle : ∀ u, Below _ _ u → (Instr.loadAt 67 (.pointer (some ⟨b, off + i * 3, none⟩))).run Tryd.prog u = .ok (.agg (edV y.cell y.ba nb y.bc y.trim).toArray) u := fun u hu => run_load_cells ty_edit.1 ty_edit.2 (cells_later hu rfl hcr) rfl
        have HXX : Hid _ := hix
        obtain ⟨qv', hqve⟩ : ∃ qv, qv = q.vs := ⟨_, rfl⟩
        obtain ⟨pv', hpve⟩ : ∃ pv, pv = plV pl := ⟨_, rfl⟩
        obtain ⟨ev, heve⟩ : ∃ ev, ev = edV y.cell y.ba nb y.bc y.trim := ⟨_, rfl⟩
        rw [← hqve, ← hpve] at hs hap
        rw [← heve] at hap hle
        clear hnb hqve hpve heve hbel hc hce hcr hok
        go_wp2
        refine UpT.wp_region_seq 7 [7, 8, 9, 10, 11, 12, 13] (UpT.tell []) (fun _ => false) (by kernel_rfl) (by kernel_rfl) (UpT.tell_steady _ (fun p hp => by cases hp)) ?_
        simp only [List.take_succ_cons, List.take_zero]
        iterate 1 (apply UpT.wpUp_pure; (case hw => rfl); (case hψ => rfl); (case hv => (intro wz hp; clear hp; go_simp; try (with_reducible rfl))); simp only [Act.put, List.setIfInBounds_toArray, List.set_cons_zero, List.set_cons_succ])
        refine UpT.wpUp_pure (.agg qv'.toArray) (by rfl) (by rfl) (fun wz hp => exec_load (by rfl) (by rfl) (hs.ld hp.1 ty_ptr (by repeat (first | exact List.Mem.head _ | apply List.Mem.tail)))) ?_
        simp only [Act.put, List.setIfInBounds_toArray, List.set_cons_zero, List.set_cons_succ]
        refine UpT.wpUp_pure (.agg pv'.toArray) (by rfl) (by rfl) (fun wz hp => exec_load (by rfl) (by rfl) (hs.ld hp.1 ty_plain (by repeat (first | exact List.Mem.head _ | apply List.Mem.tail)))) ?_
        simp only [Act.put, List.setIfInBounds_toArray, List.set_cons_zero, List.set_cons_succ]
        iterate 3 (apply UpT.wpUp_pure; (case hw => rfl); (case hψ => rfl); (case hv => (intro wz hp; clear hp; go_simp; try (with_reducible rfl))); simp only [Act.put, List.setIfInBounds_toArray, List.set_cons_zero, List.set_cons_succ])
        refine UpT.wpUp_pure (.agg ev.toArray) (by rfl) (by rfl) (fun wz hp => exec_load (by rfl) (by rfl) (hle wz hp.1)) ?_
        simp only [Act.put, List.setIfInBounds_toArray, List.set_cons_zero, List.set_cons_succ]
        refine UpT.wpUp_end ?_
        intro w2 hb2 hf
        simp only [UpT.opsAt, List.filterMap_cons, List.filterMap_nil, List.getElem?_toArray, List.getElem?_cons_zero, List.getElem?_cons_succ]
        replace hs := hs.stays hb2
        clear hf hb2
        go_wp2_with (first
          | (go_at_call 23; go_must (refine (hap _ _ hs.bank).mono ?_); rintro e w1 ⟨root, pl2, code, rfl, S2, k2, ns2, cs2, h1, h2, hg2, hA⟩; replace hs := hs.turn h1 h2; have hrv := vals_ptr (hA.vol.root.ok hg2.klt); have hplv := vals_pl hA.vol.len; have HA : Hid _ := hA; have HG2 : Hid _ := hg2; clear h1 h2 hA hg2; dsimp only []; apply_assumption; refine wp_move1 rfl rfl (by rfl) ?_; simp only [Act.put, List.setIfInBounds_toArray, List.set_cons_zero, List.set_cons_succ]; refine wp_extract1 rfl rfl (by rfl) (by rfl) ?_; simp only [Act.put, List.setIfInBounds_toArray, List.set_cons_zero, List.set_cons_succ]; refine wp_extract1 rfl rfl (by rfl) (by rfl) ?_; simp only [Act.put, List.setIfInBounds_toArray, List.set_cons_zero, List.set_cons_succ]; refine wp_extract1 rfl rfl (by rfl) (by rfl) ?_; simp only [Act.put, List.setIfInBounds_toArray, List.set_cons_zero, List.set_cons_succ]; refine sep_storew hs rfl rfl (by rfl) (by rfl) (by repeat (first | exact Upd.head | apply Upd.tail)) ty_ptr hrv ?_; clear hs; intro w1 hs; simp only [Act.put, List.setIfInBounds_toArray, List.set_cons_zero, List.set_cons_succ]; refine sep_storew hs rfl rfl (by rfl) (by rfl) (by repeat (first | exact Upd.head | apply Upd.tail)) ty_plain hplv ?_; clear hs; intro w1 hs; go_wp2))
        dsimp only [midQ]
        go_wp2
        go_roundw
        case rel =>
          refine ⟨i + 1, k2, S2, root, ns2, cs2, pl2, by go_num, by omega, by omega, hs, ?_⟩
          exact ⟨HG2.out, Applied.vol HA.out, by have := Applied.small HA.out; have := hH.out.2.2; omega⟩
        case measure => simp [intOf]; omega
      · have hb' : ¬ (nb : Int) ≤ 256 := by omega
        clear hnb hbel hc hce hcr hok
        go_wp2
        go_roundw
        case rel => exact ⟨i + 1, kk, S, q, ns, cs, pl, by go_num, by omega, by omega, hs, hH.out.1, hH.out.2.1, by have := hH.out.2.2; omega⟩
        case measure => simp [intOf]; omega
    · have hcond2 : (¬ (i : Int) < (N : Int)) ∨ ((i : Int) < (N : Int) ∧ ¬ (i : Int) < 6) := by omega
      obtain ⟨qv, hqve⟩ : ∃ qv, qv = q.vs := ⟨_, rfl⟩
      obtain ⟨pv, hpve⟩ : ∃ pv, pv = plV pl := ⟨_, rfl⟩
      have hqv := vals_ptr (hH.out.2.1.root.ok hH.out.1.klt)
      have hpv := vals_pl hH.out.2.1.len
      have HQV : Hid (qv = q.vs) := hqve
      have HPV : Hid (pv = plV pl) := hpve
      rw [← hqve, ← hpve] at hs
      rw [← hqve] at hqv
      rw [← hpve] at hpv
      have hap0 := al_ptr
      have hap1 := al_plain
      obtain ⟨zv, hzve⟩ : ∃ zv, zv = Pt.zero.vs := ⟨_, rfl⟩
      rw [← hzve] at hzv hap0
      obtain ⟨zp, hzpe⟩ : ∃ zp, zp = plV (List.replicate 16 []) := ⟨_, rfl⟩
      rw [← hzpe] at hpv0 hap1
      clear hqve hpve hlt hzve hzpe
      go_upto_region 6 with fail
      go_cut [38] from 31 to 59 (fun c wx => c = .bool false ∧ wx = wr)
      case first =>
        rcases hcond2 with hcond2 | ⟨hcond2, hcond3⟩
        all_goals
          go_wp2
          go_meet
          case rel => exact ⟨rfl, rfl⟩
      case rest =>
        obtain ⟨rfl, rfl⟩ := hcut
        clear hcond2
        go_wp2
        refine wp_mid (fun A a' w' => ∃ gX gY, a' = (((A.put (some 60) (.agg qv.toArray)).put (some 61) (.agg pv.toArray)).put (some 11) (.pointer (some ⟨gX, 0, none⟩))).put (some 12) (.pointer (some ⟨gY, 0, none⟩)) ∧ Sep wF.heap.size (BI w (fun _ => False) wF k p g S (lab 128 kk) 7) w' (⟨gY, 65, 16, pv⟩ :: ⟨gX, 42, 35, qv⟩ :: [⟨gL, 65, 16, pv⟩, ⟨gP, 42, 35, qv⟩, ⟨gA, 36, 7, vs⟩]) []) ?_ ?_
        · refine wp_region_any (by kernel_rfl) ?_
          change wpAny _ _ _ _ _ _ _ (World.drew _)
          replace hs := hs.stays (Below.refl _ _).drew
          exact r10_run hs rfl rfl (by kernel_rfl) ty_ptr ty_plain hqv hpv hap0 hap1
        · rintro a' w' ⟨gX, gY, rfl, hs⟩
          have hab := al_b16
          obtain ⟨zb16, hzb16⟩ : ∃ z, z = bV (List.replicate 16 false) := ⟨_, rfl⟩
          have HZB : Hid (zb16 = bV (List.replicate 16 false)) := hzb16
          rw [← hzb16] at hab
          have hbb : ∀ u, (Instr.build 70 #[]).run Tryd.prog u = .ok (.agg zb16.toArray) u := by rw [hzb16]; exact build_b16
          clear hzb16
          simp only [Act.put, List.setIfInBounds_toArray, List.set_cons_succ, List.set_cons_zero]
          go_wp2_with (first
            | (refine wpList_build0 (by rfl) 70 (by rfl) _ hbb ?_)
            | (refine sep_alloc hs rfl rfl hab ?_; clear hs; intro w1 gE hs)
            | (refine sep_storew hs rfl rfl (by rfl) (by rfl) (by repeat (first | exact Upd.head | apply Upd.tail)) ty_b16 hab.2 ?_; clear hs; intro w1 hs))
          have hst : Hid (Edt kk S q ns cs pl kk S q ns cs pl (List.replicate 16 false) 0) := ⟨hH.out.1, hH.out.2.1, hH.out.2.1, by have := hH.out.2.2; omega, rfl, fun _ _ _ => rfl⟩
          go_loopw [14] (fun x wl => ∃ (i k2 : Nat) (S2 : DS) (q2 : Pt) (ns2 : List Pt) (cs2 : Nat → List Pt) (pl2 : List (List Int)) (E : List Bool), x = .int .i64 (i : Int) ∧ i ≤ 6 ∧ i ≤ N1 ∧ Sep wF.heap.size (BI w (fun _ => False) wF k p g S2 (lab 128 k2) 7) wl [⟨gE, 70, 16, bV E⟩, ⟨gY, 65, 16, plV pl2⟩, ⟨gX, 42, 35, q2.vs⟩, ⟨gL, 65, 16, pv⟩, ⟨gP, 42, 35, qv⟩, ⟨gA, 36, 7, vs⟩] [] ∧ Hid (Edt kk S q ns cs pl k2 S2 q2 ns2 cs2 pl2 E i)) (fun x _ => 6 - (intOf x).toNat)
          case atStart => exact ⟨0, kk, S, q, ns, cs, pl, _, rfl, by omega, by omega, by rw [← HQV.out, ← HPV.out, ← HZB.out]; exact hs, hst⟩
          case round =>
            clear hs hst
            rename_i hrel
            obtain ⟨i, k2, S2, q2, ns2, cs2, pl2, E, rfl, hi6, hiN, hs, hE⟩ := hrel
            by_cases hlt : i < 6 ∧ i < N1
            · obtain ⟨hl1, hl2⟩ := hlt
              obtain ⟨b, off, rfl, hc, hok⟩ := hP1.at (i := i) (by rw [← HN1.out]; exact hl2)
              have hix := fun u => ix_edits9 b off N1 c1 hl2 u
              obtain ⟨y, hy⟩ : ∃ y, y = ys.getD i default := ⟨_, rfl⟩
              rw [← hy] at hc hok
              clear hy
              have hbel := hs.done.1.bel
              obtain ⟨nb, hnb⟩ : ∃ nb, nb = y.bs.length := ⟨_, rfl⟩
              have hce : ∀ j, j < 3 → w.cell? ⟨b, off + i * 3 + j, none⟩ = (edV y.cell y.ba nb y.bc y.trim)[j]? := by rw [hnb]; exact hc
              have HCE : Hid _ := hce
              have hcr := cells_later (n := 3) (us := edV y.cell y.ba nb y.bc y.trim) hbel rfl hce
              have hc1 : _ = some (Value.slice y.ba nb y.bc) := hcr 1 (by omega)
              have h12 : (i : Int) < 6 := by omega
              have hiN' : (i : Int) < (N1 : Int) := by omega
              by_cases hb : nb ≤ 256
              · have hb' : (nb : Int) ≤ 256 := by omega
                have hap : ∀ u M', BS w u M' k p g S2 (lab 128 k2) 7 → Calls Tryd.prog 23 #[.pointer (some ⟨k, 0, none⟩), .agg q2.vs.toArray, .agg (plV pl2).toArray, .agg (edV y.cell y.ba nb y.bc y.trim).toArray] u fun e w' => ∃ root pl' code, e = .returned (.tuple #[.agg root.vs.toArray, .agg (plV pl').toArray, .int .i64 code]) ∧ ApplyOf w u M' k p g S2 128 k2 cs2 y.cell root pl' code w' := fun u M' h1 => by
                  rw [hnb]
                  exact apply_run h1 hV hE.out.good hE.out.two y.cell y.trim hok.bs (by omega) (by have := hE.out.small; omega)
                have hle : ∀ u, Below _ _ u → (Instr.loadAt 67 (.pointer (some ⟨b, off + i * 3, none⟩))).run Tryd.prog u = .ok (.agg (edV y.cell y.ba nb y.bc y.trim).toArray) u := fun u hu => run_load_cells ty_edit.1 ty_edit.2 (cells_later hu rfl hcr) rfl
                have HXX : Hid _ := hix
                obtain ⟨qv', hqve⟩ : ∃ qv, qv = q2.vs := ⟨_, rfl⟩
                obtain ⟨pv', hpve⟩ : ∃ pv, pv = plV pl2 := ⟨_, rfl⟩
                obtain ⟨ev, heve⟩ : ∃ ev, ev = edV y.cell y.ba nb y.bc y.trim := ⟨_, rfl⟩
                rw [← hqve, ← hpve] at hs hap
                rw [← heve] at hap hle
                clear hnb hqve hpve heve hbel hc hce hcr hok
                go_wp2
                refine UpT.wp_region_seq 7 [7, 8, 9, 10, 11, 12, 13] (UpT.tell []) (fun _ => false) (by kernel_rfl) (by kernel_rfl) (UpT.tell_steady _ (fun p hp => by cases hp)) ?_
                simp only [List.take_succ_cons, List.take_zero]
                iterate 1 (apply UpT.wpUp_pure; (case hw => rfl); (case hψ => rfl); (case hv => (intro wz hp; clear hp; go_simp; try (with_reducible rfl))); simp only [Act.put, List.setIfInBounds_toArray, List.set_cons_zero, List.set_cons_succ])
                refine UpT.wpUp_pure (.agg qv'.toArray) (by rfl) (by rfl) (fun wz hp => exec_load (by rfl) (by rfl) (hs.ld hp.1 ty_ptr (by repeat (first | exact List.Mem.head _ | apply List.Mem.tail)))) ?_
                simp only [Act.put, List.setIfInBounds_toArray, List.set_cons_zero, List.set_cons_succ]
                refine UpT.wpUp_pure (.agg pv'.toArray) (by rfl) (by rfl) (fun wz hp => exec_load (by rfl) (by rfl) (hs.ld hp.1 ty_plain (by repeat (first | exact List.Mem.head _ | apply List.Mem.tail)))) ?_
                simp only [Act.put, List.setIfInBounds_toArray, List.set_cons_zero, List.set_cons_succ]
                iterate 3 (apply UpT.wpUp_pure; (case hw => rfl); (case hψ => rfl); (case hv => (intro wz hp; clear hp; go_simp; try (with_reducible rfl))); simp only [Act.put, List.setIfInBounds_toArray, List.set_cons_zero, List.set_cons_succ])
                refine UpT.wpUp_pure (.agg ev.toArray) (by rfl) (by rfl) (fun wz hp => exec_load (by rfl) (by rfl) (hle wz hp.1)) ?_
                simp only [Act.put, List.setIfInBounds_toArray, List.set_cons_zero, List.set_cons_succ]
                refine UpT.wpUp_end ?_
                intro w2 hb2 hf
                simp only [UpT.opsAt, List.filterMap_cons, List.filterMap_nil, List.getElem?_toArray, List.getElem?_cons_zero, List.getElem?_cons_succ]
                replace hs := hs.stays hb2
                clear hf hb2
                go_wp2_with (first
                  | (go_at_call 23; go_must (refine (hap _ _ hs.bank).mono ?_); rintro e w1 ⟨root, pl2, code, rfl, S2, k2, ns2, cs2, h1, h2, hg2, hA⟩; replace hs := hs.turn h1 h2; have hrv := vals_ptr (hA.vol.root.ok hg2.klt); have hplv := vals_pl hA.vol.len; have HA : Hid _ := hA; have HG2 : Hid _ := hg2; clear h1 h2 hA hg2; dsimp only []; apply_assumption; refine wp_move1 rfl rfl (by rfl) ?_; simp only [Act.put, List.setIfInBounds_toArray, List.set_cons_zero, List.set_cons_succ]; refine wp_extract1 rfl rfl (by rfl) (by rfl) ?_; simp only [Act.put, List.setIfInBounds_toArray, List.set_cons_zero, List.set_cons_succ]; refine wp_extract1 rfl rfl (by rfl) (by rfl) ?_; simp only [Act.put, List.setIfInBounds_toArray, List.set_cons_zero, List.set_cons_succ]; refine wp_extract1 rfl rfl (by rfl) (by rfl) ?_; simp only [Act.put, List.setIfInBounds_toArray, List.set_cons_zero, List.set_cons_succ]; refine sep_storew hs rfl rfl (by rfl) (by rfl) (by repeat (first | exact Upd.head | apply Upd.tail)) ty_ptr hrv ?_; clear hs; intro w1 hs; simp only [Act.put, List.setIfInBounds_toArray, List.set_cons_zero, List.set_cons_succ]; refine sep_storew hs rfl rfl (by rfl) (by rfl) (by repeat (first | exact Upd.head | apply Upd.tail)) ty_plain hplv ?_; clear hs; intro w1 hs; go_wp2))
                dsimp only [midQ]
                have hcw : w1.cell? ⟨b, off + i * 3, none⟩ = some (.int .i64 y.cell) := cells_later (n := 3) (us := edV y.cell y.ba nb y.bc y.trim) hs.done.1.bel rfl HCE.out 0 (by omega)
                have hixx := HXX.out
                by_cases hy : 0 ≤ y.cell ∧ y.cell < 16
                · obtain ⟨ci, hci⟩ : ∃ ci : Nat, y.cell = (ci : Int) := ⟨y.cell.toNat, by omega⟩
                  have HCI : Hid (y.cell = (ci : Int)) := hci
                  rw [hci] at hcw
                  have hci16 : ci < 16 := by omega
                  have hc0' : (0 : Int) ≤ (ci : Int) := by omega
                  have hc16' : (ci : Int) < 16 := by omega
                  have hixb := fun u => ix_b16 gE hci16 u
                  have HBS : Hid _ := bV_set E ci true
                  clear hci hy
                  go_wp2_with (refine sep_store1 hs rfl rfl (by rfl) (by rfl) rfl rfl (by repeat (first | exact Upd.head | apply Upd.tail)) ty1_bool.2 HBS.out hci16 ?_; clear hs; intro w1 hs)
                  go_roundw
                  case rel =>
                    refine ⟨i + 1, _, _, root, ns2, cs2, pl2, E.set ci true, by go_num, by omega, by omega, hs, HG2.out, hE.out.one.keep (Applied.keep HA.out), Applied.vol HA.out, by have := Applied.small HA.out; have := hE.out.small; omega, by rw [List.length_set]; exact hE.out.len, fun j hj hf => ?_⟩
                    rw [getD_set9 (by rw [hE.out.len]; exact hci16)] at hf
                    by_cases e : ci = j
                    · rw [if_pos e] at hf; cases hf
                    · rw [if_neg e] at hf
                      rw [Applied.same HA.out j hj (by rw [HCI.out]; omega)]
                      exact hE.out.same j hj hf
                  case measure => simp [intOf]; omega
                · have hways : (¬ (0 : Int) ≤ y.cell) ∨ ((0 : Int) ≤ y.cell ∧ ¬ y.cell < 16) := by omega
                  rcases hways with hy0 | ⟨hy0, hy1⟩
                  all_goals
                    go_wp2
                    go_roundw
                    case rel => exact ⟨i + 1, _, _, root, ns2, cs2, pl2, E, by go_num, by omega, by omega, hs, HG2.out, hE.out.one.keep (Applied.keep HA.out), Applied.vol HA.out, by have := Applied.small HA.out; have := hE.out.small; omega, hE.out.len, fun j hj hf => (Applied.same HA.out j hj (by omega)).trans (hE.out.same j hj hf)⟩
                    case measure => simp [intOf]; omega
              · have hb' : ¬ (nb : Int) ≤ 256 := by omega
                clear hnb hbel hc hce hcr hok
                go_wp2
                go_roundw
                case rel => exact ⟨i + 1, k2, S2, q2, ns2, cs2, pl2, E, by go_num, by omega, by omega, hs, hE.out.good, hE.out.one, hE.out.two, by have := hE.out.small; omega, hE.out.len, hE.out.same⟩
                case measure => simp [intOf]; omega
            · have hcond2 : (¬ (i : Int) < (N1 : Int)) ∨ ((i : Int) < (N1 : Int) ∧ ¬ (i : Int) < 6) := by omega
              have HSO : Hid _ := diffsL_sorted (pairs q q2 ns ns2 cs cs2) 4
              have HUN : Hid (∀ d, d ∈ diffsL (pairs q q2 ns ns2 cs cs2) 4 → d < 16 ∧ E.getD d false = true) := fun d hd => by
                obtain ⟨h1, h2⟩ := diff_unlike hd
                refine ⟨h1, ?_⟩
                cases he : E.getD d false
                · exact absurd (hE.out.same d h1 he).symm h2
                · rfl
              have HLI : Hid (∀ d, d < 16 → d ∉ diffsL (pairs q q2 ns ns2 cs cs2) 4 → pl.getD d [] = pl2.getD d []) := fun d h1 h2 => diff_cells hE.out.one hE.out.two h1 h2
              have hDL := diffsL_len (pairs q q2 ns ns2 cs cs2) 4
              have hdf : ∀ u M', BS w u M' k p g S2 (lab 128 k2) 7 → Calls Tryd.prog 24 #[.pointer (some ⟨k, 0, none⟩), .agg qv.toArray, .agg q2.vs.toArray] u fun e w' => ∃ v b1, e = .returned (.tuple #[v, .int .i64 0]) ∧ u.heap.size ≤ b1 ∧ (rwI v (diffsL (pairs q q2 ns ns2 cs cs2) 4)).holds b1 w' ∧ Below u.heap.size u w' := fun u M' h1 => by
                rw [HQV.out]
                exact (diff_run9 h1 hV hE.out.good hE.out.one hE.out.two).mono fun e w' ⟨v, e1, e2, e3⟩ => ⟨v, _, e1, Nat.le_refl _, e2, e3⟩
              have hdn : ∀ u M', BS w u M' k p g S2 (lab 128 k2) 7 → Calls Tryd.prog 24 #[.pointer (some ⟨k, 0, none⟩), .agg q2.vs.toArray, .agg q2.vs.toArray] u fun e w' => ∃ a c, e = .returned (.tuple #[.slice a 0 c, .int .i64 0]) ∧ Below u.heap.size u w' := fun u M' h1 => by
                refine (diff_run9 h1 hV hE.out.good hE.out.two hE.out.two).mono ?_
                rintro e w' ⟨v, rfl, e2, e3⟩
                rw [diff_none] at e2
                obtain ⟨a, c, rfl⟩ : ∃ a c, v = .slice a 0 c := Rw.holds.form e2
                exact ⟨a, c, rfl, e3⟩
              obtain ⟨D, hD⟩ : ∃ D, D = diffsL (pairs q q2 ns ns2 cs cs2) 4 := ⟨_, rfl⟩
              rw [← hD] at HSO HUN HLI hdf hDL
              obtain ⟨DL, hDLe⟩ : ∃ DL, DL = D.length := ⟨_, rfl⟩
              have HDL : Hid (DL = D.length) := hDLe
              have hDL16 : DL ≤ 16 := by omega
              have HPS : Hid (∀ j, j < 16 → pv[j]? = some (.string (strOfNums (pl.getD j [])))) := by show ∀ j, _; rw [HPV.out]; exact fun j hj => plV_at hE.out.one.len hj
              have HPS2 : Hid (∀ j, j < 16 → (plV pl2)[j]? = some (.string (strOfNums (pl2.getD j [])))) := fun j hj => plV_at hE.out.two.len hj
              have HEB : Hid (∀ j, j < 16 → (bV E)[j]? = some (.bool (E.getD j false))) := fun j hj => bV_at hE.out.len hj
              obtain ⟨q2v, hq2v⟩ : ∃ z, z = q2.vs := ⟨_, rfl⟩
              obtain ⟨pv2, hpv2⟩ : ∃ z, z = plV pl2 := ⟨_, rfl⟩
              obtain ⟨ebv, hebv⟩ : ∃ z, z = bV E := ⟨_, rfl⟩
              rw [← hq2v, ← hpv2, ← hebv] at hs
              rw [← hq2v] at hdf hdn
              rw [← hpv2] at HPS2
              rw [← hebv] at HEB
              clear hD hDLe hDL hq2v hpv2 hebv hlt
              go_upto_region 13 with fail
              go_cut [70] from 63 to 111 (fun c wx => c = .bool false ∧ Sep wF.heap.size (BI w (fun _ => False) wF k p g S2 (lab 128 k2) 7) wx (⟨gE, 70, 16, ebv⟩ :: ⟨gY, 65, 16, pv2⟩ :: ⟨gX, 42, 35, q2v⟩ :: ⟨gL, 65, 16, pv⟩ :: ⟨gP, 42, 35, qv⟩ :: ⟨gA, 36, 7, vs⟩ :: []) [])
              case first =>
                rcases hcond2 with hcond2 | ⟨hcond2, hcond3⟩
                all_goals
                  go_wp2
                  go_meet
                  case rel => exact ⟨rfl, hs⟩
              case rest =>
                clear hs hcond2
                obtain ⟨rfl, hs⟩ := hcut
                go_wp2_with (first
                  | (refine sep_loadw hs rfl rfl (by rfl) (by repeat (first | exact List.Mem.head _ | apply List.Mem.tail)) ty_ptr ?_)
                  | (go_at_call_of 24 (Value.agg qv.toArray); refine (hdf _ _ hs.bank).mono ?_; rintro e w1 ⟨v1, b1, rfl, hbu, hR1, hb1⟩; obtain ⟨da, dc, rfl⟩ : ∃ a c, v1 = .slice a D.length c := Rw.holds.form hR1; rw [← HDL.out] at hR1 ⊢; replace hs := hs.hold hb1 (F := (rwI (.slice da DL dc) D).own) (R := fun z => (rwI (.slice da DL dc) D).holds b1 z) (fun j hj => ⟨Nat.le_trans hbu (hR1.lt hj).1, (hR1.lt hj).2⟩) hR1 (fun z z' hR hk _ => hR.keep fun j hj => hk j hj (hR.lt hj).2); clear hbu hR1 hb1)
                  | (go_at_call_of 24 (Value.agg q2v.toArray); refine (hdn _ _ hs.inv.1.1).mono ?_; rintro e w1 ⟨a2, c2, rfl, hb1⟩; replace hs := hs.stays hb1; clear hb1)
                  | (refine wpList_build0 (by rfl) 70 (by rfl) _ hbb ?_)
                  | (refine sep_alloc hs rfl rfl hab ?_; clear hs; intro w1 gT hs)
                  | (refine sep_storew hs rfl rfl (by rfl) (by rfl) (by repeat (first | exact Upd.head | apply Upd.tail)) ty_b16 hab.2 ?_; clear hs; intro w1 hs))
                rw [HZB.out] at hs
                have hst : Hid ((List.replicate 16 false).length = 16 ∧ ∀ t, t < 0 → (List.replicate 16 false).getD (D.getD t 0) false = true) := ⟨rfl, fun t ht => by omega⟩
                go_loopw [20] (fun x wq => ∃ (j : Nat) (u : World) (T : List Bool), u = wq ∧ x = .int .i64 (j : Int) ∧ j ≤ DL ∧ Sep wF.heap.size (With (BI w (fun _ => False) wF k p g S2 (lab 128 k2) 7) (rwI (.slice da DL dc) D).own (fun z => (rwI (.slice da DL dc) D).holds b1 z)) u (⟨gT, 70, 16, bV T⟩ :: ⟨gE, 70, 16, ebv⟩ :: ⟨gY, 65, 16, pv2⟩ :: ⟨gX, 42, 35, q2v⟩ :: ⟨gL, 65, 16, pv⟩ :: ⟨gP, 42, 35, qv⟩ :: ⟨gA, 36, 7, vs⟩ :: []) [] ∧ Hid (T.length = 16 ∧ ∀ t, t < j → T.getD (D.getD t 0) false = true)) (fun x _ => DL - (intOf x).toNat)
                case atStart => exact ⟨0, _, _, rfl, rfl, by omega, hs, hst⟩
                case round =>
                  clear hs hst hdf hdn
                  rename_i hrel
                  obtain ⟨j, u, T, rfl, rfl, hjl, hs, hT⟩ := hrel
                  by_cases hj : j < DL
                  · have hjD : j < D.length := by rw [← HDL.out]; exact hj
                    obtain ⟨hd16, hdE⟩ := HUN.out (D.getD j 0) (by rw [List.getD_eq_getElem?_getD, List.getElem?_eq_getElem hjD]; exact List.getElem_mem hjD)
                    obtain ⟨bd, rfl, hjunk⟩ := rwI_cells hs.inv.2.1 hjD
                    clear hjunk
                    have HSJ : Hid (∀ i, j = i + 1 → D.getD i 0 < D.getD j 0) := fun i hi => by subst hi; exact sorted_at HSO.out hjD
                    have HLD : Hid (∀ i, i < DL → ∀ wz, Sep wF.heap.size (With (BI w (fun _ => False) wF k p g S2 (lab 128 k2) 7) (rwI (.slice (some ⟨bd, 0, none⟩) DL dc) D).own (fun z => (rwI (.slice (some ⟨bd, 0, none⟩) DL dc) D).holds b1 z)) wz (⟨gT, 70, 16, bV T⟩ :: ⟨gE, 70, 16, ebv⟩ :: ⟨gY, 65, 16, pv2⟩ :: ⟨gX, 42, 35, q2v⟩ :: ⟨gL, 65, 16, pv⟩ :: ⟨gP, 42, 35, qv⟩ :: ⟨gA, 36, 7, vs⟩ :: []) [] → (Instr.loadAt 3 (.pointer (some ⟨bd, i, none⟩))).run Tryd.prog wz = .ok (.int .i64 ((D.getD i 0 : Nat) : Int)) wz) := fun i hi wz h => by
                      obtain ⟨b', h1, h2⟩ := rwI_cells h.inv.2.1 (show i < D.length by rw [← HDL.out]; exact hi)
                      cases h1
                      exact run_load_one ty1_int h2
                    have HTT : Hid (T.length = 16 ∧ ∀ t, t < j + 1 → (T.set (D.getD j 0) true).getD (D.getD t 0) false = true) := ⟨hT.out.1, fun t ht => by
                      rw [getD_set9 (by rw [hT.out.1]; exact hd16)]
                      split
                      · rfl
                      · rename_i hne
                        refine hT.out.2 t ?_
                        rcases Nat.lt_or_ge t j with h | h
                        · exact h
                        · exact absurd (by rw [show t = j by omega]) hne⟩
                    have hix := fun u => ix_ints bd DL dc hj u
                    obtain ⟨d, hd⟩ : ∃ d, d = D.getD j 0 := ⟨_, rfl⟩
                    have hldz := HLD.out j hj
                    have hld := fun wz (hz : Below u.heap.size u wz) => hldz wz (hs.stays hz)
                    have HD0 : Hid (d = D.getD j 0) := hd
                    rw [← hd] at hd16 hdE hldz hld
                    have HED := HEB.out d hd16
                    rw [hdE] at HED
                    have HBT : Hid (bV (T.set d true) = (bV T).set d (.bool true)) := bV_set T d true
                    have hixe := fun u => ix_b16 gE hd16 u
                    have hixt := fun u => ix_b16 gT hd16 u
                    have hd0 : ¬ (d : Int) < 0 := by omega
                    have hdg : ¬ (16 : Int) ≤ (d : Int) := by omega
                    have hdg2 : (d : Int) < 16 := by omega
                    have hdg3 : decide ((d : Int) ≥ 16) = false := by simp; omega
                    have hdg4 : decide ((16 : Int) ≤ (d : Int)) = false := by simp; omega
                    by_cases hz : j = 0
                    · subst hz
                      have hj0 : ¬ (0 : Int) < ((0 : Nat) : Int) := by omega
                      clear hd
                      go_wp2
                      refine UpT.wp_region_tail 36 (UpT.tell []) (fun _ => false) (by kernel_rfl) (by kernel_rfl) (UpT.tell_steady _ (fun p hp => by cases hp)) ?_
                      simp only [List.take_succ_cons, List.take_zero]
                      iterate 3 (apply UpT.wpUp_pure; (case hw => rfl); (case hψ => rfl); (case hv => (intro wz hp; clear hp; go_simp; try (with_reducible rfl))); simp only [Act.put, List.setIfInBounds_toArray, List.set_cons_zero, List.set_cons_succ])
                      refine UpT.wpUp_pure (.int .i64 (d : Int)) (by rfl) (by rfl) (fun wz hp => exec_load (by rfl) (by rfl) (hld wz hp.1)) ?_
                      simp only [Act.put, List.setIfInBounds_toArray, List.set_cons_zero, List.set_cons_succ]
                      iterate 2 (apply UpT.wpUp_pure; (case hw => rfl); (case hψ => rfl); (case hv => (intro wz hp; clear hp; go_simp; try (with_reducible rfl))); simp only [Act.put, List.setIfInBounds_toArray, List.set_cons_zero, List.set_cons_succ])
                      iterate 3 (apply UpT.wpUp_pure; (case hw => rfl); (case hψ => rfl); (case hv => (intro wz hp; clear hp; go_simp; try (with_reducible rfl))); simp only [Act.put, List.setIfInBounds_toArray, List.set_cons_zero, List.set_cons_succ])
                      refine UpT.wpUp_pure (.int .i64 (d : Int)) (by rfl) (by rfl) (fun wz hp => exec_load (by rfl) (by rfl) (hld wz hp.1)) ?_
                      simp only [Act.put, List.setIfInBounds_toArray, List.set_cons_zero, List.set_cons_succ]
                      iterate 1 (apply UpT.wpUp_pure; (case hw => rfl); (case hψ => rfl); (case hv => (intro wz hp; clear hp; go_simp; try (with_reducible rfl))); simp only [Act.put, List.setIfInBounds_toArray, List.set_cons_zero, List.set_cons_succ])
                      iterate 2 (apply UpT.wpUp_pure; (case hw => rfl); (case hψ => rfl); (case hv => (intro wz hp; clear hp; go_simp; try (with_reducible rfl))); simp only [Act.put, List.setIfInBounds_toArray, List.set_cons_zero, List.set_cons_succ])
                      iterate 3 (apply UpT.wpUp_pure; (case hw => rfl); (case hψ => rfl); (case hv => (intro wz hp; clear hp; go_simp; try (with_reducible rfl))); simp only [Act.put, List.setIfInBounds_toArray, List.set_cons_zero, List.set_cons_succ])
                      refine UpT.wpUp_pure (.int .i64 (d : Int)) (by rfl) (by rfl) (fun wz hp => exec_load (by rfl) (by rfl) (hld wz hp.1)) ?_
                      simp only [Act.put, List.setIfInBounds_toArray, List.set_cons_zero, List.set_cons_succ]
                      iterate 1 (apply UpT.wpUp_pure; (case hw => rfl); (case hψ => rfl); (case hv => (intro wz hp; clear hp; go_simp; try (with_reducible rfl))); simp only [Act.put, List.setIfInBounds_toArray, List.set_cons_zero, List.set_cons_succ])
                      refine UpT.wpUp_pure (.bool true) (by rfl) (by rfl) (fun wz hp => exec_load (by rfl) (by rfl) (hs.ld1 hp.1 ty1_bool (by repeat (first | exact List.Mem.head _ | apply List.Mem.tail)) HED)) ?_
                      simp only [Act.put, List.setIfInBounds_toArray, List.set_cons_zero, List.set_cons_succ]
                      iterate 3 (apply UpT.wpUp_pure; (case hw => rfl); (case hψ => rfl); (case hv => (intro wz hp; clear hp; go_simp; try (with_reducible rfl))); simp only [Act.put, List.setIfInBounds_toArray, List.set_cons_zero, List.set_cons_succ])
                      iterate 3 (apply UpT.wpUp_pure; (case hw => rfl); (case hψ => rfl); (case hv => (intro wz hp; clear hp; go_simp; try (with_reducible rfl))); simp only [Act.put, List.setIfInBounds_toArray, List.set_cons_zero, List.set_cons_succ])
                      iterate 10 (refine UpT.wpUp_pass (by rfl) ?_; simp only [Act.put, List.setIfInBounds_toArray, List.set_cons_zero, List.set_cons_succ])
                      iterate 1 (apply UpT.wpUp_pure; (case hw => rfl); (case hψ => rfl); (case hv => (intro wz hp; clear hp; go_simp; try (with_reducible rfl))); simp only [Act.put, List.setIfInBounds_toArray, List.set_cons_zero, List.set_cons_succ])
                      refine UpT.wpUp_end ?_
                      intro w2 hb2 hf
                      simp only [List.drop_succ_cons, List.drop_zero]
                      replace hs := hs.stays hb2
                      clear hf hb2
                      go_wp2_with (first | (refine wpList_load_run (by rfl) rfl (by rfl) (hldz _ hs) ?_) | (refine sep_store1 hs rfl rfl (by rfl) (by rfl) rfl rfl (by repeat (first | exact Upd.head | apply Upd.tail)) ty1_bool.2 HBT.out hd16 ?_; clear hs; intro w3 hs))
                      go_roundw
                      case rel => exact ⟨1, _, T.set d true, rfl, by go_num, by omega, hs, by rw [List.length_set]; exact HTT.out.1, by have := HTT.out.2; rw [← HD0.out] at this; exact this⟩
                      case measure => simp [intOf]; omega
                    · obtain ⟨i, hji⟩ : ∃ i, j = i + 1 := ⟨j - 1, by omega⟩
                      have hj0 : (0 : Int) < (j : Int) := by omega
                      have hj0n : 0 < j := by omega
                      have hj0d : decide ((0 : Int) < (j : Int)) = true := by simp; omega
                      have hj0e : decide (0 < j) = true := by simp; omega
                      have hj1 : (j : Int) - 1 = (i : Int) := by omega
                      have hi' : i < DL := by omega
                      have hix' := fun u => ix_ints bd DL dc hi' u
                      obtain ⟨d', hd'⟩ : ∃ d, d = D.getD i 0 := ⟨_, rfl⟩
                      have hld' := fun wz (hz : Below u.heap.size u wz) => HLD.out i hi' wz (hs.stays hz)
                      rw [← hd'] at hld'
                      have hsj : ¬ (d : Int) ≤ (d' : Int) := by have := HSJ.out i hji; omega
                      have hsj2 : ¬ d ≤ d' := by omega
                      have hsj3 : decide ((d : Int) ≤ (d' : Int)) = false := by simp; omega
                      have hsj4 : decide (d ≤ d') = false := by simp; omega
                      have hwi : IntKind.i64.wrap (i : Int) = (i : Int) := by first | go_num | (rw [IntKind.wrap_i64]; omega)
                      clear hd hd' hji hz
                      go_wp2
                      refine UpT.wp_region_tail 36 (UpT.tell []) (fun _ => false) (by kernel_rfl) (by kernel_rfl) (UpT.tell_steady _ (fun p hp => by cases hp)) ?_
                      simp only [List.take_succ_cons, List.take_zero]
                      iterate 3 (apply UpT.wpUp_pure; (case hw => rfl); (case hψ => rfl); (case hv => (intro wz hp; clear hp; go_simp; try (with_reducible rfl))); simp only [Act.put, List.setIfInBounds_toArray, List.set_cons_zero, List.set_cons_succ])
                      refine UpT.wpUp_pure (.int .i64 (d : Int)) (by rfl) (by rfl) (fun wz hp => exec_load (by rfl) (by rfl) (hld wz hp.1)) ?_
                      simp only [Act.put, List.setIfInBounds_toArray, List.set_cons_zero, List.set_cons_succ]
                      iterate 2 (apply UpT.wpUp_pure; (case hw => rfl); (case hψ => rfl); (case hv => (intro wz hp; clear hp; go_simp; try (with_reducible rfl))); simp only [Act.put, List.setIfInBounds_toArray, List.set_cons_zero, List.set_cons_succ])
                      iterate 3 (apply UpT.wpUp_pure; (case hw => rfl); (case hψ => rfl); (case hv => (intro wz hp; clear hp; go_simp; try (with_reducible rfl))); simp only [Act.put, List.setIfInBounds_toArray, List.set_cons_zero, List.set_cons_succ])
                      refine UpT.wpUp_pure (.int .i64 (d : Int)) (by rfl) (by rfl) (fun wz hp => exec_load (by rfl) (by rfl) (hld wz hp.1)) ?_
                      simp only [Act.put, List.setIfInBounds_toArray, List.set_cons_zero, List.set_cons_succ]
                      iterate 1 (apply UpT.wpUp_pure; (case hw => rfl); (case hψ => rfl); (case hv => (intro wz hp; clear hp; go_simp; try (with_reducible rfl))); simp only [Act.put, List.setIfInBounds_toArray, List.set_cons_zero, List.set_cons_succ])
                      iterate 2 (apply UpT.wpUp_pure; (case hw => rfl); (case hψ => rfl); (case hv => (intro wz hp; clear hp; go_simp; try (with_reducible rfl))); simp only [Act.put, List.setIfInBounds_toArray, List.set_cons_zero, List.set_cons_succ])
                      iterate 3 (apply UpT.wpUp_pure; (case hw => rfl); (case hψ => rfl); (case hv => (intro wz hp; clear hp; go_simp; try (with_reducible rfl))); simp only [Act.put, List.setIfInBounds_toArray, List.set_cons_zero, List.set_cons_succ])
                      refine UpT.wpUp_pure (.int .i64 (d : Int)) (by rfl) (by rfl) (fun wz hp => exec_load (by rfl) (by rfl) (hld wz hp.1)) ?_
                      simp only [Act.put, List.setIfInBounds_toArray, List.set_cons_zero, List.set_cons_succ]
                      iterate 1 (apply UpT.wpUp_pure; (case hw => rfl); (case hψ => rfl); (case hv => (intro wz hp; clear hp; go_simp; try (with_reducible rfl))); simp only [Act.put, List.setIfInBounds_toArray, List.set_cons_zero, List.set_cons_succ])
                      refine UpT.wpUp_pure (.bool true) (by rfl) (by rfl) (fun wz hp => exec_load (by rfl) (by rfl) (hs.ld1 hp.1 ty1_bool (by repeat (first | exact List.Mem.head _ | apply List.Mem.tail)) HED)) ?_
                      simp only [Act.put, List.setIfInBounds_toArray, List.set_cons_zero, List.set_cons_succ]
                      iterate 3 (apply UpT.wpUp_pure; (case hw => rfl); (case hψ => rfl); (case hv => (intro wz hp; clear hp; go_simp; try (with_reducible rfl))); simp only [Act.put, List.setIfInBounds_toArray, List.set_cons_zero, List.set_cons_succ])
                      iterate 3 (apply UpT.wpUp_pure; (case hw => rfl); (case hψ => rfl); (case hv => (intro wz hp; clear hp; go_simp; try (with_reducible rfl))); simp only [Act.put, List.setIfInBounds_toArray, List.set_cons_zero, List.set_cons_succ])
                      iterate 3 (apply UpT.wpUp_pure; (case hw => rfl); (case hψ => rfl); (case hv => (intro wz hp; clear hp; go_simp; try (with_reducible rfl))); simp only [Act.put, List.setIfInBounds_toArray, List.set_cons_zero, List.set_cons_succ])
                      refine UpT.wpUp_pure (.int .i64 (d : Int)) (by rfl) (by rfl) (fun wz hp => exec_load (by rfl) (by rfl) (hld wz hp.1)) ?_
                      simp only [Act.put, List.setIfInBounds_toArray, List.set_cons_zero, List.set_cons_succ]
                      iterate 3 (apply UpT.wpUp_pure; (case hw => rfl); (case hψ => rfl); (case hv => (intro wz hp; clear hp; go_simp; try (with_reducible rfl))); simp only [Act.put, List.setIfInBounds_toArray, List.set_cons_zero, List.set_cons_succ])
                      iterate 1 (apply UpT.wpUp_pure; (case hw => rfl); (case hψ => rfl); (case hv => (intro wz hp; clear hp; go_simp; try (with_reducible rfl))); simp only [Act.put, List.setIfInBounds_toArray, List.set_cons_zero, List.set_cons_succ])
                      refine UpT.wpUp_pure (.int .i64 (d' : Int)) (by rfl) (by rfl) (fun wz hp => exec_load (by rfl) (by rfl) (hld' wz hp.1)) ?_
                      simp only [Act.put, List.setIfInBounds_toArray, List.set_cons_zero, List.set_cons_succ]
                      iterate 1 (apply UpT.wpUp_pure; (case hw => rfl); (case hψ => rfl); (case hv => (intro wz hp; clear hp; go_simp; try (with_reducible rfl))); simp only [Act.put, List.setIfInBounds_toArray, List.set_cons_zero, List.set_cons_succ])
                      iterate 1 (apply UpT.wpUp_pure; (case hw => rfl); (case hψ => rfl); (case hv => (intro wz hp; clear hp; go_simp; try (with_reducible rfl))); simp only [Act.put, List.setIfInBounds_toArray, List.set_cons_zero, List.set_cons_succ])
                      refine UpT.wpUp_end ?_
                      intro w2 hb2 hf
                      simp only [List.drop_succ_cons, List.drop_zero]
                      replace hs := hs.stays hb2
                      clear hf hb2
                      go_wp2_with (first | (refine wpList_load_run (by rfl) rfl (by rfl) (hldz _ hs) ?_) | (refine sep_store1 hs rfl rfl (by rfl) (by rfl) rfl rfl (by repeat (first | exact Upd.head | apply Upd.tail)) ty1_bool.2 HBT.out hd16 ?_; clear hs; intro w3 hs))
                      go_roundw
                      case rel => exact ⟨j + 1, _, T.set d true, rfl, by go_num, by omega, hs, by rw [List.length_set]; exact HTT.out.1, by have := HTT.out.2; rw [← HD0.out] at this; exact this⟩
                      case measure => simp [intOf]; omega

                  · have hjw : DL = j := by omega
                    subst hjw
                    have HTD : Hid (∀ d, d < 16 → T.getD d false = false → d ∉ D) := fun d hd hf hm => by
                      obtain ⟨t, ht, rfl⟩ := List.getElem_of_mem hm
                      have := hT.out.2 t (by rw [HDL.out]; exact ht)
                      rw [List.getD_eq_getElem?_getD (l := D), List.getElem?_eq_getElem ht] at this
                      rw [show D[t] = (some D[t]).getD 0 from rfl] at hf
                      rw [this] at hf
                      cases hf
                    have HTB : Hid (∀ d, d < 16 → (bV T)[d]? = some (.bool (T.getD d false))) := fun d hd => bV_at hT.out.1 hd
                    obtain ⟨tbv, htb⟩ : ∃ z, z = bV T := ⟨_, rfl⟩
                    rw [← htb] at hs HTB
                    clear htb hj
                    go_wp2
                    go_loopw [21] (fun x wq => ∃ i : Nat, x = .int .i64 (i : Int) ∧ i ≤ 16 ∧ Sep wF.heap.size (With (BI w (fun _ => False) wF k p g S2 (lab 128 k2) 7) (rwI (.slice da DL dc) D).own (fun z => (rwI (.slice da DL dc) D).holds b1 z)) wq (⟨gT, 70, 16, tbv⟩ :: ⟨gE, 70, 16, ebv⟩ :: ⟨gY, 65, 16, pv2⟩ :: ⟨gX, 42, 35, q2v⟩ :: ⟨gL, 65, 16, pv⟩ :: ⟨gP, 42, 35, qv⟩ :: ⟨gA, 36, 7, vs⟩ :: []) []) (fun x _ => 16 - (intOf x).toNat)
                    case atStart => exact ⟨0, rfl, by omega, hs⟩
                    case round =>
                      clear hs
                      rename_i hrel
                      obtain ⟨i, rfl, hi, hs⟩ := hrel
                      by_cases hi16 : i < 16
                      · have hixt := fun u => ix_b16 gT hi16 u
                        have hixp := fun u => ix_plain gL hi16 u
                        have hixo := fun u => ix_plain gY hi16 u
                        have HTI := HTB.out i hi16
                        by_cases htt : T.getD i false = true
                        · rw [htt] at HTI
                          clear htt
                          go_wp2
                          refine UpT.wp_region_tail 12 (UpT.tell []) (fun _ => false) (by kernel_rfl) (by kernel_rfl) (UpT.tell_steady _ (fun p hp => by cases hp)) ?_
                          simp only [List.take_succ_cons, List.take_zero]
                          iterate 2 (apply UpT.wpUp_pure; (case hw => rfl); (case hψ => rfl); (case hv => (intro wz hp; clear hp; go_simp; try (with_reducible rfl))); simp only [Act.put, List.setIfInBounds_toArray, List.set_cons_zero, List.set_cons_succ])
                          refine UpT.wpUp_pure (.bool true) (by rfl) (by rfl) (fun wz hp => exec_load (by rfl) (by rfl) (hs.ld1 hp.1 ty1_bool (by repeat (first | exact List.Mem.head _ | apply List.Mem.tail)) HTI)) ?_
                          simp only [Act.put, List.setIfInBounds_toArray, List.set_cons_zero, List.set_cons_succ]
                          iterate 2 (apply UpT.wpUp_pure; (case hw => rfl); (case hψ => rfl); (case hv => (intro wz hp; clear hp; go_simp; try (with_reducible rfl))); simp only [Act.put, List.setIfInBounds_toArray, List.set_cons_zero, List.set_cons_succ])
                          iterate 7 (refine UpT.wpUp_pass (by rfl) ?_; simp only [Act.put, List.setIfInBounds_toArray, List.set_cons_zero, List.set_cons_succ])
                          refine UpT.wpUp_end ?_
                          intro w2 hb2 hf
                          simp only [List.drop_succ_cons, List.drop_zero]
                          replace hs := hs.stays hb2
                          clear hf hb2
                          go_wp2
                          go_roundw
                          case rel => exact ⟨i + 1, by go_num, by omega, hs⟩
                          case measure => simp [intOf]; omega
                        · have htf : T.getD i false = false := by cases h : T.getD i false <;> simp_all
                          rw [htf] at HTI
                          have HP0 := HPS.out i hi16
                          have HP1 := HPS2.out i hi16
                          rw [← HLI.out i hi16 (HTD.out i hi16 htf)] at HP1
                          obtain ⟨s0, hs0⟩ : ∃ s0, s0 = strOfNums (pl.getD i []) := ⟨_, rfl⟩
                          rw [← hs0] at HP0 HP1
                          have hss : (s0.toList == s0.toList) = true := by simp
                          have hsn : (s0.toList != s0.toList) = false := by simp
                          clear htt htf hs0
                          go_wp2
                          refine UpT.wp_region_tail 12 (UpT.tell []) (fun _ => false) (by kernel_rfl) (by kernel_rfl) (UpT.tell_steady _ (fun p hp => by cases hp)) ?_
                          simp only [List.take_succ_cons, List.take_zero]
                          iterate 2 (apply UpT.wpUp_pure; (case hw => rfl); (case hψ => rfl); (case hv => (intro wz hp; clear hp; go_simp; try (with_reducible rfl))); simp only [Act.put, List.setIfInBounds_toArray, List.set_cons_zero, List.set_cons_succ])
                          refine UpT.wpUp_pure (.bool false) (by rfl) (by rfl) (fun wz hp => exec_load (by rfl) (by rfl) (hs.ld1 hp.1 ty1_bool (by repeat (first | exact List.Mem.head _ | apply List.Mem.tail)) HTI)) ?_
                          simp only [Act.put, List.setIfInBounds_toArray, List.set_cons_zero, List.set_cons_succ]
                          iterate 2 (apply UpT.wpUp_pure; (case hw => rfl); (case hψ => rfl); (case hv => (intro wz hp; clear hp; go_simp; try (with_reducible rfl))); simp only [Act.put, List.setIfInBounds_toArray, List.set_cons_zero, List.set_cons_succ])
                          iterate 2 (apply UpT.wpUp_pure; (case hw => rfl); (case hψ => rfl); (case hv => (intro wz hp; clear hp; go_simp; try (with_reducible rfl))); simp only [Act.put, List.setIfInBounds_toArray, List.set_cons_zero, List.set_cons_succ])
                          refine UpT.wpUp_pure (.string s0) (by rfl) (by rfl) (fun wz hp => exec_load (by rfl) (by rfl) (hs.ld1 hp.1 ty1_str (by repeat (first | exact List.Mem.head _ | apply List.Mem.tail)) HP0)) ?_
                          simp only [Act.put, List.setIfInBounds_toArray, List.set_cons_zero, List.set_cons_succ]
                          iterate 2 (apply UpT.wpUp_pure; (case hw => rfl); (case hψ => rfl); (case hv => (intro wz hp; clear hp; go_simp; try (with_reducible rfl))); simp only [Act.put, List.setIfInBounds_toArray, List.set_cons_zero, List.set_cons_succ])
                          refine UpT.wpUp_pure (.string s0) (by rfl) (by rfl) (fun wz hp => exec_load (by rfl) (by rfl) (hs.ld1 hp.1 ty1_str (by repeat (first | exact List.Mem.head _ | apply List.Mem.tail)) HP1)) ?_
                          simp only [Act.put, List.setIfInBounds_toArray, List.set_cons_zero, List.set_cons_succ]
                          iterate 1 (apply UpT.wpUp_pure; (case hw => rfl); (case hψ => rfl); (case hv => (intro wz hp; clear hp; go_simp; try (with_reducible rfl))); simp only [Act.put, List.setIfInBounds_toArray, List.set_cons_zero, List.set_cons_succ])
                          refine UpT.wpUp_end ?_
                          intro w2 hb2 hf
                          simp only [List.drop_succ_cons, List.drop_zero]
                          replace hs := hs.stays hb2
                          clear hf hb2
                          go_wp2
                          go_roundw
                          case rel => exact ⟨i + 1, by go_num, by omega, hs⟩
                          case measure => simp [intOf]; omega
                      · have hlast : ¬ (i : Int) < 16 := by omega
                        have hvu := hs.inv.1.1.vars hV
                        go_wp2_with (go_at_call 25; go_must (refine (alive9_run _ hvu).mono ?_); rintro e wE ⟨rfl, hbE⟩)
                        go_ret
                        exact ⟨rfl, below_then hs.inv.1.1.bel hbE⟩

end Go.Proofs.YthbldjnpnligpaaDoor
