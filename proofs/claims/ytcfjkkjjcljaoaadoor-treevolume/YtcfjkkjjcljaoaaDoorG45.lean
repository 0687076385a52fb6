/-
  TreeVolume: behind any edits each cell has what was laid into it last: the statement's walk.
-/
import Derived.Test.YtcfjkkjjcljaoaaDoorG44
namespace Go.Proofs.YtcfjkkjjcljaoaaDoor
set_option linter.unusedSimpArgs false
set_option linter.unusedVariables false
set_option maxRecDepth 100000
open Go.RowKit

theorem build_plain0 (w : World) : (Instr.build 65 #[]).run Tryd.prog w = .ok (.agg (plV (List.replicate 16 [])).toArray) w := by kernel_rfl
theorem ix_edits9 (b off n c : Nat) {i : Nat} (hi : i < n) (u : World) : (Instr.indexAt 62 (.slice (some ⟨b, off, none⟩) n c) (.int .i64 (i : Int))).run Tryd.prog u = .ok (.pointer (some ⟨b, off + i * 3, none⟩)) u :=
  index_slice 62 68 3 Tryd.underlying62 (by kernel_rfl) (by kernel_rfl) b off n c .i64 i hi u
theorem ix_pls (b n c : Nat) {i : Nat} (hi : i < n) (u : World) : (Instr.indexAt 66 (.slice (some ⟨b, 0, none⟩) n c) (.int .i64 (i : Int))).run Tryd.prog u = .ok (.pointer (some ⟨b, i * 16, none⟩)) u := by
  have := index_slice (P := Tryd.prog) 66 65 16 Tryd.underlying66 (by kernel_rfl) (by kernel_rfl) b 0 n c .i64 i hi u
  rw [Nat.zero_add] at this
  exact this
theorem rwP_form {v : Value} {ps : List Pt} {B : Nat} {w : World} (h : (rwP v ps).holds B w) : ∃ a c, v = .slice a ps.length c := Rw.holds.form h
theorem rwS_form {v : Value} {ps : List (List (List Int))} {B : Nat} {w : World} (h : (rwS v ps).holds B w) : ∃ a c, v = .slice a ps.length c := Rw.holds.form h
theorem rwP_cells {a : Option Addr} {c n : Nat} {ps : List Pt} {B : Nat} {w : World} (h : (rwP (.slice a n c) ps).holds B w) (hl : ∀ p ∈ ps, p.vs.length = 35) {i : Nat} (hi : i < ps.length) : ∃ b, a = some ⟨b, 0, none⟩ ∧ ∀ j, j < 35 → w.cell? ⟨b, i * 35 + j, none⟩ = (ps.getD i Pt.zero).vs[j]? := by
  obtain ⟨b, cc, hv, hc⟩ := Rw.holds.cells h hi
  exact ⟨b, by injection hv, fun j hj => (hc j hj).trans (flat_at9 hl Pt.zero i hi j hj)⟩
theorem rwS_cells {a : Option Addr} {c n : Nat} {ps : List (List (List Int))} {B : Nat} {w : World} (h : (rwS (.slice a n c) ps).holds B w) (hl : ∀ p ∈ ps, (plV p).length = 16) {i : Nat} (hi : i < ps.length) : ∃ b, a = some ⟨b, 0, none⟩ ∧ ∀ j, j < 16 → w.cell? ⟨b, i * 16 + j, none⟩ = (plV (ps.getD i []))[j]? := by
  obtain ⟨b, cc, hv, hc⟩ := Rw.holds.cells h hi
  exact ⟨b, by injection hv, fun j hj => (hc j hj).trans (flat_at9 hl [] i hi j hj)⟩
theorem cells_later {w w' : World} (hb : Below w.heap.size w w') {b off n : Nat} {us : List Value} (hl : us.length = n) (hc : ∀ j, j < n → w.cell? ⟨b, off + j, none⟩ = us[j]?) : ∀ j, j < n → w'.cell? ⟨b, off + j, none⟩ = us[j]? := fun j hj => by
  obtain ⟨v, hv⟩ : ∃ v, us[j]? = some v := ⟨_, List.getElem?_eq_getElem (by omega)⟩
  have h1 := (hc j hj).trans hv
  exact ((hb.cell (World.block_lt_of_cell? w _ h1)).trans h1).trans hv.symm
theorem rwP_one (v : Value) (p : Pt) : (⟨v, 42, 35, 1, p.vs⟩ : Rw) = rwP v [p] := by unfold rwP; simp [ptrsV]
theorem rwS_one (v : Value) (pl : List (List Int)) : (⟨v, 65, 16, 1, plV pl⟩ : Rw) = rwS v [pl] := by unfold rwS; simp
theorem rwS_more {B : Nat} {I : (Nat → Prop) → World → Prop} {w : World} {L : List Ent} {T : List Sli} {v : Value} {ps : List (List (List Int))} {p : List (List Int)} {us : List Value} (h : Sep B (Row1 B I ⟨v, 65, 16, ps.length + 1, ps.flatMap plV ++ us⟩) w L T) (e : us = plV p) : Sep B (Row1 B I (rwS v (ps ++ [p]))) w L T := by
  subst e
  unfold rwS
  rw [List.flatMap_append, List.length_append]
  simpa using h
/-- Volumes that were made, one behind the other. -/
structure Vols (kk : Nat) (S : DS) (rs : List Pt) (pls : List (List (List Int))) (i : Nat) : Prop where
  good : Good 128 kk S
  small : kk ≤ 4 + 5 * i
  len : rs.length = pls.length
  pos : 0 < rs.length
  most : rs.length ≤ i + 1
  vol : ∀ j, j < rs.length → ∃ ns cs, Vol S kk (rs.getD j Pt.zero) ns cs (pls.getD j [])
theorem Vols.ok {kk : Nat} {S : DS} {rs : List Pt} {pls : List (List (List Int))} {i : Nat} (h : Vols kk S rs pls i) : (∀ p ∈ rs, p.vs.length = 35) ∧ ∀ l ∈ pls, (plV l).length = 16 := by
  refine ⟨fun p hp => ?_, fun l hl => ?_⟩
  · obtain ⟨j, hj, rfl⟩ := List.getElem_of_mem hp
    obtain ⟨ns, cs, hv⟩ := h.vol j hj
    have h1 := Pt.vs_len (hv.root.ok h.good.klt)
    rw [List.getD_eq_getElem?_getD, List.getElem?_eq_getElem hj] at h1
    exact h1
  · obtain ⟨j, hj, rfl⟩ := List.getElem_of_mem hl
    obtain ⟨ns, cs, hv⟩ := h.vol j (by rw [h.len]; exact hj)
    have h1 := (vals_pl hv.len).1
    rw [List.getD_eq_getElem?_getD, List.getElem?_eq_getElem hj] at h1
    exact h1
theorem Vols.up {kk : Nat} {S : DS} {rs : List Pt} {pls : List (List (List Int))} {i : Nat} (h : Vols kk S rs pls i) : Vols kk S rs pls (i + 1) := ⟨h.good, by have := h.small; omega, h.len, h.pos, by have := h.most; omega, h.vol⟩
theorem Vols.more {kk k2 : Nat} {S S2 : DS} {rs : List Pt} {pls : List (List (List Int))} {i : Nat} (h : Vols kk S rs pls i) (hg : Good 128 k2 S2) (hk : Keeps S kk S2 k2) (hs : k2 ≤ kk + 5) {r : Pt} {ns : List Pt} {cs : Nat → List Pt} {pl : List (List Int)} (hv : Vol S2 k2 r ns cs pl) : Vols k2 S2 (rs ++ [r]) (pls ++ [pl]) (i + 1) := by
  refine ⟨hg, by have := h.small; omega, by rw [List.length_append, List.length_append, h.len]; rfl, by rw [List.length_append]; simp, by rw [List.length_append]; have := h.most; simp; omega, fun j hj => ?_⟩
  rw [List.length_append] at hj
  simp only [List.length_singleton] at hj
  by_cases e : j < rs.length
  · obtain ⟨ns', cs', hv'⟩ := h.vol j e
    refine ⟨ns', cs', ?_⟩
    have e' : j < pls.length := by rw [← h.len]; exact e
    rw [List.getD_eq_getElem?_getD, List.getElem?_append_left e, List.getD_eq_getElem?_getD, List.getElem?_append_left e', ← List.getD_eq_getElem?_getD, ← List.getD_eq_getElem?_getD]
    exact hv'.keep hk
  · have e1 : j = rs.length := by omega
    refine ⟨ns, cs, ?_⟩
    rw [e1, List.getD_eq_getElem?_getD, List.getElem?_append_right (Nat.le_refl _), h.len, List.getD_eq_getElem?_getD, List.getElem?_append_right (Nat.le_refl _)]
    simpa using hv
section
variable {w0 ws w w' : World} {M : Nat → Prop} {k p g : Nat} {S S' : DS} {l l' : List Bool} {t : Nat} {B : Nat} {L : List Ent} {T : List Sli} {r r' : Rw}
theorem Sep.bank2 (h : Sep B (Row1 B (Row1 B (BI w0 M ws k p g S l t) r) r') w L T) : BS w0 w (fun j => M j ∨ ((mine L T j ∨ r'.own j) ∨ r.own j)) k p g S l t := h.inv.1.1.1
theorem Sep.turn2 (h : Sep ws.heap.size (Row1 ws.heap.size (Row1 ws.heap.size (BI w0 M ws k p g S l t) r) r') w L T) (h1 : BS w0 w' (fun j => M j ∨ ((mine L T j ∨ r'.own j) ∨ r.own j)) k p g S' l' t) (h2 : Stay (fun j => M j ∨ ((mine L T j ∨ r'.own j) ∨ r.own j)) w w') :
    Sep ws.heap.size (Row1 ws.heap.size (Row1 ws.heap.size (BI w0 M ws k p g S' l' t) r) r') w' L T := by
  obtain ⟨⟨⟨_, hst, hrest⟩, hr, hd⟩, hr', hd'⟩ := h.inv
  have hst' : Stay M ws w' := hst.trans ⟨h2.size, fun j hj hl => h2.block j (.inl hj) hl⟩
  refine ⟨Row1.frame (Row1.frame BI.frame), ⟨⟨⟨h1, hst', hrest⟩, hr.keep (fun j hj => h2.block j (.inr (.inr hj)) (hr.lt hj).2), hd⟩, hr'.keep (fun j hj => h2.block j (.inr (.inl (.inr hj))) (hr'.lt hj).2), hd'⟩,
    fun e he => ⟨h2.blk (h.blk e he).1 (.inr (.inl (.inl (.inl ⟨e, he, rfl⟩)))), (h.blk e he).2⟩, h.nd, fun s hs => ⟨h2.bs (h.sl s hs).1 (fun x hx => .inr (.inl (.inl (.inr ⟨s, hs, x, hx, rfl⟩)))), fun x hx => ⟨((h.sl s hs).2 x hx).1, Nat.lt_of_lt_of_le ((h.sl s hs).2 x hx).2.1 h2.size, ((h.sl s hs).2 x hx).2.2⟩⟩⟩
end

set_option maxHeartbeats 40000000 in
theorem tv_walk (a : Option Addr) (c : Nat) (xs : List EdT) (w : World) (hV : Vars w) (hP : Eds w a xs) (hn : xs.length ≤ 9223372036854775807) : Calls Tryd.prog 4 #[.slice a xs.length c] w fun e w' => e = .returned (.bool true) ∧ Below w.heap.size w w' := by
  have hfr : Calls Tryd.prog 19 #[.int .i64 128] w _ := fresh9_run 128 (by omega) (by omega) w
  obtain ⟨zb, hab, hzb⟩ := al_rbank
  have hzv := vals_ptr Pt.zero_ok
  have hpv0 := al_plain.2
  have hon1 := run_onep Pt.zero Pt.zero_ok
  have hon2 := run_oneS (List.replicate 16 []) rfl
  obtain ⟨N, hN⟩ : ∃ N, N = xs.length := ⟨_, rfl⟩
  have HN : Hid (N = xs.length) := hN
  rw [← hN] at hn ⊢
  clear hN
  go_enter Tryd.func4, Tryd.ntmps4
  go_wp2_with (first
    | (go_at_call 19; go_must (refine hfr.mono ?_); rintro e wF ⟨k, p, g, bv, rfl, ⟨vs, rfl, hbv⟩, hK⟩; have hs := BI.start hK; clear hK)
    | (refine sep_alloc hs rfl rfl ⟨hab, hzb⟩ ?_; clear hs; intro w1 gA hs)
    | (refine sep_storew hs rfl rfl (by rfl) (by rfl) (by repeat (first | exact Upd.head | apply Upd.tail)) ty_rbank (by assumption) ?_; clear hs; intro w1 hs)
    | (refine wpList_build0 (by rfl) 42 (by rfl) _ build_ptr0 ?_)
    | (refine wpList_build0 (by rfl) 65 (by rfl) _ build_plain0 ?_)
    | (refine sep_one hs rfl (by rfl) (by rfl) hon1 hzv ?_; clear hs; intro w1 g1 hs)
    | (refine sep_one hs rfl (by rfl) (by rfl) hon2 hpv0 ?_; clear hs; intro w1 g1 hs))
  replace hs := hs.made.made
  rw [rwP_one, rwS_one] at hs
  have hst : Hid (Vols 4 (DS.new 128) [Pt.zero] [List.replicate 16 []] 0) := ⟨Good.new (by omega) (by omega), by omega, rfl, by decide, by decide, fun j hj => by
    have : j = 0 := by simpa using hj
    subst this
    exact ⟨_, _, Vol.new _ _⟩⟩
  clear hfr hab hzb hon1 hon2
  go_loopw [6, 7, 8] (fun o6 o7 x wr => ∃ (i kk : Nat) (S : DS) (rs : List Pt) (pls : List (List (List Int))), x = .int .i64 (i : Int) ∧ i ≤ 12 ∧ i ≤ N ∧ Sep wF.heap.size (Row1 wF.heap.size (Row1 wF.heap.size (BI w (fun _ => False) wF k p g S (lab 128 kk) 7) (rwS o7 pls)) (rwP o6 rs)) wr [⟨gA, 36, 7, vs⟩] [] ∧ Hid (Vols kk S rs pls i)) (fun _ _ x _ => 12 - (intOf x).toNat)
  case atStart => exact ⟨0, 4, _, _, _, rfl, by omega, by omega, hs, hst⟩
  case round =>
    clear hs hst hbv
    rename_i wr hrel
    obtain ⟨i, kk, S, rs, pls, rfl, hi12, hiN, hs, hH⟩ := hrel
    obtain ⟨a6, c6, rfl⟩ := rwP_form hs.row
    obtain ⟨a7, c7, rfl⟩ := rwS_form hs.inv.1.2.1
    have hbel : Below w.heap.size w wr := hs.bank2.bel
    obtain ⟨R, hR⟩ : ∃ R, R = rs.length := ⟨_, rfl⟩
    have HR : Hid (R = rs.length) := hR
    have hRp : pls.length = R := by rw [hR, hH.out.len]
    have HRP : Hid (pls.length = R) := hRp
    have hRb : 0 < R ∧ R ≤ 13 := by have := hH.out.pos; have := hH.out.most; omega
    by_cases hlt : i < 12 ∧ i < N
    · obtain ⟨hl1, hl2⟩ := hlt
      obtain ⟨b, off, rfl, hc, hok⟩ := hP.at (i := i) (by rw [← HN.out]; exact hl2)
      have hix := fun u => ix_edits9 b off N c hl2 u
      obtain ⟨y, hy⟩ : ∃ y, y = xs.getD i default := ⟨_, rfl⟩
      rw [← hy] at hc hok
      clear hy
      obtain ⟨nb, hnb⟩ : ∃ nb, nb = y.bs.length := ⟨_, rfl⟩
      have hce : ∀ j, j < 3 → w.cell? ⟨b, off + i * 3 + j, none⟩ = (edV y.cell y.ba nb y.bc y.trim)[j]? := by rw [hnb]; exact hc
      have HCE : Hid _ := hce
      have hcr := cells_later (n := 3) (us := edV y.cell y.ba nb y.bc y.trim) hbel rfl hce
      have hc0 : wr.cell? ⟨b, off + i * 3, none⟩ = some (.int .i64 y.cell) := hcr 0 (by omega)
      have hc1 : wr.cell? ⟨b, off + i * 3 + 1, none⟩ = some (.slice y.ba nb y.bc) := hcr 1 (by omega)
      have h12 : (i : Int) < 12 := by omega
      have hiN' : (i : Int) < (N : Int) := by omega
      by_cases hb : nb ≤ 256
      · have hb' : ¬ ((256 : Int) < (nb : Int)) := by omega
        obtain ⟨n, hnR⟩ : ∃ n, n = R - 1 := ⟨_, rfl⟩
        have hnlt : n < R := by omega
        obtain ⟨b6, rfl, hc6⟩ := rwP_cells (i := n) hs.row hH.out.ok.1 (by omega)
        obtain ⟨b7, rfl, hc7⟩ := rwS_cells (i := n) hs.inv.1.2.1 hH.out.ok.2 (by omega)
        obtain ⟨ns, cs, hv⟩ := hH.out.vol n (by omega)
        obtain ⟨q, hq⟩ : ∃ q, q = rs.getD n Pt.zero := ⟨_, rfl⟩
        obtain ⟨pl, hpl⟩ : ∃ pl, pl = pls.getD n [] := ⟨_, rfl⟩
        rw [← hq, ← hpl] at hv
        rw [← hq] at hc6
        rw [← hpl] at hc7
        have hap : ∀ u M', BS w u M' k p g S (lab 128 kk) 7 → Calls Tryd.prog 20 #[.pointer (some ⟨k, 0, none⟩), .agg q.vs.toArray, .agg (plV pl).toArray, .agg (edV y.cell y.ba nb y.bc y.trim).toArray] u fun e w' => ∃ root pl' code, e = .returned (.tuple #[.agg root.vs.toArray, .agg (plV pl').toArray, .int .i64 code]) ∧ ApplyOf w u M' k p g S 128 kk cs y.cell root pl' code w' := fun u M' h1 => by
          rw [hnb]
          exact apply_run h1 hV hH.out.good hv y.cell y.trim hok.bs (by omega) (by have := hH.out.small; omega)
        have hql := (vals_ptr (hv.root.ok hH.out.good.klt)).1
        have hpll := (vals_pl hv.len).1
        have hix6 := fun u => index_ptrs b6 R c6 n hnlt u
        have hix7 := fun u => ix_pls b7 R c7 hnlt u
        have hsub : IntKind.i64.wrap ((R : Int) - 1) = ((n : Nat) : Int) := by rw [IntKind.wrap_i64]; omega
        unfold rwP rwS at hs
        rw [← hR] at hs ⊢
        rw [hRp] at hs ⊢
        obtain ⟨qv, hqve⟩ : ∃ qv, qv = q.vs := ⟨_, rfl⟩
        obtain ⟨pv, hpve⟩ : ∃ pv, pv = plV pl := ⟨_, rfl⟩
        obtain ⟨ev, heve⟩ : ∃ ev, ev = edV y.cell y.ba nb y.bc y.trim := ⟨_, rfl⟩
        have hel : ev.length = 3 := by rw [heve]; rfl
        rw [← hqve] at hc6 hql hap
        rw [← hpve] at hc7 hpll hap
        rw [← heve] at hcr hap
        obtain ⟨zv, hzve⟩ : ∃ zv, zv = Pt.zero.vs := ⟨_, rfl⟩
        have hap0 := al_ptr
        rw [← hzve] at hzv hap0
        obtain ⟨zp, hzpe⟩ : ∃ zp, zp = plV (List.replicate 16 []) := ⟨_, rfl⟩
        have hap1 := al_plain
        rw [← hzpe] at hpv0 hap1
        have HLD : Hid (∀ u, Below wr.heap.size wr u → (Instr.loadAt 42 (.pointer (some ⟨b6, n * 35, none⟩))).run Tryd.prog u = .ok (.agg qv.toArray) u ∧ (Instr.loadAt 65 (.pointer (some ⟨b7, n * 16, none⟩))).run Tryd.prog u = .ok (.agg pv.toArray) u ∧ (Instr.loadAt 68 (.pointer (some ⟨b, off + i * 3, none⟩))).run Tryd.prog u = .ok (.agg ev.toArray) u) := fun u hu =>
          ⟨run_load_cells ty_ptr.1 ty_ptr.2 (cells_later hu hql hc6) hql, run_load_cells ty_plain.1 ty_plain.2 (cells_later hu hpll hc7) hpll, run_load_cells ty_edit.1 ty_edit.2 (cells_later hu hel hcr) hel⟩
        have HX : Hid _ := hix
        clear hnR hnb hqve hpve heve hzve hzpe hc hce hcr hok hc6 hc7 hq hpl hql hpll hv hel hR hRp
        go_wp2
        refine UpT.wp_region_opt2 13 18 19 [14, 15, 16, 17] [20, 21, 22] (by rfl) (by rfl) (UpT.tell [(18, blkT 42 wr.heap.size zv), (19, blkT 65 wr.heap.size zp)]) (fun i => i == 18 || i == 19) (by kernel_rfl) (by kernel_rfl) (UpT.tell_steady _ (by
          intro p hp
          simp only [List.mem_cons, List.not_mem_nil, or_false] at hp
          rcases hp with rfl | rfl <;> exact blkT_steady _ _ _)) ?_
        simp only [List.take_succ_cons, List.take_zero]
        iterate 4 (apply UpT.wpUp_pure; (case hw => rfl); (case hψ => rfl); (case hv => (intro wz hp; clear hp; go_simp; try (with_reducible rfl))); simp only [Act.put, List.setIfInBounds_toArray, List.set_cons_zero, List.set_cons_succ])
        refine UpT.wpUp_pure (.agg qv.toArray) (by rfl) (by rfl) (fun wz hp => exec_load (by rfl) (by rfl) ((HLD.out wz hp.1).1)) ?_
        simp only [Act.put, List.setIfInBounds_toArray, List.set_cons_zero, List.set_cons_succ]
        iterate 3 (apply UpT.wpUp_pure; (case hw => rfl); (case hψ => rfl); (case hv => (intro wz hp; clear hp; go_simp; try (with_reducible rfl))); simp only [Act.put, List.setIfInBounds_toArray, List.set_cons_zero, List.set_cons_succ])
        refine UpT.wpUp_pure (.agg pv.toArray) (by rfl) (by rfl) (fun wz hp => exec_load (by rfl) (by rfl) ((HLD.out wz hp.1).2.1)) ?_
        simp only [Act.put, List.setIfInBounds_toArray, List.set_cons_zero, List.set_cons_succ]
        iterate 3 (apply UpT.wpUp_pure; (case hw => rfl); (case hψ => rfl); (case hv => (intro wz hp; clear hp; go_simp; try (with_reducible rfl))); simp only [Act.put, List.setIfInBounds_toArray, List.set_cons_zero, List.set_cons_succ])
        refine UpT.wpUp_pure (.agg ev.toArray) (by rfl) (by rfl) (fun wz hp => exec_load (by rfl) (by rfl) ((HLD.out wz hp.1).2.2)) ?_
        simp only [Act.put, List.setIfInBounds_toArray, List.set_cons_zero, List.set_cons_succ]
        clear hix6 hix7 hix
        refine UpT.wpUp_end ⟨?_, ?_, ?_⟩
        · intro wC hbC hf
          clear hf
          simp only [UpT.opsAt, List.cons_append, List.nil_append, List.filterMap_cons, List.filterMap_nil, List.getElem?_toArray, List.getElem?_cons_zero, List.getElem?_cons_succ]
          replace hs := hs.stays hbC
          clear hbC
          go_wp2_with (go_at_call 20; go_must (refine (hap _ _ hs.bank2).mono ?_); rintro e w1 ⟨root, pl2, code, rfl, S2, k2, ns2, cs2, h1, h2, hg2, hA⟩; replace hs := hs.turn2 h1 h2; have hrv := vals_ptr (hA.vol.root.ok hg2.klt); have hplv := vals_pl hA.vol.len; have HA : Hid _ := hA; have HG2 : Hid _ := hg2; clear h1 h2 hA hg2)
          try dsimp only [midQ]
          refine ⟨?_, ?_⟩
          · refine wp_move1 rfl rfl (by rfl) ?_; simp only [Act.put, List.setIfInBounds_toArray, List.set_cons_zero, List.set_cons_succ]; refine wp_extract1 rfl rfl (by rfl) (by rfl) ?_; simp only [Act.put, List.setIfInBounds_toArray, List.set_cons_zero, List.set_cons_succ]; refine wp_extract1 rfl rfl (by rfl) (by rfl) ?_; simp only [Act.put, List.setIfInBounds_toArray, List.set_cons_zero, List.set_cons_succ]; refine wp_extract1 rfl rfl (by rfl) (by rfl) ?_; simp only [Act.put, List.setIfInBounds_toArray, List.set_cons_zero, List.set_cons_succ]; refine sep_alloc hs rfl rfl hap0 ?_; clear hs; intro w1 gX hs; simp only [Act.put, List.setIfInBounds_toArray, List.set_cons_zero, List.set_cons_succ]; refine sep_alloc hs rfl rfl hap1 ?_; clear hs; intro w1 gY hs; simp only [Act.put, List.setIfInBounds_toArray, List.set_cons_zero, List.set_cons_succ]; refine sep_storew hs rfl rfl (by rfl) (by rfl) (by repeat (first | exact Upd.head | apply Upd.tail)) ty_ptr hrv ?_; clear hs; intro w1 hs; simp only [Act.put, List.setIfInBounds_toArray, List.set_cons_zero, List.set_cons_succ]; refine sep_storew hs rfl rfl (by rfl) (by rfl) (by repeat (first | exact Upd.head | apply Upd.tail)) ty_plain hplv ?_; clear hs; intro w1 hs; go_wp2
            try dsimp only [midQ]
            have hcode := Applied.code HA.out
            have hons := run_onep root (Applied.vol HA.out |>.root.ok HG2.out.klt)
            have hont := run_oneS pl2 (Applied.vol HA.out).len
            obtain ⟨rv, hrve⟩ : ∃ rv, rv = root.vs := ⟨_, rfl⟩
            have HRV : Hid (rv = root.vs) := hrve
            rw [← hrve] at hs hrv hons ⊢
            obtain ⟨plv, hplve⟩ : ∃ rv, rv = plV pl2 := ⟨_, rfl⟩
            have HPV : Hid (plv = plV pl2) := hplve
            rw [← hplve] at hs hplv hont ⊢
            have hixx := HX.out
            clear hrve hplve
            have hways : (code = 0) ∨ (code = 1 ∧ ¬ ((0 : Int) ≤ y.cell)) ∨ (code = 1 ∧ (0 : Int) ≤ y.cell ∧ ¬ (y.cell < 16)) := by omega
            have hcw : w1.cell? ⟨b, off + i * 3, none⟩ = some (.int .i64 y.cell) := cells_later (n := 3) (us := edV y.cell y.ba nb y.bc y.trim) hs.bank2.bel rfl HCE.out 0 (by omega)
            rcases hways with rfl | ⟨rfl, hy0⟩ | ⟨rfl, hy0, hy1⟩
            all_goals
              clear hcode
              go_wp2_with (first
                | (refine sep_loadw hs rfl rfl (by rfl) (by repeat (first | exact List.Mem.head _ | apply List.Mem.tail)) (by first | exact ty_ptr | exact ty_plain) ?_)
                | (refine sep_one hs rfl (by rfl) (by rfl) hons hrv ?_; clear hs; intro w1 g1 hs)
                | (refine sep_one hs rfl (by rfl) (by rfl) hont hplv ?_; clear hs; intro w1 g1 hs)
                | (refine sep_append hs (Row1.frame BI.frame) rfl rfl elem_ptr (by rfl) (by rfl) (by repeat (first | exact List.Mem.head _ | apply List.Mem.tail)) (by omega) ?_; clear hs; intro v6 w1 hs; replace hs := rwP_cast hs (rs ++ [root]) (by rw [List.length_append, ← HR.out]; rfl) (by rw [ptrsV_more, HRV.out]); replace hs := hs.swap BI.frame)
                | (refine sep_append hs (Row1.frame BI.frame) rfl rfl elem_pl (by rfl) (by rfl) (by repeat (first | exact List.Mem.head _ | apply List.Mem.tail)) (by omega) ?_; clear hs; intro v7 w1 hs; replace hs := rwS_cast hs (pls ++ [pl2]) (by rw [List.length_append, HRP.out]; rfl) (by rw [List.flatMap_append, HPV.out]; simp); replace hs := hs.swap BI.frame))
              replace hs := hs.drop.drop.drop.drop
              go_roundw
              case rel => exact ⟨i + 1, k2, S2, rs ++ [root], pls ++ [pl2], by go_num, by omega, by omega, hs, hH.out.more HG2.out (Applied.keep HA.out) (Applied.small HA.out) (Applied.vol HA.out)⟩
              case measure => simp [intOf]; omega
          · refine wp_move1 rfl rfl (by rfl) ?_; simp only [Act.put, List.setIfInBounds_toArray, List.set_cons_zero, List.set_cons_succ]; refine wp_extract1 rfl rfl (by rfl) (by rfl) ?_; simp only [Act.put, List.setIfInBounds_toArray, List.set_cons_zero, List.set_cons_succ]; refine wp_extract1 rfl rfl (by rfl) (by rfl) ?_; simp only [Act.put, List.setIfInBounds_toArray, List.set_cons_zero, List.set_cons_succ]; refine wp_extract1 rfl rfl (by rfl) (by rfl) ?_; simp only [Act.put, List.setIfInBounds_toArray, List.set_cons_zero, List.set_cons_succ]; refine sep_alloc hs rfl rfl hap1 ?_; clear hs; intro w1 gY hs; simp only [Act.put, List.setIfInBounds_toArray, List.set_cons_zero, List.set_cons_succ]; refine sep_alloc hs rfl rfl hap0 ?_; clear hs; intro w1 gX hs; simp only [Act.put, List.setIfInBounds_toArray, List.set_cons_zero, List.set_cons_succ]; refine sep_storew hs rfl rfl (by rfl) (by rfl) (by repeat (first | exact Upd.head | apply Upd.tail)) ty_ptr hrv ?_; clear hs; intro w1 hs; simp only [Act.put, List.setIfInBounds_toArray, List.set_cons_zero, List.set_cons_succ]; refine sep_storew hs rfl rfl (by rfl) (by rfl) (by repeat (first | exact Upd.head | apply Upd.tail)) ty_plain hplv ?_; clear hs; intro w1 hs; go_wp2
            try dsimp only [midQ]
            have hcode := Applied.code HA.out
            have hons := run_onep root (Applied.vol HA.out |>.root.ok HG2.out.klt)
            have hont := run_oneS pl2 (Applied.vol HA.out).len
            obtain ⟨rv, hrve⟩ : ∃ rv, rv = root.vs := ⟨_, rfl⟩
            have HRV : Hid (rv = root.vs) := hrve
            rw [← hrve] at hs hrv hons ⊢
            obtain ⟨plv, hplve⟩ : ∃ rv, rv = plV pl2 := ⟨_, rfl⟩
            have HPV : Hid (plv = plV pl2) := hplve
            rw [← hplve] at hs hplv hont ⊢
            have hixx := HX.out
            clear hrve hplve
            have hways : (code = 0) ∨ (code = 1 ∧ ¬ ((0 : Int) ≤ y.cell)) ∨ (code = 1 ∧ (0 : Int) ≤ y.cell ∧ ¬ (y.cell < 16)) := by omega
            have hcw : w1.cell? ⟨b, off + i * 3, none⟩ = some (.int .i64 y.cell) := cells_later (n := 3) (us := edV y.cell y.ba nb y.bc y.trim) hs.bank2.bel rfl HCE.out 0 (by omega)
            rcases hways with rfl | ⟨rfl, hy0⟩ | ⟨rfl, hy0, hy1⟩
            all_goals
              clear hcode
              go_wp2_with (first
                | (refine sep_loadw hs rfl rfl (by rfl) (by repeat (first | exact List.Mem.head _ | apply List.Mem.tail)) (by first | exact ty_ptr | exact ty_plain) ?_)
                | (refine sep_one hs rfl (by rfl) (by rfl) hons hrv ?_; clear hs; intro w1 g1 hs)
                | (refine sep_one hs rfl (by rfl) (by rfl) hont hplv ?_; clear hs; intro w1 g1 hs)
                | (refine sep_append hs (Row1.frame BI.frame) rfl rfl elem_ptr (by rfl) (by rfl) (by repeat (first | exact List.Mem.head _ | apply List.Mem.tail)) (by omega) ?_; clear hs; intro v6 w1 hs; replace hs := rwP_cast hs (rs ++ [root]) (by rw [List.length_append, ← HR.out]; rfl) (by rw [ptrsV_more, HRV.out]); replace hs := hs.swap BI.frame)
                | (refine sep_append hs (Row1.frame BI.frame) rfl rfl elem_pl (by rfl) (by rfl) (by repeat (first | exact List.Mem.head _ | apply List.Mem.tail)) (by omega) ?_; clear hs; intro v7 w1 hs; replace hs := rwS_cast hs (pls ++ [pl2]) (by rw [List.length_append, HRP.out]; rfl) (by rw [List.flatMap_append, HPV.out]; simp); replace hs := hs.swap BI.frame))
              replace hs := hs.drop.drop.drop.drop
              go_roundw
              case rel => exact ⟨i + 1, k2, S2, rs ++ [root], pls ++ [pl2], by go_num, by omega, by omega, hs, hH.out.more HG2.out (Applied.keep HA.out) (Applied.small HA.out) (Applied.vol HA.out)⟩
              case measure => simp [intOf]; omega
        · refine (UpT.wpUp_make (blkT 42 wr.heap.size zv) (by rfl) (by rfl) (fun wz hp => ⟨.pointer (some ⟨wz.heap.size, 0, none⟩), wz.alloc (.cells zv.toArray 42), exec_alloc0 (by rfl) (hap0.1 wz), (Below.refl _ _).alloc (Nat.le_refl _) _, ⟨_, rfl, hp.1.size, Blk.newAt rfl rfl⟩, fun _ => ⟨_, rfl, Nat.le_refl _, by simp⟩⟩) ?_).out
          rintro v ⟨u, _, hf⟩
          obtain ⟨gX, rfl, _, _⟩ := hf.of 18 v _ rfl rfl
          clear hf
          simp only [Act.put, List.setIfInBounds_toArray, List.set_cons_zero, List.set_cons_succ]
          refine UpT.wpUp_end ⟨?_, ?_⟩
          · intro wC hbC hf
            obtain ⟨g2, hgE, hglgX, hBgX⟩ := hf.of 18 _ _ rfl rfl
            cases hgE
            clear hf
            simp only [UpT.opsAt, List.cons_append, List.nil_append, List.filterMap_cons, List.filterMap_nil, List.getElem?_toArray, List.getElem?_cons_zero, List.getElem?_cons_succ]
            replace hs := hs.addAt hbC hBgX hglgX hzv
            clear hbC hBgX
            go_wp2_with (go_at_call 20; go_must (refine (hap _ _ hs.bank2).mono ?_); rintro e w1 ⟨root, pl2, code, rfl, S2, k2, ns2, cs2, h1, h2, hg2, hA⟩; replace hs := hs.turn2 h1 h2; have hrv := vals_ptr (hA.vol.root.ok hg2.klt); have hplv := vals_pl hA.vol.len; have HA : Hid _ := hA; have HG2 : Hid _ := hg2; clear h1 h2 hA hg2; dsimp only []; apply_assumption; refine wp_move1 rfl rfl (by rfl) ?_; simp only [Act.put, List.setIfInBounds_toArray, List.set_cons_zero, List.set_cons_succ]; refine wp_extract1 rfl rfl (by rfl) (by rfl) ?_; simp only [Act.put, List.setIfInBounds_toArray, List.set_cons_zero, List.set_cons_succ]; refine wp_extract1 rfl rfl (by rfl) (by rfl) ?_; simp only [Act.put, List.setIfInBounds_toArray, List.set_cons_zero, List.set_cons_succ]; refine wp_extract1 rfl rfl (by rfl) (by rfl) ?_; simp only [Act.put, List.setIfInBounds_toArray, List.set_cons_zero, List.set_cons_succ]; refine sep_alloc hs rfl rfl hap1 ?_; clear hs; intro w1 gY hs; simp only [Act.put, List.setIfInBounds_toArray, List.set_cons_zero, List.set_cons_succ]; refine sep_storew hs rfl rfl (by rfl) (by rfl) (by repeat (first | exact Upd.head | apply Upd.tail)) ty_ptr hrv ?_; clear hs; intro w1 hs; simp only [Act.put, List.setIfInBounds_toArray, List.set_cons_zero, List.set_cons_succ]; refine sep_storew hs rfl rfl (by rfl) (by rfl) (by repeat (first | exact Upd.head | apply Upd.tail)) ty_plain hplv ?_; clear hs; intro w1 hs; go_wp2)
            try dsimp only [midQ]
            have hcode := Applied.code HA.out
            have hons := run_onep root (Applied.vol HA.out |>.root.ok HG2.out.klt)
            have hont := run_oneS pl2 (Applied.vol HA.out).len
            obtain ⟨rv, hrve⟩ : ∃ rv, rv = root.vs := ⟨_, rfl⟩
            have HRV : Hid (rv = root.vs) := hrve
            rw [← hrve] at hs hrv hons ⊢
            obtain ⟨plv, hplve⟩ : ∃ rv, rv = plV pl2 := ⟨_, rfl⟩
            have HPV : Hid (plv = plV pl2) := hplve
            rw [← hplve] at hs hplv hont ⊢
            have hixx := HX.out
            clear hrve hplve
            have hways : (code = 0) ∨ (code = 1 ∧ ¬ ((0 : Int) ≤ y.cell)) ∨ (code = 1 ∧ (0 : Int) ≤ y.cell ∧ ¬ (y.cell < 16)) := by omega
            have hcw : w1.cell? ⟨b, off + i * 3, none⟩ = some (.int .i64 y.cell) := cells_later (n := 3) (us := edV y.cell y.ba nb y.bc y.trim) hs.bank2.bel rfl HCE.out 0 (by omega)
            rcases hways with rfl | ⟨rfl, hy0⟩ | ⟨rfl, hy0, hy1⟩
            all_goals
              clear hcode
              go_wp2_with (first
                | (refine sep_loadw hs rfl rfl (by rfl) (by repeat (first | exact List.Mem.head _ | apply List.Mem.tail)) (by first | exact ty_ptr | exact ty_plain) ?_)
                | (refine sep_one hs rfl (by rfl) (by rfl) hons hrv ?_; clear hs; intro w1 g1 hs)
                | (refine sep_one hs rfl (by rfl) (by rfl) hont hplv ?_; clear hs; intro w1 g1 hs)
                | (refine sep_append hs (Row1.frame BI.frame) rfl rfl elem_ptr (by rfl) (by rfl) (by repeat (first | exact List.Mem.head _ | apply List.Mem.tail)) (by omega) ?_; clear hs; intro v6 w1 hs; replace hs := rwP_cast hs (rs ++ [root]) (by rw [List.length_append, ← HR.out]; rfl) (by rw [ptrsV_more, HRV.out]); replace hs := hs.swap BI.frame)
                | (refine sep_append hs (Row1.frame BI.frame) rfl rfl elem_pl (by rfl) (by rfl) (by repeat (first | exact List.Mem.head _ | apply List.Mem.tail)) (by omega) ?_; clear hs; intro v7 w1 hs; replace hs := rwS_cast hs (pls ++ [pl2]) (by rw [List.length_append, HRP.out]; rfl) (by rw [List.flatMap_append, HPV.out]; simp); replace hs := hs.swap BI.frame))
              replace hs := hs.drop.drop.drop.drop
              go_roundw
              case rel => exact ⟨i + 1, k2, S2, rs ++ [root], pls ++ [pl2], by go_num, by omega, by omega, hs, hH.out.more HG2.out (Applied.keep HA.out) (Applied.small HA.out) (Applied.vol HA.out)⟩
              case measure => simp [intOf]; omega
          · refine (UpT.wpUp_make (blkT 65 wr.heap.size zp) (by rfl) (by rfl) (fun wz hp => ⟨.pointer (some ⟨wz.heap.size, 0, none⟩), wz.alloc (.cells zp.toArray 65), exec_alloc0 (by rfl) (hap1.1 wz), (Below.refl _ _).alloc (Nat.le_refl _) _, ⟨_, rfl, hp.1.size, Blk.newAt rfl rfl⟩, fun _ => ⟨_, rfl, Nat.le_refl _, by simp⟩⟩) ?_).out
            rintro v ⟨u, _, hf⟩
            obtain ⟨gY, rfl, _, _⟩ := hf.of 19 v _ rfl rfl
            clear hf
            simp only [Act.put, List.setIfInBounds_toArray, List.set_cons_zero, List.set_cons_succ]
            refine UpT.wpUp_end ?_
            intro wC hbC hf
            obtain ⟨g2, hgE, hglgX, hBgX⟩ := hf.of 18 _ _ rfl rfl
            cases hgE
            obtain ⟨g2, hgE, hglgY, hBgY⟩ := hf.of 19 _ _ rfl rfl
            cases hgE
            have hne : gX ≠ gY := hf.ne 18 19 _ _ (by decide) rfl rfl rfl rfl
            clear hf
            simp only [UpT.opsAt, List.cons_append, List.nil_append, List.filterMap_cons, List.filterMap_nil, List.getElem?_toArray, List.getElem?_cons_zero, List.getElem?_cons_succ]
            replace hs := hs.addAt2 hbC hBgX hglgX hzv hBgY hglgY hpv0 hne
            clear hbC hBgX hBgY
            go_wp2_with (go_at_call 20; go_must (refine (hap _ _ hs.bank2).mono ?_); rintro e w1 ⟨root, pl2, code, rfl, S2, k2, ns2, cs2, h1, h2, hg2, hA⟩; replace hs := hs.turn2 h1 h2; have hrv := vals_ptr (hA.vol.root.ok hg2.klt); have hplv := vals_pl hA.vol.len; have HA : Hid _ := hA; have HG2 : Hid _ := hg2; clear h1 h2 hA hg2; dsimp only []; apply_assumption; refine wp_move1 rfl rfl (by rfl) ?_; simp only [Act.put, List.setIfInBounds_toArray, List.set_cons_zero, List.set_cons_succ]; refine wp_extract1 rfl rfl (by rfl) (by rfl) ?_; simp only [Act.put, List.setIfInBounds_toArray, List.set_cons_zero, List.set_cons_succ]; refine wp_extract1 rfl rfl (by rfl) (by rfl) ?_; simp only [Act.put, List.setIfInBounds_toArray, List.set_cons_zero, List.set_cons_succ]; refine wp_extract1 rfl rfl (by rfl) (by rfl) ?_; simp only [Act.put, List.setIfInBounds_toArray, List.set_cons_zero, List.set_cons_succ]; refine sep_storew hs rfl rfl (by rfl) (by rfl) (by repeat (first | exact Upd.head | apply Upd.tail)) ty_ptr hrv ?_; clear hs; intro w1 hs; simp only [Act.put, List.setIfInBounds_toArray, List.set_cons_zero, List.set_cons_succ]; refine sep_storew hs rfl rfl (by rfl) (by rfl) (by repeat (first | exact Upd.head | apply Upd.tail)) ty_plain hplv ?_; clear hs; intro w1 hs; go_wp2)
            try dsimp only [midQ]
            have hcode := Applied.code HA.out
            have hons := run_onep root (Applied.vol HA.out |>.root.ok HG2.out.klt)
            have hont := run_oneS pl2 (Applied.vol HA.out).len
            obtain ⟨rv, hrve⟩ : ∃ rv, rv = root.vs := ⟨_, rfl⟩
            have HRV : Hid (rv = root.vs) := hrve
            rw [← hrve] at hs hrv hons ⊢
            obtain ⟨plv, hplve⟩ : ∃ rv, rv = plV pl2 := ⟨_, rfl⟩
            have HPV : Hid (plv = plV pl2) := hplve
            rw [← hplve] at hs hplv hont ⊢
            have hixx := HX.out
            clear hrve hplve
            have hways : (code = 0) ∨ (code = 1 ∧ ¬ ((0 : Int) ≤ y.cell)) ∨ (code = 1 ∧ (0 : Int) ≤ y.cell ∧ ¬ (y.cell < 16)) := by omega
            have hcw : w1.cell? ⟨b, off + i * 3, none⟩ = some (.int .i64 y.cell) := cells_later (n := 3) (us := edV y.cell y.ba nb y.bc y.trim) hs.bank2.bel rfl HCE.out 0 (by omega)
            rcases hways with rfl | ⟨rfl, hy0⟩ | ⟨rfl, hy0, hy1⟩
            all_goals
              clear hcode
              go_wp2_with (first
                | (refine sep_loadw hs rfl rfl (by rfl) (by repeat (first | exact List.Mem.head _ | apply List.Mem.tail)) (by first | exact ty_ptr | exact ty_plain) ?_)
                | (refine sep_one hs rfl (by rfl) (by rfl) hons hrv ?_; clear hs; intro w1 g1 hs)
                | (refine sep_one hs rfl (by rfl) (by rfl) hont hplv ?_; clear hs; intro w1 g1 hs)
                | (refine sep_append hs (Row1.frame BI.frame) rfl rfl elem_ptr (by rfl) (by rfl) (by repeat (first | exact List.Mem.head _ | apply List.Mem.tail)) (by omega) ?_; clear hs; intro v6 w1 hs; replace hs := rwP_cast hs (rs ++ [root]) (by rw [List.length_append, ← HR.out]; rfl) (by rw [ptrsV_more, HRV.out]); replace hs := hs.swap BI.frame)
                | (refine sep_append hs (Row1.frame BI.frame) rfl rfl elem_pl (by rfl) (by rfl) (by repeat (first | exact List.Mem.head _ | apply List.Mem.tail)) (by omega) ?_; clear hs; intro v7 w1 hs; replace hs := rwS_cast hs (pls ++ [pl2]) (by rw [List.length_append, HRP.out]; rfl) (by rw [List.flatMap_append, HPV.out]; simp); replace hs := hs.swap BI.frame))
              replace hs := hs.drop.drop.drop.drop
              go_roundw
              case rel => exact ⟨i + 1, k2, S2, rs ++ [root], pls ++ [pl2], by go_num, by omega, by omega, hs, hH.out.more HG2.out (Applied.keep HA.out) (Applied.small HA.out) (Applied.vol HA.out)⟩
              case measure => simp [intOf]; omega
        · refine (UpT.wpUp_make (blkT 65 wr.heap.size zp) (by rfl) (by rfl) (fun wz hp => ⟨.pointer (some ⟨wz.heap.size, 0, none⟩), wz.alloc (.cells zp.toArray 65), exec_alloc0 (by rfl) (hap1.1 wz), (Below.refl _ _).alloc (Nat.le_refl _) _, ⟨_, rfl, hp.1.size, Blk.newAt rfl rfl⟩, fun _ => ⟨_, rfl, Nat.le_refl _, by simp⟩⟩) ?_).out
          rintro v ⟨u, _, hf⟩
          obtain ⟨gY, rfl, _, _⟩ := hf.of 19 v _ rfl rfl
          clear hf
          simp only [Act.put, List.setIfInBounds_toArray, List.set_cons_zero, List.set_cons_succ]
          refine UpT.wpUp_end ⟨?_, ?_⟩
          · intro wC hbC hf
            obtain ⟨g2, hgE, hglgY, hBgY⟩ := hf.of 19 _ _ rfl rfl
            cases hgE
            clear hf
            simp only [UpT.opsAt, List.cons_append, List.nil_append, List.filterMap_cons, List.filterMap_nil, List.getElem?_toArray, List.getElem?_cons_zero, List.getElem?_cons_succ]
            replace hs := hs.addAt hbC hBgY hglgY hpv0
            clear hbC hBgY
            go_wp2_with (go_at_call 20; go_must (refine (hap _ _ hs.bank2).mono ?_); rintro e w1 ⟨root, pl2, code, rfl, S2, k2, ns2, cs2, h1, h2, hg2, hA⟩; replace hs := hs.turn2 h1 h2; have hrv := vals_ptr (hA.vol.root.ok hg2.klt); have hplv := vals_pl hA.vol.len; have HA : Hid _ := hA; have HG2 : Hid _ := hg2; clear h1 h2 hA hg2; dsimp only []; apply_assumption; refine wp_move1 rfl rfl (by rfl) ?_; simp only [Act.put, List.setIfInBounds_toArray, List.set_cons_zero, List.set_cons_succ]; refine wp_extract1 rfl rfl (by rfl) (by rfl) ?_; simp only [Act.put, List.setIfInBounds_toArray, List.set_cons_zero, List.set_cons_succ]; refine wp_extract1 rfl rfl (by rfl) (by rfl) ?_; simp only [Act.put, List.setIfInBounds_toArray, List.set_cons_zero, List.set_cons_succ]; refine wp_extract1 rfl rfl (by rfl) (by rfl) ?_; simp only [Act.put, List.setIfInBounds_toArray, List.set_cons_zero, List.set_cons_succ]; refine sep_alloc hs rfl rfl hap0 ?_; clear hs; intro w1 gX hs; simp only [Act.put, List.setIfInBounds_toArray, List.set_cons_zero, List.set_cons_succ]; refine sep_storew hs rfl rfl (by rfl) (by rfl) (by repeat (first | exact Upd.head | apply Upd.tail)) ty_ptr hrv ?_; clear hs; intro w1 hs; simp only [Act.put, List.setIfInBounds_toArray, List.set_cons_zero, List.set_cons_succ]; refine sep_storew hs rfl rfl (by rfl) (by rfl) (by repeat (first | exact Upd.head | apply Upd.tail)) ty_plain hplv ?_; clear hs; intro w1 hs; go_wp2)
            try dsimp only [midQ]
            have hcode := Applied.code HA.out
            have hons := run_onep root (Applied.vol HA.out |>.root.ok HG2.out.klt)
            have hont := run_oneS pl2 (Applied.vol HA.out).len
            obtain ⟨rv, hrve⟩ : ∃ rv, rv = root.vs := ⟨_, rfl⟩
            have HRV : Hid (rv = root.vs) := hrve
            rw [← hrve] at hs hrv hons ⊢
            obtain ⟨plv, hplve⟩ : ∃ rv, rv = plV pl2 := ⟨_, rfl⟩
            have HPV : Hid (plv = plV pl2) := hplve
            rw [← hplve] at hs hplv hont ⊢
            have hixx := HX.out
            clear hrve hplve
            have hways : (code = 0) ∨ (code = 1 ∧ ¬ ((0 : Int) ≤ y.cell)) ∨ (code = 1 ∧ (0 : Int) ≤ y.cell ∧ ¬ (y.cell < 16)) := by omega
            have hcw : w1.cell? ⟨b, off + i * 3, none⟩ = some (.int .i64 y.cell) := cells_later (n := 3) (us := edV y.cell y.ba nb y.bc y.trim) hs.bank2.bel rfl HCE.out 0 (by omega)
            rcases hways with rfl | ⟨rfl, hy0⟩ | ⟨rfl, hy0, hy1⟩
            all_goals
              clear hcode
              go_wp2_with (first
                | (refine sep_loadw hs rfl rfl (by rfl) (by repeat (first | exact List.Mem.head _ | apply List.Mem.tail)) (by first | exact ty_ptr | exact ty_plain) ?_)
                | (refine sep_one hs rfl (by rfl) (by rfl) hons hrv ?_; clear hs; intro w1 g1 hs)
                | (refine sep_one hs rfl (by rfl) (by rfl) hont hplv ?_; clear hs; intro w1 g1 hs)
                | (refine sep_append hs (Row1.frame BI.frame) rfl rfl elem_ptr (by rfl) (by rfl) (by repeat (first | exact List.Mem.head _ | apply List.Mem.tail)) (by omega) ?_; clear hs; intro v6 w1 hs; replace hs := rwP_cast hs (rs ++ [root]) (by rw [List.length_append, ← HR.out]; rfl) (by rw [ptrsV_more, HRV.out]); replace hs := hs.swap BI.frame)
                | (refine sep_append hs (Row1.frame BI.frame) rfl rfl elem_pl (by rfl) (by rfl) (by repeat (first | exact List.Mem.head _ | apply List.Mem.tail)) (by omega) ?_; clear hs; intro v7 w1 hs; replace hs := rwS_cast hs (pls ++ [pl2]) (by rw [List.length_append, HRP.out]; rfl) (by rw [List.flatMap_append, HPV.out]; simp); replace hs := hs.swap BI.frame))
              replace hs := hs.drop.drop.drop.drop
              go_roundw
              case rel => exact ⟨i + 1, k2, S2, rs ++ [root], pls ++ [pl2], by go_num, by omega, by omega, hs, hH.out.more HG2.out (Applied.keep HA.out) (Applied.small HA.out) (Applied.vol HA.out)⟩
              case measure => simp [intOf]; omega
          · refine (UpT.wpUp_make (blkT 42 wr.heap.size zv) (by rfl) (by rfl) (fun wz hp => ⟨.pointer (some ⟨wz.heap.size, 0, none⟩), wz.alloc (.cells zv.toArray 42), exec_alloc0 (by rfl) (hap0.1 wz), (Below.refl _ _).alloc (Nat.le_refl _) _, ⟨_, rfl, hp.1.size, Blk.newAt rfl rfl⟩, fun _ => ⟨_, rfl, Nat.le_refl _, by simp⟩⟩) ?_).out
            rintro v ⟨u, _, hf⟩
            obtain ⟨gX, rfl, _, _⟩ := hf.of 18 v _ rfl rfl
            clear hf
            simp only [Act.put, List.setIfInBounds_toArray, List.set_cons_zero, List.set_cons_succ]
            refine UpT.wpUp_end ?_
            intro wC hbC hf
            obtain ⟨g2, hgE, hglgY, hBgY⟩ := hf.of 19 _ _ rfl rfl
            cases hgE
            obtain ⟨g2, hgE, hglgX, hBgX⟩ := hf.of 18 _ _ rfl rfl
            cases hgE
            have hne : gX ≠ gY := hf.ne 18 19 _ _ (by decide) rfl rfl rfl rfl
            clear hf
            simp only [UpT.opsAt, List.cons_append, List.nil_append, List.filterMap_cons, List.filterMap_nil, List.getElem?_toArray, List.getElem?_cons_zero, List.getElem?_cons_succ]
            replace hs := hs.addAt2 hbC hBgX hglgX hzv hBgY hglgY hpv0 hne
            clear hbC hBgX hBgY
            go_wp2_with (go_at_call 20; go_must (refine (hap _ _ hs.bank2).mono ?_); rintro e w1 ⟨root, pl2, code, rfl, S2, k2, ns2, cs2, h1, h2, hg2, hA⟩; replace hs := hs.turn2 h1 h2; have hrv := vals_ptr (hA.vol.root.ok hg2.klt); have hplv := vals_pl hA.vol.len; have HA : Hid _ := hA; have HG2 : Hid _ := hg2; clear h1 h2 hA hg2; dsimp only []; apply_assumption; refine wp_move1 rfl rfl (by rfl) ?_; simp only [Act.put, List.setIfInBounds_toArray, List.set_cons_zero, List.set_cons_succ]; refine wp_extract1 rfl rfl (by rfl) (by rfl) ?_; simp only [Act.put, List.setIfInBounds_toArray, List.set_cons_zero, List.set_cons_succ]; refine wp_extract1 rfl rfl (by rfl) (by rfl) ?_; simp only [Act.put, List.setIfInBounds_toArray, List.set_cons_zero, List.set_cons_succ]; refine wp_extract1 rfl rfl (by rfl) (by rfl) ?_; simp only [Act.put, List.setIfInBounds_toArray, List.set_cons_zero, List.set_cons_succ]; refine sep_storew hs rfl rfl (by rfl) (by rfl) (by repeat (first | exact Upd.head | apply Upd.tail)) ty_ptr hrv ?_; clear hs; intro w1 hs; simp only [Act.put, List.setIfInBounds_toArray, List.set_cons_zero, List.set_cons_succ]; refine sep_storew hs rfl rfl (by rfl) (by rfl) (by repeat (first | exact Upd.head | apply Upd.tail)) ty_plain hplv ?_; clear hs; intro w1 hs; go_wp2)
            try dsimp only [midQ]
            have hcode := Applied.code HA.out
            have hons := run_onep root (Applied.vol HA.out |>.root.ok HG2.out.klt)
            have hont := run_oneS pl2 (Applied.vol HA.out).len
            obtain ⟨rv, hrve⟩ : ∃ rv, rv = root.vs := ⟨_, rfl⟩
            have HRV : Hid (rv = root.vs) := hrve
            rw [← hrve] at hs hrv hons ⊢
            obtain ⟨plv, hplve⟩ : ∃ rv, rv = plV pl2 := ⟨_, rfl⟩
            have HPV : Hid (plv = plV pl2) := hplve
            rw [← hplve] at hs hplv hont ⊢
            have hixx := HX.out
            clear hrve hplve
            have hways : (code = 0) ∨ (code = 1 ∧ ¬ ((0 : Int) ≤ y.cell)) ∨ (code = 1 ∧ (0 : Int) ≤ y.cell ∧ ¬ (y.cell < 16)) := by omega
            have hcw : w1.cell? ⟨b, off + i * 3, none⟩ = some (.int .i64 y.cell) := cells_later (n := 3) (us := edV y.cell y.ba nb y.bc y.trim) hs.bank2.bel rfl HCE.out 0 (by omega)
            rcases hways with rfl | ⟨rfl, hy0⟩ | ⟨rfl, hy0, hy1⟩
            all_goals
              clear hcode
              go_wp2_with (first
                | (refine sep_loadw hs rfl rfl (by rfl) (by repeat (first | exact List.Mem.head _ | apply List.Mem.tail)) (by first | exact ty_ptr | exact ty_plain) ?_)
                | (refine sep_one hs rfl (by rfl) (by rfl) hons hrv ?_; clear hs; intro w1 g1 hs)
                | (refine sep_one hs rfl (by rfl) (by rfl) hont hplv ?_; clear hs; intro w1 g1 hs)
                | (refine sep_append hs (Row1.frame BI.frame) rfl rfl elem_ptr (by rfl) (by rfl) (by repeat (first | exact List.Mem.head _ | apply List.Mem.tail)) (by omega) ?_; clear hs; intro v6 w1 hs; replace hs := rwP_cast hs (rs ++ [root]) (by rw [List.length_append, ← HR.out]; rfl) (by rw [ptrsV_more, HRV.out]); replace hs := hs.swap BI.frame)
                | (refine sep_append hs (Row1.frame BI.frame) rfl rfl elem_pl (by rfl) (by rfl) (by repeat (first | exact List.Mem.head _ | apply List.Mem.tail)) (by omega) ?_; clear hs; intro v7 w1 hs; replace hs := rwS_cast hs (pls ++ [pl2]) (by rw [List.length_append, HRP.out]; rfl) (by rw [List.flatMap_append, HPV.out]; simp); replace hs := hs.swap BI.frame))
              replace hs := hs.drop.drop.drop.drop
              go_roundw
              case rel => exact ⟨i + 1, k2, S2, rs ++ [root], pls ++ [pl2], by go_num, by omega, by omega, hs, hH.out.more HG2.out (Applied.keep HA.out) (Applied.small HA.out) (Applied.vol HA.out)⟩
              case measure => simp [intOf]; omega
      · have hb' : (256 : Int) < (nb : Int) := by omega
        clear hnb hc hce hcr hok
        go_wp2
        go_roundw
        case rel => exact ⟨i + 1, kk, S, rs, pls, by go_num, by omega, by omega, hs, hH.out.up⟩
        case measure => simp [intOf]; omega
    · have hcond2 : (¬ (i : Int) < (N : Int)) ∨ ((i : Int) < (N : Int) ∧ ¬ (i : Int) < 12) := by omega
      clear hlt hRp
      rw [← hR] at hs ⊢
      have hsl : pls.length = R := HRP.out
      rw [hsl] at hs ⊢
      clear hR hsl
      rcases hcond2 with hcond2 | ⟨hcond2, hcond3⟩
      all_goals
        go_wp2
        go_loopw [13] (fun x wq => ∃ (m : Nat) (u : World), u = wq ∧ x = .int .i64 (m : Int) ∧ m ≤ R ∧ Sep wF.heap.size (Row1 wF.heap.size (Row1 wF.heap.size (BI w (fun _ => False) wF k p g S (lab 128 kk) 7) (rwS (.slice a7 R c7) pls)) (rwP (.slice a6 R c6) rs)) u [⟨gA, 36, 7, vs⟩] []) (fun x _ => R - (intOf x).toNat)
        case atStart => exact ⟨0, _, rfl, rfl, by omega, hs⟩
        case round =>
          clear hs hcond2 hbel
          try clear hcond3
          rename_i hrel
          obtain ⟨m, u, rfl, rfl, hmR, hs⟩ := hrel
          by_cases hm : m < R
          · have hm' : (m : Int) < (R : Int) := by omega
            obtain ⟨b6, rfl, hc6⟩ := rwP_cells (i := m) hs.row hH.out.ok.1 (by rw [← HR.out]; exact hm)
            obtain ⟨b7, rfl, hc7⟩ := rwS_cells (i := m) hs.inv.1.2.1 hH.out.ok.2 (by rw [HRP.out]; exact hm)
            obtain ⟨ns, cs, hv⟩ := hH.out.vol m (by rw [← HR.out]; exact hm)
            obtain ⟨q, hq⟩ : ∃ q, q = rs.getD m Pt.zero := ⟨_, rfl⟩
            obtain ⟨pl, hpl⟩ : ∃ pl, pl = pls.getD m [] := ⟨_, rfl⟩
            rw [← hq, ← hpl] at hv
            rw [← hq] at hc6
            rw [← hpl] at hc7
            have hho : ∀ u M', BS w u M' k p g S (lab 128 kk) 7 → Calls Tryd.prog 21 #[.pointer (some ⟨k, 0, none⟩), .agg q.vs.toArray, .agg (plV pl).toArray] u fun e w' => e = .returned (.bool true) ∧ Below u.heap.size u w' := fun u M' h1 => holds_run h1 hV hH.out.good hv
            have hql := (vals_ptr (hv.root.ok hH.out.good.klt)).1
            have hpll := (vals_pl hv.len).1
            have hix6 := fun u => index_ptrs b6 R c6 m hm u
            have hix7 := fun u => ix_pls b7 R c7 hm u
            obtain ⟨qv, hqve⟩ : ∃ qv, qv = q.vs := ⟨_, rfl⟩
            obtain ⟨pv, hpve⟩ : ∃ pv, pv = plV pl := ⟨_, rfl⟩
            rw [← hqve] at hc6 hql hho
            rw [← hpve] at hc7 hpll hho
            have HLD : Hid (∀ z, Below u.heap.size u z → (Instr.loadAt 42 (.pointer (some ⟨b6, m * 35, none⟩))).run Tryd.prog z = .ok (.agg qv.toArray) z ∧ (Instr.loadAt 65 (.pointer (some ⟨b7, m * 16, none⟩))).run Tryd.prog z = .ok (.agg pv.toArray) z) := fun z hu =>
              ⟨run_load_cells ty_ptr.1 ty_ptr.2 (cells_later hu hql hc6) hql, run_load_cells ty_plain.1 ty_plain.2 (cells_later hu hpll hc7) hpll⟩
            clear hqve hpve hc6 hc7 hq hpl hql hpll hv
            go_wp2
            refine UpT.wp_region_tail 9 (UpT.tell []) (fun _ => false) (by kernel_rfl) (by kernel_rfl) (UpT.tell_steady _ (fun p hp => by cases hp)) ?_
            simp only [List.take_succ_cons, List.take_zero]
            iterate 4 (apply UpT.wpUp_pure; (case hw => rfl); (case hψ => rfl); (case hv => (intro wz hp; clear hp; go_simp; try (with_reducible rfl))); simp only [Act.put, List.setIfInBounds_toArray, List.set_cons_zero, List.set_cons_succ])
            refine UpT.wpUp_pure (.agg qv.toArray) (by rfl) (by rfl) (fun wz hp => exec_load (by rfl) (by rfl) ((HLD.out wz hp.1).1)) ?_
            simp only [Act.put, List.setIfInBounds_toArray, List.set_cons_zero, List.set_cons_succ]
            iterate 3 (apply UpT.wpUp_pure; (case hw => rfl); (case hψ => rfl); (case hv => (intro wz hp; clear hp; go_simp; try (with_reducible rfl))); simp only [Act.put, List.setIfInBounds_toArray, List.set_cons_zero, List.set_cons_succ])
            refine UpT.wpUp_pure (.agg pv.toArray) (by rfl) (by rfl) (fun wz hp => exec_load (by rfl) (by rfl) ((HLD.out wz hp.1).2)) ?_
            simp only [Act.put, List.setIfInBounds_toArray, List.set_cons_zero, List.set_cons_succ]
            refine UpT.wpUp_end ?_
            intro w2' hb2' hf
            simp only [List.drop_succ_cons, List.drop_zero]
            replace hs := hs.stays hb2'
            clear hf hb2' hix6 hix7
            go_wp2_with (go_at_call 21; go_must (refine (hho _ _ hs.bank2).mono ?_); rintro e w1 ⟨rfl, hb1⟩; replace hs := hs.stays hb1; clear hb1)
            clear hho
            go_roundw
            case rel => exact ⟨m + 1, _, rfl, by go_num, by omega, hs⟩
            case measure => simp [intOf]; omega
          · have hmR' : m = R := by omega
            subst hmR'
            go_wp2_with (go_at_call 22; go_must (refine (alive9_run _ (hs.bank2.vars hV)).mono ?_); rintro e w1 ⟨rfl, hb1⟩; replace hs := hs.stays hb1; clear hb1)
            go_ret
            exact ⟨rfl, hs.bank2.bel⟩

end Go.Proofs.YtcfjkkjjcljaoaaDoor
