/-
  The function do of package disk's laws, at Read.
-/
import Derived.Test.YtjdidfocelagbaaDDo2
import Derived.Test.YtjdidfocelagbaaUp
import Derived.Test.YtjdidfocelagbaaArr4
namespace Go.Proofs.Ytjdidfocelagbaa
set_option linter.unusedSimpArgs false
set_option linter.unusedVariables false
open Go.RowKit

/-- The value is this one. -/
def isV (x : Value) : Value → World → Prop := fun v _ => v = x
theorem isV_steady (x : Value) : Up.Steady (isV x) := fun v w w' hb h => h
theorem calls_isV {f : FuncId} {args : Array Value} {w : World} {x : Value} (h : Calls Try.prog f args w fun e w' => e = .returned x ∧ Below w.heap.size w w') :
    Calls Try.prog f args w fun e w' => ∃ v, e = .returned v ∧ Below w.heap.size w w' ∧ isV x v w' := h.mono fun e w' ⟨h1, h2⟩ => ⟨_, h1, h2, rfl⟩
theorem exec_load1 {P : Program} {a : Act} {o : Oper} {w : World} {t : TypeId} {x : Operand} {p : Addr} {v : Value} (ho : o.op = Op.load t x) (hx : a.eval x = .pointer (some p)) (hr : (Instr.loadAt t (.pointer (some p))).run P w = .ok v w) :
    (execOp a.eval o).run P w = .ok (.value v) w := by
  unfold execOp
  simp only [ho, hx, Sem.run_bind, Sem.run_pure, Result.andThen_ok, hr]
theorem conv_bs9 {w : World} {a : Option Addr} {n c : Nat} {xs : List Int} (h : Bs w a c xs) (hn : n = xs.length) : (convert 35 9 (.slice a n c)).run Try.prog w = .ok (.string (strOfNums xs)) w :=
  h.conv n hn 35 5 Try.underlying35 Try.underlying5 9 Try.underlying9
theorem size_u8 (w : World) : (sizeOf 5).run Try.prog w = .ok 1 w := sizeOf_run (by kernel_rfl) w

/-- A row of our own is a block. -/
theorem Out.blk {base : Nat} {w : World} {a : Option Addr} {n c : Nat} {xs : List Int} (h : Out base w (.slice a n c) xs) (h0 : 0 < n) : ∃ g ys, a = some ⟨g, 0, none⟩ ∧ base ≤ g ∧ Blk 5 w g ys ∧ n ≤ ys.length := by
  have hl : n = xs.length := by
    obtain ⟨a', c', h'⟩ := h.form
    cases h'; rfl
  rcases h.2 with ⟨h1, h2⟩ | ⟨g, cap, cur, hv, hg, hh, h1, h2, h3, h4⟩
  · omega
  · cases hv
    refine ⟨g, cur.toList, rfl, hg, ?_, ?_⟩
    · unfold Blk; rw [hh]
    · have : cur.size = c * 1 := h3
      simp; omega

set_option maxRecDepth 100000 in
set_option maxHeartbeats 2000000 in
theorem do_read (B p : Nat) (F G : Nat → Prop) (cs : List Value) (S : DS) (kind pos : Int) (ba : Option Addr) (bc : Nat) (bs : List Int) (raw : Bool) (ka : Option Addr) (kc : Nat) (ks : List Int) (w : World) (hP : Pair B w F G p S cs S) (hB : B ≤ w.heap.size) (hl : S.ws.length ≤ 800000)
    (hk1 : (kind == 1) = false) (hk2 : (kind == 2) = false) (hk3 : (kind == 3) = false) (hk4 : (kind == 4) = false) (hk5 : (kind == 5) = false) :
    Calls Try.prog 8 #[.pointer (some ⟨p, 0, none⟩), .agg cs.toArray, .agg #[.int .i64 kind, .int .i64 pos, .slice ba bs.length bc, .bool raw, .slice ka ks.length kc]] w fun e w' =>
      Did B p F G w S e w' := by
  obtain ⟨sa, n, sc, wa, wc, rfl⟩ := rf_cells hP.rf
  obtain ⟨W, hWe⟩ : ∃ W, W = ((((w.alloc (.cells #[.slice sa n sc, .slice wa S.ws.length wc, .bool S.fused, .int .i64 (S.left : Int), .bool S.off] 30)).alloc (.cells #[.int .i64 kind, .int .i64 pos, .slice ba bs.length bc, .bool raw, .slice ka ks.length kc] 38)).alloc (.cells #[.slice none 0 0, .slice none 0 0, .bool false, .int .i64 0, .bool false] 30)).alloc (.cells #[] 5)).alloc (.cells #[] 5) := ⟨_, rfl⟩
  have hbW : Below w.heap.size w W := by rw [hWe]; exact (((((Below.refl _ _).alloc (Nat.le_refl _) _).alloc (by simp) _).alloc (by simp; omega) _).alloc (by simp; omega) _).alloc (by simp; omega) _
  have hM : Blk 30 W w.heap.size [.slice sa n sc, .slice wa S.ws.length wc, .bool S.fused, .int .i64 (S.left : Int), .bool S.off] := by rw [hWe]; exact ((((Blk.newAt rfl rfl).alloc _).alloc _).alloc _).alloc _
  have hA : Blk 38 W (w.heap.size + 1) [.int .i64 kind, .int .i64 pos, .slice ba bs.length bc, .bool raw, .slice ka ks.length kc] := by rw [hWe]; exact (((Blk.newAt (by simp) rfl).alloc _).alloc _).alloc _
  have hR : Blk 30 W (w.heap.size + 2) [.slice none 0 0, .slice none 0 0, .bool false, .int .i64 0, .bool false] := by rw [hWe]; exact ((Blk.newAt (by simp) rfl).alloc _).alloc _
  have hPW := hP.stays hbW
  have hsW : W.heap.size = w.heap.size + 5 := by rw [hWe]; simp
  have hfl := dk_read hPW.dk (by omega) pos
  obtain ⟨X, hX⟩ : ∃ X, X = (S.read pos).1 := ⟨_, rfl⟩
  obtain ⟨E, hE⟩ : ∃ E, E = (S.read pos).2 := ⟨_, rfl⟩
  obtain ⟨N, hN⟩ : ∃ N, N = X.length := ⟨_, rfl⟩
  rw [← hX, ← hE, ← hN] at hfl
  have HRF : Hid (∀ u, Rf u G [.slice sa n sc, .slice wa S.ws.length wc, .bool S.fused, .int .i64 (S.left : Int), .bool S.off] S → Calls Try.prog 25 #[.agg #[.slice sa n sc, .slice wa S.ws.length wc, .bool S.fused, .int .i64 (S.left : Int), .bool S.off], .int .i64 pos] u fun e w' => ∃ a c, e = .returned (.tuple #[.slice a N c, .int .i64 E]) ∧ Bs w' a c X ∧ Below u.heap.size u w') := fun u hu => by
    have := rread_run hu pos (by omega)
    rw [← hX, ← hE, ← hN] at this
    exact this

  have HN : Hid (N = X.length) := hN
  have HWE : Hid (W = _) := hWe
  clear hWe hX hE hN
  have hH : ∀ k, w.heap.size ≤ k → ¬ F k ∧ ¬ G k := fun k hk => ⟨fun h => by have := (hP.low k h).2; omega, fun h => by have := hP.lowG k h; omega⟩
  have HH : Hid (∀ k, w.heap.size ≤ k → ¬ F k ∧ ¬ G k) := hH
  clear hH
  go_enter Try.func8, Try.ntmps8
  go_wp2_with (first
    | (go_at_call 14; rw [← HWE.out]; go_must (refine hfl.mono ?_); rintro e w1 ⟨ax, cx, rfl, hO1, hb1⟩
       go_must (have hP1 := hPW.stays hb1)
       have hM1 := hM.stays hb1
       have hA1 := hA.stays hb1
       have hR1 := hR.stays hb1
       obtain ⟨m0, m1, m2, m3, m4⟩ := box_cells hM1
       obtain ⟨a0, a1, a2, a3, a4⟩ := box_cells hA1
       go_must (have hrf := HRF.out w1 hP1.rf))
    | (go_at_call 25; refine hrf.mono ?_; clear hrf; rintro e w2 ⟨ay, cy, rfl, hY2, hb2⟩
       have hP2 := hP1.stays hb2
       have hM2 := hM1.stays hb2
       have hR2 := hR1.stays hb2
       have hO2 := owns_stays6 hO1 hb2))
  have hrng := hY2.rng
  have hXB := Out.bs hO2 hrng
  have hX1 : Below w.heap.size w w1 := hbW.trans (hb1.mono hbW.size)
  have hX2 : Below w.heap.size w w2 := hX1.trans (hb2.mono hX1.size)
  have hNl : N ≤ 9223372036854775807 := by
    have h1 := hY2.cap
    have h2 := hY2.capm
    have h3 := HN.out
    unfold maxLen at h2
    omega
  obtain ⟨Z, hZ⟩ : ∃ Z, Z = strOfNums X := ⟨_, rfl⟩
  have HCX : Hid (∀ u, Below w2.heap.size w2 u → (convert 35 9 (.slice ax N cx)).run Try.prog u = .ok (.string Z) u) := fun u hu => by rw [hZ]; exact conv_bs9 (hXB.2.1.stays hu) HN.out
  have HCY : Hid (∀ u, Below w2.heap.size w2 u → (convert 35 9 (.slice ay N cy)).run Try.prog u = .ok (.string Z) u) := fun u hu => by rw [hZ]; exact conv_bs9 (hY2.stays hu) HN.out
  have HWT : Hid (∀ u, Below w2.heap.size w2 u → Calls Try.prog 26 #[.pointer (some ⟨p, 0, none⟩)] u fun e w' => e = .returned (.int .i64 (S.ws.length : Int)) ∧ Below u.heap.size u w') := fun u hu => (dk_waits (hP2.stays hu).dk).mono fun e w' ⟨h1, h2⟩ => ⟨h1, by rw [h2]; exact Below.refl _ _⟩
  have HMC : Hid (∀ u, Below w2.heap.size w2 u → u.cell? ⟨w.heap.size, 1, none⟩ = some (.slice wa S.ws.length wc)) := fun u hu => (box_cells (hM2.stays hu)).2.1
  clear hZ hO1 hb1 hM hM1 hA hA1 hR hR1 hP1 hPW hXB hY2 hfl HWE HRF m0 m1 m2 m3 m4 a0 a1 a2 a3 a4
  refine Up.wp_region_up (Up.tell [(12, isV (.int .i64 (S.ws.length : Int)))]) (by kernel_rfl) (by kernel_rfl) (Up.tell_steady _ (by
    intro p hp
    simp only [List.mem_cons, List.not_mem_nil, or_false] at hp
    rcases hp with rfl
    exact isV_steady _)) ?_
  repeat (first
    | (apply Up.wpUp_pure
       case hw => rfl
       case hψ => rfl
       case hv => (intro w1 hp; have hq1 := HCX.out w1 hp.1; have hq2 := HCY.out w1 hp.1; clear hp; go_simp; try (with_reducible rfl))
       simp only [Act.put, List.setIfInBounds_toArray, List.set_cons_zero, List.set_cons_succ]))
  refine Up.wpUp_call _ 26 #[.pointer (some ⟨p, 0, none⟩)] (by rfl) (by rfl) (fun w1 => by go_simp) (fun w1 hp => calls_isV (HWT.out w1 hp.1)) ?_
  rintro v ⟨u, _, hf⟩
  obtain rfl := hf 12 v _ rfl rfl
  clear hf
  simp only [Act.put, List.setIfInBounds_toArray, List.set_cons_zero, List.set_cons_succ]
  repeat (first
    | (apply Up.wpUp_pure
       case hw => rfl
       case hψ => rfl
       case hv => (intro w1 hp; have hq1 := HMC.out w1 hp.1; clear hp; go_simp; try (with_reducible rfl))
       simp only [Act.put, List.setIfInBounds_toArray, List.set_cons_zero, List.set_cons_succ]))
  refine Up.wpUp_end ?_
  intro w3 hb3 _
  have hP3 := hP2.stays hb3
  have hM3 := hM2.stays hb3
  have hR3 := hR2.stays hb3
  have hX3 : Below w.heap.size w w3 := hX2.trans (hb3.mono hX2.size)
  have hO3 := owns_stays6 hO2 hb3
  obtain ⟨g, hg⟩ : ∃ g, 0 < N → ax = some ⟨g, 0, none⟩ ∧ W.heap.size ≤ g ∧ ∃ ys, Blk 5 w3 g ys ∧ N ≤ ys.length := by
    by_cases h0 : 0 < N
    · obtain ⟨g, ys, h1, h2, h3, h4⟩ := Out.blk hO3 h0
      exact ⟨g, fun _ => ⟨h1, h2, ys, h3, h4⟩⟩
    · exact ⟨0, fun h => absurd h h0⟩
  have HG : Hid (0 < N → ax = some ⟨g, 0, none⟩ ∧ w.heap.size + 5 ≤ g) := fun h => ⟨(hg h).1, by rw [← hsW]; exact (hg h).2.1⟩
  have HY : Hid (0 < N → ∃ ys, Blk 5 w3 g ys ∧ N ≤ ys.length) := fun h => (hg h).2.2
  clear hg hO3 hO2 hP2 hM2 hR2 HCX HCY HWT HMC hb3 hrng
  go_wp2
  go_loopw [15] (fun x wr => ∃ k : Nat, k ≤ N ∧ x = .int .i64 k ∧ Hid (0 < N → ∃ ys, Blk 5 wr g ys ∧ N ≤ ys.length) ∧ Pair B wr F G p S [.slice sa n sc, .slice wa S.ws.length wc, .bool S.fused, .int .i64 (S.left : Int), .bool S.off] S ∧ Blk 30 wr w.heap.size [.slice sa n sc, .slice wa S.ws.length wc, .bool S.fused, .int .i64 (S.left : Int), .bool S.off] ∧ Blk 30 wr (w.heap.size + 2) [.slice none 0 0, .slice none 0 0, .bool false, .int .i64 0, .bool false] ∧ Fr F w wr) (fun x _ => N - (intOf x).toNat)
  case atStart => exact ⟨0, by omega, rfl, HY, hP3, hM3, hR3, Frm.of_below hX3⟩
  case round =>
    rename_i hrel
    obtain ⟨k, hk, rfl, HYr, hPr, hMr, hRr, hbr⟩ := hrel
    clear HY hP3 hM3 hR3 hX3
    have hsz : w.heap.size ≤ wr.heap.size := Frm.size hbr
    by_cases hlt : k < N
    · obtain ⟨hax, hgl⟩ := HG.out (by omega)
      obtain ⟨ys, hYb, hYl⟩ := HYr.out (by omega)
      have hix : ∀ u : World, (Instr.indexAt 35 (.slice ax N cx) (.int .i64 k)).run Try.prog u = .ok (.pointer (some ⟨g, k, none⟩)) u := fun u => by
        have := index_run (P := Try.prog) 35 5 Try.underlying35 (by kernel_rfl) (by kernel_rfl) g 0 N cx .i64 k hlt u
        rw [Nat.zero_add] at this
        rw [hax]; exact this
      have hgFG := HH.out g (by omega)
      have HFG : Hid (¬ F g ∧ ¬ G g) := hgFG
      clear hax hgFG
      go_wp2_with (first
        | (refine wpList_store_int (by rfl) (.tmp 133) (.const (.int .u8 3)) 5 (by rfl) _ k (by rfl) .u8 3 (by rfl) size_u8 hYb (by omega) ?_
           intro w5 hY5 hbut5 hs5))
      have hP5 := hPr.but hbut5 HFG.out.1 HFG.out.2
      have hM5 := hMr.but hbut5 (by omega)
      have hR5 := hRr.but hbut5 (by omega)
      have hb5 : Fr F w w5 := hbr.but hbut5 (by omega)
      have HY5 : Hid (0 < N → ∃ ys, Blk 5 w5 g ys ∧ N ≤ ys.length) := fun _ => ⟨_, hY5, by simpa using hYl⟩
      clear hY5 hYb hbut5 HYr hPr hMr hRr hbr
      go_roundw
      case rel => exact ⟨k + 1, by omega, by go_num, HY5, hP5, hM5, hR5, hb5⟩
      case measure => simp [intOf]; omega
    · obtain ⟨m0, m1, m2, m3, m4⟩ := box_cells hMr
      obtain ⟨y0, y1, y2, y3, y4⟩ := box_cells hRr
      have fy := hRr.free
      have HF2 : Hid (¬ F (w.heap.size + 2) ∧ ¬ G (w.heap.size + 2)) := HH.out _ (by omega)
      go_wp2
      have hb5 := put5_but wr (w.heap.size + 2) (.slice sa n sc) (.slice wa S.ws.length wc) (.bool S.fused) (.int .i64 (S.left : Int)) (.bool S.off)
      refine bodyPost_ret (results_blk_tmp rfl _ _ _ rfl rAgg rSize (put5_same hRr (.slice sa n sc) (.slice wa S.ws.length wc) (.bool S.fused) (.int .i64 (S.left : Int)) (.bool S.off)) rfl) rfl ?_
      exact ⟨[.slice sa n sc, .slice wa S.ws.length wc, .bool S.fused, .int .i64 (S.left : Int), .bool S.off], rfl, ⟨F, G, hPr.but hb5 HF2.out.1 HF2.out.2, fun k h => .inl h, fun k h => .inl h⟩, hbr.but hb5 (by omega)⟩
end Go.Proofs.Ytjdidfocelagbaa
