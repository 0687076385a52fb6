/-
  DiskPlays: any script on a disk of any size, beside the document's: the statement's walk.
-/
import Derived.Test.YtjdidfocelagbaaDAny
import Derived.Test.YtjdidfocelagbaaDAlive
namespace Go.Proofs.Ytjdidfocelagbaa
set_option linter.unusedSimpArgs false
set_option linter.unusedVariables false
open Go.RowKit

def slB (n : Nat) (xs : List Int) : Value → World → Prop := fun v w => ∃ a c, v = .slice a n c ∧ Bs w a c xs
theorem slB_steady (n : Nat) (xs : List Int) : Up.Steady (slB n xs) := fun v w w' hb ⟨a, c, h1, h2⟩ => ⟨a, c, h1, h2.stays hb⟩

theorem rnew_arg0 (n : Int) (w : World) (hn : n < 16 ∨ 512 < n) :
    Calls Try.prog 5 #[.int .i64 n] w fun e w' => e = .returned (.tuple #[.agg #[.slice none 0 0, .slice none 0 0, .bool false, .int .i64 0, .bool false], .int .i64 1]) ∧ Below w.heap.size w w' := by
  rcases hn with hn | hn
  · go_enter Try.func5, Try.ntmps5
    go_wp2
    refine bodyPost_ret (results_blk_tmp rfl _ _ _ rfl rAgg rSize (Blk.newAt (by simp) rfl) rfl) rfl ?_
    exact ⟨rfl, (Below.refl _ _).alloc (Nat.le_refl _) _⟩
  · have h1 : ¬ (n < 16) := by omega
    go_enter Try.func5, Try.ntmps5
    go_wp2
    refine bodyPost_ret (results_blk_tmp rfl _ _ _ rfl rAgg rSize (Blk.newAt (by simp) rfl) rfl) rfl ?_
    exact ⟨rfl, (Below.refl _ _).alloc (Nat.le_refl _) _⟩

set_option maxRecDepth 100000 in
set_option maxHeartbeats 4000000 in
theorem plays_arg (n : Int) (hn : n < 16 ∨ 512 < n) (a : Option Addr) (m c : Nat) (w : World) :
    Calls Try.prog 3 #[.int .i64 n, .slice a m c] w fun e w' => e = .returned (.bool true) ∧ Below w.heap.size w w' := by
  have h1 := new_arg n w hn
  have h2 := rnew_arg0 n w hn
  go_enter Try.func3, Try.ntmps3
  go_wp2_with (first
    | (go_at_call 4; go_must (refine h1.mono ?_); rintro e w1 ⟨rfl, rfl⟩)
    | (go_at_call 5; go_must (refine h2.mono ?_); rintro e w2 ⟨rfl, hb2⟩)
    | (go_at_call 6; go_must (refine (alive_run _).mono ?_); rintro e w3 ⟨rfl, hb3⟩))
  go_ret
  refine ⟨rfl, ?_⟩
  have h := hb2.alloc hb2.size (.cells #[.slice none 0 0, .slice none 0 0, .bool false, .int .i64 0, .bool false] 30)
  exact h.trans (hb3.mono h.size)

/-- What is left behind an act and the variable that is made for its answer. -/
def After (B p m : Nat) (w : World) (S5 : DS) (F5 G5 : Nat → Prop) (M5 M : List Value) (g : Nat) (w' : World) : Prop :=
  Pair B w' F5 G5 p S5 M5 S5 ∧ Blk 30 w' g M5 ∧ Blk 30 w' m M ∧ ¬ F5 m ∧ ¬ G5 m ∧ g ≠ m ∧ Below B w w'

section
variable {B p m : Nat} {w u : World} {F G F5 G5 : Nat → Prop} {S S5 : DS} {M : List Value} {x0 x1 x2 x3 x4 : Value} {w4 : World}

theorem after_late (hP : Pair B u F G p S M S) (hM : Blk 30 u m M) (hFm : ¬ F m) (hGm : ¬ G m) (hu : Below B w u) (hB : B ≤ w.heap.size)
    (hP5 : Pair B w4 F5 G5 p S5 [x0, x1, x2, x3, x4] S5) (hF5 : ∀ k, F5 k → F k ∨ u.heap.size ≤ k) (hG5 : ∀ k, G5 k → G k ∨ u.heap.size ≤ k) (hfr : Fr F u w4) :
    After B p m w S5 F5 G5 [x0, x1, x2, x3, x4] M w4.heap.size (w4.alloc (.cells #[x0, x1, x2, x3, x4] 30)) := by
  have hml := hM.lt
  have hz := Frm.size hfr
  have hb : Below w4.heap.size w4 (w4.alloc (.cells #[x0, x1, x2, x3, x4] 30)) := (Below.refl _ _).alloc (Nat.le_refl _) _
  have hm4 : Blk 30 w4 m M := by
    unfold Blk at hM ⊢
    rw [Frm.block hfr m (fun h => by rcases h with h | h; exact hFm h; omega) hml]; exact hM
  have hu4 : Below B w w4 := hu.trans (hfr.below (by have := hu.size; omega) (fun k hk => (hP.low k hk).1))
  refine ⟨hP5.stays hb, Blk.newAt rfl rfl, hm4.stays hb, fun h => ?_, fun h => ?_, by omega, hu4.trans (hb.mono (by have := hu4.size; omega))⟩
  · rcases hF5 m h with h | h
    · exact hFm h
    · omega
  · rcases hG5 m h with h | h
    · exact hGm h
    · omega

theorem after_early {z : Array Value} {z0 z1 z2 z3 z4 : Value} (hP : Pair B u F G p S M S) (hM : Blk 30 u m M) (hFm : ¬ F m) (hGm : ¬ G m) (hu : Below B w u) (hB : B ≤ w.heap.size)
    (hz4 : Blk 30 w4 u.heap.size [z0, z1, z2, z3, z4])
    (hP5 : Pair B w4 F5 G5 p S5 [x0, x1, x2, x3, x4] S5) (hF5 : ∀ k, F5 k → F k ∨ u.heap.size + 1 ≤ k) (hG5 : ∀ k, G5 k → G k ∨ u.heap.size + 1 ≤ k) (hfr : Fr F (u.alloc (.cells z 30)) w4) :
    After B p m w S5 F5 G5 [x0, x1, x2, x3, x4] M u.heap.size (put5 w4 u.heap.size x0 x1 x2 x3 x4) := by
  have hml := hM.lt
  have hb : Below u.heap.size u (u.alloc (.cells z 30)) := (Below.refl _ _).alloc (Nat.le_refl _) _
  have hz := Frm.size hfr
  simp only [World.size_alloc] at hz
  have hMa := hM.stays hb
  have hm4 : Blk 30 w4 m M := by
    unfold Blk at hMa ⊢
    rw [Frm.block hfr m (fun h => by rcases h with h | h; exact hFm h; simp only [World.size_alloc] at h; omega) (by simp only [World.size_alloc]; omega)]; exact hMa
  have hu1 : Below B w (u.alloc (.cells z 30)) := hu.trans (hb.mono (by have := hu.size; omega))
  have hu4 : Below B w w4 := hu1.trans (hfr.below (by have := hu1.size; omega) (fun k hk => (hP.low k hk).1))
  have hbt := put5_but w4 u.heap.size x0 x1 x2 x3 x4
  refine ⟨hP5.but hbt (fun h => ?_) (fun h => ?_), put5_same hz4 _ _ _ _ _, hm4.but hbt (by omega), fun h => ?_, fun h => ?_, by omega, hu4.trans (hbt.below (by have := hu.size; omega) (by have := hu4.size; omega))⟩
  · rcases hF5 _ h with h | h
    · have := (hP.low _ h).2; omega
    · omega
  · rcases hG5 _ h with h | h
    · have := hP.lowG _ h; omega
    · omega
  · rcases hF5 m h with h | h
    · exact hFm h
    · omega
  · rcases hG5 m h with h | h
    · exact hGm h
    · omega
end

set_option maxRecDepth 100000 in
set_option maxHeartbeats 4000000 in
theorem plays_in (n : Nat) (hn1 : 16 ≤ n) (hn2 : n ≤ 512) (a : Option Addr) (c : Nat) (acts : List ActV) (w : World) (hS : Acts w a acts) (hL : acts.length ≤ 9223372036854775807) :
    Calls Try.prog 3 #[.int .i64 (n : Int), .slice a acts.length c] w fun e w' => e = .returned (.bool true) ∧ Below w.heap.size w w' := by
  have hnew := dk_new n w hn1 hn2
  have hrn := fun u => rnew_run n u hn1 hn2
  have hws0 : (DS.new n).ws.length = 0 := rfl
  generalize DS.new n = S0 at hnew hrn hws0
  have HW0 : Hid (S0.ws.length = 0) := hws0
  clear hws0
  have HBR : Hid (∀ x ∈ acts, (x.bs ≠ [] → ∀ b, x.ba = some b → b.block < w.heap.size) ∧ (x.ks ≠ [] → ∀ b, x.ka = some b → b.block < w.heap.size)) := fun x hx => by
    have hok := hS.ok x hx
    refine ⟨fun h0 b hb => ?_, fun h0 b hb => is_lt hok.ks h0 hb⟩
    obtain ⟨b', off, h1, h2⟩ := hok.bs.cell (List.length_pos_iff.2 h0)
    rw [h1] at hb
    cases hb
    exact World.block_lt_of_cell? _ _ (h2 0 (List.length_pos_iff.2 h0))
  go_enter Try.func3, Try.ntmps3
  go_wp2_with (first
    | (go_at_call 4; go_must (refine hnew.mono ?_); clear hnew; rintro e w1 ⟨p, rfl, hD1, hb1⟩; have hrn1 := hrn w1; clear hrn)
    | (go_at_call 5; go_must (refine hrn1.mono ?_); clear hrn1; rintro e w2 ⟨cs, rfl, hR2, hb2⟩
       obtain ⟨sa, nn, sc, wa, wc, rfl, hn3, hn4, hn5⟩ := rf_cells2 hR2))
  obtain ⟨m, hm⟩ : ∃ m, m = w2.heap.size := ⟨_, rfl⟩
  obtain ⟨W, hWe⟩ : ∃ W, W = w2.alloc (.cells #[.slice sa nn sc, .slice wa S0.ws.length wc, .bool S0.fused, .int .i64 (S0.left : Int), .bool S0.off] 30) := ⟨_, rfl⟩
  have hMW : Blk 30 W m [.slice sa nn sc, .slice wa S0.ws.length wc, .bool S0.fused, .int .i64 (S0.left : Int), .bool S0.off] := by rw [hWe, hm]; exact Blk.newAt rfl rfl
  have hbW : Below w2.heap.size w2 W := by rw [hWe]; exact (Below.refl _ _).alloc (Nat.le_refl _) _
  rw [← hWe, ← hm]
  have z1 := hb1.size
  have z2 := hb2.size
  have hP2 : Pair w.heap.size w2 (fun k => w.heap.size ≤ k ∧ k < w1.heap.size) (fun k => w1.heap.size ≤ k ∧ k < w2.heap.size) p S0 [.slice sa nn sc, .slice wa S0.ws.length wc, .bool S0.fused, .int .i64 (S0.left : Int), .bool S0.off] S0 :=
    ⟨fun k hk => ⟨hk.1, by omega⟩, fun k hk => hk.2, fun k h1 h2 => by omega, (hD1.mono (fun k hk hl => ⟨hk, hl⟩)).stays hb2, hR2.keep (fun k hg hl => ⟨rfl, hg, hl⟩)⟩
  have hPW := hP2.stays hbW
  have hX2 : Below w.heap.size w w2 := hb1.trans (hb2.mono hb1.size)
  have hXW : Below w.heap.size w W := hX2.trans (hbW.mono hX2.size)
  have HM : Hid (w.heap.size ≤ m) := by show _ ≤ _; omega
  have hF0 : ¬ (fun k => w.heap.size ≤ k ∧ k < w1.heap.size) m := by show ¬ (_ ∧ _); omega
  have hG0 : ¬ (fun k => w1.heap.size ≤ k ∧ k < w2.heap.size) m := by show ¬ (_ ∧ _); omega
  generalize (fun k => w.heap.size ≤ k ∧ k < w1.heap.size) = F0 at hPW hF0
  generalize (fun k => w1.heap.size ≤ k ∧ k < w2.heap.size) = G0 at hPW hG0
  clear hWe hm hD1 hR2 hb1 hb2 hP2 hbW hX2 z1 z2 hn3 hn4 hn5
  go_loopw [9] (fun x wr => ∃ (i : Nat) (F G : Nat → Prop) (S : DS) (cs : List Value), x = .int .i64 i ∧ i ≤ 40 ∧ i ≤ acts.length ∧ Pair w.heap.size wr F G p S cs S ∧ S.ws.length ≤ i ∧ Blk 30 wr m cs ∧ ¬ F m ∧ ¬ G m ∧ Below w.heap.size w wr) (fun x _ => 40 - (intOf x).toNat)
  case atStart => exact ⟨0, F0, G0, S0, _, rfl, by omega, by omega, hPW, by have := HW0.out; omega, hMW, hF0, hG0, hXW⟩
  case round =>
    rename_i hrel
    obtain ⟨i, F, G, S, cs, rfl, hi40, hil, hPr, hwl, hMr, hFm, hGm, hbr⟩ := hrel
    clear hPW hMW hF0 hG0 hXW
    obtain ⟨sa, nn, sc, wa, wc, rfl, hn3, hn4, hn5⟩ := rf_cells2 hPr.rf
    clear hn3 hn4 hn5
    by_cases hstop : i < acts.length ∧ i < 40
    · obtain ⟨hlt, hlt40⟩ := hstop
      obtain ⟨sb, so, rfl, hcs, hok⟩ := hS.at hlt
      have hbk := HBR.out (acts.getD i default) (by rw [List.getD_eq_getElem?_getD, List.getElem?_eq_getElem hlt]; exact List.getElem_mem hlt)
      obtain ⟨x, hxe⟩ : ∃ x, x = acts.getD i default := ⟨_, rfl⟩
      rw [← hxe] at hcs hok hbk
      clear hxe
      have hlt' : (i : Int) < (acts.length : Int) := by omega
      have hlt40' : (i : Int) < 40 := by omega
      have e5 : so + 5 * i = so + i * 5 := by omega
      rw [e5] at hcs
      clear e5
      have hsb : sb < w.heap.size := World.block_lt_of_cell? _ _ ((hcs 0 (by omega)).trans (show x.cells[0]? = some _ from rfl))
      have HYC : Hid (∀ u, Below w.heap.size w u → u.cell? ⟨sb, so + i * 5, none⟩ = some (.int .i64 x.kind) ∧ u.cell? ⟨sb, so + i * 5 + 1, none⟩ = some (.int .i64 x.pos) ∧ u.cell? ⟨sb, so + i * 5 + 2, none⟩ = some (.slice x.ba x.bs.length x.bc) ∧ u.cell? ⟨sb, so + i * 5 + 3, none⟩ = some (.bool x.raw) ∧ u.cell? ⟨sb, so + i * 5 + 4, none⟩ = some (.slice x.ka x.ks.length x.kc)) := fun u hu =>
        act_cells (w := u) (b := sb) (o := so + i * 5) (x := x) (fun j hj => (hu.cell (p := ⟨sb, so + i * 5 + j, none⟩) hsb).trans (hcs j hj))
      obtain ⟨y0, y1, y2, y3, y4⟩ := HYC.out wr hbr
      have hsm := small_run x wr (by have := hok.bs.cap; have := hok.bs.capm; unfold maxLen at this; omega) hok.kl
      have hsz := hbr.size
      have HDO : Hid (x.bs.length ≤ 300 → x.ks.length ≤ 60 → ∀ u, Below w.heap.size w u → Below wr.heap.size wr u → Calls Try.prog 8 #[.pointer (some ⟨p, 0, none⟩), .agg #[.slice sa nn sc, .slice wa S.ws.length wc, .bool S.fused, .int .i64 (S.left : Int), .bool S.off], .agg x.cells.toArray] u fun e w' => ∃ S', S'.ws.length ≤ S.ws.length + 1 ∧ Did w.heap.size p F G u S' e w') := fun h1 h2 u hu hu2 =>
        do_any w.heap.size p F G [.slice sa nn sc, .slice wa S.ws.length wc, .bool S.fused, .int .i64 (S.left : Int), .bool S.off] S x u (hPr.stays hu2) hu.size (by omega) hok.pos.2 (fun v hv => hok.bs.stays (hu.trans hv)) h1 hbk.1 (fun v hv => Is.stays hok.ks (hu.trans hv)) h2 hbk.2
      have HNX : Hid (∀ k, F k ∨ G k → k < wr.heap.size) := fun k hk => by
        rcases hk with hk | hk
        · exact (hPr.low k hk).2
        · exact hPr.lowG k hk
      obtain ⟨kind, pos, ba, bc, bs, raw, ka, kc, ks⟩ := x
      simp only [ActV.cells] at *
      by_cases hsml : bs.length ≤ 300 ∧ ks.length ≤ 60
      · rw [decide_eq_true hsml.1, decide_eq_true hsml.2, Bool.and_self] at hsm
        go_wp2_with (first
          | (go_at_call 7; go_must (refine hsm.mono ?_); rintro e w3 ⟨rfl, hb3⟩))
        have hb3d : Below wr.heap.size wr w3.drew := hb3.drew
        have hX3 : Below w.heap.size w w3.drew := (hbr.trans (hb3.mono hbr.size)).drew
        have hP3 := hPr.stays hb3d
        have hM3 : Blk 30 w3.drew m [.slice sa nn sc, .slice wa S.ws.length wc, .bool S.fused, .int .i64 (S.left : Int), .bool S.off] := hMr.stays hb3d
        have hM3p : Blk 30 w3 m [.slice sa nn sc, .slice wa S.ws.length wc, .bool S.fused, .int .i64 (S.left : Int), .bool S.off] := hMr.stays hb3
        have hX3p : Below w.heap.size w w3 := hbr.trans (hb3.mono hbr.size)
        obtain ⟨m0, m1, m2, m3, m4⟩ := box_cells hM3p
        obtain ⟨c0, c1, c2, c3, c4⟩ := HYC.out w3 hX3p
        have hbA : Below w3.drew.heap.size w3.drew (w3.drew.alloc (.cells #[.slice none 0 0, .slice none 0 0, .bool false, .int .i64 0, .bool false] 30)) := (Below.refl _ _).alloc (Nat.le_refl _) _
        have hXA : Below w.heap.size w (w3.drew.alloc (.cells #[.slice none 0 0, .slice none 0 0, .bool false, .int .i64 0, .bool false] 30)) := hX3.trans (hbA.mono hX3.size)
        have hbAp : Below w3.heap.size w3 (w3.alloc (.cells #[.slice none 0 0, .slice none 0 0, .bool false, .int .i64 0, .bool false] 30)) := (Below.refl _ _).alloc (Nat.le_refl _) _
        obtain ⟨ma0, ma1, ma2, ma3, ma4⟩ := box_cells (hM3p.stays hbAp)
        obtain ⟨ca0, ca1, ca2, ca3, ca4⟩ := HYC.out (w3.alloc (.cells #[.slice none 0 0, .slice none 0 0, .bool false, .int .i64 0, .bool false] 30)) (hX3p.trans (hbAp.mono hX3p.size))
        have hzA : Blk 30 (w3.drew.alloc (.cells #[.slice none 0 0, .slice none 0 0, .bool false, .int .i64 0, .bool false] 30)) w3.drew.heap.size [.slice none 0 0, .slice none 0 0, .bool false, .int .i64 0, .bool false] := Blk.newAt rfl rfl
        have HD : Hid (∀ u, (u = w3.drew ∨ u = (w3.alloc (.cells #[.slice none 0 0, .slice none 0 0, .bool false, .int .i64 0, .bool false] 30)).drew) → Calls Try.prog 8 #[.pointer (some ⟨p, 0, none⟩), .agg #[.slice sa nn sc, .slice wa S.ws.length wc, .bool S.fused, .int .i64 (S.left : Int), .bool S.off], .agg #[.int .i64 kind, .int .i64 pos, .slice ba bs.length bc, .bool raw, .slice ka ks.length kc]] u fun e w4 => ∃ S5 F5 G5 sa5 n5 sc5 wa5 wc5, e = .returned (.tuple #[.agg #[.slice sa5 n5 sc5, .slice wa5 S5.ws.length wc5, .bool S5.fused, .int .i64 (S5.left : Int), .bool S5.off], .bool true]) ∧ S5.ws.length ≤ S.ws.length + 1 ∧ S5.laid.length / 256 = n5 ∧ S5.laid.length ≤ 131072
            ∧ (u = w3.drew → After w.heap.size p m w S5 F5 G5 [.slice sa5 n5 sc5, .slice wa5 S5.ws.length wc5, .bool S5.fused, .int .i64 (S5.left : Int), .bool S5.off] [.slice sa nn sc, .slice wa S.ws.length wc, .bool S.fused, .int .i64 (S.left : Int), .bool S.off] w4.heap.size (w4.alloc (.cells #[.slice sa5 n5 sc5, .slice wa5 S5.ws.length wc5, .bool S5.fused, .int .i64 (S5.left : Int), .bool S5.off] 30)))
            ∧ (u = (w3.alloc (.cells #[.slice none 0 0, .slice none 0 0, .bool false, .int .i64 0, .bool false] 30)).drew → Blk 30 w4 w3.heap.size [.slice none 0 0, .slice none 0 0, .bool false, .int .i64 0, .bool false] ∧ After w.heap.size p m w S5 F5 G5 [.slice sa5 n5 sc5, .slice wa5 S5.ws.length wc5, .bool S5.fused, .int .i64 (S5.left : Int), .bool S5.off] [.slice sa nn sc, .slice wa S.ws.length wc, .bool S.fused, .int .i64 (S.left : Int), .bool S.off] w3.heap.size (put5 w4 w3.heap.size (.slice sa5 n5 sc5) (.slice wa5 S5.ws.length wc5) (.bool S5.fused) (.int .i64 (S5.left : Int)) (.bool S5.off)))) := fun u hu => by
          have hne : w3.drew ≠ (w3.alloc (.cells #[.slice none 0 0, .slice none 0 0, .bool false, .int .i64 0, .bool false] 30)).drew := fun h => by
            have := congrArg (fun v : World => v.heap.size) h
            simp at this
          rcases hu with rfl | rfl
          · refine (HDO.out hsml.1 hsml.2 w3.drew hX3 hb3d).mono ?_
            rintro e w4 ⟨S5, hl5, cs5, rfl, ⟨F5, G5, hP5, hF5, hG5⟩, hfr⟩
            obtain ⟨sa5, n5, sc5, wa5, wc5, rfl, hn5, _, hl6⟩ := rf_cells2 hP5.rf
            exact ⟨S5, F5, G5, sa5, n5, sc5, wa5, wc5, rfl, hl5, hn5, hl6, fun _ => after_late hP3 hM3 hFm hGm hX3 (Nat.le_refl _) hP5 hF5 hG5 hfr, fun h => absurd h hne⟩
          · refine (HDO.out hsml.1 hsml.2 (w3.drew.alloc (.cells #[.slice none 0 0, .slice none 0 0, .bool false, .int .i64 0, .bool false] 30)) hXA (hb3d.trans (hbA.mono hb3d.size))).mono ?_
            rintro e w4 ⟨S5, hl5, cs5, rfl, ⟨F5, G5, hP5, hF5, hG5⟩, hfr⟩
            obtain ⟨sa5, n5, sc5, wa5, wc5, rfl, hn5, _, hl6⟩ := rf_cells2 hP5.rf
            have hz4 : Blk 30 w4 w3.drew.heap.size [.slice none 0 0, .slice none 0 0, .bool false, .int .i64 0, .bool false] := by
              have h0 := hzA
              unfold Blk at h0 ⊢
              rw [Frm.block hfr w3.drew.heap.size (fun h => by
                rcases h with h | h
                · have := (hP3.low _ h).2; omega
                · simp only [World.size_alloc] at h; omega) (by simp only [World.size_alloc]; omega)]
              exact h0
            have hF6 : ∀ k, F5 k → F k ∨ w3.drew.heap.size + 1 ≤ k := fun k h => by have := hF5 k h; simp only [World.size_alloc] at this; exact this
            have hG6 : ∀ k, G5 k → G k ∨ w3.drew.heap.size + 1 ≤ k := fun k h => by have := hG5 k h; simp only [World.size_alloc] at this; exact this
            have hae := after_early (u := w3.drew) hP3 hM3 hFm hGm hX3 (Nat.le_refl _) hz4 hP5 hF6 hG6 hfr
            exact ⟨S5, F5, G5, sa5, n5, sc5, wa5, wc5, rfl, hl5, hn5, hl6, fun h => absurd h.symm hne, fun _ => ⟨hz4, hae⟩⟩
        clear hsm HDO HYC y0 y1 y2 y3 y4
        refine wp_mid (fun A a' w' => ∃ S5 F5 G5 sa5 n5 sc5 wa5 wc5 g, S5.ws.length ≤ S.ws.length + 1 ∧ S5.laid.length / 256 = n5 ∧ S5.laid.length ≤ 131072
          ∧ a' = ((((((((((((A.put (some 52) (.pointer (some ⟨p, 0, none⟩))).put (some 53) (.agg #[.slice sa nn sc, .slice wa S.ws.length wc, .bool S.fused, .int .i64 (S.left : Int), .bool S.off])).put (some 54) (.slice (some ⟨sb, so, none⟩) acts.length c)).put (some 55) (.int .i64 (i : Int))).put (some 56) (.pointer (some ⟨sb, so + i * 5, none⟩))).put (some 57) (.agg #[.int .i64 kind, .int .i64 pos, .slice ba bs.length bc, .bool raw, .slice ka ks.length kc])).put (some 58) (.tuple #[.agg #[.slice sa5 n5 sc5, .slice wa5 S5.ws.length wc5, .bool S5.fused, .int .i64 (S5.left : Int), .bool S5.off], .bool true])).put (some 51) (.tuple #[.agg #[.slice sa5 n5 sc5, .slice wa5 S5.ws.length wc5, .bool S5.fused, .int .i64 (S5.left : Int), .bool S5.off], .bool true])).put (some 59) (.agg #[.slice sa5 n5 sc5, .slice wa5 S5.ws.length wc5, .bool S5.fused, .int .i64 (S5.left : Int), .bool S5.off])).put (some 60) (.bool true)).put (some 10) (.pointer (some ⟨g, 0, none⟩))).put (some 11) (.bool true))
          ∧ After w.heap.size p m w S5 F5 G5 [.slice sa5 n5 sc5, .slice wa5 S5.ws.length wc5, .bool S5.fused, .int .i64 (S5.left : Int), .bool S5.off] [.slice sa nn sc, .slice wa S.ws.length wc, .bool S.fused, .int .i64 (S.left : Int), .bool S.off] g w') ?_ ?_
        · clear hMr hPr hP3 hM3 hzA hM3p hX3p hbAp
          go_region_law
            (refine step_call rfl 8 #[.pointer (some ⟨p, 0, none⟩), .agg #[.slice sa nn sc, .slice wa S.ws.length wc, .bool S.fused, .int .i64 (S.left : Int), .bool S.off], .agg #[.int .i64 kind, .int .i64 pos, .slice ba bs.length bc, .bool raw, .slice ka ks.length kc]] (by go_simp) (HD.out _ (by first | exact .inl (by with_reducible rfl) | exact .inr (by with_reducible rfl))) ?_; rintro e w4 ⟨S5, F5, G5, sa5, n5, sc5, wa5, wc5, rfl, hl5, hn5, hl6, hA, hE⟩; refine ⟨_, rfl, ?_⟩
             first
               | (have hend := hA (by with_reducible rfl); clear hA hE)
               | (obtain ⟨hz4, hend⟩ := hE (by with_reducible rfl); clear hA hE; obtain ⟨k0, k1, k2, k3, k4⟩ := box_cells hz4; have fz := hz4.free))
          all_goals (simp only [midQ]; exact ⟨S5, F5, G5, sa5, n5, sc5, wa5, wc5, _, hl5, hn5, hl6, by kernel_rfl, hend⟩)
        · rintro a' w4 ⟨S5, F5, G5, sa5, n5, sc5, wa5, wc5, g, hl5, hn5, hl6, rfl, hP5, hg5, hm5, hF5m, hG5m, hgm, hX5⟩
          clear HD hXA hbA hbAp hX3p hM3p m0 m1 m2 m3 m4 c0 c1 c2 c3 c4 ma0 ma1 ma2 ma3 ma4 ca0 ca1 ca2 ca3 ca4 hzA hP3 hM3 hX3 hb3d hb3 hMr hPr
          obtain ⟨g0, g1, g2, g3, g4⟩ := box_cells hg5
          obtain ⟨m0, m1, m2, m3, m4⟩ := box_cells hm5
          have fm := hm5.free
          have hmw := HM.out
          obtain ⟨W5, hW5⟩ : ∃ W5, W5 = put5 w4 m (.slice sa5 n5 sc5) (.slice wa5 S5.ws.length wc5) (.bool S5.fused) (.int .i64 (S5.left : Int)) (.bool S5.off) := ⟨_, rfl⟩
          have hbt : But m w4 W5 := by rw [hW5]; exact put5_but _ _ _ _ _ _ _
          have hP6 := hP5.but hbt hF5m hG5m
          have hM6 : Blk 30 W5 m [.slice sa5 n5 sc5, .slice wa5 S5.ws.length wc5, .bool S5.fused, .int .i64 (S5.left : Int), .bool S5.off] := by rw [hW5]; exact put5_same hm5 _ _ _ _ _
          have hX6 : Below w.heap.size w W5 := hX5.trans (hbt.below hmw (by have := hX5.size; omega))
          have HW5 : Hid (W5 = _) := hW5
          obtain ⟨nok, hSok⟩ := hP6.dk.ok
          have hrng := hSok.rng
          obtain ⟨X, hX⟩ : ∃ X, X = S5.laid := ⟨_, rfl⟩
          obtain ⟨L, hL⟩ : ∃ L, L = X.length := ⟨_, rfl⟩
          obtain ⟨Zs, hZs⟩ : ∃ Zs, Zs = strOfNums X := ⟨_, rfl⟩
          have HDU : Hid (∀ u, Below W5.heap.size W5 u → Calls Try.prog 9 #[.pointer (some ⟨p, 0, none⟩)] u fun e w' => ∃ v, e = .returned v ∧ Below u.heap.size u w' ∧ slB L X v w') := fun u hu => (dk_dump (hP6.stays hu).dk).mono fun e w' ⟨a1, c1, h1, h2, h3⟩ => by
            refine ⟨_, h1, h3, a1, c1, by rw [hL, hX], ?_⟩
            rw [hX]; exact (Out.bs h2 hrng).2.1
          have HRU : Hid (∀ u, Below W5.heap.size W5 u → Calls Try.prog 10 #[.agg #[.slice sa5 n5 sc5, .slice wa5 S5.ws.length wc5, .bool S5.fused, .int .i64 (S5.left : Int), .bool S5.off]] u fun e w' => ∃ v, e = .returned v ∧ Below u.heap.size u w' ∧ slB L X v w') := fun u hu => (rdump_run (hP6.stays hu).rf).mono fun e w' ⟨a1, c1, h1, h2, h3⟩ => by
            refine ⟨_, h1, h3, a1, c1, by rw [hL, hX], ?_⟩
            rw [hX]; exact h2
          have HLN : Hid (∀ u, Below W5.heap.size W5 u → Calls Try.prog 11 #[.pointer (some ⟨p, 0, none⟩)] u fun e w' => e = .returned (.int .i64 (n5 : Int)) ∧ Below u.heap.size u w') := fun u hu => (dk_len (hP6.stays hu).dk).mono fun e w' ⟨h1, h2⟩ => ⟨by rw [h1, hn5], by rw [h2]; exact Below.refl _ _⟩
          have HCN : Hid (∀ a' c' u, slB L X (.slice a' L c') u → (convert 35 9 (.slice a' L c')).run Try.prog u = .ok (.string Zs) u) := fun a' c' u hu => by
            obtain ⟨a2, c2, h5, h6⟩ := hu
            cases h5
            rw [hZs]; exact conv_bs9 h6 hL
          have HMC : Hid (∀ u, Below W5.heap.size W5 u → u.cell? ⟨m, 0, none⟩ = some (.slice sa5 n5 sc5) ∧ u.cell? ⟨m, 1, none⟩ = some (.slice wa5 S5.ws.length wc5) ∧ u.cell? ⟨m, 2, none⟩ = some (.bool S5.fused) ∧ u.cell? ⟨m, 3, none⟩ = some (.int .i64 (S5.left : Int)) ∧ u.cell? ⟨m, 4, none⟩ = some (.bool S5.off)) := fun u hu => box_cells (hM6.stays hu)
          clear hW5 hbt hX hL hZs hrng hSok hn5 hl6
          simp only [Act.put, List.setIfInBounds_toArray, List.set_cons_zero, List.set_cons_succ]
          go_wp2
          have hW6 := HW5.out
          unfold put5 at hW6
          rw [← hW6]
          clear hW6 HW5 g0 g1 g2 g3 g4 m0 m1 m2 m3 m4 fm hg5 hm5 hP5 hX5
          refine Up.wp_region_up (Up.tell [(4, slB L X), (7, slB L X), (13, isV (.int .i64 (n5 : Int)))]) (by kernel_rfl) (by kernel_rfl) (Up.tell_steady _ (by
            intro p hp
            simp only [List.mem_cons, List.not_mem_nil, or_false] at hp
            rcases hp with rfl | rfl | rfl <;> first | exact isV_steady _ | exact slB_steady _ _)) ?_
          repeat (first
            | (refine Up.wpUp_pass (by rfl) ?_; simp only [Act.put, List.setIfInBounds_toArray, List.set_cons_zero, List.set_cons_succ])
            | (apply Up.wpUp_pure
               case hw => rfl
               case hψ => rfl
               case hv => (intro w1 hp; clear hp; go_simp; try (with_reducible rfl))
               simp only [Act.put, List.setIfInBounds_toArray, List.set_cons_zero, List.set_cons_succ]))
          refine Up.wpUp_call _ 9 #[.pointer (some ⟨p, 0, none⟩)] (by rfl) (by rfl) (fun w1 => by go_simp) (fun w1 hp => HDU.out w1 hp.1) ?_
          rintro v ⟨u, _, hf⟩
          obtain ⟨a7, c7, rfl, _⟩ := hf 4 v _ rfl rfl
          clear hf
          simp only [Act.put, List.setIfInBounds_toArray, List.set_cons_zero, List.set_cons_succ]
          repeat (first
            | (refine Up.wpUp_pass (by rfl) ?_; simp only [Act.put, List.setIfInBounds_toArray, List.set_cons_zero, List.set_cons_succ])
            | (apply Up.wpUp_pure
               case hw => rfl
               case hψ => rfl
               case hv => (intro w1 hp; clear hp; go_simp; try (with_reducible rfl))
               simp only [Act.put, List.setIfInBounds_toArray, List.set_cons_zero, List.set_cons_succ])
            | (apply Up.wpUp_pure
               case hw => rfl
               case hψ => rfl
               case hv => (intro w1 hp; obtain ⟨q0, q1, q2, q3, q4⟩ := HMC.out w1 hp.1; clear hp; go_simp; try (with_reducible rfl))
               simp only [Act.put, List.setIfInBounds_toArray, List.set_cons_zero, List.set_cons_succ])
            | (apply Up.wpUp_pure
               case hw => rfl
               case hψ => rfl
               case hv => (intro w1 hp; have hq3 := HCN.out _ _ _ (hp.2 4 _ _ rfl rfl rfl); clear hp; go_simp; try (with_reducible rfl))
               simp only [Act.put, List.setIfInBounds_toArray, List.set_cons_zero, List.set_cons_succ]))
          refine Up.wpUp_call _ 10 #[.agg #[.slice sa5 n5 sc5, .slice wa5 S5.ws.length wc5, .bool S5.fused, .int .i64 (S5.left : Int), .bool S5.off]] (by rfl) (by rfl) (fun w1 => by go_simp) (fun w1 hp => HRU.out w1 hp.1) ?_
          rintro v ⟨u, _, hf⟩
          obtain ⟨a8, c8, rfl, _⟩ := hf 7 v _ rfl rfl
          clear hf
          simp only [Act.put, List.setIfInBounds_toArray, List.set_cons_zero, List.set_cons_succ]
          repeat (first
            | (refine Up.wpUp_pass (by rfl) ?_; simp only [Act.put, List.setIfInBounds_toArray, List.set_cons_zero, List.set_cons_succ])
            | (apply Up.wpUp_pure
               case hw => rfl
               case hψ => rfl
               case hv => (intro w1 hp; clear hp; go_simp; try (with_reducible rfl))
               simp only [Act.put, List.setIfInBounds_toArray, List.set_cons_zero, List.set_cons_succ])
            | (apply Up.wpUp_pure
               case hw => rfl
               case hψ => rfl
               case hv => (intro w1 hp; have hq3 := HCN.out _ _ _ (hp.2 7 _ _ rfl rfl rfl); clear hp; go_simp; try (with_reducible rfl))
               simp only [Act.put, List.setIfInBounds_toArray, List.set_cons_zero, List.set_cons_succ]))
          refine Up.wpUp_call _ 11 #[.pointer (some ⟨p, 0, none⟩)] (by rfl) (by rfl) (fun w1 => by go_simp) (fun w1 hp => calls_isV (HLN.out w1 hp.1)) ?_
          rintro v ⟨u, _, hf⟩
          obtain rfl := hf 13 v _ rfl rfl
          clear hf
          simp only [Act.put, List.setIfInBounds_toArray, List.set_cons_zero, List.set_cons_succ]
          repeat (first
            | (refine Up.wpUp_pass (by rfl) ?_; simp only [Act.put, List.setIfInBounds_toArray, List.set_cons_zero, List.set_cons_succ])
            | (apply Up.wpUp_pure
               case hw => rfl
               case hψ => rfl
               case hv => (intro w1 hp; clear hp; go_simp; try (with_reducible rfl))
               simp only [Act.put, List.setIfInBounds_toArray, List.set_cons_zero, List.set_cons_succ])
            | (apply Up.wpUp_pure
               case hw => rfl
               case hψ => rfl
               case hv => (intro w1 hp; obtain ⟨q0, q1, q2, q3, q4⟩ := HMC.out w1 hp.1; clear hp; go_simp; try (with_reducible rfl))
               simp only [Act.put, List.setIfInBounds_toArray, List.set_cons_zero, List.set_cons_succ]))
          refine Up.wpUp_end ?_
          intro w6 hb6 _
          have hP7 := hP6.stays hb6
          have hM7 := hM6.stays hb6
          have hX7 : Below w.heap.size w w6 := hX6.trans (hb6.mono hX6.size)
          clear HDU HRU HLN HCN HMC hP6 hM6 hX6 hb6
          go_wp2
          go_roundw
          case rel => exact ⟨i + 1, F5, G5, S5, _, by go_num, by omega, by omega, hP7, by omega, hM7, hF5m, hG5m, hX7⟩
          case measure => simp [intOf]; omega
      · have hsf : (decide (bs.length ≤ 300) && decide (ks.length ≤ 60)) = false := by
          rw [Bool.and_eq_false_iff]
          rcases Decidable.not_and_iff_or_not.1 hsml with h | h
          · exact .inl (decide_eq_false h)
          · exact .inr (decide_eq_false h)
        rw [hsf] at hsm
        clear hsf hsml
        go_wp2_with (first
          | (go_at_call 7; go_must (refine hsm.mono ?_); rintro e w3 ⟨rfl, hb3⟩))
        go_roundw
        case rel => exact ⟨i + 1, F, G, S, _, by go_num, by omega, by omega, hPr.stays hb3, by omega, hMr.stays hb3, hFm, hGm, hbr.trans (hb3.mono hbr.size)⟩
        case measure => simp [intOf]; omega
    · have hst : ¬ ((i : Int) < (acts.length : Int)) ∨ ¬ ((i : Int) < 40) := by omega
      have hal := alive_run
      rcases hst with h | h
      · go_wp2_with (go_at_call 6; go_must (refine (hal _).mono ?_); rintro e w3 ⟨rfl, hb3⟩)
        go_ret
        exact ⟨rfl, hbr.trans (hb3.mono hbr.size)⟩
      · by_cases h2 : (i : Int) < (acts.length : Int)
        · go_wp2_with (go_at_call 6; go_must (refine (hal _).mono ?_); rintro e w3 ⟨rfl, hb3⟩)
          go_ret
          exact ⟨rfl, hbr.trans (hb3.mono hbr.size)⟩
        · go_wp2_with (go_at_call 6; go_must (refine (hal _).mono ?_); rintro e w3 ⟨rfl, hb3⟩)
          go_ret
          exact ⟨rfl, hbr.trans (hb3.mono hbr.size)⟩

theorem plays_walk (n : Int) (a : Option Addr) (c : Nat) (acts : List ActV) (w : World) (hS : Acts w a acts) (hL : acts.length ≤ 9223372036854775807) :
    Calls Try.prog 3 #[.int .i64 n, .slice a acts.length c] w fun e w' => e = .returned (.bool true) ∧ Below w.heap.size w w' := by
  by_cases h : n < 16 ∨ 512 < n
  · exact plays_arg n h a acts.length c w
  · obtain ⟨k, rfl⟩ : ∃ k : Nat, n = k := ⟨n.toNat, by omega⟩
    exact plays_in k (by omega) (by omega) a c acts w hS hL
end Go.Proofs.Ytjdidfocelagbaa
