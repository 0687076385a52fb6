/-
  The walk of the law DiskFlushed.
-/
import Derived.Test.YtjcckocjinkcmaaPure
import Derived.Deep.RegionHeldLaw
namespace Go.Proofs.Ytjcckocjinkcmaa
set_option linter.unusedSimpArgs false
set_option linter.unusedVariables false
open Go.RowKit

/-- Blocks from B on that there are. -/
def Fresh (B : Nat) (w : World) (k : Nat) : Prop := B ≤ k ∧ k < w.heap.size

/-- A disk among the blocks from B on. -/
def DkF (B : Nat) (w : World) (p : Nat) (S : DS) : Prop := Dk w (Fresh B w) p S

theorem DkF.stays {B : Nat} {w w' : World} {p : Nat} {S : DS} (h : DkF B w p S) (hb : Below w.heap.size w w') : DkF B w' p S :=
  (Dk.stays h hb).mono (fun k hk hl => ⟨hk.1, hl⟩)

theorem DkF.next {B : Nat} {w u w' : World} {p : Nat} {S' : DS} (h : Then (Fresh B w) u w' p S') (hB : B ≤ w.heap.size) (hu : w.heap.size ≤ u.heap.size) : DkF B w' p S' ∧ Below B u w' :=
  ⟨h.1.mono (fun k hk hl => ⟨by rcases hk with hk | hk; exact hk.1; omega, hl⟩), h.2.below (by omega) (fun k hk => hk.1)⟩

theorem Out.bs {base : Nat} {w : World} {a : Option Addr} {n c : Nat} {xs : List Int} (h : Out base w (.slice a n c) xs) (hr : ∀ x ∈ xs, 0 ≤ x ∧ x ≤ 255) : n = xs.length ∧ Bs w a c xs ∧ ∀ x, a = some x → base ≤ x.block := by
  obtain ⟨a', c', he, hb⟩ := Bs.of_owns h hr
  simp only [Value.slice.injEq] at he
  obtain ⟨rfl, rfl, rfl⟩ := he
  refine ⟨rfl, hb, ?_⟩
  rintro x rfl
  exact (World.ownsRow.lt h x.block rfl).1

theorem Out.form {base : Nat} {w : World} {v : Value} {xs : List Int} (h : Out base w v xs) : ∃ a c, v = .slice a xs.length c := by
  rcases h.2 with ⟨rfl, h0⟩ | ⟨g, cap, cur, rfl, _⟩
  · exact ⟨none, 0, by rw [h0]⟩
  · exact ⟨_, _, rfl⟩

theorem sec_rng {x : ActV} (h : ∀ y ∈ x.bs, 0 ≤ y ∧ y ≤ 255) : ∀ y ∈ x.sec, 0 ≤ y ∧ y ≤ 255 := by
  unfold ActV.sec
  split
  · exact h
  · exact pad_rng h _

theorem Acts.at {W : World} {a : Option Addr} {xs : List ActV} (h : Acts W a xs) {i : Nat} (hi : i < xs.length) :
    ∃ b off, a = some ⟨b, off, none⟩ ∧ (∀ j, j < 5 → W.cell? ⟨b, off + 5 * i + j, none⟩ = (xs.getD i default).cells[j]?) ∧ ActOk W (xs.getD i default) := by
  rcases h.lay with rfl | ⟨b, off, rfl, hc⟩
  · simp at hi
  · exact ⟨b, off, rfl, hc i hi, h.ok _ (by simp [List.getD, hi])⟩

theorem act_cells {w : World} {b o : Nat} {x : ActV} (h : ∀ j, j < 5 → w.cell? ⟨b, o + j, none⟩ = x.cells[j]?) :
    w.cell? ⟨b, o, none⟩ = some (.int .i64 x.kind) ∧ w.cell? ⟨b, o + 1, none⟩ = some (.int .i64 x.pos) ∧ w.cell? ⟨b, o + 2, none⟩ = some (.slice x.ba x.bs.length x.bc) ∧ w.cell? ⟨b, o + 3, none⟩ = some (.bool x.raw) ∧ w.cell? ⟨b, o + 4, none⟩ = some (.slice x.ka x.ks.length x.kc) :=
  ⟨h 0 (by omega), h 1 (by omega), h 2 (by omega), h 3 (by omega), h 4 (by omega)⟩

set_option maxRecDepth 100000 in
set_option maxHeartbeats 4000000 in
theorem flushed_early (t : Int) (a : Option Addr) (n c : Nat) (sa : Option Addr) (sn sc : Nat) (w : World) (hn : n ≤ 9223372036854775807) (h : ¬ (n = 256 ∧ 0 ≤ t ∧ t < 16)) :
    Calls Try.prog 4 #[.int .i64 t, .slice a n c, .slice sa sn sc] w fun e w' => e = .returned (.bool true) ∧ Below w.heap.size w w' := by
  have hnew := dk_new 16 w (by omega) (by omega)
  rcases (by omega : ¬ n = 256 ∨ n = 256 ∧ t < 0 ∨ n = 256 ∧ 0 ≤ t ∧ 16 ≤ t) with h1 | ⟨rfl, h1⟩ | ⟨rfl, h1, h2⟩
  · have h1' : ((n : Int) = 256) = False := eq_false (by omega)
    have h1'' : ((n : Int) == 256) = false := by simp; omega
    clear h h1
    go_enter Try.func4, Try.ntmps4
    go_wp2_with (first
      | (go_at_call 7; refine hnew.mono ?_; rintro e w1 ⟨p, rfl, hD1, hb1⟩)
      | (go_at_call 9; refine (alive_run _).mono ?_; rintro e w2 ⟨rfl, hb2⟩))
    go_ret
    exact ⟨rfl, hb1.trans (hb2.mono hb1.size)⟩
  · clear h
    go_enter Try.func4, Try.ntmps4
    go_wp2_with (first
      | (go_at_call 7; refine hnew.mono ?_; rintro e w1 ⟨p, rfl, hD1, hb1⟩)
      | (go_at_call 9; refine (alive_run _).mono ?_; rintro e w2 ⟨rfl, hb2⟩))
    go_ret
    exact ⟨rfl, hb1.trans (hb2.mono hb1.size)⟩
  · have h1' : ¬ (t < 0) := by omega
    clear h h1
    go_enter Try.func4, Try.ntmps4
    go_wp2_with (first
      | (go_at_call 7; refine hnew.mono ?_; rintro e w1 ⟨p, rfl, hD1, hb1⟩)
      | (go_at_call 9; refine (alive_run _).mono ?_; rintro e w2 ⟨rfl, hb2⟩))
    go_ret
    exact ⟨rfl, hb1.trans (hb2.mono hb1.size)⟩

theorem box_cells {w : World} {X : Nat} {x0 x1 x2 x3 x4 : Value} {t : TypeId} (h : Blk t w X [x0, x1, x2, x3, x4]) :
    w.cell? ⟨X, 0, none⟩ = some x0 ∧ w.cell? ⟨X, 1, none⟩ = some x1 ∧ w.cell? ⟨X, 2, none⟩ = some x2 ∧ w.cell? ⟨X, 3, none⟩ = some x3 ∧ w.cell? ⟨X, 4, none⟩ = some x4 :=
  ⟨h.cell 0, h.cell 1, h.cell 2, h.cell 3, h.cell 4⟩

/-- A box that was made behind the disk's blocks stays. -/
theorem box_frm {B X : Nat} {wr w1 w2 w4 : World} {t : TypeId} {vs : List Value} (h : Frm (Fresh B wr) w2 w4) (hb : Below w1.heap.size w1 w2) (hX : Blk t w1 X vs) (hx : wr.heap.size ≤ X := by simp) : Blk t w4 X vs := by
  have h2 := hX.stays hb
  have hl := h2.lt
  unfold Blk at *
  rw [h.block X (fun hf => by have := hf.2; omega) hl]
  exact h2

theorem is_lt {w : World} {a : Option Addr} {ks : List Int} (h : Is w a ks) (h0 : ks ≠ []) {x : Addr} (hx : a = some x) : x.block < w.heap.size := by
  rcases h with h | ⟨b, off, rfl, hc⟩
  · exact absurd h h0
  · cases hx
    exact World.block_lt_of_cell? _ _ (hc 0 (by cases ks; exact absurd rfl h0; simp))

theorem new_kept (S0 : DS) (h0 : S0.off = false) (hf : S0.fused = false) (hw : S0.ws = []) (hl : S0.laid.length = 256 * 16) (t : Nat) (xs : List Int) (ht : t < 16) (hx : xs.length = 256) :
    (S0.write (t : Int) xs).2 = 0 ∧ (S0.write (t : Int) xs).1.ws.length = 1 ∧ Kept (S0.write (t : Int) xs).1.flush.1 t xs ∧ (S0.write (t : Int) xs).1.flush.2 = 0 ∧ (S0.write (t : Int) xs).1.flush.1.ws = [] := by
  obtain ⟨laid, ws, off, fused, left⟩ := S0
  simp only at h0 hf hw hl
  subst h0 hf hw
  have hm : may false left = true := rfl
  have hhas : DS.has ⟨laid, [], false, false, left⟩ (t : Int) ∧ xs.length = 256 := ⟨by unfold DS.has; simp only [hl]; omega, hx⟩
  have h1 : DS.write ⟨laid, [], false, false, left⟩ (t : Int) xs = (⟨laid, [(t, xs)], false, false, left⟩, 0) := by
    unfold DS.write
    rw [if_neg (fun h => by cases h), if_neg (by simpa using hhas), if_pos hm]
    rfl
  rw [h1]
  have h2 : DS.flush ⟨laid, [(t, xs)], false, false, left⟩ = (⟨layW laid [(t, xs)] (fun _ => 256) 1, [], false, false, left⟩, 0) := by
    unfold DS.flush
    rw [if_neg (fun h => by cases h), if_pos hm]
    rfl
  rw [h2]
  refine ⟨rfl, rfl, ⟨rfl, rfl, ?_, ?_, fun q hq => by cases hq⟩, rfl, rfl⟩
  · simp only
    rw [layW_length hl (ws := [(t, xs)]) (by intro q hq; simp at hq; subst hq; exact ⟨ht, hx⟩) _ _ (by simp), hl]
  · have hc : clamp 256 = 256 := by decide
    simp only
    rw [layW_succ]
    simp only [List.getD_cons_zero, hc, layW, List.range_zero, List.foldl_nil]
    rw [List.take_of_length_le (by omega), secOf_same (by omega) (by omega), List.drop_eq_nil_of_le (by rw [secOf_length (by omega)]; omega), List.append_nil]

set_option maxRecDepth 100000 in
set_option maxHeartbeats 4000000 in
theorem flushed_walk (t : Nat) (a : Option Addr) (c : Nat) (xs : List Int) (sa : Option Addr) (sc : Nat) (acts : List ActV) (w : World) (ht : t < 16) (hB : Bs w a c xs) (hx : xs.length = 256) (hS : Acts w sa acts) (hsl : acts.length ≤ 9223372036854775807) :
    Calls Try.prog 4 #[.int .i64 (t : Int), .slice a 256 c, .slice sa acts.length sc] w fun e w' => e = .returned (.bool true) ∧ Below w.heap.size w w' := by
  have hnew := dk_new 16 w (by omega) (by omega)
  obtain ⟨S0, hS0⟩ : ∃ S0, S0 = DS.new 16 := ⟨_, rfl⟩
  rw [← hS0] at hnew
  obtain ⟨hk1, hk1', hk2, hk3, hk4⟩ := new_kept S0 (by rw [hS0]; rfl) (by rw [hS0]; rfl) (by rw [hS0]; rfl) (by rw [hS0]; exact List.length_replicate) t xs ht hx
  have hS0l : S0.ws.length = 0 := by rw [hS0]; rfl
  have ht1 : ¬ ((t : Int) < 0) := by omega
  have ht2 : ¬ ((16 : Int) ≤ (t : Int)) := by omega
  have hblk : ∀ x, a = some x → x.block < w.heap.size := by
    obtain ⟨b, o, rfl, hc⟩ := hB.cell (by omega)
    rintro x h
    cases h
    exact World.block_lt_of_cell? _ _ (hc 0 (by omega))
  clear hS0
  go_enter Try.func4, Try.ntmps4
  go_wp2_with (first
    | (go_at_call 7; refine hnew.mono ?_; clear hnew; rintro e w1 ⟨p, rfl, hD1, hb1⟩
       have hwr := dk_write hD1 (t : Int) a c xs (hB.stays hb1) (fun x hx => by have := hblk x hx; simp; omega) (by omega)
       rw [hx] at hwr)
    | (go_at_call 15; refine hwr.mono ?_; clear hwr; rintro e w2 ⟨rfl, hT2⟩
       rw [hk1]
       have hD2 := hT2.1.mono (G := Fresh w.heap.size w2) (fun k hk hl => ⟨by have := hb1.size; rcases hk with hk | hk <;> omega, hl⟩)
       have hb2 := hT2.2.below hb1.size (fun k hk => hk)
       have hfl := dk_flush hD2 (by omega))
    | (go_at_call 16; refine hfl.mono ?_; clear hfl; rintro e w3 ⟨rfl, hT3⟩
       rw [hk3]))
  obtain ⟨hD3, hb3⟩ := DkF.next hT3 (by have := (hb1.trans hb2).size; omega) (Nat.le_refl _)
  have hbw : Below w.heap.size w w3 := (hb1.trans hb2).trans hb3
  obtain ⟨S, hSe⟩ : ∃ S, S = (S0.write (t : Int) xs).1.flush.1 := ⟨_, rfl⟩
  rw [← hSe] at hk2 hk4 hD3
  have hws : S.ws.length = 0 := by rw [hk4]; rfl
  clear hSe hk1 hk3 hk4 hT2 hT3 hD1 hD2 hb1 hb2 hb3
  go_loopw [11] (fun x wr => ∃ (i : Nat) (S : DS), x = .int .i64 i ∧ i ≤ 40 ∧ i ≤ acts.length ∧ DkF w.heap.size wr p S ∧ Kept S t xs ∧ S.ws.length ≤ i ∧ Below w.heap.size w wr) (fun x _ => 40 - (intOf x).toNat)
  case atStart => exact ⟨0, S, rfl, by omega, by omega, hD3, hk2, by omega, hbw⟩
  case round =>
    rename_i hrel
    clear hD3 hk2 hws hbw
    obtain ⟨i, S, rfl, hi40, hil, hDr, hKr, hwr, hbr⟩ := hrel
    by_cases hstop : i < acts.length ∧ i < 40
    · obtain ⟨hlt, hlt40⟩ := hstop
      obtain ⟨sb, so, rfl, hcs, hok⟩ := hS.at hlt
      obtain ⟨x, hxe⟩ : ∃ x, x = acts.getD i default := ⟨_, rfl⟩
      rw [← hxe] at hcs hok
      clear hxe
      have hlt' : (i : Int) < (acts.length : Int) := by omega
      have hlt40' : (i : Int) < 40 := by omega
      have e5 : so + 5 * i = so + i * 5 := by omega
      rw [e5] at hcs
      have hsb : sb < w.heap.size := World.block_lt_of_cell? _ _ ((hcs 0 (by omega)).trans (show x.cells[0]? = some _ from rfl))
      obtain ⟨y0, y1, y2, y3, y4⟩ := act_cells (w := wr) (b := sb) (o := so + i * 5) (x := x) (fun j hj => (hbr.cell (p := ⟨sb, so + i * 5 + j, none⟩) hsb).trans (hcs j hj))
      have hX1 : Blk 38 (wr.alloc (.cells x.cells.toArray 38)) wr.heap.size x.cells := Blk.newAt rfl rfl
      have hbX : Below wr.heap.size wr (wr.alloc (.cells x.cells.toArray 38)) := (Below.refl _ _).alloc (Nat.le_refl _) _
      have hbrX := hbr.trans (hbX.mono hbr.size)
      have hsm := small_run x (wr.alloc (.cells x.cells.toArray 38)) (by have := hok.bs.cap; have := hok.bs.capm; unfold maxLen at this; omega) hok.kl
      have hsecr := fun u => sec_run x u
      obtain ⟨kind, pos, ba, bc, bs, raw, ka, kc, ks⟩ := x
      simp only [ActV.cells] at *
      by_cases hsml : bs.length ≤ 300 ∧ ks.length ≤ 60
      · rw [decide_eq_true hsml.1, decide_eq_true hsml.2, Bool.and_self] at hsm
        by_cases hpos : pos = (t : Int)
        · subst hpos
          go_wp2_with (first
            | (go_at_call 10; refine hsm.mono ?_; rintro e w2 ⟨rfl, hb2⟩; obtain ⟨x0, x1, x2, x3, x4⟩ := box_cells (hX1.stays hb2)))
          go_roundw
          case rel => exact ⟨i + 1, S, by go_num, by omega, by omega, (hDr.stays hbX).stays hb2, hKr, by omega, hbrX.trans (hb2.mono hbrX.size)⟩
          case measure => simp [intOf]; omega
        · have hpos' : (pos = (t : Int)) = False := eq_false hpos
          rcases (by omega : kind < 1 ∨ 3 < kind ∨ kind = 1 ∨ kind = 2 ∨ kind = 3) with hkd | hkd | rfl | rfl | rfl
          · go_wp2_with (first
              | (go_at_call 10; refine hsm.mono ?_; rintro e w2 ⟨rfl, hb2⟩; obtain ⟨x0, x1, x2, x3, x4⟩ := box_cells (hX1.stays hb2)))
            go_roundw
            case rel => exact ⟨i + 1, S, by go_num, by omega, by omega, (hDr.stays hbX).stays hb2, hKr, by omega, hbrX.trans (hb2.mono hbrX.size)⟩
            case measure => simp [intOf]; omega
          · have hkd' : ¬ (kind < 1) := by omega
            go_wp2_with (first
              | (go_at_call 10; refine hsm.mono ?_; rintro e w2 ⟨rfl, hb2⟩; obtain ⟨x0, x1, x2, x3, x4⟩ := box_cells (hX1.stays hb2)))
            go_roundw
            case rel => exact ⟨i + 1, S, by go_num, by omega, by omega, (hDr.stays hbX).stays hb2, hKr, by omega, hbrX.trans (hb2.mono hbrX.size)⟩
            case measure => simp [intOf]; omega
          · go_wp2_with (first
              | (go_at_call 10; refine hsm.mono ?_; clear hsm; rintro e w2 ⟨rfl, hb2⟩; obtain ⟨x0, x1, x2, x3, x4⟩ := box_cells (hX1.stays hb2)))
            have hb02 : Below w.heap.size w w2.drew := (hbrX.trans (hb2.mono hbrX.size)).drew
            have hsc := hsecr w2.drew (hok.bs.stays hb02) hsml.1
            have hDw2 : Dk w2.drew (Fresh w.heap.size wr) p S := Dk.stays (Dk.stays hDr hbX) hb2.drew
            have hwx2 : wr.heap.size ≤ w2.drew.heap.size := by have := hb2.size; have := hbX.size; simp; omega
            have hyr := sec_rng (x := ⟨1, pos, ba, bc, bs, raw, ka, kc, ks⟩) hok.bs.rng
            generalize hY : ActV.sec ⟨1, pos, ba, bc, bs, raw, ka, kc, ks⟩ = Y at hsc hyr
            clear hY hsecr
            go_region_held_law (fun u => u.cell? ⟨wr.heap.size, 0, none⟩ = some (.int .i64 1) ∧ u.cell? ⟨wr.heap.size, 1, none⟩ = some (.int .i64 pos) ∧ u.cell? ⟨wr.heap.size, 2, none⟩ = some (.slice ba bs.length bc) ∧ u.cell? ⟨wr.heap.size, 3, none⟩ = some (.bool raw) ∧ u.cell? ⟨wr.heap.size, 4, none⟩ = some (.slice ka ks.length kc)) (first | go_keep | exact ⟨z0, z1, z2, z3, z4⟩ | exact ⟨q0, q1, q2, q3, q4⟩)
              (first
                | (go_at_call 17; refine hsc.mono ?_; clear hsc; rintro e w3 ⟨v3, rfl, hO3, hb3⟩
                   obtain ⟨a3, c3, rfl⟩ := hO3.form
                   obtain ⟨_, hB3, hfr3⟩ := Out.bs hO3 hyr
                   have hDw3 : Dk w3 (Fresh w.heap.size wr) p S := Dk.stays hDw2 hb3
                   have hwr3 := dk_write hDw3 pos a3 c3 Y hB3 (fun x hx hF => by have := hfr3 x hx; have := hF.2; omega) (by omega)
                   have hX3 := (hX1.stays hb2.drew).stays hb3
                   obtain ⟨z0, z1, z2, z3, z4⟩ := box_cells hX3)
                | (go_at_call 15; refine hwr3.mono ?_; clear hwr3; rintro e w4 ⟨rfl, hT4⟩
                   have hX4 := box_frm hT4.2 hb3 (hX1.stays hb2.drew)
                   obtain ⟨q0, q1, q2, q3, q4⟩ := box_cells hX4))
            obtain ⟨hD4, hb4⟩ := DkF.next hT4 hbr.size (by have := hb3.size; omega)
            have hKr' := hKr.write pos hpos Y
            have hl' := write_len S pos Y
            obtain ⟨S', hS'⟩ : ∃ S', S' = (S.write pos Y).1 := ⟨_, rfl⟩
            rw [← hS'] at hD4 hKr' hl'
            have hb04 : Below w.heap.size w w4 := (hb02.trans (hb3.mono hb02.size)).trans hb4
            have hrd := dk_read hD4 (by omega) (t : Int)
            clear hS' hT4
            go_wp2_with (first
              | (go_at_call 19; refine hrd.mono ?_; clear hrd; rintro e w5 ⟨ra, rc, rfl, hO5, hb5⟩
                 rw [hKr'.read ht] at hO5 ⊢
                 obtain ⟨hrl, hrB, _⟩ := Out.bs hO5 hB.rng
                 have hb05 : Below w.heap.size w w5 := hb04.trans (hb5.mono hb04.size)
                 have hcv1 := hrB.conv (P := Try.prog) 256 hx.symm 35 5 Try.underlying35 Try.underlying5 9 Try.underlying9
                 have hcv2 := (hB.stays hb05).conv (P := Try.prog) 256 hx.symm 35 5 Try.underlying35 Try.underlying5 9 Try.underlying9
                 simp only [hx]))
            go_roundw
            case rel => exact ⟨i + 1, S', by go_num, by omega, by omega, hD4.stays hb5, hKr', by omega, hb05⟩
            case measure => simp [intOf]; omega
          · go_wp2_with (first
              | (go_at_call 10; refine hsm.mono ?_; clear hsm; rintro e w2 ⟨rfl, hb2⟩; obtain ⟨x0, x1, x2, x3, x4⟩ := box_cells (hX1.stays hb2)
                 have hDw2 : Dk w2 (Fresh w.heap.size wr) p S := Dk.stays (Dk.stays hDr hbX) hb2
                 have hfl := dk_flush hDw2 (by omega))
              | (go_at_call 16; refine hfl.mono ?_; clear hfl; rintro e w4 ⟨rfl, hT4⟩
                 obtain ⟨hD4, hb4⟩ := DkF.next hT4 hbr.size (by have := hb2.size; have := hbX.size; omega)
                 obtain ⟨nn, hSok⟩ := hDw2.ok
                 obtain ⟨S', hS'⟩ : ∃ S', S' = S.flush.1 := ⟨_, rfl⟩
                 have hKr' := hKr.flush hSok
                 have hl' := flush_len S
                 have hX4 := box_frm hT4.2 hb2 hX1
                 obtain ⟨x0, x1, x2, x3, x4⟩ := box_cells hX4
                 rw [← hS'] at hD4 hKr' hl'
                 have hb04 : Below w.heap.size w w4 := (hbrX.trans (hb2.mono hbrX.size)).trans hb4
                 have hrd := dk_read hD4 (by omega) (t : Int)
                 clear hS' hT4)
              | (go_at_call 19; refine hrd.mono ?_; clear hrd; rintro e w5 ⟨ra, rc, rfl, hO5, hb5⟩
                 rw [hKr'.read ht] at hO5 ⊢
                 obtain ⟨hrl, hrB, _⟩ := Out.bs hO5 hB.rng
                 have hb05 : Below w.heap.size w w5 := hb04.trans (hb5.mono hb04.size)
                 have hcv1 := hrB.conv (P := Try.prog) 256 hx.symm 35 5 Try.underlying35 Try.underlying5 9 Try.underlying9
                 have hcv2 := (hB.stays hb05).conv (P := Try.prog) 256 hx.symm 35 5 Try.underlying35 Try.underlying5 9 Try.underlying9
                 simp only [hx]))
            go_roundw
            case rel => exact ⟨i + 1, S', by go_num, by omega, by omega, hD4.stays hb5, hKr', by omega, hb05⟩
            case measure => simp [intOf]; omega
          · go_wp2_with (first
              | (go_at_call 10; refine hsm.mono ?_; clear hsm; rintro e w2 ⟨rfl, hb2⟩; obtain ⟨x0, x1, x2, x3, x4⟩ := box_cells (hX1.stays hb2)
                 have hDw2 : Dk w2 (Fresh w.heap.size wr) p S := Dk.stays (Dk.stays hDr hbX) hb2
                 have hcr := dk_crash hDw2 (by omega) ka kc ks (hok.ks.stays (hbrX.trans (hb2.mono hbrX.size))) (by have := hsml.2; omega) (fun h0 x hx hF => by have := is_lt hok.ks h0 hx; have := hF.1; omega))
              | (go_at_call 18; refine hcr.mono ?_; clear hcr; rintro e w4 ⟨⟨_, rfl⟩, hT4⟩
                 obtain ⟨hD4, hb4⟩ := DkF.next hT4 hbr.size (by have := hb2.size; have := hbX.size; omega)
                 obtain ⟨nn, hSok⟩ := hDw2.ok
                 obtain ⟨S', hS'⟩ : ∃ S', S' = S.crash ks := ⟨_, rfl⟩
                 have hKr' := hKr.crash hSok ks
                 have hl' : (S.crash ks).ws.length ≤ S.ws.length := by simp [DS.crash]
                 have hX4 := box_frm hT4.2 hb2 hX1
                 obtain ⟨x0, x1, x2, x3, x4⟩ := box_cells hX4
                 rw [← hS'] at hD4 hKr' hl'
                 have hb04 : Below w.heap.size w w4 := (hbrX.trans (hb2.mono hbrX.size)).trans hb4
                 have hrd := dk_read hD4 (by omega) (t : Int)
                 clear hS' hT4)
              | (go_at_call 19; refine hrd.mono ?_; clear hrd; rintro e w5 ⟨ra, rc, rfl, hO5, hb5⟩
                 rw [hKr'.read ht] at hO5 ⊢
                 obtain ⟨hrl, hrB, _⟩ := Out.bs hO5 hB.rng
                 have hb05 : Below w.heap.size w w5 := hb04.trans (hb5.mono hb04.size)
                 have hcv1 := hrB.conv (P := Try.prog) 256 hx.symm 35 5 Try.underlying35 Try.underlying5 9 Try.underlying9
                 have hcv2 := (hB.stays hb05).conv (P := Try.prog) 256 hx.symm 35 5 Try.underlying35 Try.underlying5 9 Try.underlying9
                 simp only [hx]))
            go_roundw
            case rel => exact ⟨i + 1, S', by go_num, by omega, by omega, hD4.stays hb5, hKr', by omega, hb05⟩
            case measure => simp [intOf]; omega
      · have hsf : (decide (bs.length ≤ 300) && decide (ks.length ≤ 60)) = false := by simpa using fun h1 => by omega
        rw [hsf] at hsm
        go_wp2_with (first
          | (go_at_call 10; refine hsm.mono ?_; rintro e w2 ⟨rfl, hb2⟩; obtain ⟨x0, x1, x2, x3, x4⟩ := box_cells (hX1.stays hb2)))
        go_roundw
        case rel => exact ⟨i + 1, S, by go_num, by omega, by omega, (hDr.stays hbX).stays hb2, hKr, by omega, hbrX.trans (hb2.mono hbrX.size)⟩
        case measure => simp [intOf]; omega
    · by_cases hl : i < acts.length
      · have hl1 : (i : Int) < (acts.length : Int) := by omega
        have hl2 : ¬ ((i : Int) < 40) := by omega
        go_wp2_with (go_at_call 9; refine (alive_run _).mono ?_; rintro e w2 ⟨rfl, hb2⟩)
        go_ret
        exact ⟨rfl, hbr.trans (hb2.mono hbr.size)⟩
      · have hl1 : ¬ ((i : Int) < (acts.length : Int)) := by omega
        go_wp2_with (go_at_call 9; refine (alive_run _).mono ?_; rintro e w2 ⟨rfl, hb2⟩)
        go_ret
        exact ⟨rfl, hbr.trans (hb2.mono hbr.size)⟩

theorem flushed_any (t : Int) (a : Option Addr) (c : Nat) (xs : List Int) (sa : Option Addr) (sc : Nat) (acts : List ActV) (w : World) (hB : Bs w a c xs) (hS : Acts w sa acts) (hsl : acts.length ≤ 9223372036854775807) :
    Calls Try.prog 4 #[.int .i64 t, .slice a xs.length c, .slice sa acts.length sc] w fun e w' => e = .returned (.bool true) ∧ Below w.heap.size w w' := by
  by_cases h : xs.length = 256 ∧ 0 ≤ t ∧ t < 16
  · obtain ⟨hx, h0, h1⟩ := h
    obtain ⟨s, rfl⟩ : ∃ s : Nat, t = (s : Int) := ⟨t.toNat, by omega⟩
    rw [hx]
    exact flushed_walk s a c xs sa sc acts w (by omega) hB hx hS hsl
  · exact flushed_early t a xs.length c sa acts.length sc w (by have h1 := hB.cap; have h2 := hB.capm; unfold maxLen at h2; omega) h

end Go.Proofs.Ytjcckocjinkcmaa
