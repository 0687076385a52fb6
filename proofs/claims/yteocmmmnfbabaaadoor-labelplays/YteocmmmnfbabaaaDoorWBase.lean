/-
  The walk of the law DiskFlushed.
-/
import Derived.Test.YteocmmmnfbabaaaDoorPure
import Derived.Test.YteocmmmnfbabaaaDoorDkOpen
import Derived.Deep.RegionHeldLaw
namespace Go.Proofs.YteocmmmnfbabaaaDoor
set_option linter.unusedSimpArgs false
set_option linter.unusedVariables false
open Go.RowKit

/-- Blocks from B on that there are. -/
def Fresh (B : Nat) (w : World) (k : Nat) : Prop := B ≤ k ∧ k < w.heap.size

/-- A disk among the blocks from B on. -/
def DkF (B : Nat) (w : World) (p : Nat) (S : DS) : Prop := Dk w (Fresh B w) p S

theorem DkF.stays {B : Nat} {w w' : World} {p : Nat} {S : DS} (h : DkF B w p S) (hb : Below w.heap.size w w') : DkF B w' p S :=
  (Dk.stays h hb).mono (fun k hk hl => ⟨hk.1, hl⟩)

theorem DkF.next {B : Nat} {w u w' : World} {p : Nat} {S' : DS} (h : Then (Fresh B w) u w' p S') (hB : B ≤ w.heap.size) (hu : w.heap.size ≤ u.heap.size) : DkF B w' p S' ∧ Below B u w' :=
  ⟨h.1.mono (fun k hk hl => ⟨by rcases hk with hk | hk; exact hk.1; omega, hl⟩), h.2.below (by omega) (fun k hk => hk.1)⟩

theorem Out.bs {base : Nat} {w : World} {a : Option Addr} {n c : Nat} {xs : List Int} (h : Out base w (.slice a n c) xs) (hr : ∀ x ∈ xs, 0 ≤ x ∧ x ≤ 255) : n = xs.length ∧ Bs w a c xs ∧ ∀ x, a = some x → base ≤ x.block := by
  obtain ⟨a', c', he, hb⟩ := Bs.of_owns h hr
  simp only [Value.slice.injEq] at he
  obtain ⟨rfl, rfl, rfl⟩ := he
  refine ⟨rfl, hb, ?_⟩
  rintro x rfl
  exact (World.ownsRow.lt h x.block rfl).1

theorem Out.form {base : Nat} {w : World} {v : Value} {xs : List Int} (h : Out base w v xs) : ∃ a c, v = .slice a xs.length c := by
  rcases h.2 with ⟨rfl, h0⟩ | ⟨g, cap, cur, rfl, _⟩
  · exact ⟨none, 0, by rw [h0]⟩
  · exact ⟨_, _, rfl⟩

theorem box_cells {w : World} {X : Nat} {x0 x1 x2 x3 x4 : Value} {t : TypeId} (h : Blk t w X [x0, x1, x2, x3, x4]) :
    w.cell? ⟨X, 0, none⟩ = some x0 ∧ w.cell? ⟨X, 1, none⟩ = some x1 ∧ w.cell? ⟨X, 2, none⟩ = some x2 ∧ w.cell? ⟨X, 3, none⟩ = some x3 ∧ w.cell? ⟨X, 4, none⟩ = some x4 :=
  ⟨h.cell 0, h.cell 1, h.cell 2, h.cell 3, h.cell 4⟩

/-- A box that was made behind the disk's blocks stays. -/
theorem box_frm {B X : Nat} {wr w1 w2 w4 : World} {t : TypeId} {vs : List Value} (h : Frm (Fresh B wr) w2 w4) (hb : Below w1.heap.size w1 w2) (hX : Blk t w1 X vs) (hx : wr.heap.size ≤ X := by simp) : Blk t w4 X vs := by
  have h2 := hX.stays hb
  have hl := h2.lt
  unfold Blk at *
  rw [h.block X (fun hf => by have := hf.2; omega) hl]
  exact h2

theorem is_lt {w : World} {a : Option Addr} {ks : List Int} (h : Is w a ks) (h0 : ks ≠ []) {x : Addr} (hx : a = some x) : x.block < w.heap.size := by
  rcases h with h | ⟨b, off, rfl, hc⟩
  · exact absurd h h0
  · cases hx
    exact World.block_lt_of_cell? _ _ (hc 0 (by cases ks; exact absurd rfl h0; simp))

theorem new_kept (S0 : DS) (h0 : S0.off = false) (hf : S0.fused = false) (hw : S0.ws = []) (hl : S0.laid.length = 256 * 16) (t : Nat) (xs : List Int) (ht : t < 16) (hx : xs.length = 256) :
    (S0.write (t : Int) xs).2 = 0 ∧ (S0.write (t : Int) xs).1.ws.length = 1 ∧ Kept (S0.write (t : Int) xs).1.flush.1 t xs ∧ (S0.write (t : Int) xs).1.flush.2 = 0 ∧ (S0.write (t : Int) xs).1.flush.1.ws = [] := by
  obtain ⟨laid, ws, off, fused, left⟩ := S0
  simp only at h0 hf hw hl
  subst h0 hf hw
  have hm : may false left = true := rfl
  have hhas : DS.has ⟨laid, [], false, false, left⟩ (t : Int) ∧ xs.length = 256 := ⟨by unfold DS.has; simp only [hl]; omega, hx⟩
  have h1 : DS.write ⟨laid, [], false, false, left⟩ (t : Int) xs = (⟨laid, [(t, xs)], false, false, left⟩, 0) := by
    unfold DS.write
    rw [if_neg (fun h => by cases h), if_neg (by simpa using hhas), if_pos hm]
    rfl
  rw [h1]
  have h2 : DS.flush ⟨laid, [(t, xs)], false, false, left⟩ = (⟨layW laid [(t, xs)] (fun _ => 256) 1, [], false, false, left⟩, 0) := by
    unfold DS.flush
    rw [if_neg (fun h => by cases h), if_pos hm]
    rfl
  rw [h2]
  refine ⟨rfl, rfl, ⟨rfl, rfl, ?_, ?_, fun q hq => by cases hq⟩, rfl, rfl⟩
  · simp only
    rw [layW_length hl (ws := [(t, xs)]) (by intro q hq; simp at hq; subst hq; exact ⟨ht, hx⟩) _ _ (by simp), hl]
  · have hc : clamp 256 = 256 := by decide
    simp only
    rw [layW_succ]
    simp only [List.getD_cons_zero, hc, layW, List.range_zero, List.foldl_nil]
    rw [List.take_of_length_le (by omega), secOf_same (by omega) (by omega), List.drop_eq_nil_of_le (by rw [secOf_length (by omega)]; omega), List.append_nil]

end Go.Proofs.YteocmmmnfbabaaaDoor
