/-
  The walk of the law DiskFlushed.
-/
import Derived.Test.YthbldjnpnligpaaDoorG23
import Derived.Deep.RegionHeldLaw
namespace Go.Proofs.YthbldjnpnligpaaDoor
set_option linter.unusedSimpArgs false
set_option linter.unusedVariables false
set_option maxRecDepth 100000
open Go.RowKit

/-- Blocks from B on that there are. -/
def Fresh (B : Nat) (w : World) (k : Nat) : Prop := B ≤ k ∧ k < w.heap.size

/-- A disk among the blocks from B on. -/
def DkF (B : Nat) (w : World) (p : Nat) (S : DS) : Prop := Dk w (Fresh B w) p S

theorem DkF.stays {B : Nat} {w w' : World} {p : Nat} {S : DS} (h : DkF B w p S) (hb : Below w.heap.size w w') : DkF B w' p S :=
  (Dk.stays h hb).mono (fun k hk hl => ⟨hk.1, hl⟩)

theorem DkF.next {B : Nat} {w u w' : World} {p : Nat} {S' : DS} (h : Then (Fresh B w) u w' p S') (hB : B ≤ w.heap.size) (hu : w.heap.size ≤ u.heap.size) : DkF B w' p S' ∧ Below B u w' :=
  ⟨h.1.mono (fun k hk hl => ⟨by rcases hk with hk | hk; exact hk.1; omega, hl⟩), h.2.below (by omega) (fun k hk => hk.1)⟩

theorem Out.bs {base : Nat} {w : World} {a : Option Addr} {n c : Nat} {xs : List Int} (h : Out base w (.slice a n c) xs) (hr : ∀ x ∈ xs, 0 ≤ x ∧ x ≤ 255) : n = xs.length ∧ Bs w a c xs ∧ ∀ x, a = some x → base ≤ x.block := by
  obtain ⟨a', c', he, hb⟩ := Bs.of_owns h hr
  simp only [Value.slice.injEq] at he
  obtain ⟨rfl, rfl, rfl⟩ := he
  refine ⟨rfl, hb, ?_⟩
  rintro x rfl
  exact (World.ownsRow.lt h x.block rfl).1

theorem Out.form {base : Nat} {w : World} {v : Value} {xs : List Int} (h : Out base w v xs) : ∃ a c, v = .slice a xs.length c := by
  rcases h.2 with ⟨rfl, h0⟩ | ⟨g, cap, cur, rfl, _⟩
  · exact ⟨none, 0, by rw [h0]⟩
  · exact ⟨_, _, rfl⟩

theorem box_cells {w : World} {X : Nat} {x0 x1 x2 x3 x4 : Value} {t : TypeId} (h : Blk t w X [x0, x1, x2, x3, x4]) :
    w.cell? ⟨X, 0, none⟩ = some x0 ∧ w.cell? ⟨X, 1, none⟩ = some x1 ∧ w.cell? ⟨X, 2, none⟩ = some x2 ∧ w.cell? ⟨X, 3, none⟩ = some x3 ∧ w.cell? ⟨X, 4, none⟩ = some x4 :=
  ⟨h.cell 0, h.cell 1, h.cell 2, h.cell 3, h.cell 4⟩

end Go.Proofs.YthbldjnpnligpaaDoor

/-
  The document's disk: plain lists of strings; spend, Fuse, Put.
-/

namespace Go.Proofs.YthbldjnpnligpaaDoor
set_option linter.unusedSimpArgs false
set_option linter.unusedVariables false
set_option maxRecDepth 100000
open Go.RowKit

/-- Strings behind a slice, in a block of G. -/
def SsAt (w : World) (G : Nat → Prop) (a : Option Addr) (xs : List ByteArray) : Prop :=
  ∃ b off, a = some ⟨b, off, none⟩ ∧ G b ∧ ∀ i, i < xs.length → w.cell? ⟨b, off + i, none⟩ = some (.string (xs.getD i .empty))

/-- Waiting writes behind a slice, in a block of G. -/
def WsAt (w : World) (G : Nat → Prop) (a : Option Addr) (c : Nat) (ws : List (Nat × List Int)) : Prop :=
  (ws = [] ∧ (a = none → c = 0)) ∨ ∃ b off, a = some ⟨b, off, none⟩ ∧ G b ∧ ∀ i, i < ws.length → w.cell? ⟨b, off + 2 * i, none⟩ = some (.int .i64 ((ws.getD i (0, [])).1 : Int)) ∧ w.cell? ⟨b, off + 2 * i + 1, none⟩ = some (.string (strOfNums (ws.getD i (0, [])).2))

def secStrs (laid : List Int) (n : Nat) : List ByteArray := (List.range n).map fun i => strOfNums (secOf laid i)

/-- The cells of the document's disk. -/
def rcells (S : DS) (sa : Option Addr) (sc : Nat) (wa : Option Addr) (wc : Nat) (n : Nat) : List Value := [.slice sa n sc, .slice wa S.ws.length wc, .bool S.fused, .int .i64 (S.left : Int), .bool S.off]

/-- The document's disk, as it is seen from outside. -/
def Rf (w : World) (G : Nat → Prop) (cs : List Value) (S : DS) : Prop :=
  ∃ n sa sc wa wc, S.Ok n ∧ cs = rcells S sa sc wa wc n ∧ SsAt w G sa (secStrs S.laid n) ∧ WsAt w G wa wc S.ws

theorem SsAt.keep {w w' : World} {G G' : Nat → Prop} {a : Option Addr} {xs : List ByteArray} (h : SsAt w G a xs) (hx : 0 < xs.length) (hk : ∀ k, G k → k < w.heap.size → w'.heap[k]? = w.heap[k]? ∧ G' k) : SsAt w' G' a xs := by
  obtain ⟨b, off, rfl, hg, hc⟩ := h
  have hlt := World.block_lt_of_cell? _ _ (hc 0 hx)
  refine ⟨b, off, rfl, (hk b hg hlt).2, fun i hi => ?_⟩
  rw [World.cell?_of_block (w := w) (hk b hg hlt).1]
  exact hc i hi

theorem WsAt.keep {w w' : World} {G G' : Nat → Prop} {a : Option Addr} {c : Nat} {ws : List (Nat × List Int)} (h : WsAt w G a c ws) (hk : ∀ k, G k → k < w.heap.size → w'.heap[k]? = w.heap[k]? ∧ G' k) : WsAt w' G' a c ws := by
  rcases h with h | ⟨b, off, rfl, hg, hc⟩
  · exact .inl h
  · by_cases h0 : ws = []
    · exact .inl ⟨h0, by simp⟩
    · have hlt := World.block_lt_of_cell? _ _ (hc 0 (by cases ws; exact absurd rfl h0; simp)).1
      refine .inr ⟨b, off, rfl, (hk b hg hlt).2, fun i hi => ?_⟩
      have h1 : w'.cell? ⟨b, off + 2 * i, none⟩ = w.cell? ⟨b, off + 2 * i, none⟩ := World.cell?_of_block (hk b hg hlt).1
      have h2 : w'.cell? ⟨b, off + 2 * i + 1, none⟩ = w.cell? ⟨b, off + 2 * i + 1, none⟩ := World.cell?_of_block (hk b hg hlt).1
      rw [h1, h2]
      exact hc i hi

theorem Rf.keep {w w' : World} {G G' : Nat → Prop} {cs : List Value} {S : DS} (h : Rf w G cs S) (hk : ∀ k, G k → k < w.heap.size → w'.heap[k]? = w.heap[k]? ∧ G' k) : Rf w' G' cs S := by
  obtain ⟨n, sa, sc, wa, wc, hok, rfl, hs, hw⟩ := h
  exact ⟨n, sa, sc, wa, wc, hok, rfl, hs.keep (by have := hok.lo; simp [secStrs]; omega) hk, hw.keep hk⟩

theorem Rf.stays {w w' : World} {G : Nat → Prop} {cs : List Value} {S : DS} (h : Rf w G cs S) (hb : Below w.heap.size w w') : Rf w' G cs S := h.keep (fun k hg hl => ⟨hb.block k hl, hg⟩)

/-- Flags alone turn. -/
theorem Rf.flags {w w' : World} {G G' : Nat → Prop} {S : DS} {sa : Option Addr} {sc : Nat} {wa : Option Addr} {wc n : Nat} (hok : S.Ok n) (hs : SsAt w G sa (secStrs S.laid n)) (hw : WsAt w G wa wc S.ws) {off fused : Bool} {left : Nat} (hl : left < 9223372036854775808) (hk : ∀ k, G k → k < w.heap.size → w'.heap[k]? = w.heap[k]? ∧ G' k) :
    Rf w' G' [.slice sa n sc, .slice wa S.ws.length wc, .bool fused, .int .i64 (left : Int), .bool off] { S with off := off, fused := fused, left := left } :=
  ⟨n, sa, sc, wa, wc, ⟨hok.len, hok.lo, hok.hi, hok.rng, hok.ws, hl⟩, rfl, hs.keep (by have := hok.lo; simp [secStrs]; omega) hk, hw.keep hk⟩

theorem results_blk_tmp {fn : Func} {p u : Tmp} {t e : TypeId} {g n : Nat} {us : List Value} (hf : fn.results = #[.cell p t, .tmp u]) (tmps : Array Value) (P : Program) (w : World) (hp : tmps.getD p undef = .pointer (some ⟨g, 0, none⟩))
    (hA : ∀ w, (isAgg t).run P w = .ok true w) (hZ : ∀ w, (sizeOf t).run P w = .ok n w) (hb : Blk e w g us) (hl : us.length = n) :
    (results fn tmps).run P w = .ok (.tuple #[.agg us.toArray, tmps.getD u undef]) w := by
  have hr := run_load_blk (P := P) (w := w) (off := 0) hA hZ hb (us := us) (by rw [List.drop_zero, List.take_of_length_le (by omega)]) hl
  simp only [Instr.loadAt, Instr.sureAddr, Sem.run_bind, Sem.run_pure, Result.andThen_ok] at hr
  rw [Array.getD_eq_getD_getElem?] at hp
  simp [results, hf, hp, asAddr, Sem.run_bind, hr]

theorem rAgg (w : World) : (isAgg 30).run Tryd.prog w = .ok true w := isAgg_struct Tryd.underlying30 w
theorem rSize (w : World) : (sizeOf 30).run Tryd.prog w = .ok 5 w := sizeOf_run (by kernel_rfl) w

end Go.Proofs.YthbldjnpnligpaaDoor

/-
  The document's disk: lists that are appended; Put.
-/

namespace Go.Proofs.YthbldjnpnligpaaDoor
set_option linter.unusedSimpArgs false
set_option linter.unusedVariables false
set_option maxRecDepth 100000
open Go.RowKit

theorem WsAt.mono {w : World} {G G' : Nat → Prop} {a : Option Addr} {c : Nat} {ws : List (Nat × List Int)} (h : WsAt w G a c ws) (hg : ∀ k, G k → G' k) : WsAt w G' a c ws := by
  rcases h with h | ⟨b, off, h1, h2, h3⟩
  · exact .inl h
  · exact .inr ⟨b, off, h1, hg b h2, h3⟩

/-- Five cells of a block. -/
def put5 (w : World) (g : Nat) (b0 b1 b2 b3 b4 : Value) : World := ((((w.setCell ⟨g, 0, none⟩ b0).setCell ⟨g, 1, none⟩ b1).setCell ⟨g, 2, none⟩ b2).setCell ⟨g, 3, none⟩ b3).setCell ⟨g, 4, none⟩ b4

theorem put5_same {w : World} {t : TypeId} {g : Nat} {a0 a1 a2 a3 a4 : Value} (h : Blk t w g [a0, a1, a2, a3, a4]) (b0 b1 b2 b3 b4 : Value) : Blk t (put5 w g b0 b1 b2 b3 b4) g [b0, b1, b2, b3, b4] := ((((h.set 0 b0).set 1 b1).set 2 b2).set 3 b3).set 4 b4

theorem put5_but (w : World) (g : Nat) (b0 b1 b2 b3 b4 : Value) : But g w (put5 w g b0 b1 b2 b3 b4) := (((((But.refl _ _).setCell _ _).setCell _ _).setCell _ _).setCell _ _).setCell _ _

section
variable {w : World} {G : Nat → Prop} {S : DS} {sa : Option Addr} {sc : Nat} {wa : Option Addr} {wc n : Nat}

end
end Go.Proofs.YthbldjnpnligpaaDoor
