/-
 Sectors, and bytes that are laid over them: lists alone.
-/
import Derived.Test.YthbldjnpnligpaaDoorB22
import Derived.Test.YthbldjnpnligpaaDoorB01
import Derived.Test.YthbldjnpnligpaaDoorB10
import Derived.Deep.Slices
import Derived.Deep.RegionHeldLaw
namespace Go.Proofs.YthbldjnpnligpaaDoor
set_option linter.unusedSimpArgs false
set_option linter.unusedVariables false
set_option maxRecDepth 100000
open Go.RowKit
theorem layAt_get {laid : List Int} {s : Nat} {ys : List Int} (h : 256 * s + ys.length ≤ laid.length) (j : Nat) : (layAt laid s ys)[j]? = if 256 * s ≤ j ∧ j < 256 * s + ys.length then ys[j - 256 * s]? else laid[j]? := by
 unfold layAt
 have hl : (laid.take (256 * s)).length = 256 * s := by simp; omega
 rcases Nat.lt_or_ge j (256 * s) with h1 | h1
 · rw [if_neg (by omega), List.getElem?_append_left (by omega), List.getElem?_take, if_pos h1]
 · rw [List.getElem?_append_right (by omega), hl]
   rcases Nat.lt_or_ge j (256 * s + ys.length) with h2 | h2
   · rw [if_pos ⟨h1, h2⟩, List.getElem?_append_left (by omega)]
   · rw [if_neg (by omega), List.getElem?_append_right (by omega), List.getElem?_drop]
     congr 1
     omega
theorem secOf_get (laid : List Int) (t j : Nat) : (secOf laid t)[j]? = if j < 256 then laid[256 * t + j]? else none := by
 unfold secOf
 rw [List.getElem?_take]
 split
 · rw [List.getElem?_drop]
 · rfl
theorem secOf_other {laid : List Int} {s t : Nat} {ys : List Int} (h : 256 * s + ys.length ≤ laid.length) (hy : ys.length ≤ 256) (hne : s ≠ t) : secOf (layAt laid s ys) t = secOf laid t := by
 apply List.ext_getElem?
 intro j
 rw [secOf_get, secOf_get]
 split
 · rw [layAt_get h, if_neg (by omega)]
 · rfl
theorem secOf_same {laid : List Int} {s : Nat} {ys : List Int} (h : 256 * s + 256 ≤ laid.length) (hy : ys.length ≤ 256) : secOf (layAt laid s ys) s = ys ++ (secOf laid s).drop ys.length := by
 apply List.ext_getElem?
 intro j
 rw [secOf_get]
 rcases Nat.lt_or_ge j ys.length with h1 | h1
 · rw [if_pos (by omega), layAt_get (by omega), if_pos (by omega), List.getElem?_append_left h1]
   congr 1; omega
 · rw [List.getElem?_append_right h1, List.getElem?_drop, secOf_get]
   split
   · rw [layAt_get (by omega), if_neg (by omega), if_pos (by omega)]
     congr 1; omega
   · rw [if_neg (by omega)]
theorem layW_succ (laid : List Int) (ws : List (Nat × List Int)) (keep : Nat → Int) (i : Nat) : layW laid ws keep (i + 1) = layAt (layW laid ws keep i) (ws.getD i (0, [])).1 ((ws.getD i (0, [])).2.take (clamp (keep i))) := by
 simp [layW, List.range_succ]
theorem layW_length {n : Nat} {laid : List Int} {ws : List (Nat × List Int)} (hn : laid.length = 256 * n) (hw : ∀ q ∈ ws, q.1 < n ∧ q.2.length = 256) (keep : Nat → Int) (i : Nat) (hi : i ≤ ws.length) : (layW laid ws keep i).length = laid.length := by
 induction i with
 | zero => rfl
 | succ i ih =>
   have hq : ws.getD i (0, []) ∈ ws := by simp [List.getD, show i < ws.length by omega]
   obtain ⟨h1, h2⟩ := hw _ hq
   have hl : ((ws.getD i (0, [])).2.take (clamp (keep i))).length ≤ 256 := by have := clamp_le (keep i); simp; omega
   rw [layW_succ, layAt_length (by rw [ih (by omega)]; omega), ih (by omega)]
theorem secOf_layW {n t : Nat} {laid : List Int} {ws : List (Nat × List Int)} (hn : laid.length = 256 * n) (hw : ∀ q ∈ ws, q.1 < n ∧ q.2.length = 256) (hne : ∀ q ∈ ws, q.1 ≠ t) (keep : Nat → Int) (i : Nat) (hi : i ≤ ws.length) : secOf (layW laid ws keep i) t = secOf laid t := by
 induction i with
 | zero => rfl
 | succ i ih =>
   have hq : ws.getD i (0, []) ∈ ws := by simp [List.getD, show i < ws.length by omega]
   obtain ⟨h1, h2⟩ := hw _ hq
   have hl : ((ws.getD i (0, [])).2.take (clamp (keep i))).length ≤ 256 := by have := clamp_le (keep i); simp; omega
   rw [layW_succ, secOf_other (by rw [layW_length hn hw keep i (by omega)]; omega) hl (hne _ hq), ih (by omega)]
theorem readW_none {laid : List Int} {ws : List (Nat × List Int)} {t : Nat} (hne : ∀ q ∈ ws, q.1 ≠ t) : readW laid ws t = secOf laid t := by
 unfold readW
 have : ws.reverse.find? (fun q => q.1 == t) = none := by
  rw [List.find?_eq_none]
  intro q hq
  simpa using hne q (by simpa using hq)
 rw [this]; rfl
structure Kept (S : DS) (t : Nat) (xs : List Int) : Prop where
 off : S.off = false
 fused : S.fused = false
 len : S.laid.length = 4096
 sec : secOf S.laid t = xs
 ne : ∀ q ∈ S.ws, q.1 ≠ t
theorem Kept.read {S : DS} {t : Nat} {xs : List Int} (h : Kept S t xs) (ht : t < 16) : S.read (t : Int) = (xs, 0) := by
 unfold DS.read
 rw [if_neg (by rw [h.off]; decide), if_neg (by have := h.len; simp [DS.has]; omega)]
 simp only [Int.toNat_natCast]
 rw [readW_none h.ne, h.sec]
theorem Kept.write {S : DS} {t : Nat} {xs : List Int} (h : Kept S t xs) (i : Int) (hi : i ≠ (t : Int)) (ys : List Int) : Kept (S.write i ys).1 t xs := by
 unfold DS.write
 rw [if_neg (by rw [h.off]; decide)]
 split
 · exact h
 · rename_i hh
   have hh' : S.has i ∧ ys.length = 256 := by simpa using hh
   split
   · refine ⟨h.off, h.fused, h.len, h.sec, fun q hq => ?_⟩
     rcases List.mem_append.1 hq with hq | hq
     · exact h.ne q hq
     · simp at hq
       subst hq
       have := hh'.1.1
       simp only
       omega
   · rename_i hm
     exact absurd (by unfold may; rw [h.fused]; rfl) hm
theorem Kept.flush {S : DS} {t n : Nat} {xs : List Int} (h : Kept S t xs) (hok : S.Ok n) : Kept S.flush.1 t xs := by
 unfold DS.flush
 rw [if_neg (by rw [h.off]; decide), if_pos (by unfold may; rw [h.fused]; rfl)]
 have hw : ∀ q ∈ S.ws, q.1 < n ∧ q.2.length = 256 := fun q hq => ⟨(hok.ws q hq).1, (hok.ws q hq).2.1⟩
 refine ⟨h.off, h.fused, ?_, ?_, fun q hq => by simp at hq⟩
 · simp only; rw [layW_length hok.len hw _ _ (Nat.le_refl _)]; exact h.len
 · simp only; rw [secOf_layW hok.len hw h.ne _ _ (Nat.le_refl _)]; exact h.sec
theorem Kept.crash {S : DS} {t n : Nat} {xs : List Int} (h : Kept S t xs) (hok : S.Ok n) (ks : List Int) : Kept (S.crash ks) t xs := by
 unfold DS.crash
 have hw : ∀ q ∈ S.ws, q.1 < n ∧ q.2.length = 256 := fun q hq => ⟨(hok.ws q hq).1, (hok.ws q hq).2.1⟩
 refine ⟨rfl, rfl, ?_, ?_, fun q hq => by simp at hq⟩
 · simp only; rw [layW_length hok.len hw _ _ (by omega)]; exact h.len
 · simp only; rw [secOf_layW hok.len hw h.ne _ _ (by omega)]; exact h.sec
theorem flush_len (S : DS) : S.flush.1.ws.length ≤ S.ws.length := by
 unfold DS.flush DS.dead
 repeat' split
 all_goals simp
end Go.Proofs.YthbldjnpnligpaaDoor

/-
 Numbers and bytes that came in.
-/

namespace Go.Proofs.YthbldjnpnligpaaDoor
set_option linter.unusedSimpArgs false
set_option linter.unusedVariables false
set_option maxRecDepth 100000
open Go.RowKit Go.ChangeShapes Go.WideShapes
section
variable {H : Type} {enc : TypeId × Value → H} {W : World} {base : Nat}
theorem open_bs {fuel : Nat} {held : Bool} {cs : List Value} {x : DataW H × List MemPlace} (h : DataW.trod enc Tryd.prog W base (fun _ => true) held fuel 43 cs = some x) :
 ∃ a c xs, cs = [.slice a (List.length xs) c] ∧ Bs W a c xs := by
 have hr : ∃ a len cap zs, cs = [.slice a len cap] ∧ IsRow .u8 W a len cap zs := by
  rcases open_ints Tryd.underlying43 Tryd.underlying5 (by kernel_rfl) h with ⟨hcs, _⟩ | ⟨x, l, c, zs, hcs, _, hl, hm, hz, _, hcell, hwz⟩
  · exact ⟨none, 0, 0, [], by simpa using hcs, .inl ⟨rfl, rfl, rfl, rfl⟩⟩
  · exact ⟨some x, l, c, zs, hcs, .inr ⟨_, rfl, hl, hm, by simpa using hz, hcell, hwz⟩⟩
 obtain ⟨a, len, cap, zs, hcs, hr⟩ := hr
 obtain ⟨xs, rfl, hB⟩ := came hr
 exact ⟨a, cap, xs, hcs, hB⟩
theorem take1 {α : Type} {l : List α} {i : Nat} {x : α} (h : (l.drop i).take 1 = [x]) : l[i]? = some x := by
 have := congrArg (·[0]?) h
 simpa [List.getElem?_take, List.getElem?_drop] using this
end
end Go.Proofs.YthbldjnpnligpaaDoor

/-
 The walk of the law DiskFlushed.
-/

namespace Go.Proofs.YthbldjnpnligpaaDoor
set_option linter.unusedSimpArgs false
set_option linter.unusedVariables false
set_option maxRecDepth 100000
open Go.RowKit
def Fresh (B : Nat) (w : World) (k : Nat) : Prop := B ≤ k ∧ k < w.heap.size
def DkF (B : Nat) (w : World) (p : Nat) (S : DS) : Prop := Dk w (Fresh B w) p S
theorem DkF.stays {B : Nat} {w w' : World} {p : Nat} {S : DS} (h : DkF B w p S) (hb : Below w.heap.size w w') : DkF B w' p S :=
 (Dk.stays h hb).mono (fun k hk hl => ⟨hk.1, hl⟩)
theorem DkF.next {B : Nat} {w u w' : World} {p : Nat} {S' : DS} (h : Then (Fresh B w) u w' p S') (hB : B ≤ w.heap.size) (hu : w.heap.size ≤ u.heap.size) : DkF B w' p S' ∧ Below B u w' :=
 ⟨h.1.mono (fun k hk hl => ⟨by rcases hk with hk | hk; exact hk.1; omega, hl⟩), h.2.below (by omega) (fun k hk => hk.1)⟩
theorem Out.bs {base : Nat} {w : World} {a : Option Addr} {n c : Nat} {xs : List Int} (h : Out base w (.slice a n c) xs) (hr : ∀ x ∈ xs, 0 ≤ x ∧ x ≤ 255) : n = xs.length ∧ Bs w a c xs ∧ ∀ x, a = some x → base ≤ x.block := by
 obtain ⟨a', c', he, hb⟩ := Bs.of_owns h hr
 simp only [Value.slice.injEq] at he
 obtain ⟨rfl, rfl, rfl⟩ := he
 refine ⟨rfl, hb, ?_⟩
 rintro x rfl
 exact (World.ownsRow.lt h x.block rfl).1
theorem Out.form {base : Nat} {w : World} {v : Value} {xs : List Int} (h : Out base w v xs) : ∃ a c, v = .slice a xs.length c := by
 rcases h.2 with ⟨rfl, h0⟩ | ⟨g, cap, cur, rfl, _⟩
 · exact ⟨none, 0, by rw [h0]⟩
 · exact ⟨_, _, rfl⟩
theorem box_cells {w : World} {X : Nat} {x0 x1 x2 x3 x4 : Value} {t : TypeId} (h : Blk t w X [x0, x1, x2, x3, x4]) :
 w.cell? ⟨X, 0, none⟩ = some x0 ∧ w.cell? ⟨X, 1, none⟩ = some x1 ∧ w.cell? ⟨X, 2, none⟩ = some x2 ∧ w.cell? ⟨X, 3, none⟩ = some x3 ∧ w.cell? ⟨X, 4, none⟩ = some x4 :=
 ⟨h.cell 0, h.cell 1, h.cell 2, h.cell 3, h.cell 4⟩
end Go.Proofs.YthbldjnpnligpaaDoor
