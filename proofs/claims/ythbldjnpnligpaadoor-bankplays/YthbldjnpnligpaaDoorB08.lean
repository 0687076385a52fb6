/-
 A range over a function that is a method value (its receiver bound): the caller's law, for iterators that tell round by round what they need.
-/
import Derived.Test.YthbldjnpnligpaaDoorB03
import Derived.Test.YthbldjnpnligpaaDoorProg
import Derived.RangeFuncNested
import Derived.RangeFuncLeaves
import Derived.Shelf.Abstract
import Derived.WalkKit
import Derived.OwnWalkIn
import Derived.TacticsInMore
import Derived.LoopNIn
import Derived.LoopIn
namespace Go.Proofs.YthbldjnpnligpaaDoor
set_option linter.unusedSimpArgs false
set_option linter.unusedVariables false
set_option maxRecDepth 100000
open Go.RowKit
structure Aside (B : Nat) (w w' : World) : Prop where
 os : w'.os = w.os
 tape : w'.tape = w.tape
 output : w'.output = w.output
 size : w.heap.size ≤ w'.heap.size
 block : ∀ k, k < w.heap.size → (k < B ∨ ∃ o : Obj, w.heap[k]? = some o ∧ o.isCells = true) → w'.heap[k]? = w.heap[k]?
theorem Aside.of_below {B : Nat} {w w' : World} (h : Below w.heap.size w w') : Aside B w w' := ⟨h.os, h.tape, h.output, h.size, fun k hk _ => h.block k hk⟩
theorem Aside.put {B l : Nat} {w : World} {o : Obj} (o' : Obj) (hl : w.heap[l]? = some o) (hB : B ≤ l) (ho : o.isCells = false) : Aside B w (w.putObj l o') := by
 have hg := grownBy_putObj' w l o'
 refine ⟨rfl, rfl, rfl, hg.size, fun k hk h => hg.block k hk (fun e => ?_)⟩
 cases e
 rcases h with h | ⟨o1, h1, h2⟩
 · omega
 · rw [hl] at h1; cases h1; rw [ho] at h2; cases h2
theorem Aside.cell {B : Nat} {w w' : World} (h : Aside B w w') {p : Addr} {v : Value} (hc : w.cell? p = some v) : w'.cell? p = some v := by
 rw [World.cell?_of_block (w := w) (h.block p.block (World.block_lt_of_cell? w _ hc) (.inr (cells_of_cell hc)))]
 exact hc
theorem wide_fn (f : FuncId) : Fence.wide.fn f = True := eq_true trivial
theorem wide_depth : (Fence.wide.depth = none) = True := eq_true rfl
theorem round_fn (l : Nat) (f : FuncId) : (Fence.wide.inRound l).fn f = True := eq_true trivial
theorem round_depth (l : Nat) : ((Fence.wide.inRound l).depth = none) = True := eq_true rfl
def endOf (B : Nat) (I : World → Prop) (Ix : Code → World → Prop) (W : World) : Exit → Act → World → Prop
 | .normal, _, W' => KeepsFrom B W W' ∧ I W'
 | .ret, _, W' => KeepsFrom B W W' ∧ Ix .ret W'
 | .exit id, _, W' => KeepsFrom B W W' ∧ Ix (.exit id) W'
 | .goto t, _, W' => KeepsFrom B W W' ∧ Ix (.goto t) W'
 | .panic _, _, _ => False
 | .outgrown, _, _ => False
def Iter (P : Program) (g : Nat) (r : Value) (N : Nat) (encs : Nat → Array Value) (Nd : World → Prop) (W : World) : Prop :=
 ∀ (l : Nat) (J : Nat → World → Prop) (Jx : World → Prop), (∀ i W1, J i W1 → Nd W1) → (∀ i W1 W2, J i W1 → Below W1.heap.size W1 W2 → J i W2) →
   (∀ i W1, i < N → J i W1 → YieldAt Fence.wide 0 P l (encs i) W1 fun e W' => (e = .returned (.bool true) ∧ J (i + 1) W') ∨ (e = .returned (.bool false) ∧ Jx W')) →
   J 0 W → CallsIn Fence.wide 0 P g #[r, .func (.yield l) #[] #[]] W fun e W' => (∃ v, e = .returned v) ∧ (J N W' ∨ Jx W')
theorem wpIn_range_bound {P : Program} {g : Operand} {ps : Array Tmp} {assign body : Code} {Q : Exit → Act → World → Prop} {a : Act} {w : World} (gf : Nat) (r : Value)
 (hg : a.eval g = .func (.func gf) #[r] #[]) (eg : ∀ args w, (callFunc gf args).run P w = .ok (.enter gf args) w)
 (N : Nat) (encs : Nat → Array Value) (Nd : World → Prop) (hit : ∀ W, Nd W → Iter P gf r N encs Nd W) (hps : ∀ i, (encs i).size = ps.size)
 (I : Nat → World → Prop) (Ix : Code → World → Prop) (hNd : ∀ i W, I i W → Nd W)
 (hI : ∀ i W W', I i W → Aside w.heap.size W W' → I i W') (hIx : ∀ c W W', Ix c W → Aside w.heap.size W W' → Ix c W') (h0 : I 0 w)
 (hround : ∀ (l i : Nat) (W : World) (K : Act → World → Prop), i < N → I i W →
  (∀ a₁ w₁, KeepsFrom w.heap.size W w₁ → (∀ w₂, Aside w.heap.size w₁ w₂ → body.wpIn (Fence.wide.inRound l) 0 P (endOf w.heap.size (I (i + 1)) Ix w₂) a₁ w₂) → K a₁ w₁) →
  assign.wpIn (Fence.wide.inRound l) 0 P (Exit.then K (fun _ _ _ => False)) { tmps := (ps.zip (encs i)).foldl (fun t (p, v) => t.setIfInBounds p v) a.tmps, defers := [] } W)
 (hdone : ∀ W, I N W → W.heap[w.heap.size]? = some (.deferred (some [])) → Q .normal { a with defers := { target := .collected w.heap.size, args := #[] } :: a.defers } W)
 (hstop : ∀ (c : Code) (W : World), Ix c W → W.heap[w.heap.size]? = some (.deferred (some [])) → c.wpIn Fence.wide 0 P Q { a with defers := { target := .collected w.heap.size, args := #[] } :: a.defers } W) :
 (Code.rangeFunc g ps assign body).wpIn Fence.wide 0 P Q a w := by
 refine wpIn_rangeFunc ?_
 intro fn hfn
 obtain ⟨B, hB⟩ : ∃ B, B = w.heap.size := ⟨_, rfl⟩
 obtain ⟨rec, hrec⟩ : ∃ rec : LoopState → Option Code → Loop, rec = fun st pe => { state := st, pending := pe, fn, tmps := a.tmps, params := ps, assign, body, defers := w.heap.size } := ⟨_, rfl⟩
 obtain ⟨W1, hW1⟩ : ∃ W1, (w.alloc (.deferred (some []))).alloc (.loop (rec .ready none)) = W1 := ⟨_, rfl⟩
 have hbel : Below w.heap.size w W1 := by rw [← hW1]; exact ((Below.refl _ w).alloc (Nat.le_refl _) _).alloc (by simp) _
 have hl1 : W1.heap[w.heap.size + 1]? = some (.loop (rec .ready none)) := by
  rw [← hW1]; have := World.alloc_heap_new (w.alloc (.deferred (some []))) (.loop (rec .ready none)); rwa [World.size_alloc] at this
 have hd1 : W1.heap[w.heap.size]? = some (.deferred (some [])) := by
  rw [← hW1]; exact (Below.heap_alloc _ _ _ (by simp)).trans (World.alloc_heap_new w _)
 have hkeep : ∀ {X Y : World} {k : Nat} {o : Obj}, Below X.heap.size X Y → X.heap[k]? = some o → Y.heap[k]? = some o := fun hb hk => (hb.block _ (Array.getElem?_eq_some_iff.1 hk).1).trans hk
 refine ⟨w.heap.size + 1, [{ target := .collected w.heap.size, args := #[] }], W1, { target := .fn (.func gf) #[], args := #[r, .func (.yield (w.heap.size + 1)) #[] #[]] }, W1, gf,
  #[r, .func (.yield (w.heap.size + 1)) #[] #[]], W1, ?_, ?_, fun _ _ => trivial, ?_, fun h => (by cases h), ?_⟩
 · rw [← hW1, hrec]; exact run_enterLoop_outer _ _ _ _ _
 · simp only [resolve, hg]
   simp [go_sem]
 · simp [invoke, go_sem, eg]
 refine (hit W1 (hNd 0 _ (hI 0 _ _ h0 (Aside.of_below hbel))) (w.heap.size + 1)
  (fun i W => I i W ∧ W.heap[w.heap.size + 1]? = some (.loop (rec .ready none)) ∧ W.heap[w.heap.size]? = some (.deferred (some [])))
  (fun W => ∃ c, Ix c W ∧ W.heap[w.heap.size + 1]? = some (.loop (rec .done (some c))) ∧ W.heap[w.heap.size]? = some (.deferred (some [])))
  (fun i W h => hNd i W h.1) (fun i X Y h hb => ⟨hI i _ _ h.1 (Aside.of_below hb), hkeep hb h.2.1, hkeep hb h.2.2⟩) ?_ ⟨hI 0 _ _ h0 (Aside.of_below hbel), hl1, hd1⟩).mono ?_
 · rintro i W hi ⟨hIi, hl, hd⟩
   have hy := run_yield (P := P) (args := encs i) hl (by rw [hrec]; exact hps i)
   rw [hrec] at hy
   refine ⟨fn, _, assign, body, hy, roundIn_of_wpIn hfn (hround _ i W _ hi hIi ?_)⟩
   intro a₁ w₁ hk1 hbody
   have hl' := hk1.same _ _ (by omega) hl rfl
   have hd' := hk1.same _ _ (Nat.le_refl _) hd rfl
   refine ⟨_, run_beginRound hl' (by rw [hrec]), ?_⟩
   have hlt : w.heap.size + 1 < w₁.heap.size := (Array.getElem?_eq_some_iff.1 hl').1
   have hl2 : (w₁.putObj (w.heap.size + 1) (.loop { rec .ready none with state := .busy })).heap[w.heap.size + 1]? = some (.loop { rec .ready none with state := .busy }) := World.putObj_heap_same hlt
   have hd2 : (w₁.putObj (w.heap.size + 1) (.loop { rec .ready none with state := .busy })).heap[w.heap.size]? = some (.deferred (some [])) := (World.putObj_heap_other (by omega)).trans hd'
   refine wpIn_mono (hbody _ (Aside.put _ hl' (by omega) rfl)) ?_
   have fin : ∀ (jump : Option Code) (W3 : World), KeepsFrom w.heap.size (w₁.putObj (w.heap.size + 1) (.loop { rec .ready none with state := .busy })) W3 →
        ∃ W4, (Instr.endRound (w.heap.size + 1) jump).run P W3 = .ok (.bool jump.isNone) W4 ∧ Aside w.heap.size W3 W4 ∧
          W4.heap[w.heap.size + 1]? = some (.loop (rec (if jump.isNone then .ready else .done) jump)) ∧ W4.heap[w.heap.size]? = some (.deferred (some [])) := fun jump W3 hk3 => by
    have hl3 := hk3.same _ _ (by omega) hl2 rfl
    have hd3 := hk3.same _ _ (Nat.le_refl _) hd2 rfl
    have h := run_endRound (P := P) jump hl3
    refine ⟨_, h, Aside.put _ hl3 (by omega) rfl, ?_, (World.putObj_heap_other (by omega)).trans hd3⟩
    rw [World.putObj_heap_same (Array.getElem?_eq_some_iff.1 hl3).1, hrec]
   intro e a3 W3 hp
   cases e with
   | normal =>
     obtain ⟨W4, hr, hA, h1, h2⟩ := fin none W3 hp.1
     exact ⟨_, _, hr, .inl ⟨rfl, hI _ _ _ hp.2 hA, h1, h2⟩⟩
   | ret =>
     obtain ⟨W4, hr, hA, h1, h2⟩ := fin (some .ret) W3 hp.1
     exact ⟨_, _, hr, .inr ⟨rfl, .ret, hIx _ _ _ hp.2 hA, h1, h2⟩⟩
   | exit id =>
     obtain ⟨W4, hr, hA, h1, h2⟩ := fin (some (.exit id)) W3 hp.1
     exact ⟨_, _, hr, .inr ⟨rfl, .exit id, hIx _ _ _ hp.2 hA, h1, h2⟩⟩
   | goto t =>
     obtain ⟨W4, hr, hA, h1, h2⟩ := fin (some (.goto t)) W3 hp.1
     exact ⟨_, _, hr, .inr ⟨rfl, .goto t, hIx _ _ _ hp.2 hA, h1, h2⟩⟩
   | panic ch => exact hp.elim
   | outgrown => exact hp.elim
 · rintro e W2 ⟨⟨v, rfl⟩, (⟨hi, hl, hd⟩ | ⟨c, hi, hl, hd⟩)⟩
   · exact ⟨none, _, by have := run_endLoop (P := P) hl (by rw [hrec]; simp); rw [hrec] at this; exact this, hdone _ (hI _ _ _ hi (Aside.put _ hl (by omega) rfl)) ((World.putObj_heap_other (by omega)).trans hd)⟩
   · exact ⟨some c, _, by have := run_endLoop (P := P) hl (by rw [hrec]; simp); rw [hrec] at this; exact this, hstop c _ (hIx _ _ _ hi (Aside.put _ hl (by omega) rfl)) ((World.putObj_heap_other (by omega)).trans hd)⟩
end Go.Proofs.YthbldjnpnligpaaDoor

/-
 Package disk: a disk in memory, and its small functions.
-/

namespace Go.Proofs.YthbldjnpnligpaaDoor
set_option linter.unusedSimpArgs false
set_option linter.unusedVariables false
set_option maxRecDepth 100000
open Go.RowKit
structure Buf where
 at' : Nat
 xs : List Int
 blk : Nat
 cap : Nat
def Buf.slice (f : Buf) : Value := .slice (some ⟨f.blk, 0, none⟩) f.xs.length f.cap
def Buf.cells (f : Buf) : List Value := [.int .i64 (f.at' : Int), f.slice]
structure BufAt (w : World) (f : Buf) : Prop where
 blk : ∃ cs, w.heap[f.blk]? = some (.cells cs 5 (0, 0))
 bs : Bs w (some ⟨f.blk, 0, none⟩) f.cap f.xs
 len : f.xs.length = 256
structure DkAt (w : World) (p bl : Nat) (v : Value) (bufs : List Buf) (laid : List Int) (off fused : Bool) (left : Nat) : Prop where
 blk : Blk 131 w p [.slice (some ⟨bl, 0, none⟩) laid.length laid.length, v, .bool off, .bool fused, .int .i64 (left : Int)]
 row : Row 5 w bl laid
 own : w.ownsRow 0 159 2 v bufs.length (bufs.flatMap Buf.cells)
 buf : ∀ f ∈ bufs, BufAt w f ∧ f.blk ≠ bl ∧ 256 * f.at' + 256 ≤ laid.length
 rng : ∀ x ∈ laid, 0 ≤ x ∧ x ≤ 255
 siz : ∃ n, laid.length = 256 * n ∧ 16 ≤ n ∧ n ≤ 512
 lft : left < 9223372036854775808
def Foot (p bl : Nat) (v : Value) (bufs : List Buf) (k : Nat) : Prop := k = p ∨ k = bl ∨ v.ownBlock = some k ∨ ∃ f ∈ bufs, f.blk = k
theorem BufAt.keep {w w' : World} {f : Buf} (h : BufAt w f) (hk : w'.heap[f.blk]? = w.heap[f.blk]?) : BufAt w' f := by
 obtain ⟨h1, h2, h3⟩ := h
 refine ⟨by rw [hk]; exact h1, ⟨h2.rng, h2.cap, h2.capm, h2.nul, ?_⟩, h3⟩
 rcases h2.lay with h0 | ⟨b, off, ha, hc⟩
 · exact .inl h0
 · refine .inr ⟨b, off, ha, fun i hi => ?_⟩
   simp at ha
   obtain ⟨rfl, rfl⟩ := ha
   rw [World.cell?_of_block (w := w) hk]
   exact hc i hi
theorem owns_keep {w w' : World} {base : Nat} {e : TypeId} {s : Nat} {v : Value} {n : Nat} {xs : List Value} (h : w.ownsRow base e s v n xs) (hk : ∀ k, v.ownBlock = some k → w'.heap[k]? = w.heap[k]?) : w'.ownsRow base e s v n xs := by
 obtain ⟨h1, h2⟩ := h
 refine ⟨h1, ?_⟩
 rcases h2 with h2 | ⟨g, cap, cur, rfl, hb, hh, rest⟩
 · exact .inl h2
 · exact .inr ⟨g, cap, cur, rfl, hb, by rw [hk g rfl]; exact hh, rest⟩
theorem DkAt.keep {w w' : World} {p bl : Nat} {v : Value} {bufs : List Buf} {laid : List Int} {off fused : Bool} {left : Nat} (h : DkAt w p bl v bufs laid off fused left)
 (hk : ∀ k, Foot p bl v bufs k → w'.heap[k]? = w.heap[k]?) : DkAt w' p bl v bufs laid off fused left := by
 refine ⟨?_, ?_, owns_keep h.own (fun k e => hk k (.inr (.inr (.inl e)))), fun f hf => ⟨(h.buf f hf).1.keep (hk _ (.inr (.inr (.inr ⟨f, hf, rfl⟩)))), (h.buf f hf).2⟩, h.rng, h.siz, h.lft⟩
 · have := h.blk; unfold Blk at *; rw [hk p (.inl rfl)]; exact this
 · have := h.row; unfold Row at *; rw [hk bl (.inr (.inl rfl))]; exact this
theorem DkAt.foot_lt {w : World} {p bl : Nat} {v : Value} {bufs : List Buf} {laid : List Int} {off fused : Bool} {left : Nat} (h : DkAt w p bl v bufs laid off fused left) : ∀ k, Foot p bl v bufs k → k < w.heap.size := by
 rintro k (rfl | rfl | e | ⟨f, hf, rfl⟩)
 · exact h.blk.lt
 · exact h.row.lt
 · exact (h.own.lt k e).2
 · obtain ⟨cs, hc⟩ := (h.buf f hf).1.blk
   exact (Array.getElem?_eq_some_iff.1 hc).1
theorem DkAt.stays {w w' : World} {p bl : Nat} {v : Value} {bufs : List Buf} {laid : List Int} {off fused : Bool} {left : Nat} (h : DkAt w p bl v bufs laid off fused left) (hb : Below w.heap.size w w') : DkAt w' p bl v bufs laid off fused left :=
 h.keep (fun k hk => hb.block k (h.foot_lt k hk))
theorem DkAt.drew {w : World} {p bl : Nat} {v : Value} {bufs : List Buf} {laid : List Int} {off fused : Bool} {left : Nat} (h : DkAt w p bl v bufs laid off fused left) : DkAt w.drew p bl v bufs laid off fused left := h.keep (fun _ _ => rfl)
theorem own_type {w : World} {base : Nat} {e : TypeId} {s : Nat} {v : Value} {n : Nat} {xs : List Value} (h : w.ownsRow base e s v n xs) {k : Nat} (hv : v.ownBlock = some k) : ∃ cs, w.heap[k]? = some (.cells cs e (0, 0)) := by
 rcases h.2 with ⟨rfl, _⟩ | ⟨g, cap, cur, rfl, hb, hh, rest⟩
 · cases hv
 · simp [Value.ownBlock] at hv; subst hv; exact ⟨_, hh⟩
theorem DkAt.p_ne_bl {w : World} {p bl : Nat} {v : Value} {bufs : List Buf} {laid : List Int} {off fused : Bool} {left : Nat} (h : DkAt w p bl v bufs laid off fused left) : p ≠ bl := by
 rintro rfl
 have h1 := h.blk
 have h2 := h.row
 unfold Blk at h1; unfold Row at h2
 rw [h1] at h2; simp at h2
theorem DkAt.p_ne_v {w : World} {p bl : Nat} {v : Value} {bufs : List Buf} {laid : List Int} {off fused : Bool} {left : Nat} (h : DkAt w p bl v bufs laid off fused left) {k : Nat} (hk : v.ownBlock = some k) : k ≠ p := by
 rintro rfl
 obtain ⟨cs, h2⟩ := own_type h.own hk
 have h1 := h.blk
 unfold Blk at h1
 rw [h1] at h2; simp at h2
theorem DkAt.bl_ne_v {w : World} {p bl : Nat} {v : Value} {bufs : List Buf} {laid : List Int} {off fused : Bool} {left : Nat} (h : DkAt w p bl v bufs laid off fused left) {k : Nat} (hk : v.ownBlock = some k) : k ≠ bl := by
 rintro rfl
 obtain ⟨cs, h2⟩ := own_type h.own hk
 have h1 := h.row
 unfold Row at h1
 rw [h1] at h2; simp at h2
theorem DkAt.p_ne_buf {w : World} {p bl : Nat} {v : Value} {bufs : List Buf} {laid : List Int} {off fused : Bool} {left : Nat} (h : DkAt w p bl v bufs laid off fused left) {f : Buf} (hf : f ∈ bufs) : f.blk ≠ p := by
 rintro rfl
 obtain ⟨cs, h2⟩ := (h.buf f hf).1.blk
 have h1 := h.blk
 unfold Blk at h1
 rw [h1] at h2; simp at h2
theorem DkAt.v_ne_buf {w : World} {p bl : Nat} {v : Value} {bufs : List Buf} {laid : List Int} {off fused : Bool} {left : Nat} (h : DkAt w p bl v bufs laid off fused left) {f : Buf} (hf : f ∈ bufs) {k : Nat} (hk : v.ownBlock = some k) : f.blk ≠ k := by
 rintro rfl
 obtain ⟨cs, h2⟩ := (h.buf f hf).1.blk
 obtain ⟨cs', h1⟩ := own_type h.own hk
 rw [h1] at h2; simp at h2
theorem DkAt.fields {w : World} {p bl : Nat} {v : Value} {bufs : List Buf} {laid : List Int} {off fused : Bool} {left : Nat} (h : DkAt w p bl v bufs laid off fused left) :
 w.cell? ⟨p, 0, none⟩ = some (.slice (some ⟨bl, 0, none⟩) laid.length laid.length) ∧ w.cell? ⟨p, 1, none⟩ = some v ∧ w.cell? ⟨p, 2, none⟩ = some (.bool off) ∧ w.cell? ⟨p, 3, none⟩ = some (.bool fused) ∧ w.cell? ⟨p, 4, none⟩ = some (.int .i64 (left : Int)) :=
 ⟨h.blk.cell 0, h.blk.cell 1, h.blk.cell 2, h.blk.cell 3, h.blk.cell 4⟩
theorem DkAt.slice {w : World} {p bl : Nat} {v : Value} {bufs : List Buf} {laid : List Int} {off fused : Bool} {left : Nat} (h : DkAt w p bl v bufs laid off fused left) : ∃ a c, v = .slice a bufs.length c := by
 rcases h.own.2 with ⟨rfl, h0⟩ | ⟨g, cap, cur, rfl, _⟩
 · exact ⟨none, 0, by rw [h0]⟩
 · exact ⟨_, _, rfl⟩
section
variable {p bl : Nat} {v : Value} {bufs : List Buf} {laid : List Int} {off fused : Bool} {left : Nat}
theorem down_run (w : World) (h : DkAt w p bl v bufs laid off fused left) : Calls Tryd.prog 88 #[.pointer (some ⟨p, 0, none⟩)] w fun e w' => e = .returned (.bool off) ∧ w' = w := by
 obtain ⟨h0, h1, h2, h3, h4⟩ := h.fields
 go_enter Tryd.func88, Tryd.ntmps88
 go_wp2
 go_ret
 exact ⟨rfl, rfl⟩
theorem len_run (w : World) (h : DkAt w p bl v bufs laid off fused left) : Calls Tryd.prog 135 #[.pointer (some ⟨p, 0, none⟩)] w fun e w' => e = .returned (.int .i64 ((laid.length / 256 : Nat) : Int)) ∧ w' = w := by
 obtain ⟨h0, h1, h2, h3, h4⟩ := h.fields
 obtain ⟨n, hn, hn1, hn2⟩ := h.siz
 rw [hn] at h0 ⊢
 go_enter Tryd.func135, Tryd.ntmps135
 go_wp2
 go_ret
 have : (256 * (n : Int)) / 256 = (n : Int) := by omega
 refine ⟨?_, rfl⟩
 simp [this]
theorem waits_run (w : World) (h : DkAt w p bl v bufs laid off fused left) : Calls Tryd.prog 16 #[.pointer (some ⟨p, 0, none⟩)] w fun e w' => e = .returned (.int .i64 (bufs.length : Int)) ∧ w' = w := by
 obtain ⟨h0, h1, h2, h3, h4⟩ := h.fields
 obtain ⟨a, c, rfl⟩ := h.slice
 go_enter Tryd.func16, Tryd.ntmps16
 go_wp2
 go_ret
 exact ⟨rfl, rfl⟩
theorem has_run (i : Int) (w : World) (h : DkAt w p bl v bufs laid off fused left) : Calls Tryd.prog 92 #[.pointer (some ⟨p, 0, none⟩), .int .i64 i] w fun e w' => e = .returned (.bool (decide (0 ≤ i ∧ i < ((laid.length / 256 : Nat) : Int)))) ∧ w' = w := by
 by_cases hi : 0 ≤ i
 · go_enter Tryd.func92, Tryd.ntmps92
   go_wp2_with (go_at_call 135; refine (len_run _ h).mono ?_; rintro e w' ⟨rfl, rfl⟩)
   go_ret
   refine ⟨?_, rfl⟩
   simp [hi]
 · go_enter Tryd.func92, Tryd.ntmps92
   go_wp2
   go_ret
   refine ⟨?_, rfl⟩
   have h1 : decide (0 ≤ i) = false := decide_eq_false (by omega)
   rw [h1]
   rfl
theorem sector_run (i : Nat) (w : World) (h : DkAt w p bl v bufs laid off fused left) (hi : 256 * i + 256 ≤ laid.length) :
 Calls Tryd.prog 93 #[.pointer (some ⟨p, 0, none⟩), .int .i64 (i : Int)] w fun e w' => e = .returned (.slice (some ⟨bl, 256 * i, none⟩) 256 (laid.length - 256 * i)) ∧ w' = w := by
 obtain ⟨h0, h1, h2, h3, h4⟩ := h.fields
 obtain ⟨n, hn, hn1, hn2⟩ := h.siz
 go_enter Tryd.func93, Tryd.ntmps93
 go_wp2
 go_ret
 refine ⟨?_, rfl⟩
 have e1 : (i + 1) * 256 - i * 256 = 256 := by omega
 have e2 : 256 * i = i * 256 := by omega
 rw [e2, hn, e1]
 rfl
end
end Go.Proofs.YthbldjnpnligpaaDoor

/-
 Package disk: the fuse; bytes.Clone; a disk whose fields change.
-/

namespace Go.Proofs.YthbldjnpnligpaaDoor
set_option linter.unusedSimpArgs false
set_option linter.unusedVariables false
set_option maxRecDepth 100000
open Go.RowKit
theorem But.keeps {g : Nat} {w w' : World} (hb : But g w w') {k : Nat} (hne : k ≠ g) {o : Obj} (h : w.heap[k]? = some o) : w'.heap[k]? = w.heap[k]? := hb.block k hne (Array.getElem?_eq_some_iff.1 h).1
section
variable {w w' : World} {p bl : Nat} {v : Value} {bufs : List Buf} {laid : List Int} {off fused : Bool} {left : Nat}
theorem DkAt.flags (h : DkAt w p bl v bufs laid off fused left) {off' fused' : Bool} {left' : Nat} (hl : left' < 9223372036854775808) (hb : But p w w')
 (hk : Blk 131 w' p [.slice (some ⟨bl, 0, none⟩) laid.length laid.length, v, .bool off', .bool fused', .int .i64 (left' : Int)]) : DkAt w' p bl v bufs laid off' fused' left' := by
 have hpb := h.p_ne_bl
 refine ⟨hk, ?_, owns_keep h.own (fun k e => ?_), fun f hf => ⟨(h.buf f hf).1.keep ?_, (h.buf f hf).2⟩, h.rng, h.siz, hl⟩
 · have h1 := h.row
   unfold Row at *
   rw [hb.keeps (Ne.symm hpb) h1]; exact h1
 · obtain ⟨cs, hc⟩ := own_type h.own e
   exact hb.keeps (h.p_ne_v e) hc
 · obtain ⟨cs, hc⟩ := (h.buf f hf).1.blk
   exact hb.keeps (h.p_ne_buf hf) hc
theorem DkAt.clear (h : DkAt w p bl v bufs laid off fused left) {off' fused' : Bool} {left' : Nat} (hl : left' < 9223372036854775808) (hb : But p w w')
 (hk : Blk 131 w' p [.slice (some ⟨bl, 0, none⟩) laid.length laid.length, .slice none 0 0, .bool off', .bool fused', .int .i64 (left' : Int)]) : DkAt w' p bl (.slice none 0 0) [] laid off' fused' left' := by
 have hpb := h.p_ne_bl
 refine ⟨hk, ?_, World.ownsRow_nil _ _ _ _, fun f hf => by simp at hf, h.rng, h.siz, hl⟩
 have h1 := h.row
 unfold Row at *
 rw [hb.keeps (Ne.symm hpb) h1]; exact h1
theorem DkAt.free (h : DkAt w p bl v bufs laid off fused left) (k : Nat) : w.frozen? ⟨p, k, none⟩ = false := h.blk.free k
end
section
variable {p bl : Nat} {v : Value} {bufs : List Buf} {laid : List Int} {off fused : Bool} {left : Nat}
def may (fused : Bool) (left : Nat) : Bool := !(fused && left == 0)
theorem spend_run (w : World) (hD : DkAt w p bl v bufs laid false fused left) :
 Calls Tryd.prog 89 #[.pointer (some ⟨p, 0, none⟩)] w fun e w' => e = .returned (.bool (may fused left)) ∧ DkAt w' p bl v bufs laid (!may fused left) fused (if fused then left - 1 else left) ∧ But p w w' := by
 obtain ⟨h0, h1, h2, h3, h4⟩ := hD.fields
 have f2 := hD.free 2
 have f4 := hD.free 4
 have hl := hD.lft
 cases fused with
 | false =>
   go_enter Tryd.func89, Tryd.ntmps89
   go_wp2
   go_ret
   exact ⟨rfl, hD, But.refl _ _⟩
 | true =>
   by_cases hz : left = 0
   · subst hz
     go_enter Tryd.func89, Tryd.ntmps89
     go_wp2
     go_ret
     exact ⟨rfl, hD.flags (by omega) ((But.refl _ _).setCell _ _) (hD.blk.set 2 _), (But.refl _ _).setCell _ _⟩
   · have hz' : (((left : Nat) : Int) == 0) = false := by simp; omega
     have e1 : (left : Int) - 1 = ((left - 1 : Nat) : Int) := by omega
     go_enter Tryd.func89, Tryd.ntmps89
     go_wp2
     go_ret
     have hm : may true left = true := by simp [may, hz]
     rw [hm]
     exact ⟨rfl, hD.flags (by omega) ((But.refl _ _).setCell _ _) (e1 ▸ hD.blk.set 4 _), (But.refl _ _).setCell _ _⟩
theorem eql_nil (ad : Addr) (n c : Nat) (w : World) : (binOp .eql 43 (.slice (some ad) n c) (.slice none 0 0)).run Tryd.prog w = .ok (.bool false) w := by
 simp only [binOp]
 simp [run_equal_slice_nil w 43 5 (some ad) n c Tryd.underlying43]
theorem clone_run (ad : Addr) (c : Nat) (xs : List Int) (w : World) (hB : Bs w (some ad) c xs) (hx : xs.length ≤ 1000000) (hx0 : 0 < xs.length) :
 Calls Tryd.prog 67 #[.slice (some ad) xs.length c] w fun e w' => ∃ g cap, e = .returned (.slice (some ⟨g, 0, none⟩) xs.length cap) ∧ w'.ownsRow w.heap.size 5 1 (.slice (some ⟨g, 0, none⟩) xs.length cap) xs.length (xs.map (Value.int .u8)) ∧ Below w.heap.size w w' := by
 have hi : (Tryd.prog.info? 5).map (fun i => (i.zero, i.size, i.bytes)) = some (some (.int .u8 0), 1, 1) := by kernel_rfl
 obtain ⟨i0, hi0, hz0, hz1, hz2⟩ := info_parts hi
 have hnil := eql_nil ad xs.length c
 go_enter Tryd.func67, Tryd.ntmps67
 go_wp2_with (at_builtin; go_must (refine wpList_append_bytes (w0 := w) (by rfl) (.tmp 5) (.tmp 6) 43 (by rfl) w.heap.size 5 i0 Tryd.underlying43 hi0 hz0 hz1 hz2 _ [] (by rfl) (World.ownsRow_made w #[] 0 (Nat.le_refl _) (by decide) rfl) (some ad) xs.length c xs (by rfl) (by rfl) (hB.stays ((Below.refl _ _).alloc (Nat.le_refl _) _)) (by simp; omega) (by simp) ((Below.refl _ _).alloc (Nat.le_refl _) _) ?_); intro v1 w1 hown1 hb1)
 go_ret
 rw [List.nil_append] at hown1
 rcases hown1.2 with ⟨_, h0⟩ | ⟨g, cap, cur, rfl, _⟩
 · omega
 · exact ⟨g, cap, rfl, hown1, hb1⟩
end
end Go.Proofs.YthbldjnpnligpaaDoor
