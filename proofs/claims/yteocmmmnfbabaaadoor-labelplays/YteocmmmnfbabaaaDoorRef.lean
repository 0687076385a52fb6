/-
  The document's disk: plain lists of strings; spend, Fuse, Put.
-/
import Derived.Test.YteocmmmnfbabaaaDoorWBase
namespace Go.Proofs.YteocmmmnfbabaaaDoor
set_option linter.unusedSimpArgs false
set_option linter.unusedVariables false
open Go.RowKit

/-- Strings behind a slice, in a block of G. -/
def SsAt (w : World) (G : Nat → Prop) (a : Option Addr) (xs : List ByteArray) : Prop :=
  ∃ b off, a = some ⟨b, off, none⟩ ∧ G b ∧ ∀ i, i < xs.length → w.cell? ⟨b, off + i, none⟩ = some (.string (xs.getD i .empty))

/-- Waiting writes behind a slice, in a block of G. -/
def WsAt (w : World) (G : Nat → Prop) (a : Option Addr) (c : Nat) (ws : List (Nat × List Int)) : Prop :=
  (ws = [] ∧ (a = none → c = 0)) ∨ ∃ b off, a = some ⟨b, off, none⟩ ∧ G b ∧ ∀ i, i < ws.length → w.cell? ⟨b, off + 2 * i, none⟩ = some (.int .i64 ((ws.getD i (0, [])).1 : Int)) ∧ w.cell? ⟨b, off + 2 * i + 1, none⟩ = some (.string (strOfNums (ws.getD i (0, [])).2))

def secStrs (laid : List Int) (n : Nat) : List ByteArray := (List.range n).map fun i => strOfNums (secOf laid i)

/-- The cells of the document's disk. -/
def rcells (S : DS) (sa : Option Addr) (sc : Nat) (wa : Option Addr) (wc : Nat) (n : Nat) : List Value := [.slice sa n sc, .slice wa S.ws.length wc, .bool S.fused, .int .i64 (S.left : Int), .bool S.off]

/-- The document's disk, as it is seen from outside. -/
def Rf (w : World) (G : Nat → Prop) (cs : List Value) (S : DS) : Prop :=
  ∃ n sa sc wa wc, S.Ok n ∧ cs = rcells S sa sc wa wc n ∧ SsAt w G sa (secStrs S.laid n) ∧ WsAt w G wa wc S.ws

theorem SsAt.keep {w w' : World} {G G' : Nat → Prop} {a : Option Addr} {xs : List ByteArray} (h : SsAt w G a xs) (hx : 0 < xs.length) (hk : ∀ k, G k → k < w.heap.size → w'.heap[k]? = w.heap[k]? ∧ G' k) : SsAt w' G' a xs := by
  obtain ⟨b, off, rfl, hg, hc⟩ := h
  have hlt := World.block_lt_of_cell? _ _ (hc 0 hx)
  refine ⟨b, off, rfl, (hk b hg hlt).2, fun i hi => ?_⟩
  rw [World.cell?_of_block (w := w) (hk b hg hlt).1]
  exact hc i hi

theorem WsAt.keep {w w' : World} {G G' : Nat → Prop} {a : Option Addr} {c : Nat} {ws : List (Nat × List Int)} (h : WsAt w G a c ws) (hk : ∀ k, G k → k < w.heap.size → w'.heap[k]? = w.heap[k]? ∧ G' k) : WsAt w' G' a c ws := by
  rcases h with h | ⟨b, off, rfl, hg, hc⟩
  · exact .inl h
  · by_cases h0 : ws = []
    · exact .inl ⟨h0, by simp⟩
    · have hlt := World.block_lt_of_cell? _ _ (hc 0 (by cases ws; exact absurd rfl h0; simp)).1
      refine .inr ⟨b, off, rfl, (hk b hg hlt).2, fun i hi => ?_⟩
      have h1 : w'.cell? ⟨b, off + 2 * i, none⟩ = w.cell? ⟨b, off + 2 * i, none⟩ := World.cell?_of_block (hk b hg hlt).1
      have h2 : w'.cell? ⟨b, off + 2 * i + 1, none⟩ = w.cell? ⟨b, off + 2 * i + 1, none⟩ := World.cell?_of_block (hk b hg hlt).1
      rw [h1, h2]
      exact hc i hi

theorem Rf.keep {w w' : World} {G G' : Nat → Prop} {cs : List Value} {S : DS} (h : Rf w G cs S) (hk : ∀ k, G k → k < w.heap.size → w'.heap[k]? = w.heap[k]? ∧ G' k) : Rf w' G' cs S := by
  obtain ⟨n, sa, sc, wa, wc, hok, rfl, hs, hw⟩ := h
  exact ⟨n, sa, sc, wa, wc, hok, rfl, hs.keep (by have := hok.lo; simp [secStrs]; omega) hk, hw.keep hk⟩

theorem Rf.stays {w w' : World} {G : Nat → Prop} {cs : List Value} {S : DS} (h : Rf w G cs S) (hb : Below w.heap.size w w') : Rf w' G cs S := h.keep (fun k hg hl => ⟨hb.block k hl, hg⟩)

/-- What a call of the document's leaves. -/
def RThen (G : Nat → Prop) (w w' : World) (cs : List Value) (S : DS) : Prop := Rf w' (fun k => G k ∨ w.heap.size ≤ k) cs S ∧ Below w.heap.size w w'

theorem rthen_same {G : Nat → Prop} {w w' : World} {cs : List Value} {S : DS} (h : Rf w G cs S) (hb : Below w.heap.size w w') : RThen G w w' cs S :=
  ⟨h.keep (fun k hg hl => ⟨hb.block k hl, .inl hg⟩), hb⟩

/-- Flags alone turn. -/
theorem Rf.flags {w w' : World} {G G' : Nat → Prop} {S : DS} {sa : Option Addr} {sc : Nat} {wa : Option Addr} {wc n : Nat} (hok : S.Ok n) (hs : SsAt w G sa (secStrs S.laid n)) (hw : WsAt w G wa wc S.ws) {off fused : Bool} {left : Nat} (hl : left < 9223372036854775808) (hk : ∀ k, G k → k < w.heap.size → w'.heap[k]? = w.heap[k]? ∧ G' k) :
    Rf w' G' [.slice sa n sc, .slice wa S.ws.length wc, .bool fused, .int .i64 (left : Int), .bool off] { S with off := off, fused := fused, left := left } :=
  ⟨n, sa, sc, wa, wc, ⟨hok.len, hok.lo, hok.hi, hok.rng, hok.ws, hl⟩, rfl, hs.keep (by have := hok.lo; simp [secStrs]; omega) hk, hw.keep hk⟩

theorem results_blk_tmp {fn : Func} {p u : Tmp} {t e : TypeId} {g n : Nat} {us : List Value} (hf : fn.results = #[.cell p t, .tmp u]) (tmps : Array Value) (P : Program) (w : World) (hp : tmps.getD p undef = .pointer (some ⟨g, 0, none⟩))
    (hA : ∀ w, (isAgg t).run P w = .ok true w) (hZ : ∀ w, (sizeOf t).run P w = .ok n w) (hb : Blk e w g us) (hl : us.length = n) :
    (results fn tmps).run P w = .ok (.tuple #[.agg us.toArray, tmps.getD u undef]) w := by
  have hr := run_load_blk (P := P) (w := w) (off := 0) hA hZ hb (us := us) (by rw [List.drop_zero, List.take_of_length_le (by omega)]) hl
  simp only [Instr.loadAt, Instr.sureAddr, Sem.run_bind, Sem.run_pure, Result.andThen_ok] at hr
  rw [Array.getD_eq_getD_getElem?] at hp
  simp [results, hf, hp, asAddr, Sem.run_bind, hr]

theorem results_blk {fn : Func} {p : Tmp} {t e : TypeId} {g n : Nat} {us : List Value} (hf : fn.results = #[.cell p t]) (tmps : Array Value) (P : Program) (w : World) (hp : tmps.getD p undef = .pointer (some ⟨g, 0, none⟩))
    (hA : ∀ w, (isAgg t).run P w = .ok true w) (hZ : ∀ w, (sizeOf t).run P w = .ok n w) (hb : Blk e w g us) (hl : us.length = n) :
    (results fn tmps).run P w = .ok (.agg us.toArray) w := by
  have hr := run_load_blk (P := P) (w := w) (off := 0) hA hZ hb (us := us) (by rw [List.drop_zero, List.take_of_length_le (by omega)]) hl
  simp only [Instr.loadAt, Instr.sureAddr, Sem.run_bind, Sem.run_pure, Result.andThen_ok] at hr
  rw [Array.getD_eq_getD_getElem?] at hp
  simp [results, hf, hp, asAddr, Sem.run_bind, hr]

theorem rAgg (w : World) : (isAgg 48).run Tryd.prog w = .ok true w := isAgg_struct Tryd.underlying48 w
theorem rSize (w : World) : (sizeOf 48).run Tryd.prog w = .ok 5 w := sizeOf_run (by kernel_rfl) w

set_option maxRecDepth 100000 in
theorem rspend_run (sv wv : Value) (sa : Option Addr) (sn sc : Nat) (hsv : sv = .slice sa sn sc) (wa : Option Addr) (wn wc : Nat) (hwv : wv = .slice wa wn wc) (fused off : Bool) (left : Nat) (hl : left < 9223372036854775808) (w : World) :
    Calls Tryd.prog 55 #[.agg #[sv, wv, .bool fused, .int .i64 (left : Int), .bool off]] w fun e w' =>
      e = .returned (.tuple #[.agg #[sv, wv, .bool fused, .int .i64 ((if fused then left - 1 else left : Nat) : Int), .bool (if may fused left then off else true)], .bool (may fused left)]) ∧ Below w.heap.size w w' := by
  subst hsv hwv
  have hb : ∀ o o' : Obj, Below w.heap.size w ((w.alloc o).alloc o') := fun o o' => ((Below.refl _ _).alloc (Nat.le_refl _) _).alloc (by simp) _
  cases fused with
  | false =>
    go_enter Tryd.func55, Tryd.ntmps55
    go_wp2
    refine bodyPost_ret (results_blk_tmp rfl _ _ _ rfl rAgg rSize (Blk.newAt (by simp) rfl) rfl) rfl ?_
    exact ⟨rfl, hb _ _⟩
  | true =>
    by_cases hz : left = 0
    · subst hz
      go_enter Tryd.func55, Tryd.ntmps55
      go_wp2
      refine bodyPost_ret (results_blk_tmp rfl _ _ _ rfl rAgg rSize (Blk.newAt (by simp) rfl) rfl) rfl ?_
      exact ⟨rfl, hb _ _⟩
    · have hz' : (((left : Nat) : Int) == 0) = false := by simp; omega
      have hz'' : (((left : Nat) : Int) = 0) = False := eq_false (by omega)
      have hm : may true left = true := by simp [may, hz]
      rw [hm, if_pos rfl, if_pos rfl]
      have e1 : ((left - 1 : Nat) : Int) = (left : Int) - 1 := by omega
      rw [e1]
      go_enter Tryd.func55, Tryd.ntmps55
      go_wp2
      refine bodyPost_ret (results_blk_tmp rfl _ _ _ rfl rAgg rSize (Blk.newAt (by simp) rfl) rfl) rfl ?_
      exact ⟨rfl, hb _ _⟩

set_option maxRecDepth 100000 in
theorem rfuse_run {w : World} {G : Nat → Prop} {cs : List Value} {S : DS} (h : Rf w G cs S) (f : Int) (hf : f ≤ 9223372036854775807) :
    Calls Tryd.prog 19 #[.agg cs.toArray, .int .i64 f] w fun e w' => ∃ cs', e = .returned (.agg cs'.toArray) ∧ RThen G w w' cs' (S.fuse f) := by
  obtain ⟨n, sa, sc, wa, wc, hok, rfl, hs, hw⟩ := h
  unfold rcells
  have hb : ∀ o o' : Obj, Below w.heap.size w ((w.alloc o).alloc o') := fun o o' => ((Below.refl _ _).alloc (Nat.le_refl _) _).alloc (by simp) _
  have hfin : ∀ (o o' : Obj) (x : Int), x = ((max f 0).toNat : Int) → RThen G w ((w.alloc o).alloc o') [.slice sa n sc, .slice wa S.ws.length wc, .bool true, .int .i64 x, .bool S.off] (S.fuse f) := fun o o' x hx => by
    subst hx
    exact ⟨Rf.flags (sc := sc) (off := S.off) hok hs hw (by omega) (fun k hg hl => ⟨(hb o o').block k hl, .inl hg⟩), hb o o'⟩
  rcases (by omega : f < 0 ∨ 0 ≤ f) with h0 | h0
  · go_enter Tryd.func19, Tryd.ntmps19
    go_wp2
    refine bodyPost_ret (results_blk rfl _ _ _ rfl rAgg rSize (Blk.newAt (by simp) rfl) rfl) rfl ?_
    exact ⟨_, rfl, hfin _ _ _ (by omega)⟩
  · have h0' : ¬ (f < 0) := by omega
    go_enter Tryd.func19, Tryd.ntmps19
    go_wp2
    refine bodyPost_ret (results_blk rfl _ _ _ rfl rAgg rSize (Blk.newAt (by simp) rfl) rfl) rfl ?_
    exact ⟨_, rfl, hfin _ _ _ (by omega)⟩

end Go.Proofs.YteocmmmnfbabaaaDoor
