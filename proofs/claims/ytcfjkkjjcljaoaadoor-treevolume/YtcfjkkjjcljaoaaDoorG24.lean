/-
  Numbers and bytes that came in.
-/
import Derived.Test.YtcfjkkjjcljaoaaDoorG01
import Derived.Test.YtcfjkkjjcljaoaaDoorG09
import Derived.Test.YtcfjkkjjcljaoaaDoorG23
import Derived.Deep.Slices
import Derived.Deep.RegionHeldLaw
namespace Go.Proofs.YtcfjkkjjcljaoaaDoor
set_option linter.unusedSimpArgs false
set_option linter.unusedVariables false
set_option maxRecDepth 100000
open Go.RowKit Go.ChangeShapes Go.WideShapes

section
variable {H : Type} {enc : TypeId × Value → H} {W : World} {base : Nat}

theorem open_is {fuel : Nat} {held : Bool} {cs : List Value} {x : DataW H × List MemPlace} (h : DataW.trod enc Tryd.prog W base (fun _ => true) held fuel 74 cs = some x) :
    ∃ a c ks, cs = [.slice a (List.length ks) c] ∧ Is W a ks ∧ ks.length ≤ 9223372036854775807 := by
  rcases open_ints Tryd.underlying74 Tryd.underlying3 (by kernel_rfl) h with ⟨hcs, _⟩ | ⟨x, l, c, zs, hcs, _, hl, hm, hz, _, hcell, hwz⟩
  · exact ⟨none, 0, [], by simpa using hcs, .inl rfl, by simp⟩
  · simp at hz
    have hlen : (zs.take l).length = l := by simp; omega
    unfold maxLen at hm
    refine ⟨some x, c, zs.take l, by rw [hlen]; exact hcs, ?_, by omega⟩
    by_cases h0 : l = 0
    · exact .inl (by simp [h0])
    · right
      obtain ⟨b, off, spot⟩ := x
      have hc0 := hcell 0 (by omega)
      have hspot : spot = none := by simpa [Addr.add] using World.cell?_spot hc0
      subst hspot
      refine ⟨b, off, rfl, fun i hi => ?_⟩
      rw [hlen] at hi
      have hci := hcell i (by omega)
      have hpl : (⟨b, off, none⟩ : Addr).add i = ⟨b, off + i, none⟩ := by unfold Addr.add; split <;> simp_all
      rw [hpl] at hci
      rw [hci]
      simp [List.getD, List.getElem?_take, hi]

theorem open_bs {fuel : Nat} {held : Bool} {cs : List Value} {x : DataW H × List MemPlace} (h : DataW.trod enc Tryd.prog W base (fun _ => true) held fuel 43 cs = some x) :
    ∃ a c xs, cs = [.slice a (List.length xs) c] ∧ Bs W a c xs := by
  have hr : ∃ a len cap zs, cs = [.slice a len cap] ∧ IsRow .u8 W a len cap zs := by
    rcases open_ints Tryd.underlying43 Tryd.underlying5 (by kernel_rfl) h with ⟨hcs, _⟩ | ⟨x, l, c, zs, hcs, _, hl, hm, hz, _, hcell, hwz⟩
    · exact ⟨none, 0, 0, [], by simpa using hcs, .inl ⟨rfl, rfl, rfl, rfl⟩⟩
    · exact ⟨some x, l, c, zs, hcs, .inr ⟨_, rfl, hl, hm, by simpa using hz, hcell, hwz⟩⟩
  obtain ⟨a, len, cap, zs, hcs, hr⟩ := hr
  obtain ⟨xs, rfl, hB⟩ := came hr
  exact ⟨a, cap, xs, hcs, hB⟩

theorem take1 {α : Type} {l : List α} {i : Nat} {x : α} (h : (l.drop i).take 1 = [x]) : l[i]? = some x := by
  have := congrArg (·[0]?) h
  simpa [List.getElem?_take, List.getElem?_drop] using this

end

end Go.Proofs.YtcfjkkjjcljaoaaDoor

/-
  The walk of the law DiskFlushed.
-/

namespace Go.Proofs.YtcfjkkjjcljaoaaDoor
set_option linter.unusedSimpArgs false
set_option linter.unusedVariables false
set_option maxRecDepth 100000
open Go.RowKit

/-- Blocks from B on that there are. -/
def Fresh (B : Nat) (w : World) (k : Nat) : Prop := B ≤ k ∧ k < w.heap.size

/-- A disk among the blocks from B on. -/
def DkF (B : Nat) (w : World) (p : Nat) (S : DS) : Prop := Dk w (Fresh B w) p S

theorem DkF.stays {B : Nat} {w w' : World} {p : Nat} {S : DS} (h : DkF B w p S) (hb : Below w.heap.size w w') : DkF B w' p S :=
  (Dk.stays h hb).mono (fun k hk hl => ⟨hk.1, hl⟩)

theorem DkF.next {B : Nat} {w u w' : World} {p : Nat} {S' : DS} (h : Then (Fresh B w) u w' p S') (hB : B ≤ w.heap.size) (hu : w.heap.size ≤ u.heap.size) : DkF B w' p S' ∧ Below B u w' :=
  ⟨h.1.mono (fun k hk hl => ⟨by rcases hk with hk | hk; exact hk.1; omega, hl⟩), h.2.below (by omega) (fun k hk => hk.1)⟩

theorem Out.bs {base : Nat} {w : World} {a : Option Addr} {n c : Nat} {xs : List Int} (h : Out base w (.slice a n c) xs) (hr : ∀ x ∈ xs, 0 ≤ x ∧ x ≤ 255) : n = xs.length ∧ Bs w a c xs ∧ ∀ x, a = some x → base ≤ x.block := by
  obtain ⟨a', c', he, hb⟩ := Bs.of_owns h hr
  simp only [Value.slice.injEq] at he
  obtain ⟨rfl, rfl, rfl⟩ := he
  refine ⟨rfl, hb, ?_⟩
  rintro x rfl
  exact (World.ownsRow.lt h x.block rfl).1

theorem Out.form {base : Nat} {w : World} {v : Value} {xs : List Int} (h : Out base w v xs) : ∃ a c, v = .slice a xs.length c := by
  rcases h.2 with ⟨rfl, h0⟩ | ⟨g, cap, cur, rfl, _⟩
  · exact ⟨none, 0, by rw [h0]⟩
  · exact ⟨_, _, rfl⟩

theorem box_cells {w : World} {X : Nat} {x0 x1 x2 x3 x4 : Value} {t : TypeId} (h : Blk t w X [x0, x1, x2, x3, x4]) :
    w.cell? ⟨X, 0, none⟩ = some x0 ∧ w.cell? ⟨X, 1, none⟩ = some x1 ∧ w.cell? ⟨X, 2, none⟩ = some x2 ∧ w.cell? ⟨X, 3, none⟩ = some x3 ∧ w.cell? ⟨X, 4, none⟩ = some x4 :=
  ⟨h.cell 0, h.cell 1, h.cell 2, h.cell 3, h.cell 4⟩

/-- A box that was made behind the disk's blocks stays. -/
theorem box_frm {B X : Nat} {wr w1 w2 w4 : World} {t : TypeId} {vs : List Value} (h : Frm (Fresh B wr) w2 w4) (hb : Below w1.heap.size w1 w2) (hX : Blk t w1 X vs) (hx : wr.heap.size ≤ X := by simp) : Blk t w4 X vs := by
  have h2 := hX.stays hb
  have hl := h2.lt
  unfold Blk at *
  rw [h.block X (fun hf => by have := hf.2; omega) hl]
  exact h2

theorem is_lt {w : World} {a : Option Addr} {ks : List Int} (h : Is w a ks) (h0 : ks ≠ []) {x : Addr} (hx : a = some x) : x.block < w.heap.size := by
  rcases h with h | ⟨b, off, rfl, hc⟩
  · exact absurd h h0
  · cases hx
    exact World.block_lt_of_cell? _ _ (hc 0 (by cases ks; exact absurd rfl h0; simp))

theorem new_kept (S0 : DS) (h0 : S0.off = false) (hf : S0.fused = false) (hw : S0.ws = []) (hl : S0.laid.length = 256 * 16) (t : Nat) (xs : List Int) (ht : t < 16) (hx : xs.length = 256) :
    (S0.write (t : Int) xs).2 = 0 ∧ (S0.write (t : Int) xs).1.ws.length = 1 ∧ Kept (S0.write (t : Int) xs).1.flush.1 t xs ∧ (S0.write (t : Int) xs).1.flush.2 = 0 ∧ (S0.write (t : Int) xs).1.flush.1.ws = [] := by
  obtain ⟨laid, ws, off, fused, left⟩ := S0
  simp only at h0 hf hw hl
  subst h0 hf hw
  have hm : may false left = true := rfl
  have hhas : DS.has ⟨laid, [], false, false, left⟩ (t : Int) ∧ xs.length = 256 := ⟨by unfold DS.has; simp only [hl]; omega, hx⟩
  have h1 : DS.write ⟨laid, [], false, false, left⟩ (t : Int) xs = (⟨laid, [(t, xs)], false, false, left⟩, 0) := by
    unfold DS.write
    rw [if_neg (fun h => by cases h), if_neg (by simpa using hhas), if_pos hm]
    rfl
  rw [h1]
  have h2 : DS.flush ⟨laid, [(t, xs)], false, false, left⟩ = (⟨layW laid [(t, xs)] (fun _ => 256) 1, [], false, false, left⟩, 0) := by
    unfold DS.flush
    rw [if_neg (fun h => by cases h), if_pos hm]
    rfl
  rw [h2]
  refine ⟨rfl, rfl, ⟨rfl, rfl, ?_, ?_, fun q hq => by cases hq⟩, rfl, rfl⟩
  · simp only
    rw [layW_length hl (ws := [(t, xs)]) (by intro q hq; simp at hq; subst hq; exact ⟨ht, hx⟩) _ _ (by simp), hl]
  · have hc : clamp 256 = 256 := by decide
    simp only
    rw [layW_succ]
    simp only [List.getD_cons_zero, hc, layW, List.range_zero, List.foldl_nil]
    rw [List.take_of_length_le (by omega), secOf_same (by omega) (by omega), List.drop_eq_nil_of_le (by rw [secOf_length (by omega)]; omega), List.append_nil]

end Go.Proofs.YtcfjkkjjcljaoaaDoor

/-
  The document's disk: plain lists of strings; spend, Fuse, Put.
-/

namespace Go.Proofs.YtcfjkkjjcljaoaaDoor
set_option linter.unusedSimpArgs false
set_option linter.unusedVariables false
set_option maxRecDepth 100000
open Go.RowKit

/-- Strings behind a slice, in a block of G. -/
def SsAt (w : World) (G : Nat → Prop) (a : Option Addr) (xs : List ByteArray) : Prop :=
  ∃ b off, a = some ⟨b, off, none⟩ ∧ G b ∧ ∀ i, i < xs.length → w.cell? ⟨b, off + i, none⟩ = some (.string (xs.getD i .empty))

/-- Waiting writes behind a slice, in a block of G. -/
def WsAt (w : World) (G : Nat → Prop) (a : Option Addr) (c : Nat) (ws : List (Nat × List Int)) : Prop :=
  (ws = [] ∧ (a = none → c = 0)) ∨ ∃ b off, a = some ⟨b, off, none⟩ ∧ G b ∧ ∀ i, i < ws.length → w.cell? ⟨b, off + 2 * i, none⟩ = some (.int .i64 ((ws.getD i (0, [])).1 : Int)) ∧ w.cell? ⟨b, off + 2 * i + 1, none⟩ = some (.string (strOfNums (ws.getD i (0, [])).2))

def secStrs (laid : List Int) (n : Nat) : List ByteArray := (List.range n).map fun i => strOfNums (secOf laid i)

/-- The cells of the document's disk. -/
def rcells (S : DS) (sa : Option Addr) (sc : Nat) (wa : Option Addr) (wc : Nat) (n : Nat) : List Value := [.slice sa n sc, .slice wa S.ws.length wc, .bool S.fused, .int .i64 (S.left : Int), .bool S.off]

/-- The document's disk, as it is seen from outside. -/
def Rf (w : World) (G : Nat → Prop) (cs : List Value) (S : DS) : Prop :=
  ∃ n sa sc wa wc, S.Ok n ∧ cs = rcells S sa sc wa wc n ∧ SsAt w G sa (secStrs S.laid n) ∧ WsAt w G wa wc S.ws

theorem SsAt.keep {w w' : World} {G G' : Nat → Prop} {a : Option Addr} {xs : List ByteArray} (h : SsAt w G a xs) (hx : 0 < xs.length) (hk : ∀ k, G k → k < w.heap.size → w'.heap[k]? = w.heap[k]? ∧ G' k) : SsAt w' G' a xs := by
  obtain ⟨b, off, rfl, hg, hc⟩ := h
  have hlt := World.block_lt_of_cell? _ _ (hc 0 hx)
  refine ⟨b, off, rfl, (hk b hg hlt).2, fun i hi => ?_⟩
  rw [World.cell?_of_block (w := w) (hk b hg hlt).1]
  exact hc i hi

theorem WsAt.keep {w w' : World} {G G' : Nat → Prop} {a : Option Addr} {c : Nat} {ws : List (Nat × List Int)} (h : WsAt w G a c ws) (hk : ∀ k, G k → k < w.heap.size → w'.heap[k]? = w.heap[k]? ∧ G' k) : WsAt w' G' a c ws := by
  rcases h with h | ⟨b, off, rfl, hg, hc⟩
  · exact .inl h
  · by_cases h0 : ws = []
    · exact .inl ⟨h0, by simp⟩
    · have hlt := World.block_lt_of_cell? _ _ (hc 0 (by cases ws; exact absurd rfl h0; simp)).1
      refine .inr ⟨b, off, rfl, (hk b hg hlt).2, fun i hi => ?_⟩
      have h1 : w'.cell? ⟨b, off + 2 * i, none⟩ = w.cell? ⟨b, off + 2 * i, none⟩ := World.cell?_of_block (hk b hg hlt).1
      have h2 : w'.cell? ⟨b, off + 2 * i + 1, none⟩ = w.cell? ⟨b, off + 2 * i + 1, none⟩ := World.cell?_of_block (hk b hg hlt).1
      rw [h1, h2]
      exact hc i hi

theorem Rf.keep {w w' : World} {G G' : Nat → Prop} {cs : List Value} {S : DS} (h : Rf w G cs S) (hk : ∀ k, G k → k < w.heap.size → w'.heap[k]? = w.heap[k]? ∧ G' k) : Rf w' G' cs S := by
  obtain ⟨n, sa, sc, wa, wc, hok, rfl, hs, hw⟩ := h
  exact ⟨n, sa, sc, wa, wc, hok, rfl, hs.keep (by have := hok.lo; simp [secStrs]; omega) hk, hw.keep hk⟩

theorem Rf.stays {w w' : World} {G : Nat → Prop} {cs : List Value} {S : DS} (h : Rf w G cs S) (hb : Below w.heap.size w w') : Rf w' G cs S := h.keep (fun k hg hl => ⟨hb.block k hl, hg⟩)

/-- What a call of the document's leaves. -/
def RThen (G : Nat → Prop) (w w' : World) (cs : List Value) (S : DS) : Prop := Rf w' (fun k => G k ∨ w.heap.size ≤ k) cs S ∧ Below w.heap.size w w'

theorem rthen_same {G : Nat → Prop} {w w' : World} {cs : List Value} {S : DS} (h : Rf w G cs S) (hb : Below w.heap.size w w') : RThen G w w' cs S :=
  ⟨h.keep (fun k hg hl => ⟨hb.block k hl, .inl hg⟩), hb⟩

/-- Flags alone turn. -/
theorem Rf.flags {w w' : World} {G G' : Nat → Prop} {S : DS} {sa : Option Addr} {sc : Nat} {wa : Option Addr} {wc n : Nat} (hok : S.Ok n) (hs : SsAt w G sa (secStrs S.laid n)) (hw : WsAt w G wa wc S.ws) {off fused : Bool} {left : Nat} (hl : left < 9223372036854775808) (hk : ∀ k, G k → k < w.heap.size → w'.heap[k]? = w.heap[k]? ∧ G' k) :
    Rf w' G' [.slice sa n sc, .slice wa S.ws.length wc, .bool fused, .int .i64 (left : Int), .bool off] { S with off := off, fused := fused, left := left } :=
  ⟨n, sa, sc, wa, wc, ⟨hok.len, hok.lo, hok.hi, hok.rng, hok.ws, hl⟩, rfl, hs.keep (by have := hok.lo; simp [secStrs]; omega) hk, hw.keep hk⟩

theorem results_blk_tmp {fn : Func} {p u : Tmp} {t e : TypeId} {g n : Nat} {us : List Value} (hf : fn.results = #[.cell p t, .tmp u]) (tmps : Array Value) (P : Program) (w : World) (hp : tmps.getD p undef = .pointer (some ⟨g, 0, none⟩))
    (hA : ∀ w, (isAgg t).run P w = .ok true w) (hZ : ∀ w, (sizeOf t).run P w = .ok n w) (hb : Blk e w g us) (hl : us.length = n) :
    (results fn tmps).run P w = .ok (.tuple #[.agg us.toArray, tmps.getD u undef]) w := by
  have hr := run_load_blk (P := P) (w := w) (off := 0) hA hZ hb (us := us) (by rw [List.drop_zero, List.take_of_length_le (by omega)]) hl
  simp only [Instr.loadAt, Instr.sureAddr, Sem.run_bind, Sem.run_pure, Result.andThen_ok] at hr
  rw [Array.getD_eq_getD_getElem?] at hp
  simp [results, hf, hp, asAddr, Sem.run_bind, hr]

theorem results_blk {fn : Func} {p : Tmp} {t e : TypeId} {g n : Nat} {us : List Value} (hf : fn.results = #[.cell p t]) (tmps : Array Value) (P : Program) (w : World) (hp : tmps.getD p undef = .pointer (some ⟨g, 0, none⟩))
    (hA : ∀ w, (isAgg t).run P w = .ok true w) (hZ : ∀ w, (sizeOf t).run P w = .ok n w) (hb : Blk e w g us) (hl : us.length = n) :
    (results fn tmps).run P w = .ok (.agg us.toArray) w := by
  have hr := run_load_blk (P := P) (w := w) (off := 0) hA hZ hb (us := us) (by rw [List.drop_zero, List.take_of_length_le (by omega)]) hl
  simp only [Instr.loadAt, Instr.sureAddr, Sem.run_bind, Sem.run_pure, Result.andThen_ok] at hr
  rw [Array.getD_eq_getD_getElem?] at hp
  simp [results, hf, hp, asAddr, Sem.run_bind, hr]

theorem rAgg (w : World) : (isAgg 30).run Tryd.prog w = .ok true w := isAgg_struct Tryd.underlying30 w
theorem rSize (w : World) : (sizeOf 30).run Tryd.prog w = .ok 5 w := sizeOf_run (by kernel_rfl) w

set_option maxRecDepth 100000 in
theorem rspend_run (sv wv : Value) (sa : Option Addr) (sn sc : Nat) (hsv : sv = .slice sa sn sc) (wa : Option Addr) (wn wc : Nat) (hwv : wv = .slice wa wn wc) (fused off : Bool) (left : Nat) (hl : left < 9223372036854775808) (w : World) :
    Calls Tryd.prog 84 #[.agg #[sv, wv, .bool fused, .int .i64 (left : Int), .bool off]] w fun e w' =>
      e = .returned (.tuple #[.agg #[sv, wv, .bool fused, .int .i64 ((if fused then left - 1 else left : Nat) : Int), .bool (if may fused left then off else true)], .bool (may fused left)]) ∧ Below w.heap.size w w' := by
  subst hsv hwv
  have hb : ∀ o o' : Obj, Below w.heap.size w ((w.alloc o).alloc o') := fun o o' => ((Below.refl _ _).alloc (Nat.le_refl _) _).alloc (by simp) _
  cases fused with
  | false =>
    go_enter Tryd.func84, Tryd.ntmps84
    go_wp2
    refine bodyPost_ret (results_blk_tmp rfl _ _ _ rfl rAgg rSize (Blk.newAt (by simp) rfl) rfl) rfl ?_
    exact ⟨rfl, hb _ _⟩
  | true =>
    by_cases hz : left = 0
    · subst hz
      go_enter Tryd.func84, Tryd.ntmps84
      go_wp2
      refine bodyPost_ret (results_blk_tmp rfl _ _ _ rfl rAgg rSize (Blk.newAt (by simp) rfl) rfl) rfl ?_
      exact ⟨rfl, hb _ _⟩
    · have hz' : (((left : Nat) : Int) == 0) = false := by simp; omega
      have hz'' : (((left : Nat) : Int) = 0) = False := eq_false (by omega)
      have hm : may true left = true := by simp [may, hz]
      rw [hm, if_pos rfl, if_pos rfl]
      have e1 : ((left - 1 : Nat) : Int) = (left : Int) - 1 := by omega
      rw [e1]
      go_enter Tryd.func84, Tryd.ntmps84
      go_wp2
      refine bodyPost_ret (results_blk_tmp rfl _ _ _ rfl rAgg rSize (Blk.newAt (by simp) rfl) rfl) rfl ?_
      exact ⟨rfl, hb _ _⟩

set_option maxRecDepth 100000 in
theorem rfuse_run {w : World} {G : Nat → Prop} {cs : List Value} {S : DS} (h : Rf w G cs S) (f : Int) (hf : f ≤ 9223372036854775807) :
    Calls Tryd.prog 46 #[.agg cs.toArray, .int .i64 f] w fun e w' => ∃ cs', e = .returned (.agg cs'.toArray) ∧ RThen G w w' cs' (S.fuse f) := by
  obtain ⟨n, sa, sc, wa, wc, hok, rfl, hs, hw⟩ := h
  unfold rcells
  have hb : ∀ o o' : Obj, Below w.heap.size w ((w.alloc o).alloc o') := fun o o' => ((Below.refl _ _).alloc (Nat.le_refl _) _).alloc (by simp) _
  have hfin : ∀ (o o' : Obj) (x : Int), x = ((max f 0).toNat : Int) → RThen G w ((w.alloc o).alloc o') [.slice sa n sc, .slice wa S.ws.length wc, .bool true, .int .i64 x, .bool S.off] (S.fuse f) := fun o o' x hx => by
    subst hx
    exact ⟨Rf.flags (sc := sc) (off := S.off) hok hs hw (by omega) (fun k hg hl => ⟨(hb o o').block k hl, .inl hg⟩), hb o o'⟩
  rcases (by omega : f < 0 ∨ 0 ≤ f) with h0 | h0
  · go_enter Tryd.func46, Tryd.ntmps46
    go_wp2
    refine bodyPost_ret (results_blk rfl _ _ _ rfl rAgg rSize (Blk.newAt (by simp) rfl) rfl) rfl ?_
    exact ⟨_, rfl, hfin _ _ _ (by omega)⟩
  · have h0' : ¬ (f < 0) := by omega
    go_enter Tryd.func46, Tryd.ntmps46
    go_wp2
    refine bodyPost_ret (results_blk rfl _ _ _ rfl rAgg rSize (Blk.newAt (by simp) rfl) rfl) rfl ?_
    exact ⟨_, rfl, hfin _ _ _ (by omega)⟩

end Go.Proofs.YtcfjkkjjcljaoaaDoor
