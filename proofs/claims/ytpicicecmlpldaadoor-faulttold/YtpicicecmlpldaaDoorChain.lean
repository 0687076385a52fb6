/-
  Package fault: a chain of faults in memory; Of, Wrap, Code, Unwrap, within.
-/
import Derived.Test.YtpicicecmlpldaaDoorArr2
import Derived.Test.YtpicicecmlpldaaDoorAs
namespace Go.Proofs.YtpicicecmlpldaaDoor
set_option linter.unusedSimpArgs false
set_option linter.unusedVariables false
open Go.RowKit

/-- A chain of faults of one number: the operations, from the outermost one on. -/
def Ch (w : World) (c : Int) : Option Addr → List ByteArray → Prop
  | p, [] => p = none
  | p, op :: rest => ∃ b q, p = some ⟨b, 0, none⟩ ∧ Blk 41 w b [.string op, .int .i64 c, .pointer q] ∧ Ch w c q rest

theorem Ch.stays {w w' : World} {c : Int} (hb : Below w.heap.size w w') : ∀ {ops : List ByteArray} {p : Option Addr}, Ch w c p ops → Ch w' c p ops
  | [], _, h => h
  | _ :: _, _, ⟨b, q, hp, hk, hr⟩ => ⟨b, q, hp, hk.stays hb, hr.stays hb⟩

theorem Ch.drew {w : World} {c : Int} {ops : List ByteArray} {p : Option Addr} (h : Ch w c p ops) : Ch w.drew c p ops := h.stays (Below.refl _ _).drew

theorem of_none (op : ByteArray) (w : World) : Calls Tryd.prog 19 #[.string op, .int .i64 0] w fun e w' => e = .returned (.pointer none) ∧ w' = w := by
  go_enter Tryd.func19, Tryd.ntmps19
  go_wp2
  go_ret
  exact ⟨rfl, rfl⟩

theorem of_run (op : ByteArray) (c : Int) (hc : c ≠ 0) (w : World) : Calls Tryd.prog 19 #[.string op, .int .i64 c] w fun e w' => ∃ p, e = .returned (.pointer p) ∧ Ch w' c p [op] ∧ Below w.heap.size w w' := by
  have hc' : (c == 0) = false := by simp [hc]
  clear hc
  go_enter Tryd.func19, Tryd.ntmps19
  go_wp2
  go_ret
  exact ⟨_, rfl, ⟨w.heap.size, none, rfl, Blk.newAt rfl rfl, rfl⟩, (Below.refl _ _).alloc (Nat.le_refl _) _⟩

theorem wrap_none (op : ByteArray) (w : World) : Calls Tryd.prog 18 #[.string op, .pointer none] w fun e w' => e = .returned (.pointer none) ∧ w' = w := by
  go_enter Tryd.func18, Tryd.ntmps18
  go_wp2
  go_ret
  exact ⟨rfl, rfl⟩

theorem fields (w : World) (b : Nat) (op : ByteArray) (c : Int) (q : Option Addr) (h : Blk 41 w b [.string op, .int .i64 c, .pointer q]) :
    w.cell? ⟨b, 0, none⟩ = some (.string op) ∧ w.cell? ⟨b, 1, none⟩ = some (.int .i64 c) ∧ w.cell? ⟨b, 2, none⟩ = some (.pointer q) := ⟨h.cell 0, h.cell 1, h.cell 2⟩

theorem code_run (b : Nat) (q : Option Addr) (op : ByteArray) (c : Int) (w : World) (h : Blk 41 w b [.string op, .int .i64 c, .pointer q]) :
    Calls Tryd.prog 9 #[.pointer (some ⟨b, 0, none⟩)] w fun e w' => e = .returned (.int .i64 c) ∧ w' = w := by
  obtain ⟨h0, h1, h2⟩ := fields w b op c q h
  go_enter Tryd.func9, Tryd.ntmps9
  go_wp2
  go_ret
  exact ⟨rfl, rfl⟩

theorem code_none (w : World) : Calls Tryd.prog 9 #[.pointer none] w fun e w' => e = .returned (.int .i64 0) ∧ w' = w := by
  go_enter Tryd.func9, Tryd.ntmps9
  go_wp2
  go_ret
  exact ⟨rfl, rfl⟩

set_option maxRecDepth 100000 in
theorem wrap_blk (op0 : ByteArray) (b : Nat) (q : Option Addr) (op : ByteArray) (c : Int) (w : World) (h : Blk 41 w b [.string op, .int .i64 c, .pointer q]) :
    Calls Tryd.prog 18 #[.string op0, .pointer (some ⟨b, 0, none⟩)] w fun e w' => ∃ g k, e = .returned (.pointer (some ⟨g, 0, none⟩)) ∧ Blk 41 w' g [.string op0, .int .i64 c, .pointer (some ⟨k, 0, none⟩)] ∧ Blk 41 w' k [.string op, .int .i64 c, .pointer q] ∧ Below w.heap.size w w' := by
  obtain ⟨h0, h1, h2⟩ := fields w b op c q h
  have hlt := h.lt
  go_enter Tryd.func18, Tryd.ntmps18
  go_wp2_with (refine wpList_load_blk (by rfl) (.tmp 9) 41 (by rfl) b 0 3 (by rfl) (isAgg_struct Tryd.underlying41) (sizeOf_run (by kernel_rfl)) h [.string op, .int .i64 c, .pointer q] (by rfl) (by rfl) ?_)
  go_ret
  exact ⟨w.heap.size + 1, w.heap.size, rfl, Blk.newAt (by simp) rfl, (Blk.newAt rfl rfl).alloc _, ((Below.refl _ _).alloc (Nat.le_refl _) _).alloc (by simp) _⟩

theorem wrap_run (op0 : ByteArray) (c : Int) (p : Option Addr) (op : ByteArray) (ops : List ByteArray) (w : World) (h : Ch w c p (op :: ops)) :
    Calls Tryd.prog 18 #[.string op0, .pointer p] w fun e w' => ∃ p', e = .returned (.pointer p') ∧ Ch w' c p' (op0 :: op :: ops) ∧ Below w.heap.size w w' := by
  obtain ⟨b, q, rfl, hb, hq⟩ := h
  refine (wrap_blk op0 b q op c w hb).mono ?_
  rintro e w' ⟨g, k, rfl, h1, h2, h3⟩
  exact ⟨_, rfl, ⟨g, _, rfl, h1, k, q, rfl, h2, hq.stays h3⟩, h3⟩

theorem unwrap_none (b : Nat) (op : ByteArray) (c : Int) (w : World) (h : Blk 41 w b [.string op, .int .i64 c, .pointer none]) :
    Calls Tryd.prog 26 #[.pointer (some ⟨b, 0, none⟩)] w fun e w' => e = .returned .nilIface ∧ w' = w := by
  obtain ⟨h0, h1, h2⟩ := fields w b op c none h
  go_enter Tryd.func26, Tryd.ntmps26
  go_wp2
  go_ret
  exact ⟨rfl, rfl⟩

theorem unwrap_nil (w : World) : Calls Tryd.prog 26 #[.pointer none] w fun e w' => e = .returned .nilIface ∧ w' = w := by
  go_enter Tryd.func26, Tryd.ntmps26
  go_wp2
  go_ret
  exact ⟨rfl, rfl⟩

set_option maxRecDepth 100000 in
theorem unwrap_some (b k : Nat) (op op' : ByteArray) (c c' : Int) (q : Option Addr) (w : World) (h : Blk 41 w b [.string op, .int .i64 c, .pointer (some ⟨k, 0, none⟩)]) (hk : Blk 41 w k [.string op', .int .i64 c', .pointer q]) :
    Calls Tryd.prog 26 #[.pointer (some ⟨b, 0, none⟩)] w fun e w' => ∃ g, e = .returned (.iface 26 (.pointer (some ⟨g, 0, none⟩))) ∧ Blk 41 w' g [.string op', .int .i64 c', .pointer q] ∧ Below w.heap.size w w' := by
  obtain ⟨h0, h1, h2⟩ := fields w b op c _ h
  go_enter Tryd.func26, Tryd.ntmps26
  go_wp2_with (refine wpList_load_blk (by rfl) (.tmp 17) 41 (by rfl) k 0 3 (by rfl) (isAgg_struct Tryd.underlying41) (sizeOf_run (by kernel_rfl)) hk [.string op', .int .i64 c', .pointer q] (by rfl) (by rfl) ?_)
  go_ret
  exact ⟨w.heap.size, rfl, Blk.newAt rfl rfl, (Below.refl _ _).alloc (Nat.le_refl _) _⟩

/-- errors' own variable. -/
def ErrT (w : World) : Prop := w.cell? ⟨1, 0, none⟩ = some (rt 48)
theorem ErrT.lt {w : World} (h : ErrT w) : 1 < w.heap.size := by
  rcases Nat.lt_or_ge 1 w.heap.size with h' | h'
  · exact h'
  · simp [ErrT, World.cell?, Array.getElem?_eq_none h'] at h
theorem ErrT.stays {w w' : World} (h : ErrT w) (hb : Below w.heap.size w w') : ErrT w' :=
  (hb.cell (show (⟨1, 0, none⟩ : Addr).block < w.heap.size from h.lt)).trans h

theorem as_frame (w : World) (n : Nat) (e : Addr) (v : Value) (h : Blk 26 w n [v]) : Blk 26 (asW w ⟨n, 0, none⟩ e) n [.pointer (some e)] ∧ But n w (asW w ⟨n, 0, none⟩ e) := by
  refine ⟨((((h.alloc _).alloc _).alloc _).alloc _).set 0 _, ?_⟩
  refine (But.of_below ?_).setCell 0 _
  exact ((((Below.refl _ _).alloc (Nat.le_refl _) _).alloc (by simp) _).alloc (by simp; omega) _).alloc (by simp; omega) _

theorem within_none (b : Nat) (op : ByteArray) (c : Int) (w : World) (h : Blk 41 w b [.string op, .int .i64 c, .pointer none]) :
    Calls Tryd.prog 20 #[.pointer (some ⟨b, 0, none⟩)] w fun e w' => e = .returned (.pointer none) ∧ Below w.heap.size w w' := by
  go_enter Tryd.func20, Tryd.ntmps20
  go_wp2_with (first
    | (go_at_call 26; go_must (refine (unwrap_none b op c _ (h.alloc _)).mono ?_); rintro e w' ⟨rfl, rfl⟩)
    | (go_at_call 25; go_must (refine (as_none _ _).mono ?_); rintro e w' ⟨rfl, rfl⟩))
  go_ret
  exact ⟨rfl, (Below.refl _ _).alloc (Nat.le_refl _) _⟩

theorem within_some (b k : Nat) (op op' : ByteArray) (c c' : Int) (q : Option Addr) (w : World) (hE : ErrT w) (h : Blk 41 w b [.string op, .int .i64 c, .pointer (some ⟨k, 0, none⟩)]) (hk : Blk 41 w k [.string op', .int .i64 c', .pointer q]) :
    Calls Tryd.prog 20 #[.pointer (some ⟨b, 0, none⟩)] w fun e w' => ∃ g, e = .returned (.pointer (some ⟨g, 0, none⟩)) ∧ Blk 41 w' g [.string op', .int .i64 c', .pointer q] ∧ Below w.heap.size w w' := by
  have hn : Blk 26 (w.alloc (.cells #[.pointer none] 26)) w.heap.size [.pointer none] := Blk.newAt rfl rfl
  have ha : Below w.heap.size w (w.alloc (.cells #[.pointer none] 26)) := (Below.refl _ _).alloc (Nat.le_refl _) _
  go_enter Tryd.func20, Tryd.ntmps20
  go_wp2_with (go_at_call 26; go_must (refine (unwrap_some b k op op' c c' q _ (h.stays ha) (hk.stays ha)).mono ?_); rintro e w1 ⟨g, rfl, hg1, hb1⟩)
  have hE1 : ErrT w1 := (hE.stays ha).stays hb1
  have hn1 := hn.stays hb1
  obtain ⟨ht2, hbut⟩ := as_frame w1 w.heap.size ⟨g, 0, none⟩ _ hn1
  have hne : g ≠ w.heap.size := by
    intro hh
    subst hh
    have := hg1.symm.trans hn1
    simp at this
  have hg2 := hg1.but hbut hne
  have hbel : Below w.heap.size w (asW w1 ⟨w.heap.size, 0, none⟩ ⟨g, 0, none⟩) := (ha.trans (hb1.mono (by simp))).trans (hbut.below (Nat.le_refl _) (by have := hb1.size; simp at this; omega))
  have hc := ht2.cell 0
  go_wp2_with (go_at_call 25; go_must (refine (as_some ⟨g, 0, none⟩ ⟨w.heap.size, 0, none⟩ _ w1 hE1 (hn1.cell 0) (hn1.free 0)).mono ?_); rintro e w2 ⟨rfl, rfl⟩)
  go_ret
  exact ⟨g, rfl, hg2, hbel⟩
end Go.Proofs.YtpicicecmlpldaaDoor
