/-
  Package disk: a disk in memory, and its small functions.
-/
import Derived.Test.YthbldjnpnligpaaDoorG03
import Derived.Test.YthbldjnpnligpaaDoorProg
import Derived.Test.YthbldjnpnligpaaDoorG07
namespace Go.Proofs.YthbldjnpnligpaaDoor
set_option linter.unusedSimpArgs false
set_option linter.unusedVariables false
set_option maxRecDepth 100000
open Go.RowKit

/-- A write that waits: where, what, and the memory in which it lies. -/
structure Buf where
  at' : Nat
  xs : List Int
  blk : Nat
  cap : Nat

def Buf.slice (f : Buf) : Value := .slice (some ⟨f.blk, 0, none⟩) f.xs.length f.cap
def Buf.cells (f : Buf) : List Value := [.int .i64 (f.at' : Int), f.slice]

/-- A write's memory: a block of bytes. -/
structure BufAt (w : World) (f : Buf) : Prop where
  blk : ∃ cs, w.heap[f.blk]? = some (.cells cs 5 (0, 0))
  bs : Bs w (some ⟨f.blk, 0, none⟩) f.cap f.xs
  len : f.xs.length = 256

/-- A disk at the block p: the sectors' bytes lie at bl, the waiting writes behind the slice v. -/
structure DkAt (w : World) (p bl : Nat) (v : Value) (bufs : List Buf) (laid : List Int) (off fused : Bool) (left : Nat) : Prop where
  blk : Blk 131 w p [.slice (some ⟨bl, 0, none⟩) laid.length laid.length, v, .bool off, .bool fused, .int .i64 (left : Int)]
  row : Row 5 w bl laid
  own : w.ownsRow 0 159 2 v bufs.length (bufs.flatMap Buf.cells)
  buf : ∀ f ∈ bufs, BufAt w f ∧ f.blk ≠ bl ∧ 256 * f.at' + 256 ≤ laid.length
  rng : ∀ x ∈ laid, 0 ≤ x ∧ x ≤ 255
  siz : ∃ n, laid.length = 256 * n ∧ 16 ≤ n ∧ n ≤ 512
  lft : left < 9223372036854775808

/-- The blocks of a disk. -/
def Foot (p bl : Nat) (v : Value) (bufs : List Buf) (k : Nat) : Prop := k = p ∨ k = bl ∨ v.ownBlock = some k ∨ ∃ f ∈ bufs, f.blk = k

theorem BufAt.keep {w w' : World} {f : Buf} (h : BufAt w f) (hk : w'.heap[f.blk]? = w.heap[f.blk]?) : BufAt w' f := by
  obtain ⟨h1, h2, h3⟩ := h
  refine ⟨by rw [hk]; exact h1, ⟨h2.rng, h2.cap, h2.capm, h2.nul, ?_⟩, h3⟩
  rcases h2.lay with h0 | ⟨b, off, ha, hc⟩
  · exact .inl h0
  · refine .inr ⟨b, off, ha, fun i hi => ?_⟩
    simp at ha
    obtain ⟨rfl, rfl⟩ := ha
    rw [World.cell?_of_block (w := w) hk]
    exact hc i hi

theorem owns_keep {w w' : World} {base : Nat} {e : TypeId} {s : Nat} {v : Value} {n : Nat} {xs : List Value} (h : w.ownsRow base e s v n xs) (hk : ∀ k, v.ownBlock = some k → w'.heap[k]? = w.heap[k]?) : w'.ownsRow base e s v n xs := by
  obtain ⟨h1, h2⟩ := h
  refine ⟨h1, ?_⟩
  rcases h2 with h2 | ⟨g, cap, cur, rfl, hb, hh, rest⟩
  · exact .inl h2
  · exact .inr ⟨g, cap, cur, rfl, hb, by rw [hk g rfl]; exact hh, rest⟩

/-- A disk whose blocks stay, stays. -/
theorem DkAt.keep {w w' : World} {p bl : Nat} {v : Value} {bufs : List Buf} {laid : List Int} {off fused : Bool} {left : Nat} (h : DkAt w p bl v bufs laid off fused left)
    (hk : ∀ k, Foot p bl v bufs k → w'.heap[k]? = w.heap[k]?) : DkAt w' p bl v bufs laid off fused left := by
  refine ⟨?_, ?_, owns_keep h.own (fun k e => hk k (.inr (.inr (.inl e)))), fun f hf => ⟨(h.buf f hf).1.keep (hk _ (.inr (.inr (.inr ⟨f, hf, rfl⟩)))), (h.buf f hf).2⟩, h.rng, h.siz, h.lft⟩
  · have := h.blk; unfold Blk at *; rw [hk p (.inl rfl)]; exact this
  · have := h.row; unfold Row at *; rw [hk bl (.inr (.inl rfl))]; exact this

theorem DkAt.foot_lt {w : World} {p bl : Nat} {v : Value} {bufs : List Buf} {laid : List Int} {off fused : Bool} {left : Nat} (h : DkAt w p bl v bufs laid off fused left) : ∀ k, Foot p bl v bufs k → k < w.heap.size := by
  rintro k (rfl | rfl | e | ⟨f, hf, rfl⟩)
  · exact h.blk.lt
  · exact h.row.lt
  · exact (h.own.lt k e).2
  · obtain ⟨cs, hc⟩ := (h.buf f hf).1.blk
    exact (Array.getElem?_eq_some_iff.1 hc).1

theorem DkAt.stays {w w' : World} {p bl : Nat} {v : Value} {bufs : List Buf} {laid : List Int} {off fused : Bool} {left : Nat} (h : DkAt w p bl v bufs laid off fused left) (hb : Below w.heap.size w w') : DkAt w' p bl v bufs laid off fused left :=
  h.keep (fun k hk => hb.block k (h.foot_lt k hk))

theorem DkAt.drew {w : World} {p bl : Nat} {v : Value} {bufs : List Buf} {laid : List Int} {off fused : Bool} {left : Nat} (h : DkAt w p bl v bufs laid off fused left) : DkAt w.drew p bl v bufs laid off fused left := h.keep (fun _ _ => rfl)

theorem own_type {w : World} {base : Nat} {e : TypeId} {s : Nat} {v : Value} {n : Nat} {xs : List Value} (h : w.ownsRow base e s v n xs) {k : Nat} (hv : v.ownBlock = some k) : ∃ cs, w.heap[k]? = some (.cells cs e (0, 0)) := by
  rcases h.2 with ⟨rfl, _⟩ | ⟨g, cap, cur, rfl, hb, hh, rest⟩
  · cases hv
  · simp [Value.ownBlock] at hv; subst hv; exact ⟨_, hh⟩

theorem DkAt.p_ne_bl {w : World} {p bl : Nat} {v : Value} {bufs : List Buf} {laid : List Int} {off fused : Bool} {left : Nat} (h : DkAt w p bl v bufs laid off fused left) : p ≠ bl := by
  rintro rfl
  have h1 := h.blk
  have h2 := h.row
  unfold Blk at h1; unfold Row at h2
  rw [h1] at h2; simp at h2

theorem DkAt.p_ne_v {w : World} {p bl : Nat} {v : Value} {bufs : List Buf} {laid : List Int} {off fused : Bool} {left : Nat} (h : DkAt w p bl v bufs laid off fused left) {k : Nat} (hk : v.ownBlock = some k) : k ≠ p := by
  rintro rfl
  obtain ⟨cs, h2⟩ := own_type h.own hk
  have h1 := h.blk
  unfold Blk at h1
  rw [h1] at h2; simp at h2

theorem DkAt.bl_ne_v {w : World} {p bl : Nat} {v : Value} {bufs : List Buf} {laid : List Int} {off fused : Bool} {left : Nat} (h : DkAt w p bl v bufs laid off fused left) {k : Nat} (hk : v.ownBlock = some k) : k ≠ bl := by
  rintro rfl
  obtain ⟨cs, h2⟩ := own_type h.own hk
  have h1 := h.row
  unfold Row at h1
  rw [h1] at h2; simp at h2

theorem DkAt.p_ne_buf {w : World} {p bl : Nat} {v : Value} {bufs : List Buf} {laid : List Int} {off fused : Bool} {left : Nat} (h : DkAt w p bl v bufs laid off fused left) {f : Buf} (hf : f ∈ bufs) : f.blk ≠ p := by
  rintro rfl
  obtain ⟨cs, h2⟩ := (h.buf f hf).1.blk
  have h1 := h.blk
  unfold Blk at h1
  rw [h1] at h2; simp at h2

theorem DkAt.v_ne_buf {w : World} {p bl : Nat} {v : Value} {bufs : List Buf} {laid : List Int} {off fused : Bool} {left : Nat} (h : DkAt w p bl v bufs laid off fused left) {f : Buf} (hf : f ∈ bufs) {k : Nat} (hk : v.ownBlock = some k) : f.blk ≠ k := by
  rintro rfl
  obtain ⟨cs, h2⟩ := (h.buf f hf).1.blk
  obtain ⟨cs', h1⟩ := own_type h.own hk
  rw [h1] at h2; simp at h2

theorem DkAt.fields {w : World} {p bl : Nat} {v : Value} {bufs : List Buf} {laid : List Int} {off fused : Bool} {left : Nat} (h : DkAt w p bl v bufs laid off fused left) :
    w.cell? ⟨p, 0, none⟩ = some (.slice (some ⟨bl, 0, none⟩) laid.length laid.length) ∧ w.cell? ⟨p, 1, none⟩ = some v ∧ w.cell? ⟨p, 2, none⟩ = some (.bool off) ∧ w.cell? ⟨p, 3, none⟩ = some (.bool fused) ∧ w.cell? ⟨p, 4, none⟩ = some (.int .i64 (left : Int)) :=
  ⟨h.blk.cell 0, h.blk.cell 1, h.blk.cell 2, h.blk.cell 3, h.blk.cell 4⟩

theorem DkAt.slice {w : World} {p bl : Nat} {v : Value} {bufs : List Buf} {laid : List Int} {off fused : Bool} {left : Nat} (h : DkAt w p bl v bufs laid off fused left) : ∃ a c, v = .slice a bufs.length c := by
  rcases h.own.2 with ⟨rfl, h0⟩ | ⟨g, cap, cur, rfl, _⟩
  · exact ⟨none, 0, by rw [h0]⟩
  · exact ⟨_, _, rfl⟩

section
variable {p bl : Nat} {v : Value} {bufs : List Buf} {laid : List Int} {off fused : Bool} {left : Nat}

theorem down_run (w : World) (h : DkAt w p bl v bufs laid off fused left) : Calls Tryd.prog 88 #[.pointer (some ⟨p, 0, none⟩)] w fun e w' => e = .returned (.bool off) ∧ w' = w := by
  obtain ⟨h0, h1, h2, h3, h4⟩ := h.fields
  go_enter Tryd.func88, Tryd.ntmps88
  go_wp2
  go_ret
  exact ⟨rfl, rfl⟩

theorem len_run (w : World) (h : DkAt w p bl v bufs laid off fused left) : Calls Tryd.prog 135 #[.pointer (some ⟨p, 0, none⟩)] w fun e w' => e = .returned (.int .i64 ((laid.length / 256 : Nat) : Int)) ∧ w' = w := by
  obtain ⟨h0, h1, h2, h3, h4⟩ := h.fields
  obtain ⟨n, hn, hn1, hn2⟩ := h.siz
  rw [hn] at h0 ⊢
  go_enter Tryd.func135, Tryd.ntmps135
  go_wp2
  go_ret
  have : (256 * (n : Int)) / 256 = (n : Int) := by omega
  refine ⟨?_, rfl⟩
  simp [this]

theorem has_run (i : Int) (w : World) (h : DkAt w p bl v bufs laid off fused left) : Calls Tryd.prog 92 #[.pointer (some ⟨p, 0, none⟩), .int .i64 i] w fun e w' => e = .returned (.bool (decide (0 ≤ i ∧ i < ((laid.length / 256 : Nat) : Int)))) ∧ w' = w := by
  by_cases hi : 0 ≤ i
  · go_enter Tryd.func92, Tryd.ntmps92
    go_wp2_with (go_at_call 135; refine (len_run _ h).mono ?_; rintro e w' ⟨rfl, rfl⟩)
    go_ret
    refine ⟨?_, rfl⟩
    simp [hi]
  · go_enter Tryd.func92, Tryd.ntmps92
    go_wp2
    go_ret
    refine ⟨?_, rfl⟩
    have h1 : decide (0 ≤ i) = false := decide_eq_false (by omega)
    rw [h1]
    rfl

theorem sector_run (i : Nat) (w : World) (h : DkAt w p bl v bufs laid off fused left) (hi : 256 * i + 256 ≤ laid.length) :
    Calls Tryd.prog 93 #[.pointer (some ⟨p, 0, none⟩), .int .i64 (i : Int)] w fun e w' => e = .returned (.slice (some ⟨bl, 256 * i, none⟩) 256 (laid.length - 256 * i)) ∧ w' = w := by
  obtain ⟨h0, h1, h2, h3, h4⟩ := h.fields
  obtain ⟨n, hn, hn1, hn2⟩ := h.siz
  go_enter Tryd.func93, Tryd.ntmps93
  go_wp2
  go_ret
  refine ⟨?_, rfl⟩
  have e1 : (i + 1) * 256 - i * 256 = 256 := by omega
  have e2 : 256 * i = i * 256 := by omega
  rw [e2, hn, e1]
  rfl

end

end Go.Proofs.YthbldjnpnligpaaDoor

/-
  Package disk: the fuse; bytes.Clone; a disk whose fields change.
-/

namespace Go.Proofs.YthbldjnpnligpaaDoor
set_option linter.unusedSimpArgs false
set_option linter.unusedVariables false
set_option maxRecDepth 100000
open Go.RowKit

theorem But.keeps {g : Nat} {w w' : World} (hb : But g w w') {k : Nat} (hne : k ≠ g) {o : Obj} (h : w.heap[k]? = some o) : w'.heap[k]? = w.heap[k]? := hb.block k hne (Array.getElem?_eq_some_iff.1 h).1

section
variable {w w' : World} {p bl : Nat} {v : Value} {bufs : List Buf} {laid : List Int} {off fused : Bool} {left : Nat}

/-- A disk whose own block has other flags. -/
theorem DkAt.flags (h : DkAt w p bl v bufs laid off fused left) {off' fused' : Bool} {left' : Nat} (hl : left' < 9223372036854775808) (hb : But p w w')
    (hk : Blk 131 w' p [.slice (some ⟨bl, 0, none⟩) laid.length laid.length, v, .bool off', .bool fused', .int .i64 (left' : Int)]) : DkAt w' p bl v bufs laid off' fused' left' := by
  have hpb := h.p_ne_bl
  refine ⟨hk, ?_, owns_keep h.own (fun k e => ?_), fun f hf => ⟨(h.buf f hf).1.keep ?_, (h.buf f hf).2⟩, h.rng, h.siz, hl⟩
  · have h1 := h.row
    unfold Row at *
    rw [hb.keeps (Ne.symm hpb) h1]; exact h1
  · obtain ⟨cs, hc⟩ := own_type h.own e
    exact hb.keeps (h.p_ne_v e) hc
  · obtain ⟨cs, hc⟩ := (h.buf f hf).1.blk
    exact hb.keeps (h.p_ne_buf hf) hc

/-- A disk on which nothing waits any more. -/
theorem DkAt.clear (h : DkAt w p bl v bufs laid off fused left) {off' fused' : Bool} {left' : Nat} (hl : left' < 9223372036854775808) (hb : But p w w')
    (hk : Blk 131 w' p [.slice (some ⟨bl, 0, none⟩) laid.length laid.length, .slice none 0 0, .bool off', .bool fused', .int .i64 (left' : Int)]) : DkAt w' p bl (.slice none 0 0) [] laid off' fused' left' := by
  have hpb := h.p_ne_bl
  refine ⟨hk, ?_, World.ownsRow_nil _ _ _ _, fun f hf => by simp at hf, h.rng, h.siz, hl⟩
  have h1 := h.row
  unfold Row at *
  rw [hb.keeps (Ne.symm hpb) h1]; exact h1

theorem DkAt.free (h : DkAt w p bl v bufs laid off fused left) (k : Nat) : w.frozen? ⟨p, k, none⟩ = false := h.blk.free k

end

section
variable {p bl : Nat} {v : Value} {bufs : List Buf} {laid : List Int} {off fused : Bool} {left : Nat}

/-- May a call be done? -/
def may (fused : Bool) (left : Nat) : Bool := !(fused && left == 0)

theorem spend_run (w : World) (hD : DkAt w p bl v bufs laid false fused left) :
    Calls Tryd.prog 89 #[.pointer (some ⟨p, 0, none⟩)] w fun e w' => e = .returned (.bool (may fused left)) ∧ DkAt w' p bl v bufs laid (!may fused left) fused (if fused then left - 1 else left) ∧ But p w w' := by
  obtain ⟨h0, h1, h2, h3, h4⟩ := hD.fields
  have f2 := hD.free 2
  have f4 := hD.free 4
  have hl := hD.lft
  cases fused with
  | false =>
    go_enter Tryd.func89, Tryd.ntmps89
    go_wp2
    go_ret
    exact ⟨rfl, hD, But.refl _ _⟩
  | true =>
    by_cases hz : left = 0
    · subst hz
      go_enter Tryd.func89, Tryd.ntmps89
      go_wp2
      go_ret
      exact ⟨rfl, hD.flags (by omega) ((But.refl _ _).setCell _ _) (hD.blk.set 2 _), (But.refl _ _).setCell _ _⟩
    · have hz' : (((left : Nat) : Int) == 0) = false := by simp; omega
      have e1 : (left : Int) - 1 = ((left - 1 : Nat) : Int) := by omega
      go_enter Tryd.func89, Tryd.ntmps89
      go_wp2
      go_ret
      have hm : may true left = true := by simp [may, hz]
      rw [hm]
      exact ⟨rfl, hD.flags (by omega) ((But.refl _ _).setCell _ _) (e1 ▸ hD.blk.set 4 _), (But.refl _ _).setCell _ _⟩

theorem eql_nil (ad : Addr) (n c : Nat) (w : World) : (binOp .eql 43 (.slice (some ad) n c) (.slice none 0 0)).run Tryd.prog w = .ok (.bool false) w := by
  simp only [binOp]
  simp [run_equal_slice_nil w 43 5 (some ad) n c Tryd.underlying43]

/-- bytes.Clone of bytes that are somewhere. -/
theorem clone_run (ad : Addr) (c : Nat) (xs : List Int) (w : World) (hB : Bs w (some ad) c xs) (hx : xs.length ≤ 1000000) (hx0 : 0 < xs.length) :
    Calls Tryd.prog 67 #[.slice (some ad) xs.length c] w fun e w' => ∃ g cap, e = .returned (.slice (some ⟨g, 0, none⟩) xs.length cap) ∧ w'.ownsRow w.heap.size 5 1 (.slice (some ⟨g, 0, none⟩) xs.length cap) xs.length (xs.map (Value.int .u8)) ∧ Below w.heap.size w w' := by
  have hi : (Tryd.prog.info? 5).map (fun i => (i.zero, i.size, i.bytes)) = some (some (.int .u8 0), 1, 1) := by kernel_rfl
  obtain ⟨i0, hi0, hz0, hz1, hz2⟩ := info_parts hi
  have hnil := eql_nil ad xs.length c
  go_enter Tryd.func67, Tryd.ntmps67
  go_wp2_with (at_builtin; go_must (refine wpList_append_bytes (w0 := w) (by rfl) (.tmp 5) (.tmp 6) 43 (by rfl) w.heap.size 5 i0 Tryd.underlying43 hi0 hz0 hz1 hz2 _ [] (by rfl) (World.ownsRow_made w #[] 0 (Nat.le_refl _) (by decide) rfl) (some ad) xs.length c xs (by rfl) (by rfl) (hB.stays ((Below.refl _ _).alloc (Nat.le_refl _) _)) (by simp; omega) (by simp) ((Below.refl _ _).alloc (Nat.le_refl _) _) ?_); intro v1 w1 hown1 hb1)
  go_ret
  rw [List.nil_append] at hown1
  rcases hown1.2 with ⟨_, h0⟩ | ⟨g, cap, cur, rfl, _⟩
  · omega
  · exact ⟨g, cap, rfl, hown1, hb1⟩

end

end Go.Proofs.YthbldjnpnligpaaDoor

/-
  Package disk: the two iterators over the waiting writes.
-/

namespace Go.Proofs.YthbldjnpnligpaaDoor
set_option linter.unusedSimpArgs false
set_option linter.unusedVariables false
set_option maxRecDepth 100000
open Go.RowKit
attribute [local go_sem] Oper.semAt_some

/-- What an iterator over the waiting writes needs. -/
def Nd (p : Nat) (v : Value) (bufs : List Buf) (W : World) : Prop := W.cell? ⟨p, 1, none⟩ = some v ∧ W.ownsRow 0 159 2 v bufs.length (bufs.flatMap Buf.cells)

def noBuf : Buf := ⟨0, [], 0, 0⟩
def Buf.agg (f : Buf) : Value := .agg #[.int .i64 (f.at' : Int), f.slice]

theorem flatMap_two {bufs : List Buf} {k : Nat} (hk : k < bufs.length) : (bufs.flatMap Buf.cells)[2 * k]? = some (.int .i64 ((bufs.getD k noBuf).at' : Int)) ∧ (bufs.flatMap Buf.cells)[2 * k + 1]? = some (bufs.getD k noBuf).slice := by
  induction bufs generalizing k with
  | nil => simp at hk
  | cons f r ih =>
    cases k with
    | zero => simp [Buf.cells]
    | succ k =>
      have := ih (k := k) (by simpa using hk)
      have e1 : 2 * (k + 1) = 2 * k + 2 := by omega
      rw [e1]
      simpa [Buf.cells] using this

theorem Nd.at {p : Nat} {v : Value} {bufs : List Buf} {W : World} (h : Nd p v bufs W) {k : Nat} (hk : k < bufs.length) :
    ∃ g cap, v = .slice (some ⟨g, 0, none⟩) bufs.length cap ∧ W.cell? ⟨g, 2 * k, none⟩ = some (.int .i64 ((bufs.getD k noBuf).at' : Int)) ∧ W.cell? ⟨g, 2 * k + 1, none⟩ = some (bufs.getD k noBuf).slice := by
  have hown := h.2
  rcases h.2.2 with ⟨_, h0⟩ | ⟨g, cap, cur, rfl, _⟩
  · omega
  · obtain ⟨h1, h2⟩ := flatMap_two hk
    exact ⟨g, cap, rfl, (hown.cellAt (2 * k) (by omega)).trans h1, (hown.cellAt (2 * k + 1) (by omega)).trans h2⟩

theorem Nd.slice {p : Nat} {v : Value} {bufs : List Buf} {W : World} (h : Nd p v bufs W) : ∃ a c, v = .slice a bufs.length c := by
  rcases h.2.2 with ⟨rfl, h0⟩ | ⟨g, cap, cur, rfl, _⟩
  · exact ⟨none, 0, by rw [h0]⟩
  · exact ⟨_, _, rfl⟩

set_option maxRecDepth 100000 in
set_option maxHeartbeats 4000000 in
theorem newest_iter (p : Nat) (v : Value) (bufs : List Buf) (hlen : bufs.length ≤ 1000000) (W : World) (hN : Nd p v bufs W) :
    Iter Tryd.prog 166 (.pointer (some ⟨p, 0, none⟩)) bufs.length (fun i => #[(bufs.getD (bufs.length - 1 - i) noBuf).agg]) (Nd p v bufs) W := by
  intro l J Jx hJN hJB hY h0
  obtain ⟨a, c, rfl⟩ := hN.slice
  have hc := hN.1
  refine callsIn_of_wp Tryd.func166 rfl trivial ?_ rfl
  simp only [Tryd.ntmps166, List.size_toArray, List.length_cons, List.length_nil, Nat.reduceAdd, Nat.reduceSub, Array.replicate_succ, Array.replicate_zero, List.push_toArray, List.append_toArray, List.nil_append, List.cons_append]
  gi_wp2
  gi_loopw [4] (fun i wr => ∃ j : Nat, j ≤ bufs.length ∧ i = .int .i64 ((bufs.length : Int) - 1 - j) ∧ J j wr) (fun i _ => (intOf i + 1).toNat)
  case atStart => exact ⟨0, Nat.zero_le _, by simp, h0⟩
  case round =>
    obtain ⟨j, hj, rfl, hJs⟩ := hrel
    by_cases hlt : j < bufs.length
    · obtain ⟨k, hk⟩ : ∃ k : Nat, k = bufs.length - 1 - j := ⟨_, rfl⟩
      have hkl : k < bufs.length := by omega
      have ek : (bufs.length : Int) - 1 - j = (k : Int) := by omega
      obtain ⟨g, cap, hv, hc0, hc1⟩ := (hJN j wr hJs).at hkl
      have hcp := (hJN j wr hJs).1
      simp only [Value.slice.injEq] at hv
      obtain ⟨rfl, _, rfl⟩ := hv
      have hlt' : (k : Int) < (bufs.length : Int) := by omega
      obtain ⟨fn, tmps, assign, body, hy, hR⟩ := hY j _ hlt hJs
      rw [← hk] at hy
      dsimp only [Buf.agg] at hy
      obtain ⟨XB, XL, XC, hX⟩ : ∃ XB XL XC, (bufs.getD k noBuf).slice = .slice (some ⟨XB, 0, none⟩) XL XC := ⟨_, _, _, rfl⟩
      rw [hX] at hc1 hy
      generalize hT : ((bufs.getD k noBuf).at' : Int) = T at *
      have e2 : 2 * k = k * 2 := by omega
      rw [e2] at hc0 hc1
      rw [ek]
      have HK : Hid (k = bufs.length - 1 - j) := hk
      clear hk ek
      gi_wp2
      refine ⟨rfl, hR.mono ?_⟩
      rintro e W3 (⟨rfl, hJ3⟩ | ⟨rfl, hJx3⟩)
      · gi_wp2
        go_roundw
        case rel => exact ⟨j + 1, by omega, by have := HK.out; congr 1; omega, hJ3⟩
        case measure => simp [intOf]
      · gi_wp2
        refine bodyPost_ret (results_none rfl _ _ _) rfl ?_
        exact ⟨⟨_, rfl⟩, .inr hJx3⟩
    · obtain rfl : j = bufs.length := by omega
      have ek : (bufs.length : Int) - 1 - bufs.length = -1 := by omega
      rw [ek]
      gi_wp2
      go_end0
      exact ⟨⟨_, rfl⟩, .inl hJs⟩

end Go.Proofs.YthbldjnpnligpaaDoor
