/-
  Package disk: a disk in memory, and its small functions.
-/
import Derived.Test.YteocmmmnfbabaaaDoorArr2
import Derived.Test.YteocmmmnfbabaaaDoorProg
namespace Go.Proofs.YteocmmmnfbabaaaDoor
set_option linter.unusedSimpArgs false
set_option linter.unusedVariables false
open Go.RowKit

/-- A write that waits: where, what, and the memory in which it lies. -/
structure Buf where
  at' : Nat
  xs : List Int
  blk : Nat
  cap : Nat

def Buf.slice (f : Buf) : Value := .slice (some ⟨f.blk, 0, none⟩) f.xs.length f.cap
def Buf.cells (f : Buf) : List Value := [.int .i64 (f.at' : Int), f.slice]

/-- A write's memory: a block of bytes. -/
structure BufAt (w : World) (f : Buf) : Prop where
  blk : ∃ cs, w.heap[f.blk]? = some (.cells cs 5 (0, 0))
  bs : Bs w (some ⟨f.blk, 0, none⟩) f.cap f.xs
  len : f.xs.length = 256

/-- A disk at the block p: the sectors' bytes lie at bl, the waiting writes behind the slice v. -/
structure DkAt (w : World) (p bl : Nat) (v : Value) (bufs : List Buf) (laid : List Int) (off fused : Bool) (left : Nat) : Prop where
  blk : Blk 87 w p [.slice (some ⟨bl, 0, none⟩) laid.length laid.length, v, .bool off, .bool fused, .int .i64 (left : Int)]
  row : Row 5 w bl laid
  own : w.ownsRow 0 91 2 v bufs.length (bufs.flatMap Buf.cells)
  buf : ∀ f ∈ bufs, BufAt w f ∧ f.blk ≠ bl ∧ 256 * f.at' + 256 ≤ laid.length
  rng : ∀ x ∈ laid, 0 ≤ x ∧ x ≤ 255
  siz : ∃ n, laid.length = 256 * n ∧ 16 ≤ n ∧ n ≤ 512
  lft : left < 9223372036854775808

/-- The blocks of a disk. -/
def Foot (p bl : Nat) (v : Value) (bufs : List Buf) (k : Nat) : Prop := k = p ∨ k = bl ∨ v.ownBlock = some k ∨ ∃ f ∈ bufs, f.blk = k

theorem BufAt.keep {w w' : World} {f : Buf} (h : BufAt w f) (hk : w'.heap[f.blk]? = w.heap[f.blk]?) : BufAt w' f := by
  obtain ⟨h1, h2, h3⟩ := h
  refine ⟨by rw [hk]; exact h1, ⟨h2.rng, h2.cap, h2.capm, h2.nul, ?_⟩, h3⟩
  rcases h2.lay with h0 | ⟨b, off, ha, hc⟩
  · exact .inl h0
  · refine .inr ⟨b, off, ha, fun i hi => ?_⟩
    simp at ha
    obtain ⟨rfl, rfl⟩ := ha
    rw [World.cell?_of_block (w := w) hk]
    exact hc i hi

theorem owns_keep {w w' : World} {base : Nat} {e : TypeId} {s : Nat} {v : Value} {n : Nat} {xs : List Value} (h : w.ownsRow base e s v n xs) (hk : ∀ k, v.ownBlock = some k → w'.heap[k]? = w.heap[k]?) : w'.ownsRow base e s v n xs := by
  obtain ⟨h1, h2⟩ := h
  refine ⟨h1, ?_⟩
  rcases h2 with h2 | ⟨g, cap, cur, rfl, hb, hh, rest⟩
  · exact .inl h2
  · exact .inr ⟨g, cap, cur, rfl, hb, by rw [hk g rfl]; exact hh, rest⟩

/-- A disk whose blocks stay, stays. -/
theorem DkAt.keep {w w' : World} {p bl : Nat} {v : Value} {bufs : List Buf} {laid : List Int} {off fused : Bool} {left : Nat} (h : DkAt w p bl v bufs laid off fused left)
    (hk : ∀ k, Foot p bl v bufs k → w'.heap[k]? = w.heap[k]?) : DkAt w' p bl v bufs laid off fused left := by
  refine ⟨?_, ?_, owns_keep h.own (fun k e => hk k (.inr (.inr (.inl e)))), fun f hf => ⟨(h.buf f hf).1.keep (hk _ (.inr (.inr (.inr ⟨f, hf, rfl⟩)))), (h.buf f hf).2⟩, h.rng, h.siz, h.lft⟩
  · have := h.blk; unfold Blk at *; rw [hk p (.inl rfl)]; exact this
  · have := h.row; unfold Row at *; rw [hk bl (.inr (.inl rfl))]; exact this

theorem DkAt.foot_lt {w : World} {p bl : Nat} {v : Value} {bufs : List Buf} {laid : List Int} {off fused : Bool} {left : Nat} (h : DkAt w p bl v bufs laid off fused left) : ∀ k, Foot p bl v bufs k → k < w.heap.size := by
  rintro k (rfl | rfl | e | ⟨f, hf, rfl⟩)
  · exact h.blk.lt
  · exact h.row.lt
  · exact (h.own.lt k e).2
  · obtain ⟨cs, hc⟩ := (h.buf f hf).1.blk
    exact (Array.getElem?_eq_some_iff.1 hc).1

theorem DkAt.stays {w w' : World} {p bl : Nat} {v : Value} {bufs : List Buf} {laid : List Int} {off fused : Bool} {left : Nat} (h : DkAt w p bl v bufs laid off fused left) (hb : Below w.heap.size w w') : DkAt w' p bl v bufs laid off fused left :=
  h.keep (fun k hk => hb.block k (h.foot_lt k hk))

theorem DkAt.drew {w : World} {p bl : Nat} {v : Value} {bufs : List Buf} {laid : List Int} {off fused : Bool} {left : Nat} (h : DkAt w p bl v bufs laid off fused left) : DkAt w.drew p bl v bufs laid off fused left := h.keep (fun _ _ => rfl)

theorem own_type {w : World} {base : Nat} {e : TypeId} {s : Nat} {v : Value} {n : Nat} {xs : List Value} (h : w.ownsRow base e s v n xs) {k : Nat} (hv : v.ownBlock = some k) : ∃ cs, w.heap[k]? = some (.cells cs e (0, 0)) := by
  rcases h.2 with ⟨rfl, _⟩ | ⟨g, cap, cur, rfl, hb, hh, rest⟩
  · cases hv
  · simp [Value.ownBlock] at hv; subst hv; exact ⟨_, hh⟩

theorem DkAt.p_ne_bl {w : World} {p bl : Nat} {v : Value} {bufs : List Buf} {laid : List Int} {off fused : Bool} {left : Nat} (h : DkAt w p bl v bufs laid off fused left) : p ≠ bl := by
  rintro rfl
  have h1 := h.blk
  have h2 := h.row
  unfold Blk at h1; unfold Row at h2
  rw [h1] at h2; simp at h2

theorem DkAt.p_ne_v {w : World} {p bl : Nat} {v : Value} {bufs : List Buf} {laid : List Int} {off fused : Bool} {left : Nat} (h : DkAt w p bl v bufs laid off fused left) {k : Nat} (hk : v.ownBlock = some k) : k ≠ p := by
  rintro rfl
  obtain ⟨cs, h2⟩ := own_type h.own hk
  have h1 := h.blk
  unfold Blk at h1
  rw [h1] at h2; simp at h2

theorem DkAt.bl_ne_v {w : World} {p bl : Nat} {v : Value} {bufs : List Buf} {laid : List Int} {off fused : Bool} {left : Nat} (h : DkAt w p bl v bufs laid off fused left) {k : Nat} (hk : v.ownBlock = some k) : k ≠ bl := by
  rintro rfl
  obtain ⟨cs, h2⟩ := own_type h.own hk
  have h1 := h.row
  unfold Row at h1
  rw [h1] at h2; simp at h2

theorem DkAt.p_ne_buf {w : World} {p bl : Nat} {v : Value} {bufs : List Buf} {laid : List Int} {off fused : Bool} {left : Nat} (h : DkAt w p bl v bufs laid off fused left) {f : Buf} (hf : f ∈ bufs) : f.blk ≠ p := by
  rintro rfl
  obtain ⟨cs, h2⟩ := (h.buf f hf).1.blk
  have h1 := h.blk
  unfold Blk at h1
  rw [h1] at h2; simp at h2

theorem DkAt.v_ne_buf {w : World} {p bl : Nat} {v : Value} {bufs : List Buf} {laid : List Int} {off fused : Bool} {left : Nat} (h : DkAt w p bl v bufs laid off fused left) {f : Buf} (hf : f ∈ bufs) {k : Nat} (hk : v.ownBlock = some k) : f.blk ≠ k := by
  rintro rfl
  obtain ⟨cs, h2⟩ := (h.buf f hf).1.blk
  obtain ⟨cs', h1⟩ := own_type h.own hk
  rw [h1] at h2; simp at h2

theorem DkAt.fields {w : World} {p bl : Nat} {v : Value} {bufs : List Buf} {laid : List Int} {off fused : Bool} {left : Nat} (h : DkAt w p bl v bufs laid off fused left) :
    w.cell? ⟨p, 0, none⟩ = some (.slice (some ⟨bl, 0, none⟩) laid.length laid.length) ∧ w.cell? ⟨p, 1, none⟩ = some v ∧ w.cell? ⟨p, 2, none⟩ = some (.bool off) ∧ w.cell? ⟨p, 3, none⟩ = some (.bool fused) ∧ w.cell? ⟨p, 4, none⟩ = some (.int .i64 (left : Int)) :=
  ⟨h.blk.cell 0, h.blk.cell 1, h.blk.cell 2, h.blk.cell 3, h.blk.cell 4⟩

theorem DkAt.slice {w : World} {p bl : Nat} {v : Value} {bufs : List Buf} {laid : List Int} {off fused : Bool} {left : Nat} (h : DkAt w p bl v bufs laid off fused left) : ∃ a c, v = .slice a bufs.length c := by
  rcases h.own.2 with ⟨rfl, h0⟩ | ⟨g, cap, cur, rfl, _⟩
  · exact ⟨none, 0, by rw [h0]⟩
  · exact ⟨_, _, rfl⟩

section
variable {p bl : Nat} {v : Value} {bufs : List Buf} {laid : List Int} {off fused : Bool} {left : Nat}

theorem down_run (w : World) (h : DkAt w p bl v bufs laid off fused left) : Calls Tryd.prog 51 #[.pointer (some ⟨p, 0, none⟩)] w fun e w' => e = .returned (.bool off) ∧ w' = w := by
  obtain ⟨h0, h1, h2, h3, h4⟩ := h.fields
  go_enter Tryd.func51, Tryd.ntmps51
  go_wp2
  go_ret
  exact ⟨rfl, rfl⟩

theorem down_nil (w : World) : Calls Tryd.prog 51 #[.pointer none] w fun e w' => e = .returned (.bool true) ∧ w' = w := by
  go_enter Tryd.func51, Tryd.ntmps51
  go_wp2
  go_ret
  exact ⟨rfl, rfl⟩

theorem len_run (w : World) (h : DkAt w p bl v bufs laid off fused left) : Calls Tryd.prog 71 #[.pointer (some ⟨p, 0, none⟩)] w fun e w' => e = .returned (.int .i64 ((laid.length / 256 : Nat) : Int)) ∧ w' = w := by
  obtain ⟨h0, h1, h2, h3, h4⟩ := h.fields
  obtain ⟨n, hn, hn1, hn2⟩ := h.siz
  rw [hn] at h0 ⊢
  go_enter Tryd.func71, Tryd.ntmps71
  go_wp2
  go_ret
  have : (256 * (n : Int)) / 256 = (n : Int) := by omega
  refine ⟨?_, rfl⟩
  simp [this]

theorem len_nil (w : World) : Calls Tryd.prog 71 #[.pointer none] w fun e w' => e = .returned (.int .i64 0) ∧ w' = w := by
  go_enter Tryd.func71, Tryd.ntmps71
  go_wp2
  go_ret
  exact ⟨rfl, rfl⟩

theorem has_run (i : Int) (w : World) (h : DkAt w p bl v bufs laid off fused left) : Calls Tryd.prog 56 #[.pointer (some ⟨p, 0, none⟩), .int .i64 i] w fun e w' => e = .returned (.bool (decide (0 ≤ i ∧ i < ((laid.length / 256 : Nat) : Int)))) ∧ w' = w := by
  by_cases hi : 0 ≤ i
  · go_enter Tryd.func56, Tryd.ntmps56
    go_wp2_with (go_at_call 71; refine (len_run _ h).mono ?_; rintro e w' ⟨rfl, rfl⟩)
    go_ret
    refine ⟨?_, rfl⟩
    simp [hi]
  · go_enter Tryd.func56, Tryd.ntmps56
    go_wp2
    go_ret
    refine ⟨?_, rfl⟩
    have h1 : decide (0 ≤ i) = false := decide_eq_false (by omega)
    rw [h1]
    rfl

theorem sector_run (i : Nat) (w : World) (h : DkAt w p bl v bufs laid off fused left) (hi : 256 * i + 256 ≤ laid.length) :
    Calls Tryd.prog 57 #[.pointer (some ⟨p, 0, none⟩), .int .i64 (i : Int)] w fun e w' => e = .returned (.slice (some ⟨bl, 256 * i, none⟩) 256 (laid.length - 256 * i)) ∧ w' = w := by
  obtain ⟨h0, h1, h2, h3, h4⟩ := h.fields
  obtain ⟨n, hn, hn1, hn2⟩ := h.siz
  go_enter Tryd.func57, Tryd.ntmps57
  go_wp2
  go_ret
  refine ⟨?_, rfl⟩
  have e1 : (i + 1) * 256 - i * 256 = 256 := by omega
  have e2 : 256 * i = i * 256 := by omega
  rw [e2, hn, e1]
  rfl

end

end Go.Proofs.YteocmmmnfbabaaaDoor
