/-
  Package disk: the fuse; bytes.Clone; a disk whose fields change.
-/
import Derived.Test.YteocmmmnfbabaaaDoorDisk
namespace Go.Proofs.YteocmmmnfbabaaaDoor
set_option linter.unusedSimpArgs false
set_option linter.unusedVariables false
open Go.RowKit

theorem But.keeps {g : Nat} {w w' : World} (hb : But g w w') {k : Nat} (hne : k ≠ g) {o : Obj} (h : w.heap[k]? = some o) : w'.heap[k]? = w.heap[k]? := hb.block k hne (Array.getElem?_eq_some_iff.1 h).1

section
variable {w w' : World} {p bl : Nat} {v : Value} {bufs : List Buf} {laid : List Int} {off fused : Bool} {left : Nat}

/-- A disk whose own block has other flags. -/
theorem DkAt.flags (h : DkAt w p bl v bufs laid off fused left) {off' fused' : Bool} {left' : Nat} (hl : left' < 9223372036854775808) (hb : But p w w')
    (hk : Blk 87 w' p [.slice (some ⟨bl, 0, none⟩) laid.length laid.length, v, .bool off', .bool fused', .int .i64 (left' : Int)]) : DkAt w' p bl v bufs laid off' fused' left' := by
  have hpb := h.p_ne_bl
  refine ⟨hk, ?_, owns_keep h.own (fun k e => ?_), fun f hf => ⟨(h.buf f hf).1.keep ?_, (h.buf f hf).2⟩, h.rng, h.siz, hl⟩
  · have h1 := h.row
    unfold Row at *
    rw [hb.keeps (Ne.symm hpb) h1]; exact h1
  · obtain ⟨cs, hc⟩ := own_type h.own e
    exact hb.keeps (h.p_ne_v e) hc
  · obtain ⟨cs, hc⟩ := (h.buf f hf).1.blk
    exact hb.keeps (h.p_ne_buf hf) hc

/-- A disk on which nothing waits any more. -/
theorem DkAt.clear (h : DkAt w p bl v bufs laid off fused left) {off' fused' : Bool} {left' : Nat} (hl : left' < 9223372036854775808) (hb : But p w w')
    (hk : Blk 87 w' p [.slice (some ⟨bl, 0, none⟩) laid.length laid.length, .slice none 0 0, .bool off', .bool fused', .int .i64 (left' : Int)]) : DkAt w' p bl (.slice none 0 0) [] laid off' fused' left' := by
  have hpb := h.p_ne_bl
  refine ⟨hk, ?_, World.ownsRow_nil _ _ _ _, fun f hf => by simp at hf, h.rng, h.siz, hl⟩
  have h1 := h.row
  unfold Row at *
  rw [hb.keeps (Ne.symm hpb) h1]; exact h1

theorem DkAt.free (h : DkAt w p bl v bufs laid off fused left) (k : Nat) : w.frozen? ⟨p, k, none⟩ = false := h.blk.free k

end

section
variable {p bl : Nat} {v : Value} {bufs : List Buf} {laid : List Int} {off fused : Bool} {left : Nat}

/-- May a call be done? -/
def may (fused : Bool) (left : Nat) : Bool := !(fused && left == 0)

theorem spend_run (w : World) (hD : DkAt w p bl v bufs laid false fused left) :
    Calls Tryd.prog 52 #[.pointer (some ⟨p, 0, none⟩)] w fun e w' => e = .returned (.bool (may fused left)) ∧ DkAt w' p bl v bufs laid (!may fused left) fused (if fused then left - 1 else left) ∧ But p w w' := by
  obtain ⟨h0, h1, h2, h3, h4⟩ := hD.fields
  have f2 := hD.free 2
  have f4 := hD.free 4
  have hl := hD.lft
  cases fused with
  | false =>
    go_enter Tryd.func52, Tryd.ntmps52
    go_wp2
    go_ret
    exact ⟨rfl, hD, But.refl _ _⟩
  | true =>
    by_cases hz : left = 0
    · subst hz
      go_enter Tryd.func52, Tryd.ntmps52
      go_wp2
      go_ret
      exact ⟨rfl, hD.flags (by omega) ((But.refl _ _).setCell _ _) (hD.blk.set 2 _), (But.refl _ _).setCell _ _⟩
    · have hz' : (((left : Nat) : Int) == 0) = false := by simp; omega
      have e1 : (left : Int) - 1 = ((left - 1 : Nat) : Int) := by omega
      go_enter Tryd.func52, Tryd.ntmps52
      go_wp2
      go_ret
      have hm : may true left = true := by simp [may, hz]
      rw [hm]
      exact ⟨rfl, hD.flags (by omega) ((But.refl _ _).setCell _ _) (e1 ▸ hD.blk.set 4 _), (But.refl _ _).setCell _ _⟩

theorem eql_nil (ad : Addr) (n c : Nat) (w : World) : (binOp .eql 27 (.slice (some ad) n c) (.slice none 0 0)).run Tryd.prog w = .ok (.bool false) w := by
  simp only [binOp]
  simp [run_equal_slice_nil w 27 5 (some ad) n c Tryd.underlying27]

/-- bytes.Clone of bytes that are somewhere. -/
theorem clone_run (ad : Addr) (c : Nat) (xs : List Int) (w : World) (hB : Bs w (some ad) c xs) (hx : xs.length ≤ 1000000) (hx0 : 0 < xs.length) :
    Calls Tryd.prog 45 #[.slice (some ad) xs.length c] w fun e w' => ∃ g cap, e = .returned (.slice (some ⟨g, 0, none⟩) xs.length cap) ∧ w'.ownsRow w.heap.size 5 1 (.slice (some ⟨g, 0, none⟩) xs.length cap) xs.length (xs.map (Value.int .u8)) ∧ Below w.heap.size w w' := by
  have hi : (Tryd.prog.info? 5).map (fun i => (i.zero, i.size, i.bytes)) = some (some (.int .u8 0), 1, 1) := by kernel_rfl
  obtain ⟨i0, hi0, hz0, hz1, hz2⟩ := info_parts hi
  have hnil := eql_nil ad xs.length c
  go_enter Tryd.func45, Tryd.ntmps45
  go_wp2_with (at_builtin; go_must (refine wpList_append_bytes (w0 := w) (by rfl) (.tmp 5) (.tmp 6) 27 (by rfl) w.heap.size 5 i0 Tryd.underlying27 hi0 hz0 hz1 hz2 _ [] (by rfl) (World.ownsRow_made w #[] 0 (Nat.le_refl _) (by decide) rfl) (some ad) xs.length c xs (by rfl) (by rfl) (hB.stays ((Below.refl _ _).alloc (Nat.le_refl _) _)) (by simp; omega) (by simp) ((Below.refl _ _).alloc (Nat.le_refl _) _) ?_); intro v1 w1 hown1 hb1)
  go_ret
  rw [List.nil_append] at hown1
  rcases hown1.2 with ⟨_, h0⟩ | ⟨g, cap, cur, rfl, _⟩
  · omega
  · exact ⟨g, cap, rfl, hown1, hb1⟩

end

end Go.Proofs.YteocmmmnfbabaaaDoor
