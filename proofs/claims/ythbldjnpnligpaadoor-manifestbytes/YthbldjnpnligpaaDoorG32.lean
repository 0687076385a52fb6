/-
  The laws' helpers: whole, fresh.
-/
import Derived.Test.YthbldjnpnligpaaDoorG31
import Derived.Test.YthbldjnpnligpaaDoorG28
namespace Go.Proofs.YthbldjnpnligpaaDoor
set_option linter.unusedSimpArgs false
set_option linter.unusedVariables false
set_option maxRecDepth 100000
open Go.RowKit

/-- The bytes as a block. -/
def wholeL (bs : List Int) : List Int := bs ++ List.replicate (256 - bs.length) ((bs.length : Int) % 256)
theorem wholeL_rng {bs : List Int} (h : ∀ x ∈ bs, 0 ≤ x ∧ x ≤ 255) (k : Nat) : ∀ x ∈ bs ++ List.replicate k ((bs.length : Int) % 256), 0 ≤ x ∧ x ≤ 255 := by
  intro x hx
  rcases List.mem_append.1 hx with h1 | h1
  · exact h x h1
  · rw [List.eq_of_mem_replicate h1]; omega
theorem wholeL_len {bs : List Int} (h : bs.length ≤ 256) : (wholeL bs).length = 256 := by unfold wholeL; simp; omega
def lenV8 : Value → Nat
  | .slice _ n _ => n
  | _ => 0

theorem build_bank (p g t : Nat) (w : World) : (Instr.build 133 [(0, Value.pointer (some ⟨p, 0, none⟩)), (1, .pointer (some ⟨g, 0, none⟩)), (2, .int .u32 (t : Int))].toArray).run Tryd.prog w = .ok (.agg (bankV p g t).toArray) w := by kernel_rfl

theorem over_run (p g t : Nat) (w : World) : Calls Tryd.prog 47 #[.pointer (some ⟨p, 0, none⟩), .pointer (some ⟨g, 0, none⟩), .int .u32 (t : Int)] w fun e w' => e = .returned (.pointer (some ⟨w.heap.size, 0, none⟩)) ∧ Blk 133 w' w.heap.size (bankV p g t) ∧ Below w.heap.size w w' := by
  have HBB : Hid (∀ u, (Instr.build 133 [(0, Value.pointer (some ⟨p, 0, none⟩)), (1, .pointer (some ⟨g, 0, none⟩)), (2, .int .u32 (t : Int))].toArray).run Tryd.prog u = .ok (.agg (bankV p g t).toArray) u) := fun u => build_bank p g t u
  obtain ⟨bv, hbv⟩ : ∃ bv, bv = bankV p g t := ⟨_, rfl⟩
  rw [← hbv] at HBB ⊢
  clear hbv
  go_enter Tryd.func47, Tryd.ntmps47
  go_wp2_with (first
    | ((with_reducible show wpList _ _ _ (Oper.mk _ (Op.build _ _) _ _ _ _ :: _) _ _); refine wpList_build (by rfl) 133 [(0, .tmp 7), (1, .tmp 8), (2, .tmp 9)] (by rfl) _ (by rfl) _ HBB.out ?_)
    | ((with_reducible show wpList _ _ _ (Oper.mk _ (Op.box _ _) _ _ _ _ :: _) _ _); refine wpList_box0 (by rfl) 133 (.tmp 10) (by rfl) bv (by rfl) ?_; intro w1 hL1 hb1 hs1; clear hs1))
  go_ret
  exact ⟨rfl, hL1, hb1⟩

end Go.Proofs.YthbldjnpnligpaaDoor

/-
  Disks whose power is on and that have no fuse: what calls leave of them; plain data, no function here.
-/

namespace Go.Proofs.YthbldjnpnligpaaDoor
set_option linter.unusedSimpArgs false
set_option linter.unusedVariables false
set_option maxRecDepth 100000
open Go.RowKit

structure Live (S : DS) (n : Nat) : Prop where
  ok : S.Ok n
  off : S.off = false
  fuse : S.fused = false
theorem Live.new {n : Nat} (h1 : 16 ≤ n) (h2 : n ≤ 512) : Live (DS.new n) n := ⟨⟨List.length_replicate, h1, h2, rng_zeros _, fun q hq => by simp [DS.new] at hq, by simp [DS.new]⟩, rfl, rfl⟩
theorem Live.write {S : DS} {n x : Nat} {xs : List Int} (h : Live S n) (hx : x < n) (hl : xs.length = 256) (hr : ∀ y ∈ xs, 0 ≤ y ∧ y ≤ 255) : (S.write (x : Int) xs).2 = 0 ∧ Live (S.write (x : Int) xs).1 n ∧ (S.write (x : Int) xs).1.ws = S.ws ++ [(x, xs)] := by
  have hh : S.has (x : Int) := (DS.has_nat h.ok).2 hx
  unfold DS.write
  rw [h.off, if_neg (by decide), if_neg (by simpa using ⟨hh, hl⟩), h.fuse]
  refine ⟨rfl, ⟨⟨h.ok.len, h.ok.lo, h.ok.hi, h.ok.rng, fun q hq => ?_, ?_⟩, rfl, rfl⟩, rfl⟩
  · rcases List.mem_append.1 hq with h1 | h1
    · exact h.ok.ws q h1
    · simp only [List.mem_singleton] at h1; subst h1; exact ⟨by simpa using hx, hl, hr⟩
  · show DS.left' S < _
    unfold DS.left'; rw [h.fuse]; exact h.ok.left
theorem Live.rot {S : DS} {n : Nat} (h : Live S n) (i : Int) (ms : List Int) : Live (S.rot i ms).1 n ∧ (S.rot i ms).1.ws = S.ws := by
  unfold DS.rot
  split
  · exact ⟨h, rfl⟩
  · exact ⟨⟨⟨by simp only; rw [xorTo_length]; exact h.ok.len, h.ok.lo, h.ok.hi, xorTo_rng h.ok.rng _, h.ok.ws, h.ok.left⟩, h.off, h.fuse⟩, rfl⟩
theorem okK_live {S : DS} {n : Nat} {p : Pt} (hl : Live S n) (hm : p.may = true) : okK S p = 0 := by unfold okK; rw [hl.off, hm]; rfl

end Go.Proofs.YthbldjnpnligpaaDoor

/-
  bank.Look.
-/

namespace Go.Proofs.YthbldjnpnligpaaDoor
set_option linter.unusedSimpArgs false
set_option linter.unusedVariables false
set_option maxRecDepth 100000
open Go.RowKit

section
variable {B : Nat} {w w' : World} {F : Nat → Prop} {k p g : Nat} {S S' : DS} {l l' : List Bool} {t : Nat}

end

end Go.Proofs.YthbldjnpnligpaaDoor
