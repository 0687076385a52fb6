/-
  The walk over num.lead: the short number that the bytes begin with.
-/
import Derived.Test.YtiofpkkbejnjcaaPuts
import Derived.Laws.Bits64b
namespace Go.Proofs.Ytiofpkkbejnjcaa
set_option linter.unusedSimpArgs false
set_option linter.unusedVariables false
open Go.RowKit

theorem pow_le_63 {k : Nat} (hk : k ≤ 9) : 128 ^ k ≤ 9223372036854775808 := by
  have : 128 ^ k ≤ 128 ^ 9 := Nat.pow_le_pow_right (by decide) hk
  omega

theorem orStep (m k : Nat) (x : Int) (hm : m < 128 ^ k) (hx0 : 0 ≤ x) (hx1 : x ≤ 255) (h : k ≤ 8 ∨ (k = 9 ∧ x ≤ 1)) :
    bits BinOp.or IntKind.u64 (m : Int) (IntKind.u64.wrap (x % 128 * 2 ^ (7 * k))) = ((m + (x % 128).toNat * 128 ^ k : Nat) : Int) := by
  obtain ⟨y, hy⟩ : ∃ y : Nat, x % 128 = (y : Int) := ⟨(x % 128).toNat, by omega⟩
  have hy1 : y < 128 := by omega
  have hp : (2 : Int) ^ (7 * k) = ((128 ^ k : Nat) : Int) := by
    rw [show (128 : Nat) = 2 ^ 7 by decide, ← Nat.pow_mul]; simp
  have h63 : 128 ^ k ≤ 9223372036854775808 := pow_le_63 (by omega)
  have hb : y * 128 ^ k < 18446744073709551616 := by
    rcases h with h | ⟨rfl, h⟩
    · have h1 : 128 ^ k ≤ 128 ^ 8 := Nat.pow_le_pow_right (by decide) h
      have h2 : y * 128 ^ k ≤ 127 * 128 ^ 8 := Nat.mul_le_mul (by omega) h1
      omega
    · have : y ≤ 1 := by omega
      have h2 : y * 128 ^ 9 ≤ 1 * 128 ^ 9 := Nat.mul_le_mul_right _ this
      omega
  have e : IntKind.u64.wrap (x % 128 * 2 ^ (7 * k)) = ((y * 128 ^ k : Nat) : Int) := by
    rw [hy, hp]
    have : IntKind.u64.wrap ((y : Int) * ((128 ^ k : Nat) : Int)) = ((y : Int) * ((128 ^ k : Nat) : Int)) % 18446744073709551616 := by simp [IntKind.wrap, IntKind.bits, IntKind.signed]
    rw [this, ← Int.natCast_mul]
    omega
  rw [e, hy, bits_or_u64_nat m (y * 128 ^ k) (by omega) hb]
  congr 1
  have hor := Nat.two_pow_add_eq_or_of_lt (i := 7 * k) (b := m) (by rw [Nat.pow_mul]; exact hm) y
  rw [Nat.pow_mul] at hor
  have h128 : (2 ^ 7) ^ k = 128 ^ k := by rw [show (2 : Nat) ^ 7 = 128 by decide]
  rw [h128] at hor
  rw [Nat.or_comm, Nat.mul_comm y, ← hor]
  simp [Nat.mul_comm, Nat.add_comm]

theorem orStep9 (m k : Nat) (x : Int) (hm : m < 128 ^ k) (hx0 : 0 ≤ x) (hx1 : x ≤ 1) (hk : k = 9) :
    bits BinOp.or IntKind.u64 (m : Int) (x % 128 * 9223372036854775808) = ((m + (x % 128).toNat * 128 ^ k : Nat) : Int) := by
  have h := orStep m k x hm hx0 (by omega) (by omega)
  subst hk
  rw [← h]
  congr 1
  have : IntKind.u64.wrap (x % 128 * 2 ^ (7 * 9)) = (x % 128 * 2 ^ (7 * 9)) % 18446744073709551616 := by simp [IntKind.wrap, IntKind.bits, IntKind.signed]
  rw [this]
  omega

theorem orStep0 (m k : Nat) (x : Int) (hm : m < 128 ^ k) (hx : x = 0) (hk : k = 0) :
    bits BinOp.or IntKind.u64 (m : Int) (IntKind.u64.wrap 0) = ((m + (x % 128).toNat * 128 ^ k : Nat) : Int) := by
  subst hx hk
  have : m = 0 := by simpa using hm
  subst this
  decide

theorem getD_rng {xs : List Int} (h : ∀ x ∈ xs, 0 ≤ x ∧ x ≤ 255) (k : Nat) (hk : k < xs.length) : 0 ≤ xs.getD k 0 ∧ xs.getD k 0 ≤ 255 := by
  have := h _ (List.getElem_mem hk); simpa [List.getD, hk] using this

theorem drop_cons {xs : List Int} {k : Nat} (hk : k < xs.length) : xs.drop k = xs.getD k 0 :: xs.drop (k + 1) := by
  rw [List.drop_eq_getElem_cons hk]; simp [List.getD, hk]

def leadV (r : Nat × Nat × Nat) : Value := .tuple #[.int .u64 r.1, .int .i64 r.2.1, .int .i64 r.2.2]

theorem leadV_of {r : Nat × Nat × Nat} {a b c : Int} (h1 : (r.1 : Int) = a) (h2 : (r.2.1 : Int) = b) (h3 : (r.2.2 : Int) = c) : Ending.returned (.tuple #[.int .u64 a, .int .i64 b, .int .i64 c]) = .returned (leadV r) := by
  rw [← h1, ← h2, ← h3]; rfl

theorem lead_any (a : Option Addr) (c : Nat) (xs : List Int) (w : World) (hB : Bs w a c xs) (hlen : xs.length ≤ 1000000) :
    Calls Try.prog 25 #[.slice a xs.length c] w fun e w' => e = .returned (leadV (leadL 0 0 xs)) ∧ w' = w := by
  go_enter Try.func25, Try.ntmps25
  go_wp2
  go_loop [5, 10] (fun n i => ∃ (k : Nat) (m : Nat), k ≤ xs.length ∧ k ≤ 9 ∧ i = .int .i64 k ∧ n = .int .u64 m ∧ Hid (m < 128 ^ k) ∧ Hid (leadL 0 0 xs = leadL k m (xs.drop k))) (fun _ i => xs.length - (intOf i).toNat)
  case atStart => exact ⟨0, 0, Nat.zero_le _, Nat.zero_le _, rfl, rfl, (show 0 < 128 ^ 0 by decide), rfl⟩
  case round =>
    obtain ⟨k, m, hk, h9, rfl, rfl, hm, hsp⟩ := hrel
    by_cases hlt : k < xs.length
    · obtain ⟨b, off, ha, hc⟩ := hB.cell (by omega)
      have hix : ∀ w' : World, (Instr.indexAt 22 (.slice a xs.length c) (.int .i64 k)).run Try.prog w' = .ok (.pointer (some ⟨b, off + k, none⟩)) w' := fun w' => by
        rw [ha]; exact index_run 22 5 Try.underlying22 Try.size5 Try.elem22 b off xs.length c .i64 k hlt w'
      have hcell := hc k hlt
      obtain ⟨hx0, hx1⟩ := getD_rng hB.rng k hlt
      have hd := drop_cons hlt
      obtain ⟨x, hx⟩ : ∃ x, xs.getD k 0 = x := ⟨_, rfl⟩
      rw [hx] at hcell hx0 hx1 hd
      have HSP : Hid (leadL 0 0 xs = leadL k m (x :: xs.drop (k + 1))) := by show _ = _; rw [← hd]; exact hsp.out
      have HM := orStep m k x hm.out hx0 hx1
      have HMM : Hid ((k ≤ 8 ∨ (k = 9 ∧ x ≤ 1)) → bits BinOp.or IntKind.u64 (m : Int) (IntKind.u64.wrap (x % 128 * 2 ^ (7 * k))) = ((m + (x % 128).toNat * 128 ^ k : Nat) : Int)) := HM
      clear hc hx ha hd HM hsp hB
      go_wp2
      · go_ret3
        exact ⟨by rw [HSP.out, leadL_over _ _ _ _ (by omega) ‹_›]; rfl, rfl⟩
      · go_ret3
        exact ⟨by rw [HSP.out, leadL_zero _ _ _ _ ‹_› (by omega)]; rfl, rfl⟩
      · go_ret3
        refine ⟨?_, rfl⟩
        rw [HSP.out, leadL_last _ _ _ _ (by omega) (by omega) (by omega)]
        exact leadV_of (orStep9 m k x hm.out hx0 (by omega) (by omega)).symm (by go_num) rfl
      · go_round
        case rel => exact ⟨k + 1, m + (x % 128).toNat * 128 ^ k, by omega, by omega, by go_num, by rw [HMM.out (by omega)], pow_step hm.out (by omega), by show _ = _; rw [HSP.out, leadL_more _ _ _ _ (by omega) (by omega)]⟩
        case measure => simp [intOf]; omega
      · go_ret3
        exact ⟨by rw [HSP.out, leadL_zero _ _ _ _ ‹_› (by omega)]; rfl, rfl⟩
      · go_ret3
        refine ⟨?_, rfl⟩
        rw [HSP.out, leadL_last _ _ _ _ (by omega) (by omega) (by omega)]
        exact leadV_of (orStep0 m k x hm.out ‹_› (by omega)).symm (by go_num) rfl
      · go_ret3
        refine ⟨?_, rfl⟩
        rw [HSP.out, leadL_last _ _ _ _ (by omega) (by omega) (by omega)]
        exact leadV_of (HMM.out (by omega)).symm (by go_num) rfl
    · go_wp2
      go_ret3
      refine ⟨?_, rfl⟩
      rw [hsp.out, List.drop_eq_nil_of_le (by omega), leadL_end]
      rfl
end Go.Proofs.Ytiofpkkbejnjcaa
