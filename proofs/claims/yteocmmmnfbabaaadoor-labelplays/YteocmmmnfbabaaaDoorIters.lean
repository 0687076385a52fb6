/-
  Package disk: the two iterators over the waiting writes.
-/
import Derived.Test.YteocmmmnfbabaaaDoorRange
import Derived.Test.YteocmmmnfbabaaaDoorDisk2
namespace Go.Proofs.YteocmmmnfbabaaaDoor
set_option linter.unusedSimpArgs false
set_option linter.unusedVariables false
open Go.RowKit
attribute [local go_sem] Oper.semAt_some

/-- What an iterator over the waiting writes needs. -/
def Nd (p : Nat) (v : Value) (bufs : List Buf) (W : World) : Prop := W.cell? ⟨p, 1, none⟩ = some v ∧ W.ownsRow 0 91 2 v bufs.length (bufs.flatMap Buf.cells)

def noBuf : Buf := ⟨0, [], 0, 0⟩
def Buf.agg (f : Buf) : Value := .agg #[.int .i64 (f.at' : Int), f.slice]

theorem flatMap_two {bufs : List Buf} {k : Nat} (hk : k < bufs.length) : (bufs.flatMap Buf.cells)[2 * k]? = some (.int .i64 ((bufs.getD k noBuf).at' : Int)) ∧ (bufs.flatMap Buf.cells)[2 * k + 1]? = some (bufs.getD k noBuf).slice := by
  induction bufs generalizing k with
  | nil => simp at hk
  | cons f r ih =>
    cases k with
    | zero => simp [Buf.cells]
    | succ k =>
      have := ih (k := k) (by simpa using hk)
      have e1 : 2 * (k + 1) = 2 * k + 2 := by omega
      rw [e1]
      simpa [Buf.cells] using this

theorem Nd.at {p : Nat} {v : Value} {bufs : List Buf} {W : World} (h : Nd p v bufs W) {k : Nat} (hk : k < bufs.length) :
    ∃ g cap, v = .slice (some ⟨g, 0, none⟩) bufs.length cap ∧ W.cell? ⟨g, 2 * k, none⟩ = some (.int .i64 ((bufs.getD k noBuf).at' : Int)) ∧ W.cell? ⟨g, 2 * k + 1, none⟩ = some (bufs.getD k noBuf).slice := by
  have hown := h.2
  rcases h.2.2 with ⟨_, h0⟩ | ⟨g, cap, cur, rfl, _⟩
  · omega
  · obtain ⟨h1, h2⟩ := flatMap_two hk
    exact ⟨g, cap, rfl, (hown.cellAt (2 * k) (by omega)).trans h1, (hown.cellAt (2 * k + 1) (by omega)).trans h2⟩

theorem Nd.slice {p : Nat} {v : Value} {bufs : List Buf} {W : World} (h : Nd p v bufs W) : ∃ a c, v = .slice a bufs.length c := by
  rcases h.2.2 with ⟨rfl, h0⟩ | ⟨g, cap, cur, rfl, _⟩
  · exact ⟨none, 0, by rw [h0]⟩
  · exact ⟨_, _, rfl⟩

set_option maxRecDepth 100000 in
set_option maxHeartbeats 4000000 in
theorem oldest_iter (p : Nat) (v : Value) (bufs : List Buf) (hlen : bufs.length ≤ 1000000) (W : World) (hN : Nd p v bufs W) :
    Iter Tryd.prog 53 (.pointer (some ⟨p, 0, none⟩)) bufs.length (fun i => #[.int .i64 (i : Int), (bufs.getD i noBuf).agg]) (Nd p v bufs) W := by
  intro l J Jx hJN hJB hY h0
  obtain ⟨a, c, rfl⟩ := hN.slice
  have hc := hN.1
  refine callsIn_of_wp Tryd.func53 rfl trivial ?_ rfl
  simp only [Tryd.ntmps53, List.size_toArray, List.length_cons, List.length_nil, Nat.reduceAdd, Nat.reduceSub, Array.replicate_succ, Array.replicate_zero, List.push_toArray, List.append_toArray, List.nil_append, List.cons_append]
  gi_wp2
  gi_loopw [11] (fun i wr => ∃ k : Nat, k ≤ bufs.length ∧ i = .int .i64 k ∧ J k wr) (fun i _ => bufs.length - (intOf i).toNat)
  case atStart => exact ⟨0, Nat.zero_le _, rfl, h0⟩
  case round =>
    obtain ⟨k, hk, rfl, hJs⟩ := hrel
    by_cases hlt : k < bufs.length
    · obtain ⟨g, cap, hv, hc0, hc1⟩ := (hJN k wr hJs).at hlt
      simp only [Value.slice.injEq] at hv
      obtain ⟨rfl, _, rfl⟩ := hv
      have hlt' : (k : Int) < (bufs.length : Int) := by omega
      have hJ1 : J k (wr.alloc (.cells #[.int .i64 ((bufs.getD k noBuf).at' : Int), (bufs.getD k noBuf).slice] 91)) := hJB k _ _ hJs ((Below.refl _ _).alloc (Nat.le_refl _) _)
      obtain ⟨fn, tmps, assign, body, hy, hR⟩ := hY k _ hlt hJ1
      dsimp only [Buf.agg] at hy
      obtain ⟨XB, XL, XC, hX⟩ : ∃ XB XL XC, (bufs.getD k noBuf).slice = .slice (some ⟨XB, 0, none⟩) XL XC := ⟨_, _, _, rfl⟩
      rw [hX] at hc1 hJ1 hy hR
      generalize hT : ((bufs.getD k noBuf).at' : Int) = T at *
      have e2 : 2 * k = k * 2 := by omega
      rw [e2] at hc0 hc1
      gi_wp2
      refine ⟨rfl, hR.mono ?_⟩
      rintro e W3 (⟨rfl, hJ3⟩ | ⟨rfl, hJx3⟩)
      · gi_wp2
        go_roundw
        case rel => exact ⟨k + 1, by omega, by simp, hJ3⟩
        case measure => simp [intOf]; omega
      · gi_wp2
        refine bodyPost_ret (results_none rfl _ _ _) rfl ?_
        exact ⟨⟨_, rfl⟩, .inr hJx3⟩
    · obtain rfl : k = bufs.length := by omega
      gi_wp2
      go_end0
      exact ⟨⟨_, rfl⟩, .inl hJs⟩

set_option maxRecDepth 100000 in
set_option maxHeartbeats 4000000 in
theorem newest_iter (p : Nat) (v : Value) (bufs : List Buf) (hlen : bufs.length ≤ 1000000) (W : World) (hN : Nd p v bufs W) :
    Iter Tryd.prog 61 (.pointer (some ⟨p, 0, none⟩)) bufs.length (fun i => #[(bufs.getD (bufs.length - 1 - i) noBuf).agg]) (Nd p v bufs) W := by
  intro l J Jx hJN hJB hY h0
  obtain ⟨a, c, rfl⟩ := hN.slice
  have hc := hN.1
  refine callsIn_of_wp Tryd.func61 rfl trivial ?_ rfl
  simp only [Tryd.ntmps61, List.size_toArray, List.length_cons, List.length_nil, Nat.reduceAdd, Nat.reduceSub, Array.replicate_succ, Array.replicate_zero, List.push_toArray, List.append_toArray, List.nil_append, List.cons_append]
  gi_wp2
  gi_loopw [4] (fun i wr => ∃ j : Nat, j ≤ bufs.length ∧ i = .int .i64 ((bufs.length : Int) - 1 - j) ∧ J j wr) (fun i _ => (intOf i + 1).toNat)
  case atStart => exact ⟨0, Nat.zero_le _, by simp, h0⟩
  case round =>
    obtain ⟨j, hj, rfl, hJs⟩ := hrel
    by_cases hlt : j < bufs.length
    · obtain ⟨k, hk⟩ : ∃ k : Nat, k = bufs.length - 1 - j := ⟨_, rfl⟩
      have hkl : k < bufs.length := by omega
      have ek : (bufs.length : Int) - 1 - j = (k : Int) := by omega
      obtain ⟨g, cap, hv, hc0, hc1⟩ := (hJN j wr hJs).at hkl
      have hcp := (hJN j wr hJs).1
      simp only [Value.slice.injEq] at hv
      obtain ⟨rfl, _, rfl⟩ := hv
      have hlt' : (k : Int) < (bufs.length : Int) := by omega
      obtain ⟨fn, tmps, assign, body, hy, hR⟩ := hY j _ hlt hJs
      rw [← hk] at hy
      dsimp only [Buf.agg] at hy
      obtain ⟨XB, XL, XC, hX⟩ : ∃ XB XL XC, (bufs.getD k noBuf).slice = .slice (some ⟨XB, 0, none⟩) XL XC := ⟨_, _, _, rfl⟩
      rw [hX] at hc1 hy
      generalize hT : ((bufs.getD k noBuf).at' : Int) = T at *
      have e2 : 2 * k = k * 2 := by omega
      rw [e2] at hc0 hc1
      rw [ek]
      have HK : Hid (k = bufs.length - 1 - j) := hk
      clear hk ek
      gi_wp2
      refine ⟨rfl, hR.mono ?_⟩
      rintro e W3 (⟨rfl, hJ3⟩ | ⟨rfl, hJx3⟩)
      · gi_wp2
        go_roundw
        case rel => exact ⟨j + 1, by omega, by have := HK.out; congr 1; omega, hJ3⟩
        case measure => simp [intOf]
      · gi_wp2
        refine bodyPost_ret (results_none rfl _ _ _) rfl ?_
        exact ⟨⟨_, rfl⟩, .inr hJx3⟩
    · obtain rfl : j = bufs.length := by omega
      have ek : (bufs.length : Int) - 1 - bufs.length = -1 := by omega
      rw [ek]
      gi_wp2
      go_end0
      exact ⟨⟨_, rfl⟩, .inl hJs⟩

end Go.Proofs.YteocmmmnfbabaaaDoor
