/-
  Package disk: Write.
-/
import Derived.Test.YteocmmmnfbabaaaDoorRead
import Derived.Deep.RegionLaw
import Derived.Deep.AppendLies
import Derived.Deep.Cut
import Derived.Deep.CutRange
namespace Go.Proofs.YteocmmmnfbabaaaDoor
set_option linter.unusedSimpArgs false
set_option linter.unusedVariables false
open Go.RowKit

theorem two_new (w : World) (x y : Value) (t : TypeId) : ∀ j u, [x, y][j]? = some u → (w.alloc (.cells #[x, y] t)).cell? ((⟨w.heap.size, 0, none⟩ : Addr).add j) = some u := by
  intro j u hj
  match j, hj with
  | 0, hj => simp at hj; subst hj; simp [Addr.add]
  | 1, hj => simp at hj; subst hj; simp [Addr.add]

theorem step_call {P : Program} {ops : Array Oper} {o : Oper} {a : Act} {w : World} {K : Act → World → Prop} {Q : Exit → Act → World → Prop} {E : Prop} (hgd : o.guard = none) (f : FuncId) (args : Array Value)
    (hv : (execOp a.eval o).run P w = .ok (.enter f args) w) {R : Ending → World → Prop} (hc : Calls P f args w R) (h : ∀ e w', R e w' → ∃ v, e = .returned v ∧ K (a.put o.dst v) w') :
    if Region.wanted o (yielded ops a.tmps) = true then Oper.wp P o a w K Q else E := by
  have hw : Region.wanted o (yielded ops a.tmps) = true := by simp [Region.wanted, hgd]
  rw [if_pos hw]
  unfold Oper.wp
  rw [hv, Oper.upon_enter]
  refine hc.mono fun e w' hR => ?_
  obtain ⟨v, rfl, hw⟩ := h e w' hR
  exact hw

section
variable {p bl : Nat} {v : Value} {bufs : List Buf} {laid : List Int} {off fused : Bool} {left : Nat}

theorem write_off (i : Int) (b : Value) (w : World) (hD : DkAt w p bl v bufs laid true fused left) :
    Calls Tryd.prog 49 #[.pointer (some ⟨p, 0, none⟩), .int .i64 i, b] w fun e w' => e = .returned (.int .i64 8) ∧ w' = w := by
  go_enter Tryd.func49, Tryd.ntmps49
  go_wp2_with (go_at_call 51; refine (down_run _ hD).mono ?_; rintro e w' ⟨rfl, rfl⟩)
  go_ret
  exact ⟨rfl, rfl⟩

theorem write_arg (i : Int) (a : Option Addr) (n c : Nat) (w : World) (hD : DkAt w p bl v bufs laid false fused left) (hi : ¬ ((0 ≤ i ∧ i < ((laid.length / 256 : Nat) : Int)) ∧ n = 256)) :
    Calls Tryd.prog 49 #[.pointer (some ⟨p, 0, none⟩), .int .i64 i, .slice a n c] w fun e w' => e = .returned (.int .i64 1) ∧ w' = w := by
  have hcall := has_run i w hD
  by_cases hh : 0 ≤ i ∧ i < ((laid.length / 256 : Nat) : Int)
  · rw [decide_eq_true hh] at hcall
    have hn : ((n : Int) == 256) = false := by simp; omega
    have hn' : ((n : Int) = 256) = False := eq_false (by omega)
    clear hi hh
    go_enter Tryd.func49, Tryd.ntmps49
    go_wp2_with (first
      | (go_at_call 51; refine (down_run _ hD).mono ?_; rintro e w' ⟨rfl, rfl⟩)
      | (go_at_call 56; refine hcall.mono ?_; rintro e w' ⟨rfl, rfl⟩))
    go_ret
    exact ⟨rfl, rfl⟩
  · rw [decide_eq_false hh] at hcall
    clear hi hh
    go_enter Tryd.func49, Tryd.ntmps49
    go_wp2_with (first
      | (go_at_call 51; refine (down_run _ hD).mono ?_; rintro e w' ⟨rfl, rfl⟩)
      | (go_at_call 56; refine hcall.mono ?_; rintro e w' ⟨rfl, rfl⟩))
    go_ret
    exact ⟨rfl, rfl⟩

theorem write_blown (i : Int) (a : Option Addr) (c : Nat) (w : World) (hD : DkAt w p bl v bufs laid false true 0) (hi : 0 ≤ i ∧ i < ((laid.length / 256 : Nat) : Int)) :
    Calls Tryd.prog 49 #[.pointer (some ⟨p, 0, none⟩), .int .i64 i, .slice a 256 c] w fun e w' => e = .returned (.int .i64 8) ∧ DkAt w' p bl v bufs laid true true 0 ∧ But p w w' := by
  have hcall := has_run i w hD
  rw [decide_eq_true hi] at hcall
  clear hi
  go_enter Tryd.func49, Tryd.ntmps49
  go_wp2_with (first
    | (go_at_call 51; refine (down_run _ hD).mono ?_; rintro e w' ⟨rfl, rfl⟩)
    | (go_at_call 56; refine hcall.mono ?_; rintro e w' ⟨rfl, rfl⟩)
    | (go_at_call 52; refine (spend_run _ hD).mono ?_; rintro e w2 ⟨rfl, hD2, hb2⟩; rw [show may true 0 = false from rfl] at hD2 ⊢))
  go_ret
  exact ⟨rfl, hD2, hb2⟩

theorem bs_owns {w : World} {base g n cap : Nat} {e : TypeId} {xs : List Int} (h : w.ownsRow base e 1 (.slice (some ⟨g, 0, none⟩) n cap) n (xs.map (Value.int .u8))) (hr : ∀ x ∈ xs, 0 ≤ x ∧ x ≤ 255) : Bs w (some ⟨g, 0, none⟩) cap xs := by
  obtain ⟨a, c, he, hb⟩ := Bs.of_owns h hr
  simp only [Value.slice.injEq] at he
  obtain ⟨rfl, _, rfl⟩ := he
  exact hb

theorem write_end {w w2 w3 w5 : World} {left' s g cap g5 cap5 : Nat} {xs : List Int} (hD2 : DkAt w2 p bl v bufs laid false fused left') (hb2 : But p w w2) (hb3 : Below w2.heap.size w2.drew w3) (hD3 : DkAt w3 p bl v bufs laid false fused left')
    (hown3 : w3.ownsRow w2.heap.size 5 1 (.slice (some ⟨g, 0, none⟩) 256 cap) 256 (xs.map (Value.int .u8))) (hr : ∀ x ∈ xs, 0 ≤ x ∧ x ≤ 255) (hx : xs.length = 256) (hs : 256 * s + 256 ≤ laid.length)
    (hown5 : w5.ownsRow 0 91 2 (.slice (some ⟨g5, 0, none⟩) (bufs.length + 1) cap5) (bufs.length + 1) (bufs.flatMap Buf.cells ++ [.int .i64 (s : Int), .slice (some ⟨g, 0, none⟩) 256 cap]))
    (hgrow5 : (w3.alloc (.cells #[.int .i64 (s : Int), .slice (some ⟨g, 0, none⟩) 256 cap] 91)).grownBy w5 v.ownBlock) (hat5 : v.ownBlock = some g5 ∨ g5 = w3.heap.size + 1)
    (hp5 : Blk 87 w5 p [.slice (some ⟨bl, 0, none⟩) laid.length laid.length, v, .bool false, .bool fused, .int .i64 (left' : Int)]) :
    ∃ v' f, DkAt (w5.setCell ⟨p, 1, none⟩ (.slice (some ⟨g5, 0, none⟩) (bufs.length + 1) cap5)) p bl v' (bufs ++ [f]) laid false fused left' ∧ f.at' = s ∧ f.xs = xs ∧ w.heap.size ≤ f.blk ∧ (∀ k, v'.ownBlock = some k → v.ownBlock = some k ∨ w.heap.size ≤ k) ∧
      Frm (fun k => k = p ∨ v.ownBlock = some k) w (w5.setCell ⟨p, 1, none⟩ (.slice (some ⟨g5, 0, none⟩) (bufs.length + 1) cap5)) := by
  have hg := hown3.lt g rfl
  have hs2 := hb2.size
  have hs3 : w2.heap.size ≤ w3.heap.size := hb3.size
  have hs5 : w3.heap.size + 1 ≤ w5.heap.size := by have := hgrow5.size; simpa using this
  have hbl := hD2.row.lt
  have hpl := hD2.blk.lt
  -- what lies in w3 and is not the row of v lies in w5
  have hk : ∀ k, k < w3.heap.size → v.ownBlock ≠ some k → w5.heap[k]? = w3.heap[k]? := fun k hlt hne =>
    (hgrow5.block k (by simp; omega) (fun e => hne e.symm)).trans (Below.heap_alloc _ _ _ hlt)
  have hset : ∀ k, k ≠ p → (w5.setCell ⟨p, 1, none⟩ (.slice (some ⟨g5, 0, none⟩) (bufs.length + 1) cap5)).heap[k]? = w5.heap[k]? := fun k hne => Below.heap_setCell _ _ _ _ (by simpa using hne)
  have hg5p : g5 ≠ p := by
    rcases hat5 with h | h
    · exact hD2.p_ne_v h
    · omega
  have hvlt : ∀ k, v.ownBlock = some k → k < w2.heap.size := fun k e => (hD2.own.lt k e).2
  refine ⟨.slice (some ⟨g5, 0, none⟩) (bufs.length + 1) cap5, ⟨s, xs, g, cap⟩, ⟨?_, ?_, ?_, ?_, hD2.rng, hD2.siz, hD2.lft⟩, rfl, rfl, by simp; omega, ?_, ?_⟩
  · exact hp5.set 1 _
  · have h1 := hD3.row
    unfold Row at *
    rw [hset bl (Ne.symm hD2.p_ne_bl), hk bl (by omega) (fun e => hD2.bl_ne_v e rfl)]
    exact h1
  · have h6 : (bufs ++ [(⟨s, xs, g, cap⟩ : Buf)]).flatMap Buf.cells = bufs.flatMap Buf.cells ++ [.int .i64 (s : Int), .slice (some ⟨g, 0, none⟩) 256 cap] := by simp [Buf.cells, Buf.slice, hx]
    rw [h6]
    have h7 : (bufs ++ [(⟨s, xs, g, cap⟩ : Buf)]).length = bufs.length + 1 := by simp
    rw [h7]
    refine owns_keep hown5 (fun k e => hset k ?_)
    simp [Value.ownBlock] at e
    subst e
    exact hg5p
  · intro f hf
    rcases List.mem_append.1 hf with hf | hf
    · obtain ⟨h1, h2, h3⟩ := hD3.buf f hf
      obtain ⟨cs, hc⟩ := h1.blk
      refine ⟨h1.keep ?_, h2, h3⟩
      rw [hset _ (hD3.p_ne_buf hf), hk _ (Array.getElem?_eq_some_iff.1 hc).1 (fun e => hD3.v_ne_buf hf e rfl)]
    · simp at hf
      subst hf
      have hkeep : (w5.setCell ⟨p, 1, none⟩ (.slice (some ⟨g5, 0, none⟩) (bufs.length + 1) cap5)).heap[g]? = w3.heap[g]? := by
        rw [hset _ (by omega), hk _ hg.2 (fun e => by have := hvlt g e; omega)]
      refine ⟨⟨?_, ?_, hx⟩, by simp; omega, by simpa using hs⟩
      · obtain ⟨cs, hc⟩ := own_type hown3 (k := g) rfl
        exact ⟨cs, by simp only; rw [hkeep]; exact hc⟩
      · exact bs_owns (owns_keep hown3 (fun k e => by simp [Value.ownBlock] at e; subst e; exact hkeep)) hr
  · intro k e
    simp [Value.ownBlock] at e
    subst e
    rcases hat5 with h | h
    · exact .inl h
    · right; omega
  · refine ⟨hgrow5.os.trans (hb3.os.trans hb2.os), hgrow5.tape.trans (hb3.tape.trans hb2.tape), hgrow5.output.trans (hb3.output.trans hb2.output), by simp; omega, fun k hnk hlt => ?_⟩
    have hkp : k ≠ p := fun e => hnk (.inl e)
    rw [hset k hkp, hk k (by omega) (fun e => hnk (.inr e)), hb3.block k (by omega)]
    exact hb2.block k hkp hlt

set_option maxRecDepth 100000 in
set_option maxHeartbeats 4000000 in
theorem write_done (s : Nat) (ad : Addr) (c : Nat) (xs : List Int) (w : World) (hD : DkAt w p bl v bufs laid false fused left) (hm : may fused left = true) (hs : 256 * s + 256 ≤ laid.length) (hB : Bs w (some ad) c xs) (hx : xs.length = 256) (hne : ad.block ≠ p) (hlen : bufs.length ≤ 1000000) :
    Calls Tryd.prog 49 #[.pointer (some ⟨p, 0, none⟩), .int .i64 (s : Int), .slice (some ad) 256 c] w fun e w' => e = .returned (.int .i64 0) ∧
      ∃ v' f, DkAt w' p bl v' (bufs ++ [f]) laid false fused (if fused then left - 1 else left) ∧ f.at' = s ∧ f.xs = xs ∧ w.heap.size ≤ f.blk ∧ (∀ k, v'.ownBlock = some k → v.ownBlock = some k ∨ w.heap.size ≤ k) ∧ Frm (fun k => k = p ∨ v.ownBlock = some k) w w' := by
  have hcall := has_run (s : Int) w hD
  rw [decide_eq_true (by omega)] at hcall
  have hi : (Tryd.prog.info? 91).map (fun i => (i.zero, i.size, i.bytes)) = some (some (.agg #[.int .i64 0, .slice none 0 0]), 2, 32) := by kernel_rfl
  obtain ⟨i0, hi0, hz0, hz1, hz2⟩ := info_parts hi
  obtain ⟨left', hleft⟩ : ∃ l, l = (if fused then left - 1 else left) := ⟨_, rfl⟩
  rw [← hleft]
  have HL : Hid (left' = (if fused then left - 1 else left)) := hleft
  clear hleft
  go_enter Tryd.func49, Tryd.ntmps49
  go_wp2_with (first
    | (go_at_call 51; refine (down_run _ hD).mono ?_; rintro e w' ⟨rfl, rfl⟩)
    | (go_at_call 56; refine hcall.mono ?_; rintro e w' ⟨rfl, rfl⟩)
    | (go_at_call 52; refine (spend_run _ hD).mono ?_; rintro e w2 ⟨rfl, hD2, hb2⟩; rw [hm] at hD2 ⊢; rw [← HL.out] at hD2))
  have hB2 : Bs w2.drew (some ad) c xs := hB.but hb2.drew (fun _ b hb => by cases hb; exact hne)
  obtain ⟨h0, h1, h2, h3, h4⟩ := hD2.fields
  have hcl := clone_run ad c xs w2.drew hB2 (by omega) (by omega)
  rw [hx] at hcl
  have hpv : some p ≠ v.ownBlock := fun e => hD2.p_ne_v e.symm rfl
  have hs2 : w'.heap.size ≤ w2.heap.size := hb2.size
  go_region_law
    (first
      | (refine step_call rfl 45 #[.slice (some ad) 256 c] (by go_simp) hcl ?_; rintro e w3 ⟨g, cap, rfl, hown3, hb3⟩; refine ⟨_, rfl, ?_⟩; have hD3 := hD2.drew.stays hb3; have h13 := hD3.fields.2.1; have h14 : ∀ o, (w3.alloc o).cell? ⟨p, 1, none⟩ = some v := fun o => (hD3.stays ((Below.refl _ _).alloc (Nat.le_refl _) o)).fields.2.1)
      | (refine step_append_lies _ rfl (.tmp 25) (.tmp 30) 85 rfl 0 91 i0 (.agg #[.int .i64 0, .slice none 0 0]) 2 32 Tryd.underlying85 hi0 hz0 hz1 hz2 rfl (by decide) v bufs.length (bufs.flatMap Buf.cells) rfl (hD3.own.alloc _) ⟨w3.heap.size, 0, none⟩ 1 1 [.int .i64 (s : Int), .slice (some ⟨g, 0, none⟩) 256 cap] rfl rfl (two_new _ _ _ _) (by simp [Value.oneCell']) (by decide) (by unfold maxLen; omega) (by omega) (Nat.zero_le _) (w3.heap.size + 1) (by simp) ?_; intro g5 cap5 w5 hown5 hgrow5 hat5 hlt5
         have hD5 := (hD3.stays ((Below.refl _ _).alloc (Nat.le_refl _) (.cells #[.int .i64 (s : Int), .slice (some ⟨g, 0, none⟩) 256 cap] 91)))
         have hp5 : Blk 87 w5 p [.slice (some ⟨bl, 0, none⟩) laid.length laid.length, v, .bool false, .bool fused, .int .i64 (left' : Int)] := (hgrow5.block p hD5.blk.lt hpv).trans hD5.blk
         have hc5 := hp5.cell 1
         have hf5 := hp5.free 1))
  all_goals (go_wp2; go_ret)
  all_goals exact ⟨rfl, write_end hD2 hb2 hb3 hD3 hown3 hB.rng hx hs hown5 hgrow5 hat5 hp5⟩

end

end Go.Proofs.YteocmmmnfbabaaaDoor
