/-
  Package disk: Write.
-/
import Derived.Test.YthbcphalokoknaaDoorG17
import Derived.Deep.RegionLaw
import Derived.Deep.AppendLies
import Derived.Deep.Cut
import Derived.Deep.CutRange
import Derived.Laws.Closers25b
namespace Go.Proofs.YthbcphalokoknaaDoor
set_option linter.unusedSimpArgs false
set_option linter.unusedVariables false
open Go.RowKit

theorem two_new (w : World) (x y : Value) (t : TypeId) : ∀ j u, [x, y][j]? = some u → (w.alloc (.cells #[x, y] t)).cell? ((⟨w.heap.size, 0, none⟩ : Addr).add j) = some u := by
  intro j u hj
  match j, hj with
  | 0, hj => simp at hj; subst hj; simp [Addr.add]
  | 1, hj => simp at hj; subst hj; simp [Addr.add]

theorem step_call {P : Program} {ops : Array Oper} {o : Oper} {a : Act} {w : World} {K : Act → World → Prop} {Q : Exit → Act → World → Prop} {E : Prop} (hgd : o.guard = none) (f : FuncId) (args : Array Value)
    (hv : (execOp a.eval o).run P w = .ok (.enter f args) w) {R : Ending → World → Prop} (hc : Calls P f args w R) (h : ∀ e w', R e w' → ∃ v, e = .returned v ∧ K (a.put o.dst v) w') :
    if Region.wanted o (yielded ops a.tmps) = true then Oper.wp P o a w K Q else E := by
  have hw : Region.wanted o (yielded ops a.tmps) = true := by simp [Region.wanted, hgd]
  rw [if_pos hw]
  unfold Oper.wp
  rw [hv, Oper.upon_enter]
  refine hc.mono fun e w' hR => ?_
  obtain ⟨v, rfl, hw⟩ := h e w' hR
  exact hw

section
variable {p bl : Nat} {v : Value} {bufs : List Buf} {laid : List Int} {off fused : Bool} {left : Nat}

theorem write_off (i : Int) (b : Value) (w : World) (hD : DkAt w p bl v bufs laid true fused left) :
    Calls Tryd.prog 49 #[.pointer (some ⟨p, 0, none⟩), .int .i64 i, b] w fun e w' => e = .returned (.int .i64 8) ∧ w' = w := by
  go_enter Tryd.func49, Tryd.ntmps49
  go_wp2_with (go_at_call 51; refine (down_run _ hD).mono ?_; rintro e w' ⟨rfl, rfl⟩)
  go_ret
  exact ⟨rfl, rfl⟩

theorem write_arg (i : Int) (a : Option Addr) (n c : Nat) (w : World) (hD : DkAt w p bl v bufs laid false fused left) (hi : ¬ ((0 ≤ i ∧ i < ((laid.length / 256 : Nat) : Int)) ∧ n = 256)) :
    Calls Tryd.prog 49 #[.pointer (some ⟨p, 0, none⟩), .int .i64 i, .slice a n c] w fun e w' => e = .returned (.int .i64 1) ∧ w' = w := by
  have hcall := has_run i w hD
  by_cases hh : 0 ≤ i ∧ i < ((laid.length / 256 : Nat) : Int)
  · rw [decide_eq_true hh] at hcall
    have hn : ((n : Int) == 256) = false := by simp; omega
    have hn' : ((n : Int) = 256) = False := eq_false (by omega)
    clear hi hh
    go_enter Tryd.func49, Tryd.ntmps49
    go_wp2_with (first
      | (go_at_call 51; refine (down_run _ hD).mono ?_; rintro e w' ⟨rfl, rfl⟩)
      | (go_at_call 56; refine hcall.mono ?_; rintro e w' ⟨rfl, rfl⟩))
    go_ret
    exact ⟨rfl, rfl⟩
  · rw [decide_eq_false hh] at hcall
    clear hi hh
    go_enter Tryd.func49, Tryd.ntmps49
    go_wp2_with (first
      | (go_at_call 51; refine (down_run _ hD).mono ?_; rintro e w' ⟨rfl, rfl⟩)
      | (go_at_call 56; refine hcall.mono ?_; rintro e w' ⟨rfl, rfl⟩))
    go_ret
    exact ⟨rfl, rfl⟩

theorem write_blown (i : Int) (a : Option Addr) (c : Nat) (w : World) (hD : DkAt w p bl v bufs laid false true 0) (hi : 0 ≤ i ∧ i < ((laid.length / 256 : Nat) : Int)) :
    Calls Tryd.prog 49 #[.pointer (some ⟨p, 0, none⟩), .int .i64 i, .slice a 256 c] w fun e w' => e = .returned (.int .i64 8) ∧ DkAt w' p bl v bufs laid true true 0 ∧ But p w w' := by
  have hcall := has_run i w hD
  rw [decide_eq_true hi] at hcall
  clear hi
  go_enter Tryd.func49, Tryd.ntmps49
  go_wp2_with (first
    | (go_at_call 51; refine (down_run _ hD).mono ?_; rintro e w' ⟨rfl, rfl⟩)
    | (go_at_call 56; refine hcall.mono ?_; rintro e w' ⟨rfl, rfl⟩)
    | (go_at_call 52; refine (spend_run _ hD).mono ?_; rintro e w2 ⟨rfl, hD2, hb2⟩; rw [show may true 0 = false from rfl] at hD2 ⊢))
  go_ret
  exact ⟨rfl, hD2, hb2⟩

theorem bs_owns {w : World} {base g n cap : Nat} {e : TypeId} {xs : List Int} (h : w.ownsRow base e 1 (.slice (some ⟨g, 0, none⟩) n cap) n (xs.map (Value.int .u8))) (hr : ∀ x ∈ xs, 0 ≤ x ∧ x ≤ 255) : Bs w (some ⟨g, 0, none⟩) cap xs := by
  obtain ⟨a, c, he, hb⟩ := Bs.of_owns h hr
  simp only [Value.slice.injEq] at he
  obtain ⟨rfl, _, rfl⟩ := he
  exact hb

theorem write_end {w w2 w3 w5 : World} {left' s g cap g5 cap5 : Nat} {xs : List Int} (hD2 : DkAt w2 p bl v bufs laid false fused left') (hb2 : But p w w2) (hb3 : Below w2.heap.size w2.drew w3) (hD3 : DkAt w3 p bl v bufs laid false fused left')
    (hown3 : w3.ownsRow w2.heap.size 5 1 (.slice (some ⟨g, 0, none⟩) 256 cap) 256 (xs.map (Value.int .u8))) (hr : ∀ x ∈ xs, 0 ≤ x ∧ x ≤ 255) (hx : xs.length = 256) (hs : 256 * s + 256 ≤ laid.length)
    (hown5 : w5.ownsRow 0 91 2 (.slice (some ⟨g5, 0, none⟩) (bufs.length + 1) cap5) (bufs.length + 1) (bufs.flatMap Buf.cells ++ [.int .i64 (s : Int), .slice (some ⟨g, 0, none⟩) 256 cap]))
    (hgrow5 : (w3.alloc (.cells #[.int .i64 (s : Int), .slice (some ⟨g, 0, none⟩) 256 cap] 91)).grownBy w5 v.ownBlock) (hat5 : v.ownBlock = some g5 ∨ g5 = w3.heap.size + 1)
    (hp5 : Blk 87 w5 p [.slice (some ⟨bl, 0, none⟩) laid.length laid.length, v, .bool false, .bool fused, .int .i64 (left' : Int)]) :
    ∃ v' f, DkAt (w5.setCell ⟨p, 1, none⟩ (.slice (some ⟨g5, 0, none⟩) (bufs.length + 1) cap5)) p bl v' (bufs ++ [f]) laid false fused left' ∧ f.at' = s ∧ f.xs = xs ∧ w.heap.size ≤ f.blk ∧ (∀ k, v'.ownBlock = some k → v.ownBlock = some k ∨ w.heap.size ≤ k) ∧
      Frm (fun k => k = p ∨ v.ownBlock = some k) w (w5.setCell ⟨p, 1, none⟩ (.slice (some ⟨g5, 0, none⟩) (bufs.length + 1) cap5)) := by
  have hg := hown3.lt g rfl
  have hs2 := hb2.size
  have hs3 : w2.heap.size ≤ w3.heap.size := hb3.size
  have hs5 : w3.heap.size + 1 ≤ w5.heap.size := by have := hgrow5.size; simpa using this
  have hbl := hD2.row.lt
  have hpl := hD2.blk.lt
  -- what lies in w3 and is not the row of v lies in w5
  have hk : ∀ k, k < w3.heap.size → v.ownBlock ≠ some k → w5.heap[k]? = w3.heap[k]? := fun k hlt hne =>
    (hgrow5.block k (by simp; omega) (fun e => hne e.symm)).trans (Below.heap_alloc _ _ _ hlt)
  have hset : ∀ k, k ≠ p → (w5.setCell ⟨p, 1, none⟩ (.slice (some ⟨g5, 0, none⟩) (bufs.length + 1) cap5)).heap[k]? = w5.heap[k]? := fun k hne => Below.heap_setCell _ _ _ _ (by simpa using hne)
  have hg5p : g5 ≠ p := by
    rcases hat5 with h | h
    · exact hD2.p_ne_v h
    · omega
  have hvlt : ∀ k, v.ownBlock = some k → k < w2.heap.size := fun k e => (hD2.own.lt k e).2
  refine ⟨.slice (some ⟨g5, 0, none⟩) (bufs.length + 1) cap5, ⟨s, xs, g, cap⟩, ⟨?_, ?_, ?_, ?_, hD2.rng, hD2.siz, hD2.lft⟩, rfl, rfl, by simp; omega, ?_, ?_⟩
  · exact hp5.set 1 _
  · have h1 := hD3.row
    unfold Row at *
    rw [hset bl (Ne.symm hD2.p_ne_bl), hk bl (by omega) (fun e => hD2.bl_ne_v e rfl)]
    exact h1
  · have h6 : (bufs ++ [(⟨s, xs, g, cap⟩ : Buf)]).flatMap Buf.cells = bufs.flatMap Buf.cells ++ [.int .i64 (s : Int), .slice (some ⟨g, 0, none⟩) 256 cap] := by simp [Buf.cells, Buf.slice, hx]
    rw [h6]
    have h7 : (bufs ++ [(⟨s, xs, g, cap⟩ : Buf)]).length = bufs.length + 1 := by simp
    rw [h7]
    refine owns_keep hown5 (fun k e => hset k ?_)
    simp [Value.ownBlock] at e
    subst e
    exact hg5p
  · intro f hf
    rcases List.mem_append.1 hf with hf | hf
    · obtain ⟨h1, h2, h3⟩ := hD3.buf f hf
      obtain ⟨cs, hc⟩ := h1.blk
      refine ⟨h1.keep ?_, h2, h3⟩
      rw [hset _ (hD3.p_ne_buf hf), hk _ (Array.getElem?_eq_some_iff.1 hc).1 (fun e => hD3.v_ne_buf hf e rfl)]
    · simp at hf
      subst hf
      have hkeep : (w5.setCell ⟨p, 1, none⟩ (.slice (some ⟨g5, 0, none⟩) (bufs.length + 1) cap5)).heap[g]? = w3.heap[g]? := by
        rw [hset _ (by omega), hk _ hg.2 (fun e => by have := hvlt g e; omega)]
      refine ⟨⟨?_, ?_, hx⟩, by simp; omega, by simpa using hs⟩
      · obtain ⟨cs, hc⟩ := own_type hown3 (k := g) rfl
        exact ⟨cs, by simp only; rw [hkeep]; exact hc⟩
      · exact bs_owns (owns_keep hown3 (fun k e => by simp [Value.ownBlock] at e; subst e; exact hkeep)) hr
  · intro k e
    simp [Value.ownBlock] at e
    subst e
    rcases hat5 with h | h
    · exact .inl h
    · right; omega
  · refine ⟨hgrow5.os.trans (hb3.os.trans hb2.os), hgrow5.tape.trans (hb3.tape.trans hb2.tape), hgrow5.output.trans (hb3.output.trans hb2.output), by simp; omega, fun k hnk hlt => ?_⟩
    have hkp : k ≠ p := fun e => hnk (.inl e)
    rw [hset k hkp, hk k (by omega) (fun e => hnk (.inr e)), hb3.block k (by omega)]
    exact hb2.block k hkp hlt

set_option maxRecDepth 100000 in
set_option maxHeartbeats 4000000 in
theorem write_done (s : Nat) (ad : Addr) (c : Nat) (xs : List Int) (w : World) (hD : DkAt w p bl v bufs laid false fused left) (hm : may fused left = true) (hs : 256 * s + 256 ≤ laid.length) (hB : Bs w (some ad) c xs) (hx : xs.length = 256) (hne : ad.block ≠ p) (hlen : bufs.length ≤ 1000000) :
    Calls Tryd.prog 49 #[.pointer (some ⟨p, 0, none⟩), .int .i64 (s : Int), .slice (some ad) 256 c] w fun e w' => e = .returned (.int .i64 0) ∧
      ∃ v' f, DkAt w' p bl v' (bufs ++ [f]) laid false fused (if fused then left - 1 else left) ∧ f.at' = s ∧ f.xs = xs ∧ w.heap.size ≤ f.blk ∧ (∀ k, v'.ownBlock = some k → v.ownBlock = some k ∨ w.heap.size ≤ k) ∧ Frm (fun k => k = p ∨ v.ownBlock = some k) w w' := by
  have hcall := has_run (s : Int) w hD
  rw [decide_eq_true (by omega)] at hcall
  have hi : (Tryd.prog.info? 91).map (fun i => (i.zero, i.size, i.bytes)) = some (some (.agg #[.int .i64 0, .slice none 0 0]), 2, 32) := by kernel_rfl
  obtain ⟨i0, hi0, hz0, hz1, hz2⟩ := info_parts hi
  obtain ⟨left', hleft⟩ : ∃ l, l = (if fused then left - 1 else left) := ⟨_, rfl⟩
  rw [← hleft]
  have HL : Hid (left' = (if fused then left - 1 else left)) := hleft
  clear hleft
  go_enter Tryd.func49, Tryd.ntmps49
  go_wp2_with (first
    | (go_at_call 51; refine (down_run _ hD).mono ?_; rintro e w' ⟨rfl, rfl⟩)
    | (go_at_call 56; refine hcall.mono ?_; rintro e w' ⟨rfl, rfl⟩)
    | (go_at_call 52; refine (spend_run _ hD).mono ?_; rintro e w2 ⟨rfl, hD2, hb2⟩; rw [hm] at hD2 ⊢; rw [← HL.out] at hD2))
  have hB2 : Bs w2.drew (some ad) c xs := hB.but hb2.drew (fun _ b hb => by cases hb; exact hne)
  obtain ⟨h0, h1, h2, h3, h4⟩ := hD2.fields
  have hcl := clone_run ad c xs w2.drew hB2 (by omega) (by omega)
  rw [hx] at hcl
  have hpv : some p ≠ v.ownBlock := fun e => hD2.p_ne_v e.symm rfl
  have hs2 : w'.heap.size ≤ w2.heap.size := hb2.size
  go_region_law
    (first
      | (refine step_call rfl 45 #[.slice (some ad) 256 c] (by go_simp) hcl ?_; rintro e w3 ⟨g, cap, rfl, hown3, hb3⟩; refine ⟨_, rfl, ?_⟩; have hD3 := hD2.drew.stays hb3; have h13 := hD3.fields.2.1; have h14 : ∀ o, (w3.alloc o).cell? ⟨p, 1, none⟩ = some v := fun o => (hD3.stays ((Below.refl _ _).alloc (Nat.le_refl _) o)).fields.2.1)
      | (refine step_append_lies _ rfl (.tmp 25) (.tmp 30) 85 rfl 0 91 i0 (.agg #[.int .i64 0, .slice none 0 0]) 2 32 Tryd.underlying85 hi0 hz0 hz1 hz2 rfl (by decide) v bufs.length (bufs.flatMap Buf.cells) rfl (hD3.own.alloc _) ⟨w3.heap.size, 0, none⟩ 1 1 [.int .i64 (s : Int), .slice (some ⟨g, 0, none⟩) 256 cap] rfl rfl (two_new _ _ _ _) (by simp [Value.oneCell']) (by decide) (by unfold maxLen; omega) (by omega) (Nat.zero_le _) (w3.heap.size + 1) (by simp) ?_; intro g5 cap5 w5 hown5 hgrow5 hat5 hlt5
         have hD5 := (hD3.stays ((Below.refl _ _).alloc (Nat.le_refl _) (.cells #[.int .i64 (s : Int), .slice (some ⟨g, 0, none⟩) 256 cap] 91)))
         have hp5 : Blk 87 w5 p [.slice (some ⟨bl, 0, none⟩) laid.length laid.length, v, .bool false, .bool fused, .int .i64 (left' : Int)] := (hgrow5.block p hD5.blk.lt hpv).trans hD5.blk
         have hc5 := hp5.cell 1
         have hf5 := hp5.free 1))
  all_goals (go_wp2; go_ret)
  all_goals exact ⟨rfl, write_end hD2 hb2 hb3 hD3 hown3 hB.rng hx hs hown5 hgrow5 hat5 hp5⟩

end

end Go.Proofs.YthbcphalokoknaaDoor

/-
  Package disk: Rot, Fuse, Dump, New; no disk.
-/

namespace Go.Proofs.YthbcphalokoknaaDoor
set_option linter.unusedSimpArgs false
set_option linter.unusedVariables false
open Go.RowKit

section
variable {p bl : Nat} {v : Value} {bufs : List Buf} {laid : List Int} {off fused : Bool} {left : Nat}

theorem rot_arg (i : Int) (a : Option Addr) (n c : Nat) (w : World) (hD : DkAt w p bl v bufs laid off fused left) (hn63 : n ≤ 140737488351232) (hi : ¬ ((0 ≤ i ∧ i < ((laid.length / 256 : Nat) : Int)) ∧ n ≤ 256)) :
    Calls Tryd.prog 24 #[.pointer (some ⟨p, 0, none⟩), .int .i64 i, .slice a n c] w fun e w' => e = .returned (.int .i64 1) ∧ w' = w := by
  have hcall := has_run i w hD
  by_cases hh : 0 ≤ i ∧ i < ((laid.length / 256 : Nat) : Int)
  · rw [decide_eq_true hh] at hcall
    have hn : (256 : Int) < (n : Int) := by omega
    clear hi hh
    go_enter Tryd.func24, Tryd.ntmps24
    go_wp2_with (first
      | (go_at_call 56; refine hcall.mono ?_; rintro e w' ⟨rfl, rfl⟩))
    go_ret
    exact ⟨rfl, rfl⟩
  · rw [decide_eq_false hh] at hcall
    clear hi hh
    go_enter Tryd.func24, Tryd.ntmps24
    go_wp2_with (first
      | (go_at_call 56; refine hcall.mono ?_; rintro e w' ⟨rfl, rfl⟩))
    go_ret
    exact ⟨rfl, rfl⟩

theorem fuse_run (f : Int) (w : World) (hD : DkAt w p bl v bufs laid off fused left) (hf : f ≤ 9223372036854775807) :
    Calls Tryd.prog 18 #[.pointer (some ⟨p, 0, none⟩), .int .i64 f] w fun e w' => (∃ v, e = .returned v) ∧ DkAt w' p bl v bufs laid off true (max f 0).toNat ∧ But p w w' := by
  obtain ⟨h0, h1, h2, h3, h4⟩ := hD.fields
  have f3 := hD.free 3
  have f4 := hD.free 4
  go_enter Tryd.func18, Tryd.ntmps18
  go_wp2
  · go_end0
    have e : ((max f 0).toNat : Int) = 0 := by omega
    exact ⟨⟨_, rfl⟩, hD.flags (by omega) (((But.refl _ _).setCell _ _).setCell _ _) (by rw [e]; exact (hD.blk.set 3 _).set 4 _), ((But.refl _ _).setCell _ _).setCell _ _⟩
  · go_end0
    have e : ((max f 0).toNat : Int) = f := by omega
    exact ⟨⟨_, rfl⟩, hD.flags (by omega) (((But.refl _ _).setCell _ _).setCell _ _) (by rw [e]; exact (hD.blk.set 3 _).set 4 _), ((But.refl _ _).setCell _ _).setCell _ _⟩

theorem dump_run (w : World) (hD : DkAt w p bl v bufs laid off fused left) :
    Calls Tryd.prog 30 #[.pointer (some ⟨p, 0, none⟩)] w fun e w' => ∃ g cap, e = .returned (.slice (some ⟨g, 0, none⟩) laid.length cap) ∧ w'.ownsRow w.heap.size 5 1 (.slice (some ⟨g, 0, none⟩) laid.length cap) laid.length (laid.map (Value.int .u8)) ∧ Below w.heap.size w w' := by
  obtain ⟨h0, h1, h2, h3, h4⟩ := hD.fields
  obtain ⟨n, hn, hn1, hn2⟩ := hD.siz
  have hcl := clone_run ⟨bl, 0, none⟩ _ _ w (hD.row.bs hD.rng (by unfold maxLen; omega)) (by omega) (by omega)
  obtain ⟨L, hL⟩ : ∃ L, L = laid.length := ⟨_, rfl⟩
  rw [← hL] at h0 hcl ⊢
  clear hL hn
  go_enter Tryd.func30, Tryd.ntmps30
  go_wp2_with (go_at_call 45; refine hcl.mono ?_; rintro e w2 ⟨g, cap, rfl, hown, hb2⟩)
  go_ret
  exact ⟨g, cap, rfl, hown, hb2⟩

theorem new_arg (n : Int) (w : World) (hn : n < 16 ∨ 512 < n) :
    Calls Tryd.prog 16 #[.int .i64 n] w fun e w' => e = .returned (.tuple #[.pointer none, .int .i64 1]) ∧ w' = w := by
  rcases hn with hn | hn
  · go_enter Tryd.func16, Tryd.ntmps16
    go_wp2
    refine bodyPost_ret (results_tmp2 rfl _ _ _) rfl ?_
    exact ⟨rfl, rfl⟩
  · have hn' : ¬ n < 16 := by omega
    go_enter Tryd.func16, Tryd.ntmps16
    go_wp2
    refine bodyPost_ret (results_tmp2 rfl _ _ _) rfl ?_
    exact ⟨rfl, rfl⟩

theorem dnew_run (n : Nat) (w : World) (hn1 : 16 ≤ n) (hn2 : n ≤ 512) :
    Calls Tryd.prog 16 #[.int .i64 (n : Int)] w fun e w' => ∃ p, e = .returned (.tuple #[.pointer (some ⟨p, 0, none⟩), .int .i64 0]) ∧ ∃ bl, DkAt w' p bl (.slice none 0 0) [] (List.replicate (256 * n) 0) false false 0 ∧ w.heap.size ≤ p ∧ w.heap.size ≤ bl ∧ Below w.heap.size w w' := by
  have hi : (Tryd.prog.info? 5).map (fun i => (i.zero, i.size, i.bytes)) = some (some (.int .u8 0), 1, 1) := by kernel_rfl
  obtain ⟨i0, hi0, hz0, hz1, hz2⟩ := info_parts hi
  have h1 : ¬ ((n : Int) < 16) := by omega
  have h2 : ¬ ((512 : Int) < (n : Int)) := by omega
  go_enter Tryd.func16, Tryd.ntmps16
  go_wp2_with (refine wpList_make_bytes (w0 := w) (by rfl) (.tmp 11) (.tmp 11) 27 (by rfl) w.heap.size 5 i0 Tryd.underlying27 hi0 hz0 hz1 hz2 .i64 .i64 ((n : Int) * 256) ((n : Int) * 256) (256 * n) (by rfl) (by rfl) (by omega) (by omega) (by omega) (Nat.le_refl _) (Below.refl _ _) ?_; intro w1 hrow hb1)
  refine bodyPost_ret (results_tmp2 rfl _ _ _) rfl ?_
  refine ⟨w1.heap.size, rfl, w.heap.size, ?_, hb1.size, Nat.le_refl _, hb1.alloc hb1.size _⟩
  have hl : (List.replicate (256 * n) (0 : Int)).length = 256 * n := List.length_replicate
  refine ⟨by rw [hl]; exact Blk.newAt rfl rfl, ?_, World.ownsRow_nil _ _ _ _, fun f hf => by simp at hf, ?_, ⟨n, hl, hn1, hn2⟩, by omega⟩
  · have h3 := hrow.lt
    unfold Row at *
    rw [Below.heap_alloc _ _ _ h3]
    exact hrow
  · intro x hx
    obtain ⟨_, rfl⟩ := List.mem_replicate.1 hx
    omega

/-- Exclusive or of two bytes. -/
def xorB (x y : Int) : Int := bits BinOp.xor IntKind.u8 x y

/-- The sector's bytes when the first k bytes of a mask are turned. -/
def xorTo (laid : List Int) (s : Nat) (ms : List Int) (k : Nat) : List Int := (List.range k).foldl (fun l j => l.set (256 * s + j) (xorB (l.getD (256 * s + j) 0) (ms.getD j 0))) laid

theorem xorTo_succ (laid : List Int) (s : Nat) (ms : List Int) (k : Nat) : xorTo laid s ms (k + 1) = (xorTo laid s ms k).set (256 * s + k) (xorB ((xorTo laid s ms k).getD (256 * s + k) 0) (ms.getD k 0)) := by
  simp [xorTo, List.range_succ]

theorem xorTo_length (laid : List Int) (s : Nat) (ms : List Int) (k : Nat) : (xorTo laid s ms k).length = laid.length := by
  induction k with
  | zero => rfl
  | succ k ih => rw [xorTo_succ, List.length_set, ih]

theorem xorTo_rng {laid : List Int} {s : Nat} {ms : List Int} (h : ∀ x ∈ laid, 0 ≤ x ∧ x ≤ 255) (k : Nat) : ∀ x ∈ xorTo laid s ms k, 0 ≤ x ∧ x ≤ 255 := by
  induction k with
  | zero => exact h
  | succ k ih =>
    intro x hx
    rw [xorTo_succ] at hx
    rcases List.mem_or_eq_of_mem_set hx with hx | rfl
    · exact ih x hx
    · exact bits_within .xor .u8 _ _

set_option maxHeartbeats 1000000 in
theorem rot_run (s : Nat) (a : Option Addr) (c : Nat) (ms : List Int) (w : World) (hD : DkAt w p bl v bufs laid off fused left) (hs : 256 * s + 256 ≤ laid.length) (hB : Bs w a c ms) (hm : ms.length ≤ 256) (hne : ms ≠ [] → ∀ x, a = some x → x.block ≠ bl) :
    Calls Tryd.prog 24 #[.pointer (some ⟨p, 0, none⟩), .int .i64 (s : Int), .slice a ms.length c] w fun e w' => e = .returned (.int .i64 0) ∧ DkAt w' p bl v bufs (xorTo laid s ms ms.length) off fused left ∧ But bl w w' := by
  have hcall := has_run (s : Int) w hD
  rw [decide_eq_true (by omega)] at hcall
  have hsec := sector_run s w hD hs
  have hm' : ¬ ((256 : Int) < (ms.length : Int)) := by omega
  go_enter Tryd.func24, Tryd.ntmps24
  go_wp2_with (first
    | (go_at_call 56; refine hcall.mono ?_; rintro e w' ⟨rfl, rfl⟩)
    | (go_at_call 57; refine hsec.mono ?_; rintro e w' ⟨rfl, rfl⟩))
  go_loopw [26] (fun x wr => ∃ k : Nat, x = .int .i64 k ∧ k ≤ ms.length ∧ Row 5 wr bl (xorTo laid s ms k) ∧ But bl w' wr) (fun x _ => ms.length - (intOf x).toNat)
  case atStart => exact ⟨0, rfl, Nat.zero_le _, hD.row, But.refl _ _⟩
  case round =>
    rename_i hrel
    obtain ⟨k, rfl, hk, hrow, hbut⟩ := hrel
    by_cases hlt : k < ms.length
    · obtain ⟨b, o, ha, hc⟩ := (hB.but hbut (fun h0 x hx => hne h0 x hx)).cell (by omega)
      have hck := hc k hlt
      have hcl := hrow.cell (256 * s + k) (by rw [xorTo_length]; omega)
      have hfl := hrow.free (256 * s + k)
      obtain ⟨X, hX⟩ : ∃ X, X = (xorTo laid s ms k).getD (256 * s + k) 0 := ⟨_, rfl⟩
      obtain ⟨M, hM⟩ : ∃ M, M = ms.getD k 0 := ⟨_, rfl⟩
      rw [← hX] at hcl
      rw [← hM] at hck
      have HX : Hid (xorTo laid s ms (k + 1) = (xorTo laid s ms k).set (256 * s + k) (bits BinOp.xor IntKind.u8 X M)) := by
        have := xorTo_succ laid s ms k
        rw [← hX, ← hM] at this
        exact this
      subst ha
      clear hX hM hc
      have hlt' : (k : Int) < (ms.length : Int) := by omega
      have hlt2 : (k : Int) < 256 := by omega
      go_wp2
      go_roundw
      case rel =>
        refine ⟨k + 1, by go_num, by omega, ?_, hbut.setCell _ _⟩
        rw [HX.out]
        exact hrow.set _ _
      case measure => simp [intOf]; omega
    · have hk2 : k = ms.length := by omega
      have hlt' : ¬ ((k : Int) < (ms.length : Int)) := by omega
      go_wp2
      go_ret
      rw [hk2] at hrow
      exact ⟨rfl, hD.relaid (xorTo_length _ _ _ _) (xorTo_rng hD.rng _) hbut hrow, hbut⟩

end

section
attribute [local go_sem] Oper.semAt_some wide_fn wide_depth round_fn round_depth

set_option maxRecDepth 100000 in
set_option maxHeartbeats 4000000 in
theorem read_nil (i : Int) (w : World) : Calls Tryd.prog 32 #[.pointer none, .int .i64 i] w fun e w' => e = .returned (.tuple #[.slice none 0 0, .int .i64 8]) ∧ Below w.heap.size w w' := by
  refine (callsIn_wide (n := 0)).1 (callsIn_of_wp_marks Tryd.func32 rfl trivial ?_ rfl)
  simp only [Tryd.ntmps32, List.size_toArray, List.length_cons, List.length_nil, Nat.reduceAdd, Nat.reduceSub, Array.replicate_succ, Array.replicate_zero, List.push_toArray, List.append_toArray, List.nil_append, List.cons_append]
  gi_wp2_with (first
    | (gi_at_call 51; refine (callsIn_wide.2 (down_nil _)).mono ?_; rintro e w' ⟨rfl, rfl⟩))
  have c1 : (((w.alloc (.cells #[.int .i64 i] 3)).alloc (.cells #[.slice none 0 0] 27)).alloc (.cells #[.int .i64 8] 31)).cell? ⟨w.heap.size + 1, 0, none⟩ = some (.slice none 0 0) := (Blk.alloc (Blk.newAt (vs := [.slice none 0 0]) (by simp) rfl) _).cell 0
  have c2 : (((w.alloc (.cells #[.int .i64 i] 3)).alloc (.cells #[.slice none 0 0] 27)).alloc (.cells #[.int .i64 8] 31)).cell? ⟨w.heap.size + 1 + 1, 0, none⟩ = some (.int .i64 8) := (Blk.newAt (vs := [.int .i64 8]) (by simp) rfl).cell 0
  exact ⟨_, results_cells2 rfl _ _ _ rfl rfl (load_slice c1) (load_errno c2), rfl, (((Below.refl _ _).alloc (Nat.le_refl _) _).alloc (by simp) _).alloc (by simp; omega) _⟩

set_option maxRecDepth 100000 in
set_option maxHeartbeats 4000000 in
theorem flush_nil (w : World) : Calls Tryd.prog 22 #[.pointer none] w fun e w' => e = .returned (.int .i64 8) ∧ Below w.heap.size w w' := by
  refine (callsIn_wide (n := 0)).1 (callsIn_of_wp_marks Tryd.func22 rfl trivial ?_ rfl)
  simp only [Tryd.ntmps22, List.size_toArray, List.length_cons, List.length_nil, Nat.reduceAdd, Nat.reduceSub, Array.replicate_succ, Array.replicate_zero, List.push_toArray, List.append_toArray, List.nil_append, List.cons_append]
  gi_wp2_with (first
    | (gi_at_call 51; refine (callsIn_wide.2 (down_nil _)).mono ?_; rintro e w' ⟨rfl, rfl⟩))
  exact ⟨_, results_tmp rfl _ _ _, rfl, (Below.refl _ _).alloc (Nat.le_refl _) _⟩

set_option maxRecDepth 100000 in
set_option maxHeartbeats 4000000 in
theorem crash_nil (k : Value) (a : Option Addr) (n c : Nat) (hk : k = .slice a n c) (w : World) : Calls Tryd.prog 26 #[.pointer none, k] w fun e w' => (∃ v, e = .returned v) ∧ Below w.heap.size w w' := by
  subst hk
  refine (callsIn_wide (n := 0)).1 (callsIn_of_wp_marks Tryd.func26 rfl trivial ?_ rfl)
  simp only [Tryd.ntmps26, List.size_toArray, List.length_cons, List.length_nil, Nat.reduceAdd, Nat.reduceSub, Array.replicate_succ, Array.replicate_zero, List.push_toArray, List.append_toArray, List.nil_append, List.cons_append]
  gi_wp2
  exact ⟨_, results_none rfl _ _ _, ⟨_, rfl⟩, ((Below.refl _ _).alloc (Nat.le_refl _) _).alloc (by simp) _⟩

end

theorem write_nil (i : Int) (b : Value) (w : World) : Calls Tryd.prog 49 #[.pointer none, .int .i64 i, b] w fun e w' => e = .returned (.int .i64 8) ∧ w' = w := by
  go_enter Tryd.func49, Tryd.ntmps49
  go_wp2_with (go_at_call 51; refine (down_nil _).mono ?_; rintro e w' ⟨rfl, rfl⟩)
  go_ret
  exact ⟨rfl, rfl⟩

theorem rot_nil (i : Int) (b : Value) (w : World) : Calls Tryd.prog 24 #[.pointer none, .int .i64 i, b] w fun e w' => e = .returned (.int .i64 8) ∧ w' = w := by
  go_enter Tryd.func24, Tryd.ntmps24
  go_wp2
  go_ret
  exact ⟨rfl, rfl⟩

theorem fuse_nil (f : Int) (w : World) : Calls Tryd.prog 18 #[.pointer none, .int .i64 f] w fun e w' => (∃ v, e = .returned v) ∧ w' = w := by
  go_enter Tryd.func18, Tryd.ntmps18
  go_wp2
  refine bodyPost_ret (results_none rfl _ _ _) rfl ?_
  exact ⟨⟨_, rfl⟩, rfl⟩

theorem dump_nil (w : World) : Calls Tryd.prog 30 #[.pointer none] w fun e w' => e = .returned (.slice none 0 0) ∧ w' = w := by
  go_enter Tryd.func30, Tryd.ntmps30
  go_wp2
  go_ret
  exact ⟨rfl, rfl⟩

end Go.Proofs.YthbcphalokoknaaDoor

/-
  Package disk: what is read of no writes and of one.
-/

namespace Go.Proofs.YthbcphalokoknaaDoor
set_option linter.unusedSimpArgs false
set_option linter.unusedVariables false
open Go.RowKit

theorem owns_cell {w : World} {base g n cap : Nat} {e : TypeId} {xs : List Int} (h : w.ownsRow base e 1 (.slice (some ⟨g, 0, none⟩) n cap) n (xs.map (Value.int .u8))) {k : Nat} (hk : k < n) : w.cell? ⟨g, k, none⟩ = some (.int .u8 (xs.getD k 0)) := by
  have hl : xs.length = n := by have := h.1; simpa using this
  rw [h.cellAt k (by omega)]
  simp [List.getD, show k < xs.length by omega]

theorem readOf_one (laid : List Int) (f : Buf) : readOf laid [f] f.at' = f.xs := by simp [readOf]
theorem readOf_nil (laid : List Int) (s : Nat) : readOf laid [] s = secOf laid s := by simp [readOf]
theorem laidTo_none (laid : List Int) (bufs : List Buf) (keep : Nat → Int) : laidTo laid bufs keep 0 = laid := rfl

end Go.Proofs.YthbcphalokoknaaDoor
