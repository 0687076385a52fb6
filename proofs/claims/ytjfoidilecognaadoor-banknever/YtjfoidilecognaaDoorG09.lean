/-
  Package disk: Write.
-/
import Derived.Test.YtjfoidilecognaaDoorG08
import Derived.Test.YtjfoidilecognaaDoorG06
import Derived.Test.YtjfoidilecognaaDoorG05
import Derived.Deep.RegionLaw
import Derived.Deep.AppendLies
import Derived.Deep.Cut
import Derived.Deep.CutRange
import Derived.StillTailTactics
namespace Go.Proofs.YtjfoidilecognaaDoor
set_option linter.unusedSimpArgs false
set_option linter.unusedVariables false
set_option maxRecDepth 100000
open Go.RowKit

theorem two_new (w : World) (x y : Value) (t : TypeId) : ∀ j u, [x, y][j]? = some u → (w.alloc (.cells #[x, y] t)).cell? ((⟨w.heap.size, 0, none⟩ : Addr).add j) = some u := by
  intro j u hj
  match j, hj with
  | 0, hj => simp at hj; subst hj; simp [Addr.add]
  | 1, hj => simp at hj; subst hj; simp [Addr.add]

theorem step_call {P : Program} {ops : Array Oper} {o : Oper} {a : Act} {w : World} {K : Act → World → Prop} {Q : Exit → Act → World → Prop} {E : Prop} (hgd : o.guard = none) (f : FuncId) (args : Array Value)
    (hv : (execOp a.eval o).run P w = .ok (.enter f args) w) {R : Ending → World → Prop} (hc : Calls P f args w R) (h : ∀ e w', R e w' → ∃ v, e = .returned v ∧ K (a.put o.dst v) w') :
    if Region.wanted o (yielded ops a.tmps) = true then Oper.wp P o a w K Q else E := by
  have hw : Region.wanted o (yielded ops a.tmps) = true := by simp [Region.wanted, hgd]
  rw [if_pos hw]
  unfold Oper.wp
  rw [hv, Oper.upon_enter]
  refine hc.mono fun e w' hR => ?_
  obtain ⟨v, rfl, hw⟩ := h e w' hR
  exact hw

section
variable {p bl : Nat} {v : Value} {bufs : List Buf} {laid : List Int} {off fused : Bool} {left : Nat}

theorem write_off (i : Int) (b : Value) (w : World) (hD : DkAt w p bl v bufs laid true fused left) :
    Calls Tryd.prog 81 #[.pointer (some ⟨p, 0, none⟩), .int .i64 i, b] w fun e w' => e = .returned (.int .i64 8) ∧ w' = w := by
  go_enter Tryd.func81, Tryd.ntmps81
  go_wp2_with (go_at_call 60; refine (down_run _ hD).mono ?_; rintro e w' ⟨rfl, rfl⟩)
  go_ret
  exact ⟨rfl, rfl⟩

theorem write_arg (i : Int) (a : Option Addr) (n c : Nat) (w : World) (hD : DkAt w p bl v bufs laid false fused left) (hi : ¬ ((0 ≤ i ∧ i < ((laid.length / 256 : Nat) : Int)) ∧ n = 256)) :
    Calls Tryd.prog 81 #[.pointer (some ⟨p, 0, none⟩), .int .i64 i, .slice a n c] w fun e w' => e = .returned (.int .i64 1) ∧ w' = w := by
  have hcall := has_run i w hD
  by_cases hh : 0 ≤ i ∧ i < ((laid.length / 256 : Nat) : Int)
  · rw [decide_eq_true hh] at hcall
    have hn : ((n : Int) == 256) = false := by simp; omega
    have hn' : ((n : Int) = 256) = False := eq_false (by omega)
    clear hi hh
    go_enter Tryd.func81, Tryd.ntmps81
    go_wp2_with (first
      | (go_at_call 60; refine (down_run _ hD).mono ?_; rintro e w' ⟨rfl, rfl⟩)
      | (go_at_call 56; refine hcall.mono ?_; rintro e w' ⟨rfl, rfl⟩))
    go_ret
    exact ⟨rfl, rfl⟩
  · rw [decide_eq_false hh] at hcall
    clear hi hh
    go_enter Tryd.func81, Tryd.ntmps81
    go_wp2_with (first
      | (go_at_call 60; refine (down_run _ hD).mono ?_; rintro e w' ⟨rfl, rfl⟩)
      | (go_at_call 56; refine hcall.mono ?_; rintro e w' ⟨rfl, rfl⟩))
    go_ret
    exact ⟨rfl, rfl⟩

theorem write_blown (i : Int) (a : Option Addr) (c : Nat) (w : World) (hD : DkAt w p bl v bufs laid false true 0) (hi : 0 ≤ i ∧ i < ((laid.length / 256 : Nat) : Int)) :
    Calls Tryd.prog 81 #[.pointer (some ⟨p, 0, none⟩), .int .i64 i, .slice a 256 c] w fun e w' => e = .returned (.int .i64 8) ∧ DkAt w' p bl v bufs laid true true 0 ∧ But p w w' := by
  have hcall := has_run i w hD
  rw [decide_eq_true hi] at hcall
  clear hi
  go_enter Tryd.func81, Tryd.ntmps81
  go_wp2_with (first
    | (go_at_call 60; refine (down_run _ hD).mono ?_; rintro e w' ⟨rfl, rfl⟩)
    | (go_at_call 56; refine hcall.mono ?_; rintro e w' ⟨rfl, rfl⟩)
    | (go_at_call 61; refine (spend_run _ hD).mono ?_; rintro e w2 ⟨rfl, hD2, hb2⟩; rw [show may true 0 = false from rfl] at hD2 ⊢))
  go_ret
  exact ⟨rfl, hD2, hb2⟩

theorem bs_owns {w : World} {base g n cap : Nat} {e : TypeId} {xs : List Int} (h : w.ownsRow base e 1 (.slice (some ⟨g, 0, none⟩) n cap) n (xs.map (Value.int .u8))) (hr : ∀ x ∈ xs, 0 ≤ x ∧ x ≤ 255) : Bs w (some ⟨g, 0, none⟩) cap xs := by
  obtain ⟨a, c, he, hb⟩ := Bs.of_owns h hr
  simp only [Value.slice.injEq] at he
  obtain ⟨rfl, _, rfl⟩ := he
  exact hb

theorem write_end {w w2 w3 w5 : World} {left' s g cap g5 cap5 : Nat} {xs : List Int} (hD2 : DkAt w2 p bl v bufs laid false fused left') (hb2 : But p w w2) (hb3 : Below w2.heap.size w2.drew w3) (hD3 : DkAt w3 p bl v bufs laid false fused left')
    (hown3 : w3.ownsRow w2.heap.size 5 1 (.slice (some ⟨g, 0, none⟩) 256 cap) 256 (xs.map (Value.int .u8))) (hr : ∀ x ∈ xs, 0 ≤ x ∧ x ≤ 255) (hx : xs.length = 256) (hs : 256 * s + 256 ≤ laid.length)
    (hown5 : w5.ownsRow 0 126 2 (.slice (some ⟨g5, 0, none⟩) (bufs.length + 1) cap5) (bufs.length + 1) (bufs.flatMap Buf.cells ++ [.int .i64 (s : Int), .slice (some ⟨g, 0, none⟩) 256 cap]))
    (hgrow5 : (w3.alloc (.cells #[.int .i64 (s : Int), .slice (some ⟨g, 0, none⟩) 256 cap] 126)).grownBy w5 v.ownBlock) (hat5 : v.ownBlock = some g5 ∨ g5 = w3.heap.size + 1)
    (hp5 : Blk 101 w5 p [.slice (some ⟨bl, 0, none⟩) laid.length laid.length, v, .bool false, .bool fused, .int .i64 (left' : Int)]) :
    ∃ v' f, DkAt (w5.setCell ⟨p, 1, none⟩ (.slice (some ⟨g5, 0, none⟩) (bufs.length + 1) cap5)) p bl v' (bufs ++ [f]) laid false fused left' ∧ f.at' = s ∧ f.xs = xs ∧ w.heap.size ≤ f.blk ∧ (∀ k, v'.ownBlock = some k → v.ownBlock = some k ∨ w.heap.size ≤ k) ∧
      Frm (fun k => k = p ∨ v.ownBlock = some k) w (w5.setCell ⟨p, 1, none⟩ (.slice (some ⟨g5, 0, none⟩) (bufs.length + 1) cap5)) := by
  have hg := hown3.lt g rfl
  have hs2 := hb2.size
  have hs3 : w2.heap.size ≤ w3.heap.size := hb3.size
  have hs5 : w3.heap.size + 1 ≤ w5.heap.size := by have := hgrow5.size; simpa using this
  have hbl := hD2.row.lt
  have hpl := hD2.blk.lt
  -- what lies in w3 and is not the row of v lies in w5
  have hk : ∀ k, k < w3.heap.size → v.ownBlock ≠ some k → w5.heap[k]? = w3.heap[k]? := fun k hlt hne =>
    (hgrow5.block k (by simp; omega) (fun e => hne e.symm)).trans (Below.heap_alloc _ _ _ hlt)
  have hset : ∀ k, k ≠ p → (w5.setCell ⟨p, 1, none⟩ (.slice (some ⟨g5, 0, none⟩) (bufs.length + 1) cap5)).heap[k]? = w5.heap[k]? := fun k hne => Below.heap_setCell _ _ _ _ (by simpa using hne)
  have hg5p : g5 ≠ p := by
    rcases hat5 with h | h
    · exact hD2.p_ne_v h
    · omega
  have hvlt : ∀ k, v.ownBlock = some k → k < w2.heap.size := fun k e => (hD2.own.lt k e).2
  refine ⟨.slice (some ⟨g5, 0, none⟩) (bufs.length + 1) cap5, ⟨s, xs, g, cap⟩, ⟨?_, ?_, ?_, ?_, hD2.rng, hD2.siz, hD2.lft⟩, rfl, rfl, by simp; omega, ?_, ?_⟩
  · exact hp5.set 1 _
  · have h1 := hD3.row
    unfold Row at *
    rw [hset bl (Ne.symm hD2.p_ne_bl), hk bl (by omega) (fun e => hD2.bl_ne_v e rfl)]
    exact h1
  · have h6 : (bufs ++ [(⟨s, xs, g, cap⟩ : Buf)]).flatMap Buf.cells = bufs.flatMap Buf.cells ++ [.int .i64 (s : Int), .slice (some ⟨g, 0, none⟩) 256 cap] := by simp [Buf.cells, Buf.slice, hx]
    rw [h6]
    have h7 : (bufs ++ [(⟨s, xs, g, cap⟩ : Buf)]).length = bufs.length + 1 := by simp
    rw [h7]
    refine owns_keep hown5 (fun k e => hset k ?_)
    simp [Value.ownBlock] at e
    subst e
    exact hg5p
  · intro f hf
    rcases List.mem_append.1 hf with hf | hf
    · obtain ⟨h1, h2, h3⟩ := hD3.buf f hf
      obtain ⟨cs, hc⟩ := h1.blk
      refine ⟨h1.keep ?_, h2, h3⟩
      rw [hset _ (hD3.p_ne_buf hf), hk _ (Array.getElem?_eq_some_iff.1 hc).1 (fun e => hD3.v_ne_buf hf e rfl)]
    · simp at hf
      subst hf
      have hkeep : (w5.setCell ⟨p, 1, none⟩ (.slice (some ⟨g5, 0, none⟩) (bufs.length + 1) cap5)).heap[g]? = w3.heap[g]? := by
        rw [hset _ (by omega), hk _ hg.2 (fun e => by have := hvlt g e; omega)]
      refine ⟨⟨?_, ?_, hx⟩, by simp; omega, by simpa using hs⟩
      · obtain ⟨cs, hc⟩ := own_type hown3 (k := g) rfl
        exact ⟨cs, by simp only; rw [hkeep]; exact hc⟩
      · exact bs_owns (owns_keep hown3 (fun k e => by simp [Value.ownBlock] at e; subst e; exact hkeep)) hr
  · intro k e
    simp [Value.ownBlock] at e
    subst e
    rcases hat5 with h | h
    · exact .inl h
    · right; omega
  · refine ⟨hgrow5.os.trans (hb3.os.trans hb2.os), hgrow5.tape.trans (hb3.tape.trans hb2.tape), hgrow5.output.trans (hb3.output.trans hb2.output), by simp; omega, fun k hnk hlt => ?_⟩
    have hkp : k ≠ p := fun e => hnk (.inl e)
    rw [hset k hkp, hk k (by omega) (fun e => hnk (.inr e)), hb3.block k (by omega)]
    exact hb2.block k hkp hlt

set_option maxRecDepth 100000 in
set_option maxHeartbeats 4000000 in
theorem write_done (s : Nat) (ad : Addr) (c : Nat) (xs : List Int) (w : World) (hD : DkAt w p bl v bufs laid false fused left) (hm : may fused left = true) (hs : 256 * s + 256 ≤ laid.length) (hB : Bs w (some ad) c xs) (hx : xs.length = 256) (hne : ad.block ≠ p) (hlen : bufs.length ≤ 1000000) :
    Calls Tryd.prog 81 #[.pointer (some ⟨p, 0, none⟩), .int .i64 (s : Int), .slice (some ad) 256 c] w fun e w' => e = .returned (.int .i64 0) ∧
      ∃ v' f, DkAt w' p bl v' (bufs ++ [f]) laid false fused (if fused then left - 1 else left) ∧ f.at' = s ∧ f.xs = xs ∧ w.heap.size ≤ f.blk ∧ (∀ k, v'.ownBlock = some k → v.ownBlock = some k ∨ w.heap.size ≤ k) ∧ Frm (fun k => k = p ∨ v.ownBlock = some k) w w' := by
  have hcall := has_run (s : Int) w hD
  rw [decide_eq_true (by omega)] at hcall
  have hi : (Tryd.prog.info? 126).map (fun i => (i.zero, i.size, i.bytes)) = some (some (.agg #[.int .i64 0, .slice none 0 0]), 2, 32) := by kernel_rfl
  obtain ⟨i0, hi0, hz0, hz1, hz2⟩ := info_parts hi
  obtain ⟨left', hleft⟩ : ∃ l, l = (if fused then left - 1 else left) := ⟨_, rfl⟩
  rw [← hleft]
  have HL : Hid (left' = (if fused then left - 1 else left)) := hleft
  clear hleft
  go_enter Tryd.func81, Tryd.ntmps81
  go_wp2_with (first
    | (go_at_call 60; refine (down_run _ hD).mono ?_; rintro e w' ⟨rfl, rfl⟩)
    | (go_at_call 56; refine hcall.mono ?_; rintro e w' ⟨rfl, rfl⟩)
    | (go_at_call 61; refine (spend_run _ hD).mono ?_; rintro e w2 ⟨rfl, hD2, hb2⟩; rw [hm] at hD2 ⊢; rw [← HL.out] at hD2))
  have hB2 : Bs w2.drew (some ad) c xs := hB.but hb2.drew (fun _ b hb => by cases hb; exact hne)
  obtain ⟨h0, h1, h2, h3, h4⟩ := hD2.fields
  have hcl := clone_run ad c xs w2.drew hB2 (by omega) (by omega)
  rw [hx] at hcl
  have hpv : some p ≠ v.ownBlock := fun e => hD2.p_ne_v e.symm rfl
  have hs2 : w'.heap.size ≤ w2.heap.size := hb2.size
  go_region_law
    (first
      | (refine step_call rfl 42 #[.slice (some ad) 256 c] (by go_simp) hcl ?_; rintro e w3 ⟨g, cap, rfl, hown3, hb3⟩; refine ⟨_, rfl, ?_⟩; have hD3 := hD2.drew.stays hb3; have h13 := hD3.fields.2.1; have h14 : ∀ o, (w3.alloc o).cell? ⟨p, 1, none⟩ = some v := fun o => (hD3.stays ((Below.refl _ _).alloc (Nat.le_refl _) o)).fields.2.1)
      | (refine step_append_lies _ rfl (.tmp 25) (.tmp 30) 99 rfl 0 126 i0 (.agg #[.int .i64 0, .slice none 0 0]) 2 32 Tryd.underlying99 hi0 hz0 hz1 hz2 rfl (by decide) v bufs.length (bufs.flatMap Buf.cells) rfl (hD3.own.alloc _) ⟨w3.heap.size, 0, none⟩ 1 1 [.int .i64 (s : Int), .slice (some ⟨g, 0, none⟩) 256 cap] rfl rfl (two_new _ _ _ _) (by simp [Value.oneCell']) (by decide) (by unfold maxLen; omega) (by omega) (Nat.zero_le _) (w3.heap.size + 1) (by simp) ?_; intro g5 cap5 w5 hown5 hgrow5 hat5 hlt5
         have hD5 := (hD3.stays ((Below.refl _ _).alloc (Nat.le_refl _) (.cells #[.int .i64 (s : Int), .slice (some ⟨g, 0, none⟩) 256 cap] 126)))
         have hp5 : Blk 101 w5 p [.slice (some ⟨bl, 0, none⟩) laid.length laid.length, v, .bool false, .bool fused, .int .i64 (left' : Int)] := (hgrow5.block p hD5.blk.lt hpv).trans hD5.blk
         have hc5 := hp5.cell 1
         have hf5 := hp5.free 1))
  all_goals (go_wp2; go_ret)
  all_goals exact ⟨rfl, write_end hD2 hb2 hb3 hD3 hown3 hB.rng hx hs hown5 hgrow5 hat5 hp5⟩

end

end Go.Proofs.YtjfoidilecognaaDoor

/-
  General laws: whole values built, boxed, laid, loaded and stored; calls in regions that draw; what holds behind a region.
-/

namespace Go.Proofs.YtjfoidilecognaaDoor
set_option linter.unusedSimpArgs false
set_option linter.unusedVariables false
set_option maxRecDepth 100000
open Go.RowKit

/-- A value that is built of parts. -/
theorem wpList_build {P : Program} {w : World} {ops : Array Oper} {rest : List Oper} {o : Oper} {a : Act} {Q : Exit → Act → World → Prop} (hw : Region.wanted o (yielded ops a.tmps) = true) (t : TypeId) (ps : List (Nat × Operand)) (ho : o.op = Op.build t ps.toArray) (qs : List (Nat × Value)) (hq : ps.map (fun q => (q.1, a.eval q.2)) = qs) (V : Value) (hr : ∀ w, (Instr.build t qs.toArray).run P w = .ok V w)
    (h : wpList P ops Q rest (a.put o.dst V) w) : wpList P ops Q (o :: rest) a w := by
  refine wpList_step fun K hK => ?_
  rw [if_pos hw]
  have e : ps.toArray.map (fun (i, x) => (i, a.eval x)) = qs.toArray := by rw [List.map_toArray, ← hq]
  unfold Oper.wp execOp
  simp only [ho, Sem.run_bind, Sem.run_pure, Result.andThen_ok, e, hr]
  exact hK _ _ h

theorem exec_load {P : Program} {a : Act} {o : Oper} {w : World} {t : TypeId} {x : Operand} {p : Addr} {v : Value} (ho : o.op = Op.load t x) (hx : a.eval x = .pointer (some p)) (hr : (Instr.loadAt t (.pointer (some p))).run P w = .ok v w) :
    (execOp a.eval o).run P w = .ok (.value v) w := by
  unfold execOp
  simp only [ho, hx, Sem.run_bind, Sem.run_pure, Result.andThen_ok, hr]

theorem exec_build0 {P : Program} {a : Act} {o : Oper} {w : World} {t : TypeId} {V : Value} (ho : o.op = Op.build t #[]) (hr : (Instr.build t #[]).run P w = .ok V w) : (execOp a.eval o).run P w = .ok (.value V) w := by
  have e : (#[] : Array (Nat × Operand)).map (fun (i, x) => (i, a.eval x)) = #[] := by simp
  unfold execOp
  simp only [ho, Sem.run_bind, Sem.run_pure, Result.andThen_ok, e, hr]

/-- What holds behind a region, and nowhere else. -/
def midQ (Mid : Act → World → Prop) : Exit → Act → World → Prop
  | .normal, a, w => Mid a w
  | _, _, _ => False
theorem wp_mid {P : Program} {c : Code} {Q : Exit → Act → World → Prop} {a : Act} {w : World} (Mid : Act → Act → World → Prop) (h : c.wp P (midQ (Mid a)) a w) (hq : ∀ a' w', Mid a a' w' → Q .normal a' w') : c.wp P Q a w :=
  Code.wp_mono (fun e a' w' hh => by
    cases e with
    | normal => exact hq a' w' hh
    | _ => exact False.elim hh) h

/-- An element of a slice. -/
theorem index_slice {P : Program} (t e : TypeId) (m : Nat) (ht : P.underlying t = some (.slice e)) (hs : (P.info? e).map (·.size) = some m) (he : P.elem t = e) (b off n c : Nat) (K : IntKind) (k : Nat) (hk : k < n) (w : World) :
    (Instr.indexAt t (.slice (some ⟨b, off, none⟩) n c) (.int K (k : Int))).run P w = .ok (.pointer (some ⟨b, off + k * m, none⟩)) w := by
  have hz := sizeOf_run hs w
  have hb : (0 : Int) ≤ (k : Int) ∧ (k : Int) < (n : Int) := by omega
  have hadd : (⟨b, off, none⟩ : Addr).add (k * m) = ⟨b, off + k * m, none⟩ := by unfold Addr.add; split <;> simp_all
  simp [Instr.indexAt, asIntOf, run_underlying ht, hz, hb, hadd, Sem.run_bind, Instr.sureAddr]
  omega
end Go.Proofs.YtjfoidilecognaaDoor

/-
  Package space: a map in memory, its bits read and set.
-/

namespace Go.Proofs.YtjfoidilecognaaDoor
set_option linter.unusedSimpArgs false
set_option linter.unusedVariables false
set_option maxRecDepth 100000
open Go.RowKit

/-- A map's words. -/
def wordsV (l : List Bool) : List Value := (List.range 8).map (fun k => .int .u64 ((W l k : Nat) : Int))
/-- A map's cells. -/
def mapV (l : List Bool) : List Value := .int .i64 ((l.length : Nat) : Int) :: wordsV l

theorem wordsV_len (l : List Bool) : (wordsV l).length = 8 := by simp [wordsV]
theorem mapV_len (l : List Bool) : (mapV l).length = 9 := by simp [mapV, wordsV_len]
theorem wordsV_at (l : List Bool) (k : Nat) (hk : k < 8) : (wordsV l)[k]? = some (.int .u64 ((W l k : Nat) : Int)) := by
  simp [wordsV, hk]
theorem wordsV_one (l : List Bool) : ∀ v ∈ wordsV l, v.oneCell' = true := by
  intro v hv
  simp only [wordsV, List.mem_map] at hv
  obtain ⟨k, _, rfl⟩ := hv; rfl
theorem mapV_one (l : List Bool) : ∀ v ∈ mapV l, v.oneCell' = true := by
  intro v hv
  simp only [mapV, List.mem_cons] at hv
  rcases hv with rfl | hv
  · rfl
  · exact wordsV_one l v hv

theorem words_set (l : List Bool) (i : Nat) (b : Bool) (hi : i < l.length) (hl : l.length ≤ 512) : (wordsV l).set (i / 64) (.int .u64 ((W (l.set i b) (i / 64) : Nat) : Int)) = wordsV (l.set i b) := by
  refine List.ext_getElem? fun k => ?_
  rw [List.getElem?_set]
  by_cases hk : k < 8
  · rw [wordsV_at l k hk, wordsV_at (l.set i b) k hk]
    split
    · next h => rw [wordsV_len, if_pos (by omega), h]
    · next h =>
      cases b
      · rw [W_free l i k hi, if_neg (by omega)]
      · rw [W_use l i k hi, if_neg (by omega)]
  · rw [if_neg (by omega), List.getElem?_eq_none (by rw [wordsV_len]; omega), List.getElem?_eq_none (by rw [wordsV_len]; omega)]

theorem map_set (l : List Bool) (i : Nat) (b : Bool) (hi : i < l.length) (hl : l.length ≤ 512) : (mapV l).set (1 + i / 64) (.int .u64 ((W (l.set i b) (i / 64) : Nat) : Int)) = mapV (l.set i b) := by
  rw [mapV, Nat.add_comm, List.set_cons_succ, words_set l i b hi hl, mapV, List.length_set]

/-- A map in memory. -/
structure Mp (w : World) (g : Nat) (l : List Bool) : Prop where
  blk : Blk 107 w g (mapV l)
  lo : 16 ≤ l.length
  hi : l.length ≤ 512

theorem Mp.stays {w w' : World} {g : Nat} {l : List Bool} (h : Mp w g l) (hb : Below w.heap.size w w') : Mp w' g l := ⟨h.blk.stays hb, h.lo, h.hi⟩
theorem Mp.len {w : World} {g : Nat} {l : List Bool} (h : Mp w g l) : w.cell? ⟨g, 0, none⟩ = some (.int .i64 ((l.length : Nat) : Int)) := h.blk.cell 0
theorem Mp.word {w : World} {g : Nat} {l : List Bool} (h : Mp w g l) (k : Nat) (hk : k < 8) : w.cell? ⟨g, 1 + k, none⟩ = some (.int .u64 ((W l k : Nat) : Int)) := by
  have hb := h.blk
  unfold Blk at hb
  unfold World.cell?
  simp only [hb]
  have := wordsV_at l k hk
  simp only [mapV, Nat.add_comm 1 k, List.getElem?_toArray, List.getElem?_cons_succ]
  exact this

section
variable {g : Nat} {l : List Bool}

theorem slen_run (w : World) (h : Mp w g l) : Calls Tryd.prog 93 #[.pointer (some ⟨g, 0, none⟩)] w fun e w' => e = .returned (.int .i64 ((l.length : Nat) : Int)) ∧ w' = w := by
  have h0 := h.len
  go_enter Tryd.func93, Tryd.ntmps93
  go_wp2
  go_ret
  exact ⟨rfl, rfl⟩

theorem slen_nil (w : World) : Calls Tryd.prog 93 #[.pointer none] w fun e w' => e = .returned (.int .i64 0) ∧ w' = w := by
  go_enter Tryd.func93, Tryd.ntmps93
  go_wp2
  go_ret
  exact ⟨rfl, rfl⟩

theorem shas_run (i : Nat) (hi : i < 4294967296) (w : World) (h : Mp w g l) : Calls Tryd.prog 77 #[.pointer (some ⟨g, 0, none⟩), .int .u32 (i : Int)] w fun e w' => e = .returned (.bool (decide (i < l.length))) ∧ w' = w := by
  have h1 := h.hi
  go_enter Tryd.func77, Tryd.ntmps77
  go_wp2_with (go_at_call 93; refine (slen_run _ h).mono ?_; rintro e w' ⟨rfl, rfl⟩)
  go_ret
  refine ⟨?_, rfl⟩
  simp

theorem shas_nil (i : Nat) (hi : i < 4294967296) (w : World) : Calls Tryd.prog 77 #[.pointer none, .int .u32 (i : Int)] w fun e w' => e = .returned (.bool false) ∧ w' = w := by
  go_enter Tryd.func77, Tryd.ntmps77
  go_wp2_with (go_at_call 93; refine (slen_nil _).mono ?_; rintro e w' ⟨rfl, rfl⟩)
  go_ret
  refine ⟨?_, rfl⟩
  simp

/-- Is it used? -/
def usedL (l : List Bool) (i : Int) : Bool := if i < 0 ∨ (l.length : Int) ≤ i then true else l.getD i.toNat false

theorem used_out (i : Int) (w : World) (h : Mp w g l) (ho : i < 0 ∨ (l.length : Int) ≤ i) : Calls Tryd.prog 79 #[.pointer (some ⟨g, 0, none⟩), .int .i64 i] w fun e w' => e = .returned (.bool true) ∧ w' = w := by
  by_cases hn : i < 0
  · go_enter Tryd.func79, Tryd.ntmps79
    go_wp2
    go_ret
    exact ⟨rfl, rfl⟩
  · have hge : (l.length : Int) ≤ i := by omega
    go_enter Tryd.func79, Tryd.ntmps79
    go_wp2_with (go_at_call 93; refine (slen_run _ h).mono ?_; rintro e w' ⟨rfl, rfl⟩)
    go_ret
    exact ⟨rfl, rfl⟩

theorem used_word (l : List Bool) (i : Nat) : (bits .and .u64 ((W l (i / 64) : Nat) : Int) (2 ^ (i % 64)) != 0) = l.getD i false := by
  have hp : 2 ^ (i % 64) < 18446744073709551616 := Nat.lt_of_lt_of_le (Nat.pow_lt_pow_right (by decide) (show i % 64 < 64 by omega)) (by decide)
  have h := u64_and_nat (W l (i / 64)) (2 ^ (i % 64)) (W_lt _ _) hp
  rw [Int.natCast_pow, show ((2 : Nat) : Int) = 2 from rfl] at h
  rw [h, W_used]
  have h0 : 0 < 2 ^ (i % 64) := Nat.two_pow_pos _
  cases l.getD i false
  · rfl
  · simp only [if_true]
    rw [bne_iff_ne]
    omega

theorem used_drew (i : Nat) (w : World) (h : Mp w g l) (ho : i < l.length) : Calls Tryd.prog 79 #[.pointer (some ⟨g, 0, none⟩), .int .i64 (i : Int)] w fun e w' => e = .returned (.bool (l.getD i false)) ∧ ∃ m, w' = w.drewN m := by
  have h1 := h.hi
  have hw := h.word (i / 64) (by omega)
  have hb := fun u => bit_run i (by omega) u
  have hlt := W_lt l (i / 64)
  have hu := used_word l i
  go_enter Tryd.func79, Tryd.ntmps79
  go_wp2_with (go_at_call 93; refine (slen_run _ h).mono ?_; rintro e w' ⟨rfl, rfl⟩)
  go_quiet (first | (go_at_call 83; refine Calls.quiet_of_same (hb _)))
  go_wp2
  go_ret
  refine ⟨?_, _, rfl⟩
  simp [ho]

theorem below_drewW (w : World) (m : Nat) : Below w.heap.size w (w.drewN m) := ⟨rfl, rfl, rfl, Nat.le_refl _, fun _ _ => rfl⟩
theorem Mp.drewN {w : World} (h : Mp w g l) (m : Nat) : Mp (w.drewN m) g l := h.stays (below_drewW w m)

theorem used_in (i : Nat) (w : World) (h : Mp w g l) (ho : i < l.length) : Calls Tryd.prog 79 #[.pointer (some ⟨g, 0, none⟩), .int .i64 (i : Int)] w fun e w' => e = .returned (.bool (l.getD i false)) ∧ Below w.heap.size w w' :=
  (used_drew i w h ho).mono fun e w' ⟨h1, m, h2⟩ => ⟨h1, h2 ▸ below_drewW w m⟩

theorem used_run (i : Int) (w : World) (h : Mp w g l) : Calls Tryd.prog 79 #[.pointer (some ⟨g, 0, none⟩), .int .i64 i] w fun e w' => e = .returned (.bool (usedL l i)) ∧ Below w.heap.size w w' := by
  by_cases ho : i < 0 ∨ (l.length : Int) ≤ i
  · refine (used_out i w h ho).mono ?_
    rintro e w' ⟨rfl, rfl⟩
    refine ⟨?_, Below.refl _ _⟩
    unfold usedL; rw [if_pos ho]
  · obtain ⟨k, rfl⟩ : ∃ k : Nat, i = (k : Int) := ⟨i.toNat, by omega⟩
    refine (used_in k w h (by omega)).mono ?_
    rintro e w' ⟨rfl, hb⟩
    refine ⟨?_, hb⟩
    unfold usedL; rw [if_neg ho]; rfl

theorem used_nil (i : Int) (w : World) : Calls Tryd.prog 79 #[.pointer none, .int .i64 i] w fun e w' => e = .returned (.bool true) ∧ w' = w := by
  by_cases hn : i < 0
  · go_enter Tryd.func79, Tryd.ntmps79
    go_wp2
    go_ret
    exact ⟨rfl, rfl⟩
  · have hge : 0 ≤ i := by omega
    go_enter Tryd.func79, Tryd.ntmps79
    go_wp2_with (go_at_call 93; refine (slen_nil _).mono ?_; rintro e w' ⟨rfl, rfl⟩)
    go_ret
    exact ⟨rfl, rfl⟩

theorem or_word (l : List Bool) (i : Nat) (hi : i < l.length) : bits .or .u64 ((W l (i / 64) : Nat) : Int) (2 ^ (i % 64)) = ((W (l.set i true) (i / 64) : Nat) : Int) := by
  have hp : 2 ^ (i % 64) < 18446744073709551616 := Nat.lt_of_lt_of_le (Nat.pow_lt_pow_right (by decide) (show i % 64 < 64 by omega)) (by decide)
  have h := u64_or_nat (W l (i / 64)) (2 ^ (i % 64)) (W_lt _ _) hp
  rw [Int.natCast_pow, show ((2 : Nat) : Int) = 2 from rfl] at h
  rw [h, W_use l i _ hi, if_pos rfl]

theorem clr_word (l : List Bool) (i : Nat) (hi : i < l.length) : bits .andNot .u64 ((W l (i / 64) : Nat) : Int) (2 ^ (i % 64)) = ((W (l.set i false) (i / 64) : Nat) : Int) := by
  have hp : 2 ^ (i % 64) < 18446744073709551616 := Nat.lt_of_lt_of_le (Nat.pow_lt_pow_right (by decide) (show i % 64 < 64 by omega)) (by decide)
  have h := u64_andNot_nat (W l (i / 64)) (2 ^ (i % 64)) (W_lt _ _) hp
  rw [Int.natCast_pow, show ((2 : Nat) : Int) = 2 from rfl] at h
  rw [h, W_free l i _ hi, if_pos rfl]

theorem Mp.put {w : World} (h : Mp w g l) (i : Nat) (b : Bool) (hi : i < l.length) : Mp (w.setCell ⟨g, 1 + i / 64, none⟩ (.int .u64 ((W (l.set i b) (i / 64) : Nat) : Int))) g (l.set i b) := by
  have := h.blk.set (1 + i / 64) (.int .u64 ((W (l.set i b) (i / 64) : Nat) : Int))
  rw [map_set l i b hi h.hi] at this
  exact ⟨this, by simpa using h.lo, by simpa using h.hi⟩

theorem use_run (i : Nat) (w : World) (h : Mp w g l) (ho : i < l.length) : Calls Tryd.prog 76 #[.pointer (some ⟨g, 0, none⟩), .int .i64 (i : Int)] w fun e w' => e = .returned (.tuple #[]) ∧ Mp w' g (l.set i true) ∧ But g w w' ∧ w'.heap.size = w.heap.size := by
  have h1 := h.hi
  have hw := h.word (i / 64) (by omega)
  have hfr := h.blk.free (1 + i / 64)
  have hb := fun u => bit_run i (by omega) u
  have hlt := W_lt l (i / 64)
  have hor := or_word l i ho
  have HM : ∀ u : World, Mp u g l → Hid (Mp (u.setCell ⟨g, 1 + i / 64, none⟩ (.int .u64 ((W (l.set i true) (i / 64) : Nat) : Int))) g (l.set i true)) := fun u hu => hu.put i true ho
  have hq0 : (0 : Int) ≤ (i : Int) / 64 := by omega
  have hq1 : (i : Int) / 64 < 8 := by omega
  have hq2 : ((i : Int) / 64).toNat = i / 64 := by omega
  have hwr : IntKind.i64.wrap ((i : Int) / 64) = (i : Int) / 64 := by simp [IntKind.wrap, IntKind.bits, IntKind.signed]; omega
  go_enter Tryd.func76, Tryd.ntmps76
  go_region_law (refine step_call rfl 83 #[.int .i64 (i : Int)] (by go_simp) (hb _) ?_; rintro e w' ⟨rfl, rfl⟩; refine ⟨_, rfl, ?_⟩)
  all_goals go_end0
  all_goals exact ⟨rfl, ⟨(h.put i true ho).blk, (h.put i true ho).lo, (h.put i true ho).hi⟩, ((But.refl g w).setCell _ _).drew, by simp [World.setCell, World.drew]⟩

end
end Go.Proofs.YtjfoidilecognaaDoor
