/-
  The live question of package bank's laws.
-/
import Derived.Test.YtjfoidilecognaaDoorG31
import Derived.Test.YtjfoidilecognaaDoorG32
import Derived.Test.YtjfoidilecognaaDoorG26
namespace Go.Proofs.YtjfoidilecognaaDoor
set_option linter.unusedSimpArgs false
set_option linter.unusedVariables false
set_option maxRecDepth 100000
open Go.RowKit

theorem whole_lit (x : Int) (hx : 0 ≤ x ∧ x ≤ 255) (u : World) : Calls Tryd.prog 43 #[.slice (some ⟨u.heap.size, 0, none⟩) 1 1] (u.alloc (.cells #[.int .u8 x] 5)) fun e w' => ∃ a c, e = .returned (.slice a 256 c) ∧ NewB u.heap.size w' a c (wholeL [x]) ∧ Below u.heap.size u w' := by
  have hb : Below u.heap.size u (u.alloc (.cells #[.int .u8 x] 5)) := (Below.refl _ _).alloc (Nat.le_refl _) _
  have h := whole_run (some ⟨u.heap.size, 0, none⟩) 1 [x] (u.alloc (.cells #[.int .u8 x] 5)) (Bs.one u x hx _) (by simp)
  rw [wholeL_len (bs := [x]) (by simp)] at h
  refine h.mono ?_
  rintro e w' ⟨a, c, rfl, hN, hb2⟩
  exact ⟨a, c, rfl, hN.mono hb.size, below_then hb hb2⟩
theorem build_45 (w : World) : (Instr.build 40 [(0, Value.int .u32 4), (1, .int .u32 5)].toArray).run Tryd.prog w = .ok (.agg [Value.int .u32 4, .int .u32 5].toArray) w := by kernel_rfl
theorem equal_45 (u : World) : (Op.equalIn 10000 40 (.agg [Value.int .u32 4, .int .u32 5].toArray) (.agg [Value.int .u32 4, .int .u32 5].toArray)).run Tryd.prog u = .ok true u := by kernel_rfl
theorem index_at0 (g : Nat) (u : World) : (Instr.indexAt 40 (.pointer (some ⟨g, 33, none⟩)) (.int .i64 0)).run Tryd.prog u = .ok (.pointer (some ⟨g, 33, none⟩)) u := by
  have := index_ptr (P := Tryd.prog) (t := 40) (e := 34) (n := 2) (m := 1) (g := g) (off := 33) (K := .i64) (j := 0) Tryd.underlying40 (by kernel_rfl) (by omega) u
  simpa using this
theorem index_at1 (g : Nat) (u : World) : (Instr.indexAt 40 (.pointer (some ⟨g, 33, none⟩)) (.int .i64 1)).run Tryd.prog u = .ok (.pointer (some ⟨g, 34, none⟩)) u := by
  have := index_ptr (P := Tryd.prog) (t := 40) (e := 34) (n := 2) (m := 1) (g := g) (off := 33) (K := .i64) (j := 1) Tryd.underlying40 (by kernel_rfl) (by omega) u
  simpa using this

set_option maxHeartbeats 20000000 in
theorem balive_run (w : World) (hV : Vars w) : Calls Tryd.prog 16 #[] w fun e w' => e = .returned (.bool true) ∧ Below w.heap.size w w' := by
  obtain ⟨S1, l1, S2, S3, S4, p1, p2, p3, p4, p5, p6, p7⟩ := alive_pure
  have hfr := bs_fresh 16 w (by omega) (by omega)
  have hwh := whole_lit 1 (by omega)
  have hBl : (wholeL [1]).length = 256 := wholeL_len (by decide)
  have hpo : (pt45 (shaOf (wholeL [1]))).ok := pt45_ok
  obtain ⟨P, hP⟩ : ∃ P, P = pt45 (shaOf (wholeL [1])) := ⟨_, rfl⟩
  obtain ⟨B, hB⟩ : ∃ B, B = wholeL [1] := ⟨_, rfl⟩
  obtain ⟨S0, hS0⟩ : ∃ S0, S0 = DS.new 16 := ⟨_, rfl⟩
  obtain ⟨l0, hl0⟩ : ∃ l0, l0 = lab 16 4 := ⟨_, rfl⟩
  have h0w : S0.ws.length ≤ 2 := by rw [hS0]; simp [DS.new]
  have HX : Hid (P.vs[33]? = some (.int .u32 4) ∧ P.vs[32]? = some (.int .u32 7)) := by rw [hP]; exact ⟨Pt.vs_x hpo, Pt.vs_birth hpo⟩
  have HAT : Hid ([Value.int .u32 4, .int .u32 5] = (P.vs.drop 33).take 2) := by rw [hP]; exact Pt.vs_at hpo
  rw [← hP] at p1 p4 hpo
  rw [← hB] at p1 hwh hBl
  rw [← hS0] at p1 hfr
  rw [← hl0] at p1 hfr
  have hput : ∀ {u M k p g} (h : BS w u M k p g S0 l0 7) (a c) (hb : Bs u a c B) (hn : ∀ x, a = some x → M x.block), Calls Tryd.prog 24 #[.pointer (some ⟨k, 0, none⟩), .slice a 256 c, .int .i64 2] u fun e w' => e = .returned (.tuple #[.agg P.vs.toArray, .int .i64 0]) ∧ BS w w' M k p g S1 l1 7 ∧ Stay M u w' := fun h a c hb hn => by
    have := bs_put h hV (by omega) a c B hb (fun _ x hx => .inl (hn x hx)) 2
    rw [p1, hBl] at this
    exact this
  have hfl : ∀ {u M k p g} (h : BS w u M k p g S1 l1 7), Calls Tryd.prog 32 #[.pointer (some ⟨p, 0, none⟩)] u fun e w' => e = .returned (.int .i64 0) ∧ BS w w' M k p g S2 l1 7 ∧ Stay M u w' := fun h => by
    have := bs_flush h (by omega)
    rw [p2] at this
    exact this
  have hrt : ∀ {u : World} {M k p g} (h : BS w u M k p g S2 l1 7), Calls Tryd.prog 29 #[.pointer (some ⟨p, 0, none⟩), .int .i64 4, .slice (some ⟨u.heap.size, 0, none⟩) 1 1] (u.alloc (.cells #[.int .u8 1] 5)) fun e w' => (∃ v, e = .returned v) ∧ BS w w' M k p g S3 l1 7 ∧ Stay M u w' := fun {u M k p g} h => by
    have hb : Below u.heap.size u (u.alloc (.cells #[.int .u8 1] 5)) := (Below.refl _ _).alloc (Nat.le_refl _) _
    have h2 := h.new (N := fun j => M j ∨ j = u.heap.size) hb (fun j hj => hj.imp id (fun e => by rw [e]; simp))
    have := bs_rot h2 4 (some ⟨u.heap.size, 0, none⟩) 1 [1] (Bs.one u 1 (by omega) _) (by simp) (fun _ x hx => .inl (.inr (by cases hx; rfl)))
    rw [p3] at this
    refine this.mono ?_
    rintro e w' ⟨rfl, h3, h4⟩
    exact ⟨⟨_, rfl⟩, h3.less (fun j hj => .inl hj), (Stay.of_below hb).trans ⟨h4.size, fun j hj hl => h4.block j (.inl hj) hl⟩⟩
  have hhe : ∀ {u M k p g} (h : BS w u M k p g S3 l1 7), Calls Tryd.prog 27 #[.pointer (some ⟨k, 0, none⟩), .agg P.vs.toArray] u fun e w' => e = .returned (.tuple #[.int .i64 1, .int .i64 0]) ∧ BS w w' M k p g S4 l1 7 ∧ Stay M u w' := fun h => by
    have := bs_heal h hV (by omega) P hpo
    rw [p4] at this
    exact this
  have HAL : Hid (∀ w : World, (Instr.alloc 42 true (.tuple #[])).run Tryd.prog w = .ok (.pointer (some ⟨w.heap.size, 0, none⟩)) (w.alloc (.cells Pt.zero.vs.toArray 42))) := alloc_ptr0
  have hzl : Pt.zero.vs.length = 35 := Pt.vs_len Pt.zero_ok
  have hvl : P.vs.length = 35 := Pt.vs_len hpo
  have hvo : ∀ v ∈ P.vs, v.oneCell' = true := Pt.vs_one P
  have hbu := build_45
  have heq := equal_45
  have hi0 := index_at0
  obtain ⟨zs, hzs⟩ : ∃ zs, zs = Pt.zero.vs := ⟨_, rfl⟩
  obtain ⟨vs, hvs⟩ : ∃ vs, vs = P.vs := ⟨_, rfl⟩
  obtain ⟨fv, hfv⟩ : ∃ fv, fv = [Value.int .u32 4, .int .u32 5] := ⟨_, rfl⟩
  have hfl2 : fv.length = 2 := by rw [hfv]; rfl
  rw [← hzs] at HAL hzl
  rw [← hvs] at hput hhe HX HAT hvl hvo
  rw [← hfv] at HAT hbu heq
  clear hP hB hS0 hl0 hzs hvs hfv p1 p2 p3 p4 h0w
  go_enter Tryd.func16, Tryd.ntmps16
  go_wp2_with (first
    | (go_at_call 5; go_must (refine hfr.mono ?_); rintro e w1 ⟨k, p, g, rfl, hK1⟩)
    | (go_at_call 43; go_must (refine (hwh w1).mono ?_); rintro e w2 ⟨a2, c2, rfl, hN2, hb2⟩
       have hK2 := hK1.new (N := fun j => j < w2.heap.size ∧ w1.heap.size ≤ j) hb2 (fun j hj => .inr ⟨hj.2, hj.1⟩)
       have hn2 : ∀ x, a2 = some x → x.block < w2.heap.size ∧ w1.heap.size ≤ x.block := fun x hx => ⟨hN2.1.lt (by intro e; rw [e] at hBl; simp at hBl) hx, hN2.2 x hx⟩
       have hp2 := hput hK2 a2 c2 hN2.1 hn2)
    | (go_at_call 24; go_must (refine hp2.mono ?_); rintro e w3 ⟨rfl, hK3, _⟩)
    | ((with_reducible show wpList _ _ _ (Oper.mk _ (Op.alloc _) _ _ _ _ :: _) _ _); refine wpList_alloc0 (by rfl) 42 (by rfl) (some 3) (by rfl) _ HAL.out ?_; intro w4 hR4 hb4 hs4
       have hK4 := hK3.new (N := fun j => j = w3.heap.size) hb4 (fun j hj => .inr (by rw [hj]; exact ⟨Nat.le_refl _, by omega⟩))
       clear hs4)
    | ((with_reducible show wpList _ _ _ (Oper.mk _ (Op.store 42 _ _) _ _ _ _ :: _) _ _); refine wpList_store_blk (by rfl) (.tmp 3) (.tmp 19) 42 (by rfl) _ 0 35 (by rfl) vs (by rfl) size_ptr hR4 hvl (by omega) hvo _ (whole_store hzl) ?_
       intro w5 hR5 hbut5 hs5
       have hK5 := hK4.set hbut5 rfl hK3.bel.size
       have hf5 := hfl hK5
       clear hs5)
    | (go_at_call 32; go_must (refine hf5.mono ?_); rintro e w6 ⟨rfl, hK6, hy6⟩
       have hR6 := hy6.blk hR5 rfl
       have hc6 : w6.cell? ⟨w3.heap.size, 33, none⟩ = some (.int .u32 4) := (hR6.cell 33).trans HX.out.1
       have hr6 := hrt hK6)
    | (go_at_call 29; go_must (refine hr6.mono ?_); rintro e w7 ⟨⟨v7, rfl⟩, hK7, hy7⟩
       have hR7 := hy7.blk hR6 rfl
       have hh7 := hhe hK7)
    | ((with_reducible show wpList _ _ _ (Oper.mk _ (Op.load 42 _) _ _ _ _ :: _) _ _); refine wpList_load_blk (by rfl) (.tmp 3) 42 (by rfl) _ 0 35 (by rfl) agg_ptr size_ptr hR7 _ (whole_load hvl) hvl ?_)
    | (go_at_call 27; go_must (refine hh7.mono ?_); rintro e w8 ⟨rfl, hK8, hy8⟩
       have hR8 := hy8.blk hR7 rfl
       have hc8 : w8.cell? ⟨w3.heap.size, 32, none⟩ = some (.int .u32 7) := (hR8.cell 32).trans HX.out.2)
    | ((with_reducible show wpList _ _ _ (Oper.mk _ (Op.load 40 _) _ _ _ _ :: _) _ _); refine wpList_load_blk_guard (by kernel_rfl) (.tmp 51) 40 (by rfl) _ 33 2 (by rfl) agg_at size_at hR8 _ HAT.out hfl2 ?_)
    | ((with_reducible show wpList _ _ _ (Oper.mk _ (Op.build 40 _) _ _ _ _ :: _) _ _); refine wpList_build (by kernel_rfl) 40 [(0, .const (.int .u32 4)), (1, .const (.int .u32 5))] (by rfl) [(0, .int .u32 4), (1, .int .u32 5)] (by rfl) _ hbu ?_))
  go_ret
  exact ⟨rfl, hK8.bel⟩

end Go.Proofs.YtjfoidilecognaaDoor

/-
  As UpT, where the first operations, in any order, are followed by the other ones in a given order; of these, moves, extracts and assignments may come up earlier.
-/

namespace Go.Proofs.YtjfoidilecognaaDoor.UpT
set_option linter.unusedSimpArgs false
set_option linter.unusedVariables false
set_option maxRecDepth 100000
open Go

section
variable {P : Program} {ops : Array Oper} {md : Region.Mode} {R : World → World → Prop} {w0 : World} {Ψ : Nat → Option (Value → World → Prop)} {S : Nat → Bool} {Qf : Act → Env → Prop}

def headT (md : Region.Mode) (ops : Array Oper) (T : Array Bool → Bool) : Nat → Nat → Array Bool → Bool
  | 0, _, listed => T listed
  | f + 1, k, listed => (Region.ready md ops listed).contains k && Region.free md ops listed k && headT md ops T f (k + 1) (listed.setIfInBounds k true)

theorem lexS {n : Nat} {T : Array Bool → Bool} (hT : ∀ listed, T listed = true → ∀ j ∈ Region.ready md ops listed, n ≤ j) (ht : ∀ u v w, R u v → R v w → R u w) (hst : ∀ k ψ, Ψ k = some ψ → ∀ v w w', R w w' → ψ v w → ψ v w') (hR : ∀ w w', R w w' → w.heap.size ≤ w'.heap.size) (hs : Region.noSelect ops = true)
    (hsk : Region.sinkB md ops n = true) (hch : Chain md ops n) (hn : n < ops.size) :
    ∀ (l : List Oper) (k : Nat) (listed : Array Bool) (a : Act) (E : Env), (∀ j, j < l.length → l[j]? = ops[k + j]?) → k + l.length = n → HeadInv md ops n listed → headT md ops T l.length k listed = true → (∀ k, listed.getD k true = false → E k = none) →
      wpUp P ops md R w0 Ψ S Qf l k a E → anyL P ops md R w0 Ψ S n (fun listed' a' E' => T listed' = true ∧ Qf a' E') l.length listed a E
  | [], k, _, _, _, _, hk, _, hB, _, h => by
    have : k = n := by simpa using hk
    subst this
    exact fun _ => ⟨by simpa [headT] using hB, h⟩
  | o :: l, k, listed, a, E, hl, hk, inv, hB, hE, h => by
    have h0 : ops[k]? = some o := by simpa using (hl 0 (by simp)).symm
    simp only [List.length_cons, headT, Bool.and_eq_true] at hB
    obtain ⟨⟨hr, hf⟩, hB'⟩ := hB
    have hkn : k < n := by simp only [List.length_cons] at hk; omega
    have hk' : k + 1 + l.length = n := by simp only [List.length_cons] at hk; omega
    have hr' : k ∈ Region.ready md ops listed := by simpa using hr
    have hl' : ∀ j, j < l.length → l[j]? = ops[k + 1 + j]? := fun j hj => by have := hl (j + 1) (by simp; omega); simpa [Nat.add_assoc, Nat.add_comm 1 j] using this
    have hd : ∀ listed' (a' : Act) (E' : Env), (T listed' = true ∧ Qf a' E') → ∀ j ∈ Region.ready md ops listed', n ≤ j := fun listed' a' E' hL => hT _ hL.1
    unfold wpUp at h
    by_cases hw : Region.wanted o (yielded ops a.tmps) = true
    · simp only [hw, if_true] at h
      cases hψ : Ψ k with
      | none =>
        simp only [hψ] at h
        obtain ⟨v, hv, hn'⟩ := h
        exact firstP2 h0 (Region.noSelect_spec hs) hsk hch hn hkn hd l.length listed a E inv (Region.free_spec h0 hf) hr' hE (.inl ⟨hw, hψ, hv⟩) (lexS hT ht hst hR hs hsk hch hn l (k + 1) _ _ E hl' hk' (inv.set hr' hkn) hB' (unlisted hE (.inl rfl)) hn')
      | some ψ =>
        simp only [hψ] at h
        obtain ⟨hm, hn'⟩ := h
        exact firstM2 ht hst hR h0 (Region.noSelect_spec hs) hsk hch hn hkn hd l.length listed a E inv (Region.free_spec h0 hf) hr' hE ⟨hw, hψ, hm⟩ (fun v hv => lexS hT ht hst hR hs hsk hch hn l (k + 1) _ _ _ hl' hk' (inv.set hr' hkn) hB' (unlisted hE (.inr ⟨v, rfl⟩)) (hn' v hv))
    · simp only [hw] at h
      exact firstP2 h0 (Region.noSelect_spec hs) hsk hch hn hkn hd l.length listed a E inv (Region.free_spec h0 hf) hr' hE (.inr ⟨by simpa using hw, rfl⟩) (lexS hT ht hst hR hs hsk hch hn l (k + 1) _ _ E hl' hk' (inv.set hr' hkn) hB' (unlisted hE (.inl rfl)) h)

/-- Moves, extracts, assignments. -/
def light (o : Oper) : Bool := match o.op with
  | .move _ => true
  | .extract _ _ => true
  | .assign _ => true
  | _ => false
/-- The order is a right one. -/
def seqF (md : Region.Mode) (ops : Array Oper) : List Nat → Array Bool → Bool
  | [], listed => (Region.ready md ops listed).isEmpty
  | i :: is, listed => (decide (Region.ready md ops listed = [i]) || ((Region.ready md ops listed).contains i && Region.free md ops listed i && ((ops[i]?).map light).getD false)) && seqF md ops is (listed.setIfInBounds i true)
def opsAt (ops : Array Oper) (is : List Nat) : List Oper := is.filterMap fun i => ops[i]?

theorem light_yields {o : Oper} (hl : light o = true) {a : Act} {w : World} {K : Act → World → Prop} {Mid : Act → World → Prop} (h : if Region.wanted o (yielded ops a.tmps) = true then o.wp P a w K (midQ Mid) ∨ (o.asks P a w ∧ LetsOut (midQ Mid)) else K (a.put o.dst undef) w) :
    ∃ v, Yields P ops o v a ∧ K (a.put o.dst v) w := by
  have hout : ¬ LetsOut (midQ Mid) := fun ⟨_, _, h⟩ => h
  by_cases hw : Region.wanted o (yielded ops a.tmps) = true
  · rw [if_pos hw] at h
    rcases h with h | h
    · have hdet : (∃ v, ∀ u, (execOp a.eval o).run P u = .ok (.value v) u) ∨ (∀ v u, (execOp a.eval o).run P w ≠ .ok v u) := by
        obtain ⟨dst, op, ty, pos, aft, gd⟩ := o
        cases op <;> simp only [light, Bool.false_eq_true] at hl
        case move x => exact .inl ⟨a.eval x, fun u => by simp [execOp, Sem.run_pure]⟩
        case assign x => exact .inl ⟨a.eval x, fun u => by simp [execOp, Sem.run_pure]⟩
        case extract x i =>
          by_cases hx : ∃ vs, a.eval x = .tuple vs
          · obtain ⟨vs, hx⟩ := hx
            cases hv : vs[i]? with
            | some v => exact .inl ⟨v, fun u => by simp [execOp, Instr.extract, hx, hv, Sem.run_pure, Sem.run_bind]⟩
            | none => exact .inr (fun v u => by simp [execOp, Instr.extract, hx, hv, Sem.run_pure, Sem.run_bind])
          · exact .inr (fun v u => by
              cases hy : a.eval x <;> first | (simp [execOp, Instr.extract, hy, Sem.run_pure, Sem.run_bind]; done) | exact (hx ⟨_, hy⟩).elim)
      rcases hdet with ⟨v, hv⟩ | hno
      · refine ⟨v, .inl ⟨hw, hv⟩, ?_⟩
        unfold Oper.wp at h
        rw [hv w] at h
        exact h
      · exfalso
        unfold Oper.wp at h
        generalize (execOp a.eval o).run P w = r at h hno
        cases r with
        | ok v u => exact hno v u rfl
        | halt x u => cases x <;> simp only [Oper.upon] at h <;> exact h.elim
    · exact (hout h.2).elim
  · rw [if_neg hw] at h
    exact ⟨undef, .inr ⟨by simpa using hw, rfl⟩, h⟩

theorem wpAny_of_seqF {Mid : Act → World → Prop} (hs : Region.noSelect ops = true) : ∀ (is : List Nat) (listed : Array Bool) (a : Act) (w : World), (∀ i ∈ is, i < ops.size) →
    seqF md ops is listed = true → wpList P ops (midQ Mid) (opsAt ops is) a w → wpAny P md ops (midQ Mid) is.length listed a w
  | [], listed, a, w, _, hB, h => ⟨by simpa [seqF] using hB, h⟩
  | i :: is, listed, a, w, hi, hB, h => by
    have hlt : i < ops.size := hi i List.mem_cons_self
    have h0 : ops[i]? = some ops[i] := Array.getElem?_eq_getElem hlt
    simp only [seqF, Bool.and_eq_true, Bool.or_eq_true, decide_eq_true_eq] at hB
    obtain ⟨hB1, hB2⟩ := hB
    have hl : opsAt ops (i :: is) = ops[i] :: opsAt ops is := by unfold opsAt; rw [List.filterMap_cons, h0]
    rw [hl] at h
    have ih := fun a w => wpAny_of_seqF (Mid := Mid) hs is (listed.setIfInBounds i true) a w (fun j hj => hi j (List.mem_cons_of_mem _ hj)) hB2
    rcases hB1 with hB1 | ⟨⟨hr, hf⟩, hlight⟩
    · refine ⟨fun h1 => (by rw [h1] at hB1; cases hB1), fun j hj => ?_⟩
      rw [hB1] at hj
      obtain rfl : j = i := by simpa using hj
      have hw : wpOp P ops (midQ Mid) j (wpList P ops (midQ Mid) (opsAt ops is)) a w := by unfold wpOp; simp only [h0]; exact h
      exact wpOp_mono (fun a' w' h' => ih a' w' h') hw
    · rw [h0] at hlight
      simp only [Option.map_some, Option.getD_some] at hlight
      obtain ⟨v, hy, hK⟩ := light_yields (ops := ops) hlight h
      exact wpAny_take h0 hs hf hr (fun c a w h => h.elim) hy (ih _ _ hK)
end

def seqAll (md : Region.Mode) (ops : Array Oper) (n : Nat) (ord : List Nat) : Bool :=
  Region.noSelect ops && decide (n < ops.size) && Region.sinkB md ops n && chainM md ops n && decide (ord.length = ops.size - n) && ord.all (fun i => decide (n ≤ i) && decide (i < ops.size)) && headT md ops (seqF md ops ord) n 0 (Array.replicate ops.size false)

theorem seqF_ready {md : Region.Mode} {ops : Array Oper} {n : Nat} (hs : Region.sinkB md ops n = true) (hc : Chain md ops n) : True := trivial

open Go.RowKit in
theorem wp_region_seq {P : Program} {id : Nat} {Q : Exit → Act → World → Prop} {a : Act} {w : World} {l : List Oper} (n : Nat) (ord : List Nat) (Ψ : Nat → Option (Value → World → Prop)) (S : Nat → Bool) (hm : P.follows .mixedOrders = true) (hB : seqAll .any l.toArray n ord = true)
    (hst : ∀ k ψ, Ψ k = some ψ → ∀ v w w', Below w.heap.size w w' → ψ v w → ψ v w')
    (h : Held (wpUp P l.toArray .any (fun w w' => Below w.heap.size w w') w Ψ S (fun a' E => ∀ w', Below w.heap.size w w' → Facts Ψ S E w' → wpList P l.toArray (midQ fun a2 w2 => Q .normal a2 w2) (opsAt l.toArray ord) a' w') (l.take n) 0 a (fun _ => none))) : (Code.region id l.toArray true).wp P Q a w := by
  have ht : ∀ u v w : World, Below u.heap.size u v → Below v.heap.size v w → Below u.heap.size u w := fun u v w h1 h2 => h1.trans (h2.mono h1.size)
  have hR : ∀ u v : World, Below u.heap.size u v → u.heap.size ≤ v.heap.size := fun u v h => h.size
  simp only [seqAll, Bool.and_eq_true, decide_eq_true_eq] at hB
  obtain ⟨⟨⟨⟨⟨⟨hsel, hn⟩, hs⟩, hc⟩, hol⟩, hoi⟩, hlex⟩ := hB
  have hn' : n < l.length := by simpa using hn
  have htl : (l.take n).length = n := by simp; omega
  have hoi2 : ∀ i ∈ ord, n ≤ i ∧ i < l.toArray.size := fun i hi => by
    have := List.all_eq_true.1 hoi i hi
    simpa using this
  have hTT : ∀ listed, seqF .any l.toArray ord listed = true → ∀ j ∈ Region.ready .any l.toArray listed, n ≤ j := by
    intro listed
    have key : ∀ (is : List Nat) (listed : Array Bool), (∀ i ∈ is, n ≤ i) → seqF .any l.toArray is listed = true → ∀ j ∈ Region.ready .any l.toArray listed, n ≤ j := by
      intro is
      induction is with
      | nil =>
        intro listed _ hB j hj
        simp only [seqF, List.isEmpty_iff] at hB
        rw [hB] at hj; cases hj
      | cons i is ih =>
        intro listed hi hB j hj
        simp only [seqF, Bool.and_eq_true, Bool.or_eq_true, decide_eq_true_eq] at hB
        by_cases hji : j = i
        · rw [hji]; exact hi i List.mem_cons_self
        · exact ih _ (fun k hk => hi k (List.mem_cons_of_mem _ hk)) hB.2 j (ready_mono hj hji)
    exact key ord listed (fun i hi => (hoi2 i hi).1)
  have inv0 : HeadInv .any l.toArray n (Array.replicate l.toArray.size false) :=
    ⟨by simp, fun j oj _ hl => (by rw [getD_replicate_false] at hl; cases hl), fun t _ ht => getD_in (by simpa using ht) (getD_replicate_false _ _)⟩
  have H := lexS (md := .any) hTT ht hst hR hsel hs hc hn (l.take n) 0 _ a (fun _ => none) (fun j hj => by
    have hj' : j < n := by rw [htl] at hj; exact hj
    simp [hj']) (by simpa using htl) inv0 (by rw [htl]; exact hlex) (fun _ _ => rfl) h.out
  refine wp_mid (fun _ a2 w2 => Q .normal a2 w2) ?_ (fun _ _ h => h)
  refine wp_region_any hm ?_
  have := soundL (Q := midQ fun a2 w2 => Q .normal a2 w2) (g := l.toArray.size - n) ht hst hR (fun listed a' E w' h1 h2 hL => by
    have h3 := wpAny_of_seqF hsel ord listed a' w' (fun i hi => (hoi2 i hi).2) hL.1 (hL.2 w' h1 h2)
    rwa [hol] at h3) _ _ _ _ { w with drawn := w.drawn + 1 } (Below.refl _ _).drew ⟨fun k v ψ hk _ => (by cases hk), fun k g _ hk => (by cases hk), fun k j g g' _ _ _ hk _ => (by cases hk)⟩ H
  rw [htl, show n + (l.toArray.size - n) = l.toArray.size by omega] at this
  exact this
end Go.Proofs.YtjfoidilecognaaDoor.UpT

/-
  What an act of package bank's laws tells, as plain data and as cells.
-/

namespace Go.Proofs.YtjfoidilecognaaDoor
set_option linter.unusedSimpArgs false
set_option linter.unusedVariables false
set_option maxRecDepth 100000
open Go.RowKit

structure Told where
  p : Pt
  b : List Int
  g0 : Bool
  g1 : Bool
  n : Nat
  e : Int
def Told.zero : Told := ⟨Pt.zero, [], false, false, 0, 0⟩
def Told.rest (t : Told) : List Value := [.string (strOfNums t.b), .bool t.g0, .bool t.g1, .int .i64 (t.n : Int), .int .i64 t.e]
def Told.vs (t : Told) : List Value := t.p.vs ++ t.rest
theorem Told.vs_len {t : Told} (h : t.p.ok) : t.vs.length = 40 := by
  have := Pt.vs_len h
  unfold Told.vs Told.rest
  simp [this]
theorem Told.vs_one (t : Told) : ∀ v ∈ t.vs, v.oneCell' = true := by
  intro v hv
  unfold Told.vs Told.rest at hv
  simp only [List.mem_append, List.mem_cons, List.not_mem_nil, or_false] at hv
  rcases hv with hv | rfl | rfl | rfl | rfl | rfl
  all_goals first | rfl | exact Pt.vs_one _ v hv
section
variable {t : Told}
theorem Told.put_p (h : t.p.ok) {q : Pt} (hq : q.ok) : ({ t with p := q } : Told).vs = t.vs.take 0 ++ q.vs ++ t.vs.drop (0 + 35) := by
  have h1 := Pt.vs_len h
  unfold Told.vs
  simp only [List.take_zero, List.nil_append, Nat.zero_add]
  rw [← h1, List.drop_left]
  rfl
theorem Told.put_b (h : t.p.ok) (b : List Int) : ({ t with b := b } : Told).vs = t.vs.set 35 (.string (strOfNums b)) := by
  have h1 := Pt.vs_len h
  unfold Told.vs
  rw [List.set_append_right _ _ (by omega), h1]
  rfl
theorem Told.put_g (h : t.p.ok) (x y : Bool) : ({ t with g0 := x, g1 := y } : Told).vs = t.vs.take 36 ++ twoB x y ++ t.vs.drop (36 + 2) := by
  have h1 := Pt.vs_len h
  unfold Told.vs
  rw [List.take_append, List.drop_append, h1, List.take_of_length_le (by omega), List.drop_eq_nil_of_le (by omega)]
  simp [Told.rest, twoB]
theorem Told.put_n (h : t.p.ok) (n : Nat) : ({ t with n := n } : Told).vs = t.vs.set 38 (.int .i64 (n : Int)) := by
  have h1 := Pt.vs_len h
  unfold Told.vs
  rw [List.set_append_right _ _ (by omega), h1]
  rfl
theorem Told.put_e (h : t.p.ok) (e : Int) : ({ t with e := e } : Told).vs = t.vs.set 39 (.int .i64 e) := by
  have h1 := Pt.vs_len h
  unfold Told.vs
  rw [List.set_append_right _ _ (by omega), h1]
  rfl
theorem Told.at_e (h : t.p.ok) : t.vs[39]? = some (.int .i64 t.e) := by
  have h1 := Pt.vs_len h
  unfold Told.vs
  rw [List.getElem?_append_right (by omega), h1]
  rfl
theorem Told.at_p (h : t.p.ok) : t.p.vs = (t.vs.drop 0).take 35 := by
  have h1 := Pt.vs_len h
  unfold Told.vs
  rw [List.drop_zero, ← h1, List.take_left]
end
theorem alloc_told (w : World) : (Instr.alloc 49 true (.tuple #[])).run Tryd.prog w = .ok (.pointer (some ⟨w.heap.size, 0, none⟩)) (w.alloc (.cells Told.zero.vs.toArray 49)) := by kernel_rfl
theorem build_told (w : World) : (Instr.build 49 #[]).run Tryd.prog w = .ok (.agg Told.zero.vs.toArray) w := by kernel_rfl
theorem agg_told (w : World) : (isAgg 49).run Tryd.prog w = .ok true w := isAgg_struct (show Tryd.prog.underlying 49 = some (.struct (Tryd.prog.fieldsOf 49)) by kernel_rfl) w
theorem size_told (w : World) : (sizeOf 49).run Tryd.prog w = .ok 40 w := sizeOf_run (by kernel_rfl) w
theorem agg_actK (w : World) : (isAgg 45).run Tryd.prog w = .ok true w := isAgg_struct (show Tryd.prog.underlying 45 = some (.struct (Tryd.prog.fieldsOf 45)) by kernel_rfl) w
theorem size_actK (w : World) : (sizeOf 45).run Tryd.prog w = .ok 40 w := sizeOf_run (by kernel_rfl) w
theorem size_err1 (w : World) : (sizeOf 47).run Tryd.prog w = .ok 1 w := sizeOf_run (by kernel_rfl) w
theorem size_int1 (w : World) : (sizeOf 3).run Tryd.prog w = .ok 1 w := sizeOf_run (by kernel_rfl) w
theorem size_str1 (w : World) : (sizeOf 9).run Tryd.prog w = .ok 1 w := sizeOf_run (by kernel_rfl) w

/-- The block that an act writes. -/
def ActK.blk (x : ActK) : List Int := if 5 < x.copies then x.bs else wholeL x.bs
theorem ActK.blk_rng {x : ActK} (h : ∀ y ∈ x.bs, 0 ≤ y ∧ y ≤ 255) : ∀ y ∈ x.blk, 0 ≤ y ∧ y ≤ 255 := by
  unfold ActK.blk
  split
  · exact h
  · exact wholeL_rng h _
theorem ActK.blk_len {x : ActK} (h : x.bs.length ≤ 300) : x.blk.length ≤ 300 := by
  unfold ActK.blk
  split
  · exact h
  · exact wholeL_most _ h

/-- What an act does to a bank of number 7, and tells. -/
def doK (S : DS) (l : List Bool) (x : ActK) (q : Pt) : (DS × List Bool) × Told :=
  if x.kind = 1 then ((putK S l 7 x.blk x.copies).1, { Told.zero with p := (putK S l 7 x.blk x.copies).2.1, e := (putK S l 7 x.blk x.copies).2.2 })
  else if x.kind = 2 then ((S, l), { Told.zero with b := (readK S q).1, e := (readK S q).2 })
  else if x.kind = 3 then ((S, l), { Told.zero with g0 := (lookK S q).1.1, g1 := (lookK S q).1.2, e := (lookK S q).2 })
  else if x.kind = 4 then (((healK S q).1.1, l), { Told.zero with n := (healK S q).1.2, e := (healK S q).2 })
  else if x.kind = 5 then (((fixK S q x.blk).1.1, l), { Told.zero with n := (fixK S q x.blk).1.2, e := (fixK S q x.blk).2 })
  else if x.kind = 6 then (((S.rot x.at' x.bs).1, l), { Told.zero with e := (S.rot x.at' x.bs).2 })
  else if x.kind = 7 then ((S.fuse x.at', l), Told.zero)
  else if x.kind = 8 then ((S.crash [], l), Told.zero)
  else if x.kind = 9 then ((S.flush.1, l), { Told.zero with e := S.flush.2 })
  else ((S, l), Told.zero)

end Go.Proofs.YtjfoidilecognaaDoor
