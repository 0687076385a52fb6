/-
  A list that grows, held beside: a slice that append makes longer.
-/
import Derived.Test.YtcfjkkjjcljaoaaDoorG35
import Derived.Test.YtcfjkkjjcljaoaaDoorG37
import Derived.Test.YtcfjkkjjcljaoaaDoorG27
import Derived.Test.YtcfjkkjjcljaoaaDoorG26
import Derived.Test.YtcfjkkjjcljaoaaDoorG14
import Derived.Test.YtcfjkkjjcljaoaaDoorG33
namespace Go.Proofs.YtcfjkkjjcljaoaaDoor
set_option linter.unusedSimpArgs false
set_option linter.unusedVariables false
set_option maxRecDepth 100000
open Go.RowKit

/-- A slice that is the function's own: its elements' type, their size, how many, their cells. -/
structure Rw where
  v : Value
  t : TypeId
  sz : Nat
  n : Nat
  xs : List Value
def Rw.holds (r : Rw) (B : Nat) (w : World) : Prop := w.ownsRow B r.t r.sz r.v r.n r.xs
def Rw.own (r : Rw) (j : Nat) : Prop := r.v.ownBlock = some j
def Row1 (B : Nat) (I : (Nat → Prop) → World → Prop) (r : Rw) (N : Nat → Prop) (w : World) : Prop := I (fun j => N j ∨ r.own j) w ∧ r.holds B w ∧ ∀ j, r.own j → ¬ N j

section
variable {B : Nat} {I : (Nat → Prop) → World → Prop} {w w' : World} {L : List Ent} {T : List Sli} {r : Rw}
theorem Rw.holds.lt (h : r.holds B w) {j : Nat} (hj : r.own j) : B ≤ j ∧ j < w.heap.size := World.ownsRow.lt h j hj
theorem Rw.holds.keep (h : r.holds B w) (hk : ∀ j, r.own j → w'.heap[j]? = w.heap[j]?) : r.holds B w' := by
  obtain ⟨v, t, sz, n, xs⟩ := r
  obtain ⟨h1, h2⟩ := h
  refine ⟨h1, ?_⟩
  rcases h2 with h2 | ⟨g, cap, cur, h3, hb, hh, rest⟩
  · exact .inl h2
  · simp only at h3
    subst h3
    exact .inr ⟨g, cap, cur, rfl, hb, by rw [hk g rfl]; exact hh, rest⟩
theorem Rw.holds.form (h : r.holds B w) : ∃ a c, r.v = .slice a r.n c := by
  rcases h.2 with ⟨h1, h0⟩ | ⟨g, cap, cur, h1, _⟩
  · exact ⟨none, 0, by rw [h1, h0]⟩
  · exact ⟨_, _, h1⟩
theorem Row1.frame (hF : Frame B I) : Frame B (Row1 B I r) where
  size h := hF.size h.1
  new h hb hN := ⟨hF.new h.1 hb (fun j hj => by rcases hj with hj | hj; exact (hN j hj).imp .inl id; exact .inl (.inr hj)), h.2.1.keep fun j hj => hb.block j (h.2.1.lt hj).2, fun j hj hn => by
    rcases hN j hn with h1 | h1
    · exact h.2.2 j hj h1
    · have := (h.2.1.lt hj).2; omega⟩
  set {_ w w'} {m} h hb hm hB := ⟨hF.set h.1 hb (.inl hm) hB, h.2.1.keep fun j hj => hb.block j (fun e => h.2.2 j hj (e ▸ hm)) (h.2.1.lt hj).2, h.2.2⟩
  grown {_ _ w w'} row h hg hM hN := ⟨hF.grown h.1 hg (fun j hj => ⟨.inl (hM j hj).1, (hM j hj).2⟩) (fun j hj => by rcases hj with hj | hj; exact (hN j hj).imp .inl id; exact .inl (.inr hj)),
    h.2.1.keep fun j hj => hg.block j (h.2.1.lt hj).2 (fun e => h.2.2 j hj (hM j e.symm).1), fun j hj hn => by
    rcases hN j hn with h1 | h1
    · exact h.2.2 j hj h1
    · have := (h.2.1.lt hj).2; omega⟩
/-- An empty list. -/
theorem Sep.nil (h : Sep B I w L T) (t : TypeId) (sz : Nat) : Sep B (Row1 B I ⟨.slice none 0 0, t, sz, 0, []⟩) w L T := by
  have hno : ∀ j, ¬ (⟨.slice none 0 0, t, sz, 0, []⟩ : Rw).own j := fun j hj => by simp [Rw.own, Value.ownBlock] at hj
  have he : (fun j => mine L T j ∨ (⟨.slice none 0 0, t, sz, 0, []⟩ : Rw).own j) = mine L T := funext fun j => propext ⟨fun hj => hj.elim id (fun h1 => absurd h1 (hno j)), .inl⟩
  exact ⟨Row1.frame h.fr, ⟨by rw [he]; exact h.inv, ⟨by simp, .inl ⟨rfl, rfl⟩⟩, fun j hj => absurd hj (hno j)⟩, h.blk, h.nd, h.sl⟩
/-- Two lists beside each other, in the other order. -/
theorem Sep.swap {r' : Rw} (h : Sep B (Row1 B (Row1 B I r) r') w L T) (hF : Frame B I) : Sep B (Row1 B (Row1 B I r') r) w L T := by
  obtain ⟨⟨h1, h2, h3⟩, h4, h5⟩ := h.inv
  refine ⟨Row1.frame (Row1.frame hF), ⟨⟨?_, h4, fun j hj hn => ?_⟩, h2, fun j hj hn => h3 j hj (.inl hn)⟩, h.blk, h.nd, h.sl⟩
  · have : (fun j => ((mine L T j ∨ r.own j) ∨ r'.own j)) = (fun j => (mine L T j ∨ r'.own j) ∨ r.own j) := funext fun j => propext ⟨fun h => h.elim (fun h => h.elim (fun h => .inl (.inl h)) .inr) (fun h => .inl (.inr h)), fun h => h.elim (fun h => h.elim (fun h => .inl (.inl h)) .inr) (fun h => .inl (.inr h))⟩
    exact (congrArg (fun N => I N w) this).mpr h1
  · rcases hn with hn | hn
    · exact h5 j hj hn
    · exact h3 j hn (.inr hj)
/-- The newest block is let go. -/
theorem Sep.drop {e : Ent} (h : Sep B I w (e :: L) T) : Sep B I w L T :=
  ⟨h.fr, h.fr.new h.inv (Below.refl _ _) (fun j hj => .inl (by rcases hj with ⟨x, hx, h1⟩ | hj; exact .inl ⟨x, List.mem_cons_of_mem _ hx, h1⟩; exact .inr hj)), fun x hx => h.blk x (List.mem_cons_of_mem _ hx), by
    have := h.nd; rw [List.map_cons, List.nodup_cons] at this; exact this.2, fun s hs => ⟨(h.sl s hs).1, fun x hx => ⟨((h.sl s hs).2 x hx).1, ((h.sl s hs).2 x hx).2.1, fun e' he' => ((h.sl s hs).2 x hx).2.2 e' (List.mem_cons_of_mem _ he')⟩⟩⟩
theorem Sep.drop_sl {s : Sli} (h : Sep B I w L (s :: T)) : Sep B I w L T :=
  ⟨h.fr, h.fr.new h.inv (Below.refl _ _) (fun j hj => .inl (by rcases hj with hj | ⟨x, hx, h1⟩; exact .inl hj; exact .inr ⟨x, List.mem_cons_of_mem _ hx, h1⟩)), h.blk, h.nd, fun x hx => h.sl x (List.mem_cons_of_mem _ hx)⟩
/-- A block of one element is a list of one. -/
theorem Sep.made {g n : Nat} {t : TypeId} {vs : List Value} (h : Sep B I w (⟨g, t, n, vs⟩ :: L) T) : Sep B (Row1 B I ⟨.slice (some ⟨g, 0, none⟩) 1 1, t, n, 1, vs⟩) w L T := by
  obtain ⟨hb, hg, hv⟩ := h.blk _ List.mem_cons_self
  have hd := h.drop
  have hv1 : vs.length = n := hv.1
  have hown : ∀ j, (⟨.slice (some ⟨g, 0, none⟩) 1 1, t, n, 1, vs⟩ : Rw).own j ↔ g = j := fun j => by simp [Rw.own, Value.ownBlock]
  refine ⟨Row1.frame h.fr, ⟨h.fr.new h.inv (Below.refl _ _) (fun j hj => .inl ?_), ⟨by rw [Nat.one_mul]; exact hv.1, .inr ⟨g, 1, vs.toArray, rfl, hg, hb, Nat.le_refl _, by decide, by simp [hv1], by rw [Nat.one_mul, ← hv1]; simp⟩⟩, fun j hj hn => ?_⟩, hd.blk, hd.nd, hd.sl⟩
  · rcases hj with hj | hj
    · rcases hj with ⟨e', he, rfl⟩ | hj
      · exact .inl ⟨e', List.mem_cons_of_mem _ he, rfl⟩
      · exact .inr hj
    · exact .inl ⟨_, List.mem_cons_self, (hown j).1 hj⟩
  · have e := (hown j).1 hj
    subst e
    rcases hn with ⟨e', he, h1⟩ | ⟨s, hs, x, hx, h1⟩
    · have := h.nd
      rw [List.map_cons, List.nodup_cons] at this
      exact this.1 (List.mem_map.2 ⟨e', he, h1⟩)
    · exact ((h.sl s hs).2 x hx).2.2 _ List.mem_cons_self h1.symm
theorem Sep.row (h : Sep B (Row1 B I r) w L T) : r.holds B w := h.inv.2.1
theorem Sep.fr0 (h : Sep B (Row1 B I r) w L T) (hF : Frame B I) : Sep B I w L T := ⟨hF, hF.new h.inv.1 (Below.refl _ _) (fun j hj => .inl (.inl hj)), h.blk, h.nd, h.sl⟩

variable {P : Program} {ops : Array Oper} {rest : List Oper} {o : Oper} {a : Act} {Q : Exit → Act → World → Prop} {n : Nat} {t e : TypeId} {vs us : List Value} {v : Value} {x s : Operand}
/-! Steps of regions that draw their order. -/
variable {K : Act → World → Prop} {E : Prop} {off g : Nat} {L' : List Ent} {y : Operand}
theorem sep_step_loadw (h : Sep B I w L T) (hgd : o.guard = none) (ho : o.op = Op.load t x) (hx : a.eval x = .pointer (some ⟨g, 0, none⟩)) (hm : (⟨g, e, n, vs⟩ : Ent) ∈ L) (hT : Ty P t n)
    (hk : K (a.put o.dst (.agg vs.toArray)) w) : if Region.wanted o (yielded ops a.tmps) = true then Oper.wp P o a w K Q else E := by
  rw [if_pos (by simp [Region.wanted, hgd])]
  exact step_load_blk x t ho g 0 n hx hT.1 hT.2 (h.blk _ hm).1 vs (whole_load (h.vals hm).1) (h.vals hm).1 hk
theorem sep_step_load (h : Sep B I w L T) (hgd : o.guard = none) (ho : o.op = Op.load t x) (hx : a.eval x = .pointer (some ⟨g, off, none⟩)) {m : Nat} (hm : (⟨g, e, m, vs⟩ : Ent) ∈ L) (hT : Ty P t n) (hu : us = (vs.drop off).take n) (hl : us.length = n)
    (hk : K (a.put o.dst (.agg us.toArray)) w) : if Region.wanted o (yielded ops a.tmps) = true then Oper.wp P o a w K Q else E := by
  rw [if_pos (by simp [Region.wanted, hgd])]
  exact step_load_blk x t ho g off n hx hT.1 hT.2 (h.blk _ hm).1 us hu hl hk
theorem sep_step_storew (h : Sep B I w L T) (hgd : o.guard = none) (ho : o.op = Op.store t x y) (hx : a.eval x = .pointer (some ⟨g, 0, none⟩)) (hy : a.eval y = .agg us.toArray) (hup : Upd L g e n vs us L') (hT : Ty P t n) (hv : Vals n us)
    (hk : ∀ w', Sep B I w' L' T → K (a.put o.dst undef) w') : if Region.wanted o (yielded ops a.tmps) = true then Oper.wp P o a w K Q else E := by
  obtain ⟨P', R', hL, _⟩ := id hup
  have hm : (⟨g, e, n, vs⟩ : Ent) ∈ L := by rw [hL]; simp
  obtain ⟨hB, _, hvl, hv1⟩ := h.blk _ hm
  simp only at hB hvl hv1
  rw [if_pos (by simp [Region.wanted, hgd])]
  refine step_store_blk x y t ho g 0 n hx us hy hT.2 hB hv.1 (by omega) hv.2 us ?_ fun w' hB' hb _ => hk w' (h.upd hup hb hB' hv)
  rw [Nat.zero_add, ← hvl]
  simp
theorem sep_step_alloc (h : Sep B I w L T) (hgd : o.guard = none) (ho : o.op = Op.alloc t) (hr : (∀ w, (Instr.alloc t true (.tuple #[])).run P w = .ok (.pointer (some ⟨w.heap.size, 0, none⟩)) (w.alloc (.cells vs.toArray t))) ∧ Vals n vs)
    (hk : ∀ w' g, Sep B I w' (⟨g, t, n, vs⟩ :: L) T → K (a.put o.dst (.pointer (some ⟨g, 0, none⟩))) w') : if Region.wanted o (yielded ops a.tmps) = true then Oper.wp P o a w K Q else E := by
  rw [if_pos (by simp [Region.wanted, hgd])]
  unfold Oper.wp execOp
  simp only [ho, Sem.run_bind, Sem.run_pure, Result.andThen_ok, hr.1]
  exact hk _ _ (h.add ((Below.refl _ _).alloc (Nat.le_refl _) _) (Blk.newAt rfl rfl) hr.2)

variable {md : Region.Mode} {fuel : Nat} {listed : Array Bool}
/-- One operation may come up, or one of two. -/
theorem sep_any1 (i : Nat) (hr : Region.ready md ops listed = [i]) {o : Oper} (ho : ops[i]? = some o)
    (h1 : ∀ K : Act → World → Prop, (∀ a w, wpAny P md ops Q fuel (listed.setIfInBounds i true) a w → K a w) → if Region.wanted o (yielded ops a.tmps) = true then Oper.wp P o a w K Q else K (a.put o.dst undef) w) :
    wpAny P md ops Q (fuel + 1) listed a w := wpAny_ready hr (by simp) (AllReady.cons ho h1 AllReady.nil)
theorem sep_any2 (i j : Nat) (hr : Region.ready md ops listed = [i, j]) {o o' : Oper} (ho : ops[i]? = some o) (ho' : ops[j]? = some o')
    (h1 : ∀ K : Act → World → Prop, (∀ a w, wpAny P md ops Q fuel (listed.setIfInBounds i true) a w → K a w) → if Region.wanted o (yielded ops a.tmps) = true then Oper.wp P o a w K Q else K (a.put o.dst undef) w)
    (h2 : ∀ K : Act → World → Prop, (∀ a w, wpAny P md ops Q fuel (listed.setIfInBounds j true) a w → K a w) → if Region.wanted o' (yielded ops a.tmps) = true then Oper.wp P o' a w K Q else K (a.put o'.dst undef) w) :
    wpAny P md ops Q (fuel + 1) listed a w := wpAny_ready hr (by simp) (AllReady.cons ho h1 (AllReady.cons ho' h2 AllReady.nil))

/-- A slice of one element. -/
theorem sep_one (h : Sep B I w L T) (hgd : o.guard = none) {st : TypeId} (ho : o.op = Op.buildSlice st 1 [(0, x)].toArray) {u : Value} (hx : a.eval x = u)
    (hr : ∀ w : World, (Instr.buildSlice st 1 [(0, u)].toArray).run P w = .ok (.slice (some ⟨w.heap.size, 0, none⟩) 1 1) (w.alloc (.cells vs.toArray e))) (hv : Vals n vs)
    (hk : ∀ w' g, Sep B I w' (⟨g, e, n, vs⟩ :: L) T → wpList P ops Q rest (a.put o.dst (.slice (some ⟨g, 0, none⟩) 1 1)) w') : wpList P ops Q (o :: rest) a w := by
  refine wpList_plain hgd fun K hK => ?_
  have e : [(0, x)].toArray.map (fun (i, x) => (i, a.eval x)) = [(0, u)].toArray := by simp [hx]
  unfold Oper.wp execOp
  simp only [ho, Sem.run_bind, Sem.run_pure, Result.andThen_ok, e, hr]
  exact hK _ _ (hk _ _ (h.add ((Below.refl _ _).alloc (Nat.le_refl _) _) (Blk.newAt rfl rfl) hv))
/-- Elements of a type. -/
structure Elem (P : Program) (st t : TypeId) (sz : Nat) : Prop where
  und : P.underlying st = some (.slice t)
  info : ∃ i z, P.info? t = some i ∧ i.zero = some z ∧ i.size = sz ∧ i.bytes ≤ 1024 ∧ z.cells.size = sz
  pos : 0 < sz
/-- append(l, x). -/
theorem sep_append {m : Nat} {xs : List Value} (h : Sep B (Row1 B I ⟨v, t, n, m, xs⟩) w L T) (hF : Frame B I) (hgd : o.guard = none) {st : TypeId} (ho : o.op = .call { callee := .builtin .append, args := #[s, x], argTypes := #[st, st] }) (hE : Elem P st t n)
    (hs : a.eval s = v) {b : Nat} (hx : a.eval x = .slice (some ⟨b, 0, none⟩) 1 1) (hm : (⟨b, e, n, vs⟩ : Ent) ∈ L) (hlen : m ≤ 1000000)
    (hk : ∀ v' w', Sep B (Row1 B I ⟨v', t, n, m + 1, xs ++ vs⟩) w' L T → wpList P ops Q rest (a.put o.dst v') w') : wpList P ops Q (o :: rest) a w := by
  obtain ⟨hu, ⟨i, z, hi, hz, hsz, hby, hzc⟩, hp⟩ := hE
  obtain ⟨h1, h2, h3⟩ := h.inv
  obtain ⟨hB, hg, hvl⟩ := h.blk _ hm
  have hbd : (m + 1) * i.bytes ≤ 140737488355328 := Nat.le_trans (Nat.mul_le_mul (show m + 1 ≤ 1000001 by omega) hby) (by decide)
  refine wpList_append_lies _ hgd s x st ho B t i z n i.bytes hu hi hz hsz rfl hzc hp v m xs hs h2 ⟨b, 0, none⟩ 1 1 vs hx (by rw [hvl.1, Nat.one_mul]) (fun j u hj => ?_) hvl.2 (by omega) (by unfold maxLen; omega) hbd (h.fr.size h.inv) _ rfl fun g cap w' q1 q2 q3 q4 => ?_
  · have hadd : (⟨b, 0, none⟩ : Addr).add j = ⟨b, j, none⟩ := by unfold Addr.add; split <;> simp_all
    rw [hadd, hB.cell j, hj]
  · have hown : ∀ j, (⟨.slice (some ⟨g, 0, none⟩) (m + 1) cap, t, n, m + 1, xs ++ vs⟩ : Rw).own j → j = g := fun j hj => by
      have : g = j := by simpa [Rw.own, Value.ownBlock] using hj
      exact this.symm
    have hrow : ∀ j, v.ownBlock = some j → B ≤ j ∧ j < w.heap.size := fun j hj => Rw.holds.lt (r := ⟨v, t, n, m, xs⟩) h2 hj
    have hgo : ∀ j, mine L T j → w'.heap[j]? = w.heap[j]? := fun j hj => by
      have hl : j < w.heap.size := by
        rcases hj with ⟨e', he, rfl⟩ | ⟨s', hs', y, hy, rfl⟩
        · exact (h.blk e' he).1.lt
        · exact ((h.sl s' hs').2 y hy).2.1
      exact q2.block j hl (fun e' => h3 j e'.symm hj)
    have hmine : ∀ j, mine L T j → j < w.heap.size := fun j hj => by
      rcases hj with ⟨e', he, rfl⟩ | ⟨s', hs', y, hy, rfl⟩
      · exact (h.blk e' he).1.lt
      · exact ((h.sl s' hs').2 y hy).2.1
    refine hk _ w' ⟨Row1.frame hF, ⟨hF.grown h1 q2 (fun j hj => ⟨.inr hj, (hrow j hj).1⟩) (fun j hj => ?_), q1, fun j hj hn => ?_⟩, fun e' he => ⟨?_, (h.blk e' he).2⟩, h.nd, fun s' hs' => ⟨?_, fun y hy => ⟨((h.sl s' hs').2 y hy).1, Nat.lt_of_lt_of_le ((h.sl s' hs').2 y hy).2.1 q2.size, ((h.sl s' hs').2 y hy).2.2⟩⟩⟩
    · rcases hj with hj | hj
      · exact .inl (.inl hj)
      · rw [hown j hj]
        rcases q3 with q3 | q3
        · exact .inl (.inr q3)
        · exact .inr ⟨by omega, q4⟩
    · rw [hown j hj] at hn
      rcases q3 with q3 | q3
      · exact h3 g q3 hn
      · have := hmine g hn; omega
    · have hb1 := (h.blk e' he).1
      unfold Blk at *
      rw [hgo _ (.inl ⟨e', he, rfl⟩)]; exact hb1
    · refine Stay.bs (M := fun j => mine L T j) ⟨q2.size, fun j hj _ => hgo j hj⟩ (h.sl s' hs').1 (fun y hy => .inr ⟨s', hs', y, hy, rfl⟩)
end

/-- A list of pointers. -/
def rwP (v : Value) (ps : List Pt) : Rw := ⟨v, 42, 35, ps.length, ptrsV ps⟩
theorem elem_ptr : Elem Tryd.prog 38 42 35 := by
  have hi : (Tryd.prog.info? 42).map (fun i => (i.zero, i.size, i.bytes)) = some (some (.agg Pt.zero.vs.toArray), 35, 44) := by kernel_rfl
  obtain ⟨i0, hi0, hz0, hz1, hz2⟩ := info_parts hi
  exact ⟨Tryd.underlying38, ⟨i0, _, hi0, hz0, hz1, by omega, rfl⟩, by decide⟩
theorem rwP_cast {B : Nat} {I : (Nat → Prop) → World → Prop} {w : World} {L : List Ent} {T : List Sli} {v : Value} {n : Nat} {xs : List Value} (h : Sep B (Row1 B I ⟨v, 42, 35, n, xs⟩) w L T) (ps : List Pt) (hn : n = ps.length) (hx : xs = ptrsV ps) : Sep B (Row1 B I (rwP v ps)) w L T := by
  subst hn hx; exact h
theorem rwP_eq {B : Nat} {I : (Nat → Prop) → World → Prop} {w : World} {L : List Ent} {T : List Sli} {v : Value} {ps : List Pt} (h : Sep B (Row1 B I (rwP v ps)) w L T) (ps' : List Pt) (e : ps' = ps) : Sep B (Row1 B I (rwP v ps')) w L T := by
  rw [e]; exact h
theorem rwP_more {B : Nat} {I : (Nat → Prop) → World → Prop} {w : World} {L : List Ent} {T : List Sli} {v : Value} {ps : List Pt} {p : Pt} {us : List Value} (h : Sep B (Row1 B I ⟨v, 42, 35, ps.length + 1, ptrsV ps ++ us⟩) w L T) (e : us = p.vs) : Sep B (Row1 B I (rwP v (ps ++ [p]))) w L T := by
  subst e
  unfold rwP
  rw [ptrsV_more, List.length_append]
  exact h
theorem Sep.rbelow {B : Nat} {ws w : World} {r : Rw} {L : List Ent} {T : List Sli} (h : Sep B (Row1 B (PI ws) r) w L T) : Below ws.heap.size ws w := h.inv.1.1

end Go.Proofs.YtcfjkkjjcljaoaaDoor

/-
  The laws' helpers: whole, fresh.
-/

namespace Go.Proofs.YtcfjkkjjcljaoaaDoor
set_option linter.unusedSimpArgs false
set_option linter.unusedVariables false
set_option maxRecDepth 100000
open Go.RowKit

set_option maxHeartbeats 4000000 in
theorem whole9_run (ba : Option Addr) (bc : Nat) (bs : List Int) (w : World) (hB : Bs w ba bc bs) (hl : bs.length ≤ 300) :
    Calls Tryd.prog 53 #[.slice ba bs.length bc] w fun e w' => ∃ a c, e = .returned (.slice a (wholeL bs).length c) ∧ NewB w.heap.size w' a c (wholeL bs) ∧ Below w.heap.size w w' := by
  have hi : (Tryd.prog.info? 5).map (fun i => (i.zero, i.size, i.bytes)) = some (some (.int .u8 0), 1, 1) := by kernel_rfl
  obtain ⟨i0, hi0, hz0, hz1, hz2⟩ := info_parts hi
  obtain ⟨nz, hnz⟩ : ∃ nz, nz = 256 - bs.length := ⟨_, rfl⟩
  have hpr := wholeL_rng hB.rng
  obtain ⟨C, hC⟩ : ∃ C, C = (bs.length : Int) % 256 := ⟨_, rfl⟩
  have hCr : 0 ≤ C ∧ C ≤ 255 := by omega
  rw [← hC] at hpr
  obtain ⟨R, hR⟩ : ∃ R, R = wholeL bs := ⟨_, rfl⟩
  have HR : Hid (R = bs ++ List.replicate nz C) := by show _ = _; rw [hR, hnz, hC]; rfl
  rw [← hR]
  obtain ⟨L, hL⟩ : ∃ L, L = bs.length := ⟨_, rfl⟩
  have HL : Hid (L = bs.length) := hL
  rw [← hL] at hnz hl hC
  have hwrap : IntKind.u8.wrap (L : Int) = C := by rw [hC]; simp [IntKind.wrap, IntKind.bits, IntKind.signed]
  rw [← hL]
  clear hR hC hL
  have hown0 : (w.alloc (.cells #[] 5)).ownsRow w.heap.size 5 1 (.slice (some ⟨w.heap.size, 0, none⟩) 0 0) ([] : List Int).length (([] : List Int).map (Value.int .u8)) :=
    World.ownsRow_made w #[] 0 (Nat.le_refl _) (by decide) rfl
  have hbA : Below w.heap.size w (w.alloc (.cells #[] 5)) := (Below.refl _ _).alloc (Nat.le_refl _) _
  go_enter Tryd.func53, Tryd.ntmps53
  go_wp2_with (at_builtin; go_must (refine wpList_append_bytes (w0 := w) (by rfl) (.tmp 4) (.tmp 5) 43 (by rfl) w.heap.size 5 i0 Tryd.underlying43 hi0 hz0 hz1 hz2 _ [] (by rfl) hown0 ba L bc bs (by rfl) HL.out (hB.stays ((Below.refl _ _).alloc (Nat.le_refl _) _)) (by have := HL.out; simp; omega) (by simp) hbA ?_); rw [List.nil_append]; intro v1 w1 hown1 hb1)
  clear hbA hown0
  go_loopw [3] (fun v wr => ∃ k : Nat, k ≤ nz ∧ wr.ownsRow w.heap.size 5 1 v (bs ++ List.replicate k C).length ((bs ++ List.replicate k C).map (Value.int .u8)) ∧ Below w.heap.size w wr) (fun v _ => L + nz - lenV8 v)
  case atStart => exact ⟨0, by omega, by simpa using hown1, hb1⟩
  case round =>
    clear hown1 hb1
    rename_i hrel
    obtain ⟨k, hk, hown, hbel⟩ := hrel
    obtain ⟨Z, hZ⟩ : ∃ Z, Z = bs ++ List.replicate k C := ⟨_, rfl⟩
    have hZr := hpr k
    have hZl : Z.length = L + k := by rw [hZ, HL.out]; simp
    rw [← hZ] at hown hZr
    obtain ⟨a3, c3, rfl, hB3⟩ := Bs.of_owns hown hZr
    obtain ⟨M, hM⟩ : ∃ M, M = Z.length := ⟨_, rfl⟩
    have HM : Hid (M = Z.length) := hM
    rw [← hM] at hZl ⊢
    have hsr := hbel.size
    by_cases hend : k = nz
    · have hfin : NewB w.heap.size wr a3 c3 R ∧ R.length = M := by
        have hZR : Z = R := by rw [HR.out, hZ, hend]
        rw [← hZR]
        exact ⟨⟨hB3, fun x hx => by subst hx; exact (World.ownsRow.lt hown x.block rfl).1⟩, hM.symm⟩
      have hge : ¬ ((M : Int) < 256) := by omega
      have hge' : decide ((M : Int) < 256) = false := by simp; omega
      clear hend hZ hZl hnz hM hown
      go_wp2
      go_ret
      exact ⟨a3, c3, rfl, hfin.1, hbel⟩
    · have HZ : Hid (bs ++ List.replicate (k + 1) C = Z ++ [C]) := by unfold Hid; rw [hZ, List.replicate_succ', List.append_assoc]
      have hlt : (M : Int) < 256 := by omega
      have hlt' : decide ((M : Int) < 256) = true := by simp; omega
      have hBC : ∀ u : World, Bs (u.alloc (.cells #[.int .u8 C] 5)) (some ⟨u.heap.size, 0, none⟩) 1 [C] := fun u => Bs.one u C hCr _
      have hkn : k < nz := by omega
      have HZl : Hid (M = L + k) := hZl
      have hown' : wr.ownsRow w.heap.size 5 1 (.slice a3 M c3) Z.length (Z.map (Value.int .u8)) := by rw [hM]; exact hown
      clear hown hZ hZl hnz hM hB3 hend
      go_wp2_with (at_builtin; go_must (refine wpList_append_bytes (w0 := w) (by rfl) (.tmp 10) (.tmp 14) 43 (by rfl) w.heap.size 5 i0 Tryd.underlying43 hi0 hz0 hz1 hz2 _ Z (by rfl) (hown'.alloc _) (some ⟨wr.heap.size, 0, none⟩) 1 1 [C] (by rfl) (by rfl) (hBC _) (by have := HM.out; simp; omega) (by simp; omega) (hbel.alloc (by omega) _) ?_); intro v4 w4 hown4 hb4)
      go_roundw
      case rel => exact ⟨k + 1, by omega, by rw [HZ.out]; exact hown4, hb4⟩
      case measure =>
        obtain ⟨a4, c4, rfl, _⟩ := Bs.of_owns hown4 (HZ.out ▸ hpr (k + 1))
        have := HZl.out
        have := HM.out
        simp [lenV8]
        omega

/-- A fact that has a footprint goes on beside. -/
def With (I : (Nat → Prop) → World → Prop) (F : Nat → Prop) (R : World → Prop) (N : Nat → Prop) (w : World) : Prop := I (fun j => N j ∨ F j) w ∧ R w ∧ (∀ j, F j → j < w.heap.size) ∧ ∀ j, F j → ¬ N j
theorem With.frame {B : Nat} {I : (Nat → Prop) → World → Prop} {F : Nat → Prop} {R : World → Prop} (hF : Frame B I) (hR : ∀ w w', R w → (∀ j, F j → j < w.heap.size → w'.heap[j]? = w.heap[j]?) → w.heap.size ≤ w'.heap.size → R w') : Frame B (With I F R) where
  size h := hF.size h.1
  new h hb hN := ⟨hF.new h.1 hb (fun j hj => by rcases hj with hj | hj; exact (hN j hj).imp .inl id; exact .inl (.inr hj)), hR _ _ h.2.1 (fun j hj hl => hb.block j hl) hb.size, fun j hj => Nat.lt_of_lt_of_le (h.2.2.1 j hj) hb.size, fun j hj hn => by
    rcases hN j hn with h1 | h1
    · exact h.2.2.2 j hj h1
    · have := h.2.2.1 j hj; omega⟩
  set {_ w w'} {m} h hb hm hB := ⟨hF.set h.1 hb (.inl hm) hB, hR _ _ h.2.1 (fun j hj hl => hb.block j (fun e => h.2.2.2 j hj (e ▸ hm)) hl) hb.size, fun j hj => Nat.lt_of_lt_of_le (h.2.2.1 j hj) hb.size, h.2.2.2⟩
  grown {_ _ w w'} row h hg hM hN := ⟨hF.grown h.1 hg (fun j hj => ⟨.inl (hM j hj).1, (hM j hj).2⟩) (fun j hj => by rcases hj with hj | hj; exact (hN j hj).imp .inl id; exact .inl (.inr hj)),
    hR _ _ h.2.1 (fun j hj hl => hg.block j hl (fun e => h.2.2.2 j hj (hM j e.symm).1)) hg.size, fun j hj => Nat.lt_of_lt_of_le (h.2.2.1 j hj) hg.size, fun j hj hn => by
    rcases hN j hn with h1 | h1
    · exact h.2.2.2 j hj h1
    · have := h.2.2.1 j hj; omega⟩
/-- A fact that is new is held beside. -/
theorem Sep.hold {B : Nat} {I : (Nat → Prop) → World → Prop} {w w' : World} {L : List Ent} {T : List Sli} (h : Sep B I w L T) (hb : Below w.heap.size w w') {F : Nat → Prop} {R : World → Prop} (hF : ∀ j, F j → w.heap.size ≤ j ∧ j < w'.heap.size) (hw : R w')
    (hR : ∀ w w', R w → (∀ j, F j → j < w.heap.size → w'.heap[j]? = w.heap[j]?) → w.heap.size ≤ w'.heap.size → R w') : Sep B (With I F R) w' L T := by
  have hs := h.stays hb
  have hlt : ∀ j, mine L T j → j < w.heap.size := fun j hj => by
    rcases hj with ⟨e', he, rfl⟩ | ⟨s', hs', y, hy, rfl⟩
    · exact (h.blk e' he).1.lt
    · exact ((h.sl s' hs').2 y hy).2.1
  exact ⟨With.frame h.fr hR, ⟨h.fr.new h.inv hb (fun j hj => by rcases hj with hj | hj; exact .inl hj; exact .inr (hF j hj)), hw, fun j hj => (hF j hj).2, fun j hj hn => by have := (hF j hj).1; have := hlt j hn; omega⟩, hs.blk, hs.nd, hs.sl⟩
section
variable {B : Nat} {I : (Nat → Prop) → World → Prop} {w w' : World} {L : List Ent} {T : List Sli} {P : Program} {g off n m : Nat} {t e : TypeId} {vs us : List Value} {v : Value}
/-- What a load behind tells. -/
theorem Sep.ld (h : Sep B I w L T) (hb : Below w.heap.size w w') (hT : Ty P t n) (hm : (⟨g, e, n, vs⟩ : Ent) ∈ L) : (Instr.loadAt t (.pointer (some ⟨g, 0, none⟩))).run P w' = .ok (.agg vs.toArray) w' :=
  run_load_blk hT.1 hT.2 ((h.blk _ hm).1.stays hb) (whole_load (h.vals hm).1) (h.vals hm).1
theorem Sep.ldp (h : Sep B I w L T) (hb : Below w.heap.size w w') (hT : Ty P t n) (hm : (⟨g, e, m, vs⟩ : Ent) ∈ L) (hu : us = (vs.drop off).take n) (hl : us.length = n) : (Instr.loadAt t (.pointer (some ⟨g, off, none⟩))).run P w' = .ok (.agg us.toArray) w' :=
  run_load_blk hT.1 hT.2 ((h.blk _ hm).1.stays hb) hu hl
theorem Sep.ld1 (h : Sep B I w L T) (hb : Below w.heap.size w w') (hT : Ty1 P t) (hm : (⟨g, e, m, vs⟩ : Ent) ∈ L) (hv : vs[off]? = some v) : (Instr.loadAt t (.pointer (some ⟨g, off, none⟩))).run P w' = .ok v w' := by
  have hc := ((h.blk _ hm).1.stays hb).cell off
  simp only [hv] at hc
  simp [Instr.loadAt, Instr.sureAddr, loadVar, hT.1, Sem.run_bind, hc]
theorem sep_ret_ttc {a : Act} {fn : Func} {R : Ending → World → Prop} {p q r : Tmp} {v' : Value} (h : Sep B I w L T) (hf : fn.results = #[.tmp q, .tmp r, .cell p t]) (hd : a.defers = []) (hp : a.tmps.getD p undef = .pointer (some ⟨g, 0, none⟩)) (hq : a.tmps.getD q undef = v) (hq' : a.tmps.getD r undef = v') (hT : Ty P t n) (hm : (⟨g, e, n, us⟩ : Ent) ∈ L)
    (hR : R (.returned (.tuple #[v, v', .agg us.toArray])) w) : bodyPost P fn R .ret a w := by
  refine bodyPost_ret_by (v := .tuple #[v, v', .agg us.toArray]) ?_ hd hR
  have hr := sep_load_run h hT hm
  rw [Array.getD_eq_getD_getElem?] at hp hq hq'
  simp [results, hf, hp, hq, hq', asAddr, Sem.run_bind, hr]
end

theorem agg_rbank9 (w : World) : (isAgg 36).run Tryd.prog w = .ok true w := isAgg_struct (show Tryd.prog.underlying 36 = some (.struct (Tryd.prog.fieldsOf 36)) by kernel_rfl) w
theorem ty_rbank : Ty Tryd.prog 36 7 := ⟨agg_rbank9, fun w => sizeOf_run (by kernel_rfl) w⟩
theorem ty_rdisk : Ty Tryd.prog 30 5 := ⟨fun w => isAgg_struct (show Tryd.prog.underlying 30 = some (.struct (Tryd.prog.fieldsOf 30)) by kernel_rfl) w, fun w => sizeOf_run (by kernel_rfl) w⟩
theorem ty_rmap : Ty Tryd.prog 33 1 := ⟨agg_rmap, size_rmap⟩
theorem al_rbank : ∃ zs, (∀ w, (Instr.alloc 36 true (.tuple #[])).run Tryd.prog w = .ok (.pointer (some ⟨w.heap.size, 0, none⟩)) (w.alloc (.cells zs.toArray 36))) ∧ Vals 7 zs :=
  ⟨[Value.slice none 0 0, .slice none 0 0, .bool false, .int .i64 0, .bool false, .slice none 0 0, .int .u32 0], fun w => by kernel_rfl, rfl, by simp [Value.oneCell']⟩
theorem al_rdisk : ∃ zs, (∀ w, (Instr.alloc 30 true (.tuple #[])).run Tryd.prog w = .ok (.pointer (some ⟨w.heap.size, 0, none⟩)) (w.alloc (.cells zs.toArray 30))) ∧ Vals 5 zs :=
  ⟨[Value.slice none 0 0, .slice none 0 0, .bool false, .int .i64 0, .bool false], fun w => by kernel_rfl, rfl, by simp [Value.oneCell']⟩
theorem al_rmap : ∃ zs, (∀ w, (Instr.alloc 33 true (.tuple #[])).run Tryd.prog w = .ok (.pointer (some ⟨w.heap.size, 0, none⟩)) (w.alloc (.cells zs.toArray 33))) ∧ Vals 1 zs :=
  ⟨[Value.slice none 0 0], fun w => by kernel_rfl, rfl, by simp [Value.oneCell']⟩
theorem rf_cells9 {w : World} {G : Nat → Prop} {cs : List Value} {S : DS} (h : Rf w G cs S) : ∃ sa sn sc wa wn wc fu lf of, cs = [Value.slice sa sn sc, .slice wa wn wc, .bool fu, .int .i64 lf, .bool of] := by
  obtain ⟨n, sa, sc, wa, wc, hok, rfl, hs, hw⟩ := h
  exact ⟨_, _, _, _, _, _, _, _, _, rfl⟩
theorem build_rbank9 (sa : Option Addr) (sn sc : Nat) (wa : Option Addr) (wn wc : Nat) (fu : Bool) (lf : Int) (of : Bool) (q n c : Nat) (w : World) : (Instr.build 36 [(0, Value.agg [Value.slice sa sn sc, .slice wa wn wc, .bool fu, .int .i64 lf, .bool of].toArray), (1, .agg #[.slice (some ⟨q, 0, none⟩) n c]), (2, .int .u32 7)].toArray).run Tryd.prog w = .ok (.agg [Value.slice sa sn sc, .slice wa wn wc, .bool fu, .int .i64 lf, .bool of, .slice (some ⟨q, 0, none⟩) n c, .int .u32 7].toArray) w := by kernel_rfl

set_option maxHeartbeats 8000000 in
theorem fresh9_run (n : Nat) (h16 : 16 ≤ n) (h512 : n ≤ 512) (w : World) : Calls Tryd.prog 19 #[.int .i64 (n : Int)] w fun e w' => ∃ k p g bv, e = .returned (.tuple #[.pointer (some ⟨k, 0, none⟩), .pointer (some ⟨p, 0, none⟩), .agg bv]) ∧ (∃ vs, bv = vs.toArray ∧ Vals 7 vs) ∧ BS w w' (fun _ => False) k p g (DS.new n) (lab n 4) 7 := by
  have hnd : ∀ u, Below w.heap.size w u → Calls Tryd.prog 25 #[.int .i64 (n : Int)] u fun e w' => ∃ p b, e = .returned (.tuple #[.pointer (some ⟨p, 0, none⟩), .int .i64 0]) ∧ w.heap.size ≤ b ∧ u.heap.size ≤ b ∧ Dk w' (fun j => b ≤ j) p (DS.new n) ∧ Below u.heap.size u w' := fun u hu => by
    refine (dk_new n u h16 h512).mono ?_
    rintro e w' ⟨p, rfl, hD, hb⟩
    exact ⟨p, _, rfl, hu.size, Nat.le_refl _, hD, hb⟩
  have hnm : ∀ u, Below w.heap.size w u → Calls Tryd.prog 26 #[.int .i64 (n : Int)] u fun e w' => ∃ mg, e = .returned (.tuple #[.pointer (some ⟨mg, 0, none⟩), .int .i64 0]) ∧ w.heap.size ≤ mg ∧ u.heap.size ≤ mg ∧ Mp w' mg (lab n 4) ∧ Below u.heap.size u w' := fun u hu => by
    refine (snew_run n h16 h512 u).mono ?_
    rintro e w' ⟨rfl, hM, hb⟩
    exact ⟨_, rfl, hu.size, Nat.le_refl _, hM, hb⟩
  have hrd := fun u => rnew_run n u h16 h512
  have hrm := fun u => srnew_run n h16 h512 u
  have hov : ∀ (b p g : Nat) (u : World), b ≤ u.heap.size → Calls Tryd.prog 27 #[.pointer (some ⟨p, 0, none⟩), .pointer (some ⟨g, 0, none⟩), .int .u32 7] u fun e w' => ∃ v, e = .returned v ∧ Below u.heap.size u w' ∧ blkT 119 b (bankV p g 7) v w' := fun b p g u hu =>
    (over_run p g 7 u).mono fun e w' hh => ⟨_, hh.1, hh.2.2, _, rfl, hu, hh.2.1⟩
  obtain ⟨zb, hab, hzb⟩ := al_rbank
  obtain ⟨zd, had, hzd⟩ := al_rdisk
  obtain ⟨zm, ham, hzm⟩ := al_rmap
  have HSZ : Hid ((lab n 4).length = (DS.new n).laid.length / 256 ∧ Lab (lab n 4)) := ⟨by rw [lab_len]; unfold DS.new; simp, Lab.lab (by omega)⟩
  obtain ⟨S, hS⟩ : ∃ S, S = DS.new n := ⟨_, rfl⟩
  obtain ⟨ml, hml⟩ : ∃ ml, ml = lab n 4 := ⟨_, rfl⟩
  rw [← hS] at hnd HSZ ⊢
  rw [← hml] at hnm HSZ ⊢
  have hs := PI.start w
  clear hS hml
  go_enter Tryd.func19, Tryd.ntmps19
  go_wp2_with (first
    | (refine sep_alloc hs rfl rfl (by first | exact ⟨hab, hzb⟩ | exact ⟨had, hzd⟩ | exact ⟨ham, hzm⟩) ?_; clear hs; intro w1 g1 hs)
    | (go_at_call 25; go_must (refine (hnd _ hs.below).mono ?_); rintro e w1 ⟨p, b, rfl, hb0, hbu, hD, hb1⟩; obtain ⟨z, hz⟩ : ∃ z, z = w1.heap.size := ⟨_, rfl⟩; replace hs := hs.hold hb1 (F := fun j => b ≤ j ∧ j < z) (R := fun u => Dk u (fun j => b ≤ j ∧ j < z) p S) (fun j hj => ⟨Nat.le_trans hbu hj.1, hz ▸ hj.2⟩) (hD.mono (fun j hj hl => ⟨hj, hz ▸ hl⟩)) (fun u u' hR hk _ => hR.keep hk); clear hb1 hD hz hbu)
    | (go_at_call 26; go_must (refine (hnm _ hs.inv.1.1).mono ?_); rintro e w1 ⟨mg, rfl, hm0, hmu, hM, hb1⟩; have HML := hM.blk.lt; replace hs := hs.hold hb1 (F := fun j => j = mg) (R := fun u => Mp u mg ml) (fun j hj => by rw [hj]; exact ⟨hmu, HML⟩) hM (fun u u' hR hk _ => ⟨by have := hR.blk; unfold Blk at *; rw [hk _ rfl (by have := hR.blk.lt; exact this)]; exact this, hR.lo, hR.hi⟩); clear hb1 hM HML hmu)
    | (go_at_call 28; go_must (refine (hrd _).mono ?_); rintro e w1 ⟨dc, rfl, hrf, hb1⟩; replace hs := hs.stays hb1; obtain ⟨sa, sn, sc, wa, wn, wc, fu, lf, of, rfl⟩ := rf_cells9 hrf; have hdv : Vals 5 [Value.slice sa sn sc, .slice wa wn wc, .bool fu, .int .i64 lf, .bool of] := ⟨rfl, by simp [Value.oneCell']⟩; clear hb1 hrf)
    | (go_at_call 29; go_must (refine (hrm _).mono ?_); rintro e w1 ⟨q, cq, rfl, hT, hq, hb1⟩; replace hs := hs.stays hb1; have hmv : Vals 1 [Value.slice (some ⟨q, 0, none⟩) n cq] := ⟨rfl, by simp [Value.oneCell']⟩; clear hb1 hT hq)
    | (refine sep_storew hs rfl rfl (by rfl) (by rfl) (by repeat (first | exact Upd.head | apply Upd.tail)) (by first | exact ty_rdisk | exact ty_rmap) (by first | exact hdv | exact hmv) ?_; clear hs; intro w1 hs))
  have hbv : Vals 7 [Value.slice sa sn sc, .slice wa wn wc, .bool fu, .int .i64 lf, .bool of, .slice (some ⟨q, 0, none⟩) n cq, .int .u32 7] := ⟨rfl, by simp [Value.oneCell']⟩
  have HBB : Hid _ := build_rbank9 sa sn sc wa wn wc fu lf of q n cq
  clear hnd hnm hrd hrm hab had ham
  refine UpT.wp_region_tail 9 (UpT.tell [(2, blkT 119 w1.heap.size (bankV p mg 7))]) (fun _ => false) (by kernel_rfl) (by kernel_rfl) (UpT.tell_steady _ (by
    intro p hp
    simp only [List.mem_cons, List.not_mem_nil, or_false] at hp
    rcases hp with rfl <;> first | exact isV_steady _ | exact slB_steady _ _ | exact blkT_steady _ _ _)) ?_
  simp only [List.take_succ_cons, List.take_zero]
  iterate 2 (apply UpT.wpUp_pure; (case hw => rfl); (case hψ => rfl); (case hv => (intro wz hp; clear hp; go_simp; try (with_reducible rfl))); simp only [Act.put, List.setIfInBounds_toArray, List.set_cons_zero, List.set_cons_succ])
  refine UpT.wpUp_call _ 27 #[.pointer (some ⟨p, 0, none⟩), .pointer (some ⟨mg, 0, none⟩), .int .u32 7] (by rfl) (by rfl) (by rfl) (fun wz => by go_simp) (fun wz hp => hov _ p mg wz hp.1.size) ?_
  rintro v ⟨u, _, hf⟩
  obtain ⟨k, rfl, hk1, hk2⟩ := hf.of 2 v _ rfl rfl
  clear hf hk1 hk2
  simp only [Act.put, List.setIfInBounds_toArray, List.set_cons_zero, List.set_cons_succ]
  iterate 1 (apply UpT.wpUp_pure; (case hw => rfl); (case hψ => rfl); (case hv => (intro wz hp; clear hp; go_simp; try (with_reducible rfl))); simp only [Act.put, List.setIfInBounds_toArray, List.set_cons_zero, List.set_cons_succ])
  refine UpT.wpUp_pure (.agg [Value.slice sa sn sc, .slice wa wn wc, .bool fu, .int .i64 lf, .bool of].toArray) (by rfl) (by rfl) (fun wz hp => exec_load (by rfl) (by rfl) (hs.ld hp.1 ty_rdisk (by repeat (first | exact List.Mem.head _ | apply List.Mem.tail)))) ?_
  simp only [Act.put, List.setIfInBounds_toArray, List.set_cons_zero, List.set_cons_succ]
  refine UpT.wpUp_pure (.agg [Value.slice (some ⟨q, 0, none⟩) n cq].toArray) (by rfl) (by rfl) (fun wz hp => exec_load (by rfl) (by rfl) (hs.ld hp.1 ty_rmap (by repeat (first | exact List.Mem.head _ | apply List.Mem.tail)))) ?_
  simp only [Act.put, List.setIfInBounds_toArray, List.set_cons_zero, List.set_cons_succ]
  refine UpT.wpUp_pure (.agg [Value.slice sa sn sc, .slice wa wn wc, .bool fu, .int .i64 lf, .bool of, .slice (some ⟨q, 0, none⟩) n cq, .int .u32 7].toArray) (by rfl) (by rfl) (fun wz hp => exec_buildL [(0, .tmp 52), (1, .tmp 53), (2, .const (.int .u32 7))] (by rfl) [(0, .agg [Value.slice sa sn sc, .slice wa wn wc, .bool fu, .int .i64 lf, .bool of].toArray), (1, .agg #[.slice (some ⟨q, 0, none⟩) n cq]), (2, .int .u32 7)] (by rfl) (HBB.out wz)) ?_
  simp only [Act.put, List.setIfInBounds_toArray, List.set_cons_zero, List.set_cons_succ]
  iterate 2 (apply UpT.wpUp_pure; (case hw => rfl); (case hψ => rfl); (case hv => (intro wz hp; clear hp; go_simp; try (with_reducible rfl))); simp only [Act.put, List.setIfInBounds_toArray, List.set_cons_zero, List.set_cons_succ])
  refine UpT.wpUp_end ?_
  intro w2 hb2 hf
  simp only [List.drop_succ_cons, List.drop_zero]
  obtain ⟨k2, he, hk1, hk2⟩ := hf.of 2 _ _ rfl rfl
  obtain rfl : k = k2 := by simpa using he
  have HKL := hk2.lt
  have hk0 : w.heap.size ≤ k := Nat.le_trans (hs.fr.size hs.inv) hk1
  have HF : ∀ j, j = k → w1.heap.size ≤ j ∧ j < w2.heap.size := fun j hj => by rw [hj]; exact ⟨hk1, HKL⟩
  have HR : ∀ u u' : World, Blk 119 u k (bankV p mg 7) → (∀ j, j = k → j < u.heap.size → u'.heap[j]? = u.heap[j]?) → u.heap.size ≤ u'.heap.size → Blk 119 u' k (bankV p mg 7) := fun u u' hR hk _ => by
    have h1 := hR.lt
    unfold Blk at *
    rw [hk _ rfl h1]; exact hR
  replace hs := hs.hold hb2 HF hk2 HR
  clear hf he hk1 hk2 HKL hb2 HF HR
  go_wp2_with (refine sep_storew hs rfl rfl (by rfl) (by rfl) (by repeat (first | exact Upd.head | apply Upd.tail)) ty_rbank hbv ?_; clear hs; intro w1 hs)
  refine sep_ret_ttc hs rfl rfl (by rfl) (by rfl) (by rfl) ty_rbank (by repeat (first | exact List.Mem.head _ | apply List.Mem.tail)) ⟨k, p, mg, _, rfl, ⟨_, rfl, hbv⟩, ?_⟩
  obtain ⟨⟨⟨⟨hb, hlt⟩, hD, hDl, hDn⟩, hM, hMl, hMn⟩, hK, hKl, hKn⟩ := hs.inv
  refine ⟨_, ⟨hD, hM, hK, fun j hj => ⟨Nat.le_trans hb0 hj.1, hDl j hj⟩, fun h1 => hDn _ h1 (.inr rfl), fun h1 => hDn _ h1 (.inl (.inr rfl)), hm0, hk0, HSZ.out.1, HSZ.out.2, by omega⟩, hb, fun j hj => hj.elim⟩

end Go.Proofs.YtcfjkkjjcljaoaaDoor

/-
  tree.both: two nodes beside each other.
-/

namespace Go.Proofs.YtcfjkkjjcljaoaaDoor
set_option linter.unusedSimpArgs false
set_option linter.unusedVariables false
set_option maxRecDepth 100000
open Go.RowKit

section
variable {w0 w : World} {M : Nat → Prop} {k p g : Nat} {S : DS} {l : List Bool} {n kk : Nat}

/-- What both nodes read, where the same pointer is not read. -/
def bothL (q r : Pt) (ns ms : List Pt) : List Pt × List Pt := if q.same r = true then (zeros4, zeros4) else (ns, ms)

set_option maxHeartbeats 8000000 in
theorem both_run9 (h : BS w0 w M k p g S l 7) (hV : Vars w0) (hg : Good n kk S) {q r : Pt} {ns ms : List Pt} (hn : Node S kk q ns) (hm : Node S kk r ms) :
    Calls Tryd.prog 56 #[.pointer (some ⟨k, 0, none⟩), .agg q.vs.toArray, .agg r.vs.toArray] w fun e w' => e = .returned (.tuple #[.agg (fourV (bothL q r ns ms).1).toArray, .agg (fourV (bothL q r ns ms).2).toArray, .int .i64 0]) ∧ Below w.heap.size w w' := by
  have hqo := hn.ok hg.klt
  have hro := hm.ok hg.klt
  have hqv := vals_ptr hqo
  have hrv := vals_ptr hro
  have hn1 := node_later h hV hg hn
  have hn2 := node_later h hV hg hm
  have hnv := vals_four hn.four
  have hmv := vals_four hm.four
  have hzv := vals_four Four.zeros
  have heq : ∀ u, (Op.equalIn 10000 42 (.agg q.vs.toArray) (.agg r.vs.toArray)).run Tryd.prog u = .ok (q.same r) u := fun u => equal_ptr hqo hro 9997 u
  have hs := PI.start w
  have hal := al_four
  unfold bothL
  cases hqr : q.same r
  · rw [hqr] at heq
    simp only [if_neg (show ¬ (false = true) by decide)]
    obtain ⟨vs, hvs⟩ : ∃ vs, vs = q.vs := ⟨_, rfl⟩
    rw [← hvs] at hqv hn1 heq ⊢
    obtain ⟨us, hus⟩ : ∃ us, us = r.vs := ⟨_, rfl⟩
    rw [← hus] at hrv hn2 heq ⊢
    obtain ⟨fn, hfn⟩ : ∃ fn, fn = fourV ns := ⟨_, rfl⟩
    rw [← hfn] at hn1 hnv ⊢
    obtain ⟨fm, hfm⟩ : ∃ fm, fm = fourV ms := ⟨_, rfl⟩
    rw [← hfm] at hn2 hmv ⊢
    obtain ⟨zf, hzf⟩ : ∃ zf, zf = fourV zeros4 := ⟨_, rfl⟩
    rw [← hzf] at hal hzv
    clear hvs hus hfn hfm h hV hg hn hm hqr hqo hro hzf
    go_enter Tryd.func56, Tryd.ntmps56
    go_wp2_with (first
      | (refine sep_box hs rfl rfl (by rfl) hqv ?_; clear hs; intro w1 g1 hs)
      | (refine sep_box hs rfl rfl (by rfl) hrv ?_; clear hs; intro w1 g1 hs)
      | (refine sep_alloc hs rfl rfl hal ?_; clear hs; intro w1 g1 hs)
      | (refine sep_loadw hs rfl rfl (by rfl) (by repeat (first | exact List.Mem.head _ | apply List.Mem.tail)) (by first | exact ty_ptr | exact ty_four) ?_)
      | (refine sep_storew hs rfl rfl (by rfl) (by rfl) (by repeat (first | exact Upd.head | apply Upd.tail)) ty_four (by assumption) ?_; clear hs; intro w1 hs)
      | (go_at_call_of 58 (Value.agg vs.toArray); refine (hn1 _ hs.below).mono ?_; rintro e w1 ⟨rfl, hb1⟩; replace hs := hs.stays hb1; clear hb1)
      | (go_at_call_of 58 (Value.agg us.toArray); refine (hn2 _ hs.below).mono ?_; rintro e w1 ⟨rfl, hb1⟩; replace hs := hs.stays hb1; clear hb1))
    clear hn1 hn2 heq hal hqv hrv
    refine wp_region_any (by kernel_rfl) ?_
    change wpAny _ _ _ _ _ _ _ (World.drew _)
    replace hs := hs.stays (Below.refl _ _).drew
    refine any_take 2 rfl (some 33) rfl (.int .i64 0) (by kernel_rfl) (by kernel_rfl) (by kernel_rfl) (fun _ _ _ h => h) (Or.inl ⟨by rfl, fun w => by go_simp⟩) ?_
    simp only [Act.put, List.setIfInBounds_toArray, List.set_cons_succ, List.set_cons_zero]
    refine sep_any2 0 1 (by kernel_rfl) rfl rfl (fun K hK => sep_step_loadw hs rfl rfl (by rfl) (by repeat (first | exact List.Mem.head _ | apply List.Mem.tail)) ty_four (hK _ _ ?_)) (fun K hK => sep_step_loadw hs rfl rfl (by rfl) (by repeat (first | exact List.Mem.head _ | apply List.Mem.tail)) ty_four (hK _ _ ?_))
    · simp only [Act.put, List.setIfInBounds_toArray, List.set_cons_succ, List.set_cons_zero]
      refine sep_any2 1 3 (by kernel_rfl) rfl rfl (fun K hK => sep_step_loadw hs rfl rfl (by rfl) (by repeat (first | exact List.Mem.head _ | apply List.Mem.tail)) ty_four (hK _ _ ?_)) (fun K hK => sep_step_storew hs rfl rfl (by rfl) (by rfl) (by repeat (first | exact Upd.head | apply Upd.tail)) ty_four (by assumption) (fun w1 hs => hK _ _ ?_))
      · simp only [Act.put, List.setIfInBounds_toArray, List.set_cons_succ, List.set_cons_zero]
        refine sep_any1 3 (by kernel_rfl) rfl (fun K hK => sep_step_storew hs rfl rfl (by rfl) (by rfl) (by repeat (first | exact Upd.head | apply Upd.tail)) ty_four (by assumption) (fun w1 hs => hK _ _ ?_))
        simp only [Act.put, List.setIfInBounds_toArray, List.set_cons_succ, List.set_cons_zero]
        refine any_seq 4 (by rfl) (by kernel_rfl) ?_
        simp only [List.drop_succ_cons, List.drop_zero]
        go_wp2_with (refine sep_storew hs rfl rfl (by rfl) (by rfl) (by repeat (first | exact Upd.head | apply Upd.tail)) ty_four (by assumption) ?_; clear hs; intro w1 hs)
        exact sep_ret_cct hs rfl rfl (by rfl) (by rfl) (by rfl) ty_four (by repeat (first | exact List.Mem.head _ | apply List.Mem.tail)) (by repeat (first | exact List.Mem.head _ | apply List.Mem.tail)) ⟨rfl, hs.below⟩
      · simp only [Act.put, List.setIfInBounds_toArray, List.set_cons_succ, List.set_cons_zero]
        refine sep_any1 1 (by kernel_rfl) rfl (fun K hK => sep_step_loadw hs rfl rfl (by rfl) (by repeat (first | exact List.Mem.head _ | apply List.Mem.tail)) ty_four (hK _ _ ?_))
        simp only [Act.put, List.setIfInBounds_toArray, List.set_cons_succ, List.set_cons_zero]
        refine any_seq 4 (by rfl) (by kernel_rfl) ?_
        simp only [List.drop_succ_cons, List.drop_zero]
        go_wp2_with (refine sep_storew hs rfl rfl (by rfl) (by rfl) (by repeat (first | exact Upd.head | apply Upd.tail)) ty_four (by assumption) ?_; clear hs; intro w1 hs)
        exact sep_ret_cct hs rfl rfl (by rfl) (by rfl) (by rfl) ty_four (by repeat (first | exact List.Mem.head _ | apply List.Mem.tail)) (by repeat (first | exact List.Mem.head _ | apply List.Mem.tail)) ⟨rfl, hs.below⟩
    · simp only [Act.put, List.setIfInBounds_toArray, List.set_cons_succ, List.set_cons_zero]
      refine sep_any1 0 (by kernel_rfl) rfl (fun K hK => sep_step_loadw hs rfl rfl (by rfl) (by repeat (first | exact List.Mem.head _ | apply List.Mem.tail)) ty_four (hK _ _ ?_))
      simp only [Act.put, List.setIfInBounds_toArray, List.set_cons_succ, List.set_cons_zero]
      refine sep_any1 3 (by kernel_rfl) rfl (fun K hK => sep_step_storew hs rfl rfl (by rfl) (by rfl) (by repeat (first | exact Upd.head | apply Upd.tail)) ty_four (by assumption) (fun w1 hs => hK _ _ ?_))
      simp only [Act.put, List.setIfInBounds_toArray, List.set_cons_succ, List.set_cons_zero]
      refine any_seq 4 (by rfl) (by kernel_rfl) ?_
      simp only [List.drop_succ_cons, List.drop_zero]
      go_wp2_with (refine sep_storew hs rfl rfl (by rfl) (by rfl) (by repeat (first | exact Upd.head | apply Upd.tail)) ty_four (by assumption) ?_; clear hs; intro w1 hs)
      exact sep_ret_cct hs rfl rfl (by rfl) (by rfl) (by rfl) ty_four (by repeat (first | exact List.Mem.head _ | apply List.Mem.tail)) (by repeat (first | exact List.Mem.head _ | apply List.Mem.tail)) ⟨rfl, hs.below⟩
  · rw [hqr] at heq
    simp only [if_true]
    obtain ⟨vs, hvs⟩ : ∃ vs, vs = q.vs := ⟨_, rfl⟩
    rw [← hvs] at hqv hn1 heq ⊢
    obtain ⟨us, hus⟩ : ∃ us, us = r.vs := ⟨_, rfl⟩
    rw [← hus] at hrv hn2 heq ⊢
    obtain ⟨zf, hzf⟩ : ∃ zf, zf = fourV zeros4 := ⟨_, rfl⟩
    rw [← hzf] at hal hzv ⊢
    clear hvs hus h hV hg hn hm hqr hqo hro hn1 hn2 hzf
    go_enter Tryd.func56, Tryd.ntmps56
    go_wp2_with (first
      | (refine sep_box hs rfl rfl (by rfl) hqv ?_; clear hs; intro w1 g1 hs)
      | (refine sep_box hs rfl rfl (by rfl) hrv ?_; clear hs; intro w1 g1 hs)
      | (refine sep_alloc hs rfl rfl hal ?_; clear hs; intro w1 g1 hs)
      | (refine sep_loadw hs rfl rfl (by rfl) (by repeat (first | exact List.Mem.head _ | apply List.Mem.tail)) (by first | exact ty_ptr | exact ty_four) ?_)
      | (refine sep_storew hs rfl rfl (by rfl) (by rfl) (by repeat (first | exact Upd.head | apply Upd.tail)) ty_four (by assumption) ?_; clear hs; intro w1 hs))
    clear heq hal hqv hrv hnv hmv
    refine wp_region_any (by kernel_rfl) ?_
    change wpAny _ _ _ _ _ _ _ (World.drew _)
    replace hs := hs.stays (Below.refl _ _).drew
    refine sep_any2 0 1 (by kernel_rfl) rfl rfl (fun K hK => sep_step_loadw hs rfl rfl (by rfl) (by repeat (first | exact List.Mem.head _ | apply List.Mem.tail)) ty_four (hK _ _ ?_)) (fun K hK => sep_step_loadw hs rfl rfl (by rfl) (by repeat (first | exact List.Mem.head _ | apply List.Mem.tail)) ty_four (hK _ _ ?_))
    · simp only [Act.put, List.setIfInBounds_toArray, List.set_cons_succ, List.set_cons_zero]
      refine sep_any2 1 2 (by kernel_rfl) rfl rfl (fun K hK => sep_step_loadw hs rfl rfl (by rfl) (by repeat (first | exact List.Mem.head _ | apply List.Mem.tail)) ty_four (hK _ _ ?_)) (fun K hK => sep_step_storew hs rfl rfl (by rfl) (by rfl) (by repeat (first | exact Upd.head | apply Upd.tail)) ty_four (by assumption) (fun w1 hs => hK _ _ ?_))
      · simp only [Act.put, List.setIfInBounds_toArray, List.set_cons_succ, List.set_cons_zero]
        refine sep_any1 2 (by kernel_rfl) rfl (fun K hK => sep_step_storew hs rfl rfl (by rfl) (by rfl) (by repeat (first | exact Upd.head | apply Upd.tail)) ty_four (by assumption) (fun w1 hs => hK _ _ ?_))
        simp only [Act.put, List.setIfInBounds_toArray, List.set_cons_succ, List.set_cons_zero]
        refine any_seq 3 (by rfl) (by kernel_rfl) ?_
        simp only [List.drop_succ_cons, List.drop_zero]
        go_wp2_with (refine sep_storew hs rfl rfl (by rfl) (by rfl) (by repeat (first | exact Upd.head | apply Upd.tail)) ty_four (by assumption) ?_; clear hs; intro w1 hs)
        exact sep_ret_cct hs rfl rfl (by rfl) (by rfl) (by rfl) ty_four (by repeat (first | exact List.Mem.head _ | apply List.Mem.tail)) (by repeat (first | exact List.Mem.head _ | apply List.Mem.tail)) ⟨rfl, hs.below⟩
      · simp only [Act.put, List.setIfInBounds_toArray, List.set_cons_succ, List.set_cons_zero]
        refine sep_any1 1 (by kernel_rfl) rfl (fun K hK => sep_step_loadw hs rfl rfl (by rfl) (by repeat (first | exact List.Mem.head _ | apply List.Mem.tail)) ty_four (hK _ _ ?_))
        simp only [Act.put, List.setIfInBounds_toArray, List.set_cons_succ, List.set_cons_zero]
        refine any_seq 3 (by rfl) (by kernel_rfl) ?_
        simp only [List.drop_succ_cons, List.drop_zero]
        go_wp2_with (refine sep_storew hs rfl rfl (by rfl) (by rfl) (by repeat (first | exact Upd.head | apply Upd.tail)) ty_four (by assumption) ?_; clear hs; intro w1 hs)
        exact sep_ret_cct hs rfl rfl (by rfl) (by rfl) (by rfl) ty_four (by repeat (first | exact List.Mem.head _ | apply List.Mem.tail)) (by repeat (first | exact List.Mem.head _ | apply List.Mem.tail)) ⟨rfl, hs.below⟩
    · simp only [Act.put, List.setIfInBounds_toArray, List.set_cons_succ, List.set_cons_zero]
      refine sep_any1 0 (by kernel_rfl) rfl (fun K hK => sep_step_loadw hs rfl rfl (by rfl) (by repeat (first | exact List.Mem.head _ | apply List.Mem.tail)) ty_four (hK _ _ ?_))
      simp only [Act.put, List.setIfInBounds_toArray, List.set_cons_succ, List.set_cons_zero]
      refine sep_any1 2 (by kernel_rfl) rfl (fun K hK => sep_step_storew hs rfl rfl (by rfl) (by rfl) (by repeat (first | exact Upd.head | apply Upd.tail)) ty_four (by assumption) (fun w1 hs => hK _ _ ?_))
      simp only [Act.put, List.setIfInBounds_toArray, List.set_cons_succ, List.set_cons_zero]
      refine any_seq 3 (by rfl) (by kernel_rfl) ?_
      simp only [List.drop_succ_cons, List.drop_zero]
      go_wp2_with (refine sep_storew hs rfl rfl (by rfl) (by rfl) (by repeat (first | exact Upd.head | apply Upd.tail)) ty_four (by assumption) ?_; clear hs; intro w1 hs)
      exact sep_ret_cct hs rfl rfl (by rfl) (by rfl) (by rfl) ty_four (by repeat (first | exact List.Mem.head _ | apply List.Mem.tail)) (by repeat (first | exact List.Mem.head _ | apply List.Mem.tail)) ⟨rfl, hs.below⟩
end

end Go.Proofs.YtcfjkkjjcljaoaaDoor
