/-
 What a function holds of memory, as one list: blocks of its own, and slices that were made for it; each operation's law turns the list.
-/
import Derived.Test.YthbldjnpnligpaaDoorB34
import Derived.Test.YthbldjnpnligpaaDoorB07
import Derived.Test.YthbldjnpnligpaaDoorB14
namespace Go.Proofs.YthbldjnpnligpaaDoor
set_option linter.unusedSimpArgs false
set_option linter.unusedVariables false
set_option maxRecDepth 100000
open Go.RowKit
structure Frame (B : Nat) (I : (Nat → Prop) → World → Prop) : Prop where
 size : ∀ {M w}, I M w → B ≤ w.heap.size
 new : ∀ {M N w w'}, I M w → Below w.heap.size w w' → (∀ j, N j → M j ∨ (w.heap.size ≤ j ∧ j < w'.heap.size)) → I N w'
 set : ∀ {M w w'} {m : Nat}, I M w → But m w w' → M m → B ≤ m → I M w'
 grown : ∀ {M N w w'} {row : Option Nat}, I M w → w.grownBy w' row → (∀ j, row = some j → M j ∧ B ≤ j) → (∀ j, N j → M j ∨ (w.heap.size ≤ j ∧ j < w'.heap.size)) → I N w'
structure Ent where
 g : Nat
 t : TypeId
 n : Nat
 vs : List Value
structure Sli where
 a : Option Addr
 c : Nat
 xs : List Int
def Vals (n : Nat) (vs : List Value) : Prop := vs.length = n ∧ ∀ v ∈ vs, v.oneCell' = true
def mine (L : List Ent) (T : List Sli) (j : Nat) : Prop := (∃ e ∈ L, e.g = j) ∨ ∃ s ∈ T, ∃ x, s.a = some x ∧ x.block = j
structure Sep (B : Nat) (I : (Nat → Prop) → World → Prop) (w : World) (L : List Ent) (T : List Sli) : Prop where
 fr : Frame B I
 inv : I (mine L T) w
 blk : ∀ e ∈ L, Blk e.t w e.g e.vs ∧ B ≤ e.g ∧ Vals e.n e.vs
 nd : (L.map Ent.g).Nodup
 sl : ∀ s ∈ T, Bs w s.a s.c s.xs ∧ ∀ x, s.a = some x → B ≤ x.block ∧ x.block < w.heap.size ∧ ∀ e ∈ L, e.g ≠ x.block
def Upd (L : List Ent) (g : Nat) (t : TypeId) (n : Nat) (vs us : List Value) (L' : List Ent) : Prop := ∃ P R, L = P ++ ⟨g, t, n, vs⟩ :: R ∧ L' = P ++ ⟨g, t, n, us⟩ :: R
theorem Upd.head {L : List Ent} {g n : Nat} {t : TypeId} {vs us : List Value} : Upd (⟨g, t, n, vs⟩ :: L) g t n vs us (⟨g, t, n, us⟩ :: L) := ⟨[], L, rfl, rfl⟩
theorem Upd.tail {L L' : List Ent} {e : Ent} {g n : Nat} {t : TypeId} {vs us : List Value} (h : Upd L g t n vs us L') : Upd (e :: L) g t n vs us (e :: L') := by
 obtain ⟨P, R, rfl, rfl⟩ := h
 exact ⟨e :: P, R, rfl, rfl⟩
def Ty (P : Program) (t : TypeId) (n : Nat) : Prop := (∀ w, (isAgg t).run P w = .ok true w) ∧ ∀ w, (sizeOf t).run P w = .ok n w
def Ty1 (P : Program) (t : TypeId) : Prop := (∀ w, (isAgg t).run P w = .ok false w) ∧ ∀ w, (sizeOf t).run P w = .ok 1 w
section
variable {B : Nat} {I : (Nat → Prop) → World → Prop} {w w' : World} {L L' : List Ent} {T : List Sli}
theorem Sep.stays (h : Sep B I w L T) (hb : Below w.heap.size w w') : Sep B I w' L T :=
 ⟨h.fr, h.fr.new h.inv hb (fun j hj => .inl hj), fun e he => ⟨(h.blk e he).1.stays hb, (h.blk e he).2⟩, h.nd,
  fun s hs => ⟨(h.sl s hs).1.stays hb, fun x hx => ⟨((h.sl s hs).2 x hx).1, Nat.lt_of_lt_of_le ((h.sl s hs).2 x hx).2.1 hb.size, ((h.sl s hs).2 x hx).2.2⟩⟩⟩
theorem Sep.add (h : Sep B I w L T) {t : TypeId} {n : Nat} {vs : List Value} (hb : Below w.heap.size w w') (hB : Blk t w' w.heap.size vs) (hv : Vals n vs) : Sep B I w' (⟨w.heap.size, t, n, vs⟩ :: L) T := by
 have hs := h.stays hb
 refine ⟨h.fr, h.fr.new h.inv hb (fun j hj => ?_), fun e he => ?_, ?_, fun s hs' => ⟨(hs.sl s hs').1, fun x hx => ⟨((hs.sl s hs').2 x hx).1, ((hs.sl s hs').2 x hx).2.1, fun e he => ?_⟩⟩⟩
 · rcases hj with ⟨e, he, rfl⟩ | hj
   · rcases List.mem_cons.1 he with rfl | he
     · exact .inr ⟨Nat.le_refl _, hB.lt⟩
     · exact .inl (.inl ⟨e, he, rfl⟩)
   · exact .inl (.inr hj)
 · rcases List.mem_cons.1 he with rfl | he
   · exact ⟨hB, h.fr.size h.inv, hv⟩
   · exact hs.blk e he
 · rw [List.map_cons, List.nodup_cons]
   refine ⟨fun hm => ?_, h.nd⟩
   obtain ⟨e, he, h1⟩ := List.mem_map.1 hm
   have := (h.blk e he).1.lt
   simp only at h1
   omega
 · rcases List.mem_cons.1 he with rfl | he
   · have := ((h.sl s hs').2 x hx).2.1
     show w.heap.size ≠ _
     omega
   · exact ((hs.sl s hs').2 x hx).2.2 e he
theorem Sep.slice (h : Sep B I w L T) {a : Option Addr} {c : Nat} {xs : List Int} (hb : Below w.heap.size w w') (hB : Bs w' a c xs) (hn : ∀ x, a = some x → w.heap.size ≤ x.block) (hne : xs ≠ []) : Sep B I w' L (⟨a, c, xs⟩ :: T) := by
 have hs := h.stays hb
 refine ⟨h.fr, h.fr.new h.inv hb (fun j hj => ?_), hs.blk, h.nd, fun s hs' => ?_⟩
 · rcases hj with hj | ⟨s, hs', x, hx, rfl⟩
   · exact .inl (.inl hj)
   · rcases List.mem_cons.1 hs' with rfl | hs'
     · exact .inr ⟨hn x hx, hB.lt hne hx⟩
     · exact .inl (.inr ⟨s, hs', x, hx, rfl⟩)
 · rcases List.mem_cons.1 hs' with rfl | hs'
   · exact ⟨hB, fun x hx => ⟨Nat.le_trans (h.fr.size h.inv) (hn x hx), hB.lt hne hx, fun e he => by have := (h.blk e he).1.lt; have := hn x hx; omega⟩⟩
   · exact hs.sl s hs'
theorem Sep.upd (h : Sep B I w L T) {g n : Nat} {t : TypeId} {vs us : List Value} (hu : Upd L g t n vs us L') (hb : But g w w') (hB : Blk t w' g us) (hv : Vals n us) : Sep B I w' L' T := by
 obtain ⟨P, R, rfl, rfl⟩ := hu
 have hnd := h.nd
 rw [List.map_append, List.map_cons, List.nodup_append] at hnd
 obtain ⟨n1, n2, n3⟩ := hnd
 rw [List.nodup_cons] at n2
 have hme : mine (P ++ ⟨g, t, n, us⟩ :: R) T = mine (P ++ ⟨g, t, n, vs⟩ :: R) T := by
  funext j
  refine propext ⟨fun hj => ?_, fun hj => ?_⟩ <;> refine hj.imp (fun ⟨e, he, h1⟩ => ?_) id
  · rcases List.mem_append.1 he with h2 | h2
    · exact ⟨e, by simp [h2], h1⟩
    · rcases List.mem_cons.1 h2 with rfl | h2
      · exact ⟨⟨g, t, n, vs⟩, by simp, h1⟩
      · exact ⟨e, by simp [h2], h1⟩
  · rcases List.mem_append.1 he with h2 | h2
    · exact ⟨e, by simp [h2], h1⟩
    · rcases List.mem_cons.1 h2 with rfl | h2
      · exact ⟨⟨g, t, n, us⟩, by simp, h1⟩
      · exact ⟨e, by simp [h2], h1⟩
 have hg : (⟨g, t, n, vs⟩ : Ent) ∈ P ++ ⟨g, t, n, vs⟩ :: R := by simp
 have hother : ∀ e, e ∈ P ∨ e ∈ R → e.g ≠ g := fun e he hE => by
  rcases he with he | he
  · exact n3 e.g (List.mem_map.2 ⟨e, he, rfl⟩) g (by simp) hE
  · exact n2.1 (by rw [← hE]; exact List.mem_map.2 ⟨e, he, rfl⟩)
 refine ⟨h.fr, by rw [hme]; exact h.fr.set h.inv hb (.inl ⟨_, hg, rfl⟩) (h.blk _ hg).2.1, fun e he => ?_, ?_, fun s hs => ?_⟩
 · rcases List.mem_append.1 he with h1 | h1
   · exact ⟨(h.blk e (by simp [h1])).1.but hb (hother e (.inl h1)), (h.blk e (by simp [h1])).2⟩
   · rcases List.mem_cons.1 h1 with rfl | h1
     · exact ⟨hB, (h.blk _ hg).2.1, hv⟩
     · exact ⟨(h.blk e (by simp [h1])).1.but hb (hother e (.inr h1)), (h.blk e (by simp [h1])).2⟩
 · have := h.nd
   simpa using this
 · obtain ⟨q1, q2⟩ := h.sl s hs
   refine ⟨q1.but hb (fun _ x hx => ((q2 x hx).2.2 _ hg).symm), fun x hx => ⟨(q2 x hx).1, Nat.lt_of_lt_of_le (q2 x hx).2.1 hb.size, fun e he => ?_⟩⟩
   rcases List.mem_append.1 he with h1 | h1
   · exact (q2 x hx).2.2 e (by simp [h1])
   · rcases List.mem_cons.1 h1 with rfl | h1
     · exact (q2 x hx).2.2 ⟨g, t, n, vs⟩ hg
     · exact (q2 x hx).2.2 e (by simp [h1])
theorem Sep.bs (h : Sep B I w L T) {a : Option Addr} {c : Nat} {xs : List Int} (hm : (⟨a, c, xs⟩ : Sli) ∈ T) : Bs w a c xs := (h.sl _ hm).1
theorem Sep.vals (h : Sep B I w L T) {g n : Nat} {t : TypeId} {vs : List Value} (hm : (⟨g, t, n, vs⟩ : Ent) ∈ L) : Vals n vs := (h.blk _ hm).2.2
variable {P : Program} {ops : Array Oper} {rest : List Oper} {o : Oper} {a : Act} {Q : Exit → Act → World → Prop} {g off n : Nat} {t e : TypeId} {vs us ws : List Value} {v : Value} {x y : Operand}
theorem sep_alloc (h : Sep B I w L T) (hgd : o.guard = none) (ho : o.op = Op.alloc t) (hr : (∀ w, (Instr.alloc t true (.tuple #[])).run P w = .ok (.pointer (some ⟨w.heap.size, 0, none⟩)) (w.alloc (.cells vs.toArray t))) ∧ Vals n vs)
 (hk : ∀ w' g, Sep B I w' (⟨g, t, n, vs⟩ :: L) T → wpList P ops Q rest (a.put o.dst (.pointer (some ⟨g, 0, none⟩))) w') : wpList P ops Q (o :: rest) a w :=
 wpList_alloc0 hgd t ho o.dst rfl vs hr.1 fun w' hB hb _ => hk w' _ (h.add hb hB hr.2)
theorem sep_box (h : Sep B I w L T) (hgd : o.guard = none) (ho : o.op = Op.box t x) (hx : a.eval x = .agg vs.toArray) (hv : Vals n vs)
 (hk : ∀ w' g, Sep B I w' (⟨g, t, n, vs⟩ :: L) T → wpList P ops Q rest (a.put o.dst (.pointer (some ⟨g, 0, none⟩))) w') : wpList P ops Q (o :: rest) a w :=
 wpList_box0 hgd t x ho vs hx fun w' hB hb _ => hk w' _ (h.add hb hB hv)
theorem sep_load (h : Sep B I w L T) (hgd : o.guard = none) (ho : o.op = Op.load t x) (hx : a.eval x = .pointer (some ⟨g, off, none⟩)) {m : Nat} (hm : (⟨g, e, m, vs⟩ : Ent) ∈ L) (hT : Ty P t n) (hu : us = (vs.drop off).take n) (hl : us.length = n)
 (hk : wpList P ops Q rest (a.put o.dst (.agg us.toArray)) w) : wpList P ops Q (o :: rest) a w :=
 wpList_load_blk hgd x t ho g off n hx hT.1 hT.2 (h.blk _ hm).1 us hu hl hk
theorem sep_loadw (h : Sep B I w L T) (hgd : o.guard = none) (ho : o.op = Op.load t x) (hx : a.eval x = .pointer (some ⟨g, 0, none⟩)) (hm : (⟨g, e, n, vs⟩ : Ent) ∈ L) (hT : Ty P t n)
 (hk : wpList P ops Q rest (a.put o.dst (.agg vs.toArray)) w) : wpList P ops Q (o :: rest) a w :=
 sep_load h hgd ho hx hm hT (whole_load (h.vals hm).1) (h.vals hm).1 hk
theorem sep_load1 (h : Sep B I w L T) (hgd : o.guard = none) (ho : o.op = Op.load t x) (hx : a.eval x = .pointer (some ⟨g, off, none⟩)) {m : Nat} (hm : (⟨g, e, m, vs⟩ : Ent) ∈ L) (hT : Ty1 P t) (hv : vs[off]? = some v)
 (hk : wpList P ops Q rest (a.put o.dst v) w) : wpList P ops Q (o :: rest) a w := by
 refine wpList_plain hgd fun K hK => ?_
 have hc := (h.blk _ hm).1.cell off
 simp only [hv] at hc
 have hr : (Instr.loadAt t (.pointer (some ⟨g, off, none⟩))).run P w = .ok v w := by
  simp [Instr.loadAt, Instr.sureAddr, loadVar, hT.1, Sem.run_bind, hc]
 unfold Oper.wp execOp
 simp only [ho, hx, Sem.run_bind, Sem.run_pure, Result.andThen_ok, hr]
 exact hK _ _ hk
theorem sep_store (h : Sep B I w L T) (hgd : o.guard = none) (ho : o.op = Op.store t x y) (hx : a.eval x = .pointer (some ⟨g, off, none⟩)) (hy : a.eval y = .agg us.toArray) {m : Nat} (hup : Upd L g e m vs ws L') (hT : Ty P t n) (hv : Vals n us)
 (hw : ws = vs.take off ++ us ++ vs.drop (off + n)) (hle : off + n ≤ m) (hk : ∀ w', Sep B I w' L' T → wpList P ops Q rest (a.put o.dst undef) w') : wpList P ops Q (o :: rest) a w := by
 obtain ⟨P', R', hL, _⟩ := id hup
 have hm : (⟨g, e, m, vs⟩ : Ent) ∈ L := by rw [hL]; simp
 obtain ⟨hB, _, hvl, hv1⟩ := h.blk _ hm
 simp only at hB hvl hv1
 refine wpList_store_blk hgd x y t ho g off n hx us hy hT.2 hB hv.1 (by omega) hv.2 ws hw fun w' hB' hb _ => hk w' (h.upd hup hb hB' ⟨?_, fun u hu => ?_⟩)
 · rw [hw]; simp [hv.1, hvl]; omega
 · rw [hw] at hu
   rcases List.mem_append.1 hu with h1 | h1
   · rcases List.mem_append.1 h1 with h1 | h1
     · exact hv1 u (List.mem_of_mem_take h1)
     · exact hv.2 u h1
   · exact hv1 u (List.mem_of_mem_drop h1)
theorem sep_storew (h : Sep B I w L T) (hgd : o.guard = none) (ho : o.op = Op.store t x y) (hx : a.eval x = .pointer (some ⟨g, 0, none⟩)) (hy : a.eval y = .agg us.toArray) (hup : Upd L g e n vs us L') (hT : Ty P t n) (hv : Vals n us)
 (hk : ∀ w', Sep B I w' L' T → wpList P ops Q rest (a.put o.dst undef) w') : wpList P ops Q (o :: rest) a w := by
 obtain ⟨P', R', hL, _⟩ := id hup
 have hm : (⟨g, e, n, vs⟩ : Ent) ∈ L := by rw [hL]; simp
 have hvl := (h.blk _ hm).2.2.1
 simp only at hvl
 exact sep_store h hgd ho hx hy hup hT hv (by rw [Nat.zero_add, ← hvl]; simp) (by omega) hk
theorem sep_store1 (h : Sep B I w L T) (hgd : o.guard = none) (ho : o.op = Op.store t x y) (hx : a.eval x = .pointer (some ⟨g, off, none⟩)) (hy : a.eval y = v) (hc : v.cells = #[v]) (h1 : v.oneCell' = true) {m : Nat} (hup : Upd L g e m vs ws L') (hT : ∀ w, (sizeOf t).run P w = .ok 1 w)
 (hw : ws = vs.set off v) (hle : off < m) (hk : ∀ w', Sep B I w' L' T → wpList P ops Q rest (a.put o.dst undef) w') : wpList P ops Q (o :: rest) a w := by
 obtain ⟨P', R', hL, _⟩ := id hup
 have hm : (⟨g, e, m, vs⟩ : Ent) ∈ L := by rw [hL]; simp
 obtain ⟨hB, _, hvl, hv1⟩ := h.blk _ hm
 simp only at hB hvl hv1
 refine wpList_store_one hgd x y t ho g off hx v hy hc h1 hT hB (by omega) fun w' hB' hb _ => hk w' (h.upd hup hb (by rw [hw]; exact hB') ⟨by rw [hw]; simp [hvl], fun u hu => ?_⟩)
 rw [hw] at hu
 rcases List.mem_or_eq_of_mem_set hu with h2 | h2
 · exact hv1 u h2
 · rw [h2]; exact h1
variable {fn : Func} {R : Ending → World → Prop} {p q r : Tmp}
theorem sep_load_run (h : Sep B I w L T) (hT : Ty P t n) (hm : (⟨g, e, n, us⟩ : Ent) ∈ L) : (loadVar t ⟨g, 0, none⟩).run P w = .ok (.agg us.toArray) w := by
 have hr := run_load_blk (P := P) (w := w) (off := 0) hT.1 hT.2 (h.blk _ hm).1 (us := us) (by rw [List.drop_zero, List.take_of_length_le (by have := (h.vals hm).1; simp only; omega)]) (h.vals hm).1
 simpa only [Instr.loadAt, Instr.sureAddr, Sem.run_bind, Sem.run_pure, Result.andThen_ok] using hr
theorem sep_ret3 (h : Sep B I w L T) {v' : Value} (hf : fn.results = #[.cell p t, .tmp q, .tmp r]) (hd : a.defers = []) (hp : a.tmps.getD p undef = .pointer (some ⟨g, 0, none⟩)) (hq : a.tmps.getD q undef = v) (hq' : a.tmps.getD r undef = v') (hT : Ty P t n) (hm : (⟨g, e, n, us⟩ : Ent) ∈ L)
 (hR : R (.returned (.tuple #[.agg us.toArray, v, v'])) w) : bodyPost P fn R .ret a w := by
 refine bodyPost_ret_by (v := .tuple #[.agg us.toArray, v, v']) ?_ hd hR
 have hr := sep_load_run h hT hm
 rw [Array.getD_eq_getD_getElem?] at hp hq hq'
 simp [results, hf, hp, hq, hq', asAddr, Sem.run_bind, hr]
end
def PI (ws : World) (N : Nat → Prop) (w : World) : Prop := Below ws.heap.size ws w ∧ ∀ j, N j → j < w.heap.size
theorem PI.frame (ws : World) : Frame ws.heap.size (PI ws) where
 size h := h.1.size
 new h hb hN := ⟨below_then h.1 hb, fun j hj => by rcases hN j hj with h1 | h1; exact Nat.lt_of_lt_of_le (h.2 j h1) hb.size; exact h1.2⟩
 set h hb hm hB := ⟨h.1.trans (hb.below hB h.1.size), fun j hj => Nat.lt_of_lt_of_le (h.2 j hj) hb.size⟩
 grown h hg hM hN := ⟨h.1.grown hg h.1.size (fun j hj => (hM j hj).2), fun j hj => by rcases hN j hj with h1 | h1; exact Nat.lt_of_lt_of_le (h.2 j h1) hg.size; exact h1.2⟩
theorem PI.start (ws : World) : Sep ws.heap.size (PI ws) ws [] [] := ⟨PI.frame ws, ⟨Below.refl _ _, fun j hj => by rcases hj with ⟨e, he, _⟩ | ⟨e, he, _⟩ <;> simp at he⟩, fun e he => by simp at he, by simp, fun s hs => by simp at hs⟩
theorem Sep.below {B : Nat} {ws w : World} {L : List Ent} {T : List Sli} (h : Sep B (PI ws) w L T) : Below ws.heap.size ws w := h.inv.1
def BI (w0 : World) (M : Nat → Prop) (ws : World) (k p g : Nat) (S : DS) (l : List Bool) (t : Nat) (N : Nat → Prop) (w : World) : Prop := BS w0 w (fun j => M j ∨ N j) k p g S l t ∧ Stay M ws w ∧ w0.heap.size ≤ ws.heap.size ∧ ∀ j, M j → j < ws.heap.size
section
variable {w0 ws w w' : World} {M : Nat → Prop} {k p g : Nat} {S S' : DS} {l l' : List Bool} {t : Nat} {B : Nat} {L : List Ent} {T : List Sli}
theorem BI.frame : Frame ws.heap.size (BI w0 M ws k p g S l t) where
 size h := h.2.1.size
 new h hb hN := ⟨h.1.new hb (fun j hj => by rcases hj with hj | hj; exact .inl (.inl hj); exact (hN j hj).imp .inr id), h.2.1.trans (Stay.of_below hb), h.2.2⟩
 set {_ _ _} {m} h hb hm hB := ⟨h.1.set hb (.inr hm) (Nat.le_trans h.2.2.1 hB), ⟨Nat.le_trans h.2.1.size hb.size, fun j hj hl => (hb.block j (by omega) (Nat.lt_of_lt_of_le hl h.2.1.size)).trans (h.2.1.block j hj hl)⟩, h.2.2⟩
 grown {_ _ _ _} row h hg hM hN := ⟨h.1.grown hg (fun j hj => ⟨.inr (hM j hj).1, Nat.le_trans h.2.2.1 (hM j hj).2⟩) (fun j hj => by rcases hj with hj | hj; exact .inl (.inl hj); exact (hN j hj).imp .inr id), ⟨Nat.le_trans h.2.1.size hg.size, fun j hj hl => (hg.block j (Nat.lt_of_lt_of_le hl h.2.1.size) (fun e => by have := (hM j e.symm).2; omega)).trans (h.2.1.block j hj hl)⟩, h.2.2⟩
theorem BI.start (h : BS w0 ws M k p g S l t) : Sep ws.heap.size (BI w0 M ws k p g S l t) ws [] [] :=
 ⟨BI.frame, ⟨h.less (fun j hj => by rcases hj with hj | ⟨e, he, _⟩ | ⟨e, he, _⟩; exact hj; simp at he; simp at he), ⟨Nat.le_refl _, fun _ _ _ => rfl⟩, h.bel.size, fun j hj => h.lt hj⟩, fun e he => by simp at he, by simp, fun s hs => by simp at hs⟩
theorem Sep.bank (h : Sep B (BI w0 M ws k p g S l t) w L T) : BS w0 w (fun j => M j ∨ mine L T j) k p g S l t := h.inv.1
theorem Sep.stay (h : Sep B (BI w0 M ws k p g S l t) w L T) : Stay M ws w := h.inv.2.1
theorem Sep.done (h : Sep B (BI w0 M ws k p g S l t) w L T) : BS w0 w M k p g S l t ∧ Stay M ws w := ⟨h.inv.1.less fun j hj => .inl hj, h.inv.2.1⟩
theorem Sep.turn (h : Sep ws.heap.size (BI w0 M ws k p g S l t) w L T) (h1 : BS w0 w' (fun j => M j ∨ mine L T j) k p g S' l' t) (h2 : Stay (fun j => M j ∨ mine L T j) w w') : Sep ws.heap.size (BI w0 M ws k p g S' l' t) w' L T := by
 have hst : Stay M ws w' := h.inv.2.1.trans ⟨h2.size, fun j hj hl => h2.block j (.inl hj) hl⟩
 refine ⟨BI.frame, ⟨h1, hst, h.inv.2.2⟩, fun e he => ⟨h2.blk (h.blk e he).1 (.inr (.inl ⟨e, he, rfl⟩)), (h.blk e he).2⟩, h.nd, fun s hs => ⟨h2.bs (h.sl s hs).1 (fun x hx => .inr (.inr ⟨s, hs, x, hx, rfl⟩)), fun x hx => ⟨((h.sl s hs).2 x hx).1, Nat.lt_of_lt_of_le ((h.sl s hs).2 x hx).2.1 h2.size, ((h.sl s hs).2 x hx).2.2⟩⟩⟩
end
end Go.Proofs.YthbldjnpnligpaaDoor

/-
 A list that grows, held beside: a slice that append makes longer.
-/

namespace Go.Proofs.YthbldjnpnligpaaDoor
set_option linter.unusedSimpArgs false
set_option linter.unusedVariables false
set_option maxRecDepth 100000
open Go.RowKit
structure Rw where
 v : Value
 t : TypeId
 sz : Nat
 n : Nat
 xs : List Value
def Rw.holds (r : Rw) (B : Nat) (w : World) : Prop := w.ownsRow B r.t r.sz r.v r.n r.xs
def Rw.own (r : Rw) (j : Nat) : Prop := r.v.ownBlock = some j
def Row1 (B : Nat) (I : (Nat → Prop) → World → Prop) (r : Rw) (N : Nat → Prop) (w : World) : Prop := I (fun j => N j ∨ r.own j) w ∧ r.holds B w ∧ ∀ j, r.own j → ¬ N j
section
variable {B : Nat} {I : (Nat → Prop) → World → Prop} {w w' : World} {L : List Ent} {T : List Sli} {r : Rw}
theorem Rw.holds.lt (h : r.holds B w) {j : Nat} (hj : r.own j) : B ≤ j ∧ j < w.heap.size := World.ownsRow.lt h j hj
theorem Rw.holds.keep (h : r.holds B w) (hk : ∀ j, r.own j → w'.heap[j]? = w.heap[j]?) : r.holds B w' := by
 obtain ⟨v, t, sz, n, xs⟩ := r
 obtain ⟨h1, h2⟩ := h
 refine ⟨h1, ?_⟩
 rcases h2 with h2 | ⟨g, cap, cur, h3, hb, hh, rest⟩
 · exact .inl h2
 · simp only at h3
   subst h3
   exact .inr ⟨g, cap, cur, rfl, hb, by rw [hk g rfl]; exact hh, rest⟩
theorem Rw.holds.form (h : r.holds B w) : ∃ a c, r.v = .slice a r.n c := by
 rcases h.2 with ⟨h1, h0⟩ | ⟨g, cap, cur, h1, _⟩
 · exact ⟨none, 0, by rw [h1, h0]⟩
 · exact ⟨_, _, h1⟩
theorem Row1.frame (hF : Frame B I) : Frame B (Row1 B I r) where
 size h := hF.size h.1
 new h hb hN := ⟨hF.new h.1 hb (fun j hj => by rcases hj with hj | hj; exact (hN j hj).imp .inl id; exact .inl (.inr hj)), h.2.1.keep fun j hj => hb.block j (h.2.1.lt hj).2, fun j hj hn => by
  rcases hN j hn with h1 | h1
  · exact h.2.2 j hj h1
  · have := (h.2.1.lt hj).2; omega⟩
 set {_ w w'} {m} h hb hm hB := ⟨hF.set h.1 hb (.inl hm) hB, h.2.1.keep fun j hj => hb.block j (fun e => h.2.2 j hj (e ▸ hm)) (h.2.1.lt hj).2, h.2.2⟩
 grown {_ _ w w'} row h hg hM hN := ⟨hF.grown h.1 hg (fun j hj => ⟨.inl (hM j hj).1, (hM j hj).2⟩) (fun j hj => by rcases hj with hj | hj; exact (hN j hj).imp .inl id; exact .inl (.inr hj)),
  h.2.1.keep fun j hj => hg.block j (h.2.1.lt hj).2 (fun e => h.2.2 j hj (hM j e.symm).1), fun j hj hn => by
  rcases hN j hn with h1 | h1
  · exact h.2.2 j hj h1
  · have := (h.2.1.lt hj).2; omega⟩
theorem Sep.nil (h : Sep B I w L T) (t : TypeId) (sz : Nat) : Sep B (Row1 B I ⟨.slice none 0 0, t, sz, 0, []⟩) w L T := by
 have hno : ∀ j, ¬ (⟨.slice none 0 0, t, sz, 0, []⟩ : Rw).own j := fun j hj => by simp [Rw.own, Value.ownBlock] at hj
 have he : (fun j => mine L T j ∨ (⟨.slice none 0 0, t, sz, 0, []⟩ : Rw).own j) = mine L T := funext fun j => propext ⟨fun hj => hj.elim id (fun h1 => absurd h1 (hno j)), .inl⟩
 exact ⟨Row1.frame h.fr, ⟨by rw [he]; exact h.inv, ⟨by simp, .inl ⟨rfl, rfl⟩⟩, fun j hj => absurd hj (hno j)⟩, h.blk, h.nd, h.sl⟩
theorem Sep.drop {e : Ent} (h : Sep B I w (e :: L) T) : Sep B I w L T :=
 ⟨h.fr, h.fr.new h.inv (Below.refl _ _) (fun j hj => .inl (by rcases hj with ⟨x, hx, h1⟩ | hj; exact .inl ⟨x, List.mem_cons_of_mem _ hx, h1⟩; exact .inr hj)), fun x hx => h.blk x (List.mem_cons_of_mem _ hx), by
  have := h.nd; rw [List.map_cons, List.nodup_cons] at this; exact this.2, fun s hs => ⟨(h.sl s hs).1, fun x hx => ⟨((h.sl s hs).2 x hx).1, ((h.sl s hs).2 x hx).2.1, fun e' he' => ((h.sl s hs).2 x hx).2.2 e' (List.mem_cons_of_mem _ he')⟩⟩⟩
theorem Sep.made {g n : Nat} {t : TypeId} {vs : List Value} (h : Sep B I w (⟨g, t, n, vs⟩ :: L) T) : Sep B (Row1 B I ⟨.slice (some ⟨g, 0, none⟩) 1 1, t, n, 1, vs⟩) w L T := by
 obtain ⟨hb, hg, hv⟩ := h.blk _ List.mem_cons_self
 have hd := h.drop
 have hv1 : vs.length = n := hv.1
 have hown : ∀ j, (⟨.slice (some ⟨g, 0, none⟩) 1 1, t, n, 1, vs⟩ : Rw).own j ↔ g = j := fun j => by simp [Rw.own, Value.ownBlock]
 refine ⟨Row1.frame h.fr, ⟨h.fr.new h.inv (Below.refl _ _) (fun j hj => .inl ?_), ⟨by rw [Nat.one_mul]; exact hv.1, .inr ⟨g, 1, vs.toArray, rfl, hg, hb, Nat.le_refl _, by decide, by simp [hv1], by rw [Nat.one_mul, ← hv1]; simp⟩⟩, fun j hj hn => ?_⟩, hd.blk, hd.nd, hd.sl⟩
 · rcases hj with hj | hj
   · rcases hj with ⟨e', he, rfl⟩ | hj
     · exact .inl ⟨e', List.mem_cons_of_mem _ he, rfl⟩
     · exact .inr hj
   · exact .inl ⟨_, List.mem_cons_self, (hown j).1 hj⟩
 · have e := (hown j).1 hj
   subst e
   rcases hn with ⟨e', he, h1⟩ | ⟨s, hs, x, hx, h1⟩
   · have := h.nd
     rw [List.map_cons, List.nodup_cons] at this
     exact this.1 (List.mem_map.2 ⟨e', he, h1⟩)
   · exact ((h.sl s hs).2 x hx).2.2 _ List.mem_cons_self h1.symm
theorem Sep.row (h : Sep B (Row1 B I r) w L T) : r.holds B w := h.inv.2.1
variable {P : Program} {ops : Array Oper} {rest : List Oper} {o : Oper} {a : Act} {Q : Exit → Act → World → Prop} {n : Nat} {t e : TypeId} {vs us : List Value} {v : Value} {x s : Operand}
variable {K : Act → World → Prop} {E : Prop} {off g : Nat} {L' : List Ent} {y : Operand}
theorem sep_step_loadw (h : Sep B I w L T) (hgd : o.guard = none) (ho : o.op = Op.load t x) (hx : a.eval x = .pointer (some ⟨g, 0, none⟩)) (hm : (⟨g, e, n, vs⟩ : Ent) ∈ L) (hT : Ty P t n)
 (hk : K (a.put o.dst (.agg vs.toArray)) w) : if Region.wanted o (yielded ops a.tmps) = true then Oper.wp P o a w K Q else E := by
 rw [if_pos (by simp [Region.wanted, hgd])]
 exact step_load_blk x t ho g 0 n hx hT.1 hT.2 (h.blk _ hm).1 vs (whole_load (h.vals hm).1) (h.vals hm).1 hk
theorem sep_step_storew (h : Sep B I w L T) (hgd : o.guard = none) (ho : o.op = Op.store t x y) (hx : a.eval x = .pointer (some ⟨g, 0, none⟩)) (hy : a.eval y = .agg us.toArray) (hup : Upd L g e n vs us L') (hT : Ty P t n) (hv : Vals n us)
 (hk : ∀ w', Sep B I w' L' T → K (a.put o.dst undef) w') : if Region.wanted o (yielded ops a.tmps) = true then Oper.wp P o a w K Q else E := by
 obtain ⟨P', R', hL, _⟩ := id hup
 have hm : (⟨g, e, n, vs⟩ : Ent) ∈ L := by rw [hL]; simp
 obtain ⟨hB, _, hvl, hv1⟩ := h.blk _ hm
 simp only at hB hvl hv1
 rw [if_pos (by simp [Region.wanted, hgd])]
 refine step_store_blk x y t ho g 0 n hx us hy hT.2 hB hv.1 (by omega) hv.2 us ?_ fun w' hB' hb _ => hk w' (h.upd hup hb hB' hv)
 rw [Nat.zero_add, ← hvl]
 simp
variable {md : Region.Mode} {fuel : Nat} {listed : Array Bool}
theorem sep_any1 (i : Nat) (hr : Region.ready md ops listed = [i]) {o : Oper} (ho : ops[i]? = some o)
 (h1 : ∀ K : Act → World → Prop, (∀ a w, wpAny P md ops Q fuel (listed.setIfInBounds i true) a w → K a w) → if Region.wanted o (yielded ops a.tmps) = true then Oper.wp P o a w K Q else K (a.put o.dst undef) w) :
 wpAny P md ops Q (fuel + 1) listed a w := wpAny_ready hr (by simp) (AllReady.cons ho h1 AllReady.nil)
theorem sep_any2 (i j : Nat) (hr : Region.ready md ops listed = [i, j]) {o o' : Oper} (ho : ops[i]? = some o) (ho' : ops[j]? = some o')
 (h1 : ∀ K : Act → World → Prop, (∀ a w, wpAny P md ops Q fuel (listed.setIfInBounds i true) a w → K a w) → if Region.wanted o (yielded ops a.tmps) = true then Oper.wp P o a w K Q else K (a.put o.dst undef) w)
 (h2 : ∀ K : Act → World → Prop, (∀ a w, wpAny P md ops Q fuel (listed.setIfInBounds j true) a w → K a w) → if Region.wanted o' (yielded ops a.tmps) = true then Oper.wp P o' a w K Q else K (a.put o'.dst undef) w) :
 wpAny P md ops Q (fuel + 1) listed a w := wpAny_ready hr (by simp) (AllReady.cons ho h1 (AllReady.cons ho' h2 AllReady.nil))
end
end Go.Proofs.YthbldjnpnligpaaDoor

/-
 More laws of Sep: facts held beside, loads behind, blocks that are found made, results; the document's types.
-/

namespace Go.Proofs.YthbldjnpnligpaaDoor
set_option linter.unusedSimpArgs false
set_option linter.unusedVariables false
set_option maxRecDepth 100000
open Go.RowKit
def With (I : (Nat → Prop) → World → Prop) (F : Nat → Prop) (R : World → Prop) (N : Nat → Prop) (w : World) : Prop := I (fun j => N j ∨ F j) w ∧ R w ∧ (∀ j, F j → j < w.heap.size) ∧ ∀ j, F j → ¬ N j
theorem With.frame {B : Nat} {I : (Nat → Prop) → World → Prop} {F : Nat → Prop} {R : World → Prop} (hF : Frame B I) (hR : ∀ w w', R w → (∀ j, F j → j < w.heap.size → w'.heap[j]? = w.heap[j]?) → w.heap.size ≤ w'.heap.size → R w') : Frame B (With I F R) where
 size h := hF.size h.1
 new h hb hN := ⟨hF.new h.1 hb (fun j hj => by rcases hj with hj | hj; exact (hN j hj).imp .inl id; exact .inl (.inr hj)), hR _ _ h.2.1 (fun j hj hl => hb.block j hl) hb.size, fun j hj => Nat.lt_of_lt_of_le (h.2.2.1 j hj) hb.size, fun j hj hn => by
  rcases hN j hn with h1 | h1
  · exact h.2.2.2 j hj h1
  · have := h.2.2.1 j hj; omega⟩
 set {_ w w'} {m} h hb hm hB := ⟨hF.set h.1 hb (.inl hm) hB, hR _ _ h.2.1 (fun j hj hl => hb.block j (fun e => h.2.2.2 j hj (e ▸ hm)) hl) hb.size, fun j hj => Nat.lt_of_lt_of_le (h.2.2.1 j hj) hb.size, h.2.2.2⟩
 grown {_ _ w w'} row h hg hM hN := ⟨hF.grown h.1 hg (fun j hj => ⟨.inl (hM j hj).1, (hM j hj).2⟩) (fun j hj => by rcases hj with hj | hj; exact (hN j hj).imp .inl id; exact .inl (.inr hj)),
  hR _ _ h.2.1 (fun j hj hl => hg.block j hl (fun e => h.2.2.2 j hj (hM j e.symm).1)) hg.size, fun j hj => Nat.lt_of_lt_of_le (h.2.2.1 j hj) hg.size, fun j hj hn => by
  rcases hN j hn with h1 | h1
  · exact h.2.2.2 j hj h1
  · have := h.2.2.1 j hj; omega⟩
theorem Sep.hold {B : Nat} {I : (Nat → Prop) → World → Prop} {w w' : World} {L : List Ent} {T : List Sli} (h : Sep B I w L T) (hb : Below w.heap.size w w') {F : Nat → Prop} {R : World → Prop} (hF : ∀ j, F j → w.heap.size ≤ j ∧ j < w'.heap.size) (hw : R w')
 (hR : ∀ w w', R w → (∀ j, F j → j < w.heap.size → w'.heap[j]? = w.heap[j]?) → w.heap.size ≤ w'.heap.size → R w') : Sep B (With I F R) w' L T := by
 have hs := h.stays hb
 have hlt : ∀ j, mine L T j → j < w.heap.size := fun j hj => by
  rcases hj with ⟨e', he, rfl⟩ | ⟨s', hs', y, hy, rfl⟩
  · exact (h.blk e' he).1.lt
  · exact ((h.sl s' hs').2 y hy).2.1
 exact ⟨With.frame h.fr hR, ⟨h.fr.new h.inv hb (fun j hj => by rcases hj with hj | hj; exact .inl hj; exact .inr (hF j hj)), hw, fun j hj => (hF j hj).2, fun j hj hn => by have := (hF j hj).1; have := hlt j hn; omega⟩, hs.blk, hs.nd, hs.sl⟩
section
variable {B : Nat} {I : (Nat → Prop) → World → Prop} {w w' : World} {L : List Ent} {T : List Sli} {P : Program} {g off n m : Nat} {t e : TypeId} {vs us : List Value} {v : Value}
theorem Sep.ld (h : Sep B I w L T) (hb : Below w.heap.size w w') (hT : Ty P t n) (hm : (⟨g, e, n, vs⟩ : Ent) ∈ L) : (Instr.loadAt t (.pointer (some ⟨g, 0, none⟩))).run P w' = .ok (.agg vs.toArray) w' :=
 run_load_blk hT.1 hT.2 ((h.blk _ hm).1.stays hb) (whole_load (h.vals hm).1) (h.vals hm).1
theorem Sep.ldp (h : Sep B I w L T) (hb : Below w.heap.size w w') (hT : Ty P t n) (hm : (⟨g, e, m, vs⟩ : Ent) ∈ L) (hu : us = (vs.drop off).take n) (hl : us.length = n) : (Instr.loadAt t (.pointer (some ⟨g, off, none⟩))).run P w' = .ok (.agg us.toArray) w' :=
 run_load_blk hT.1 hT.2 ((h.blk _ hm).1.stays hb) hu hl
theorem Sep.ld1 (h : Sep B I w L T) (hb : Below w.heap.size w w') (hT : Ty1 P t) (hm : (⟨g, e, m, vs⟩ : Ent) ∈ L) (hv : vs[off]? = some v) : (Instr.loadAt t (.pointer (some ⟨g, off, none⟩))).run P w' = .ok v w' := by
 have hc := ((h.blk _ hm).1.stays hb).cell off
 simp only [hv] at hc
 simp [Instr.loadAt, Instr.sureAddr, loadVar, hT.1, Sem.run_bind, hc]
end
theorem agg_rbank9 (w : World) : (isAgg 36).run Tryd.prog w = .ok true w := isAgg_struct (show Tryd.prog.underlying 36 = some (.struct (Tryd.prog.fieldsOf 36)) by kernel_rfl) w
theorem ty_rbank : Ty Tryd.prog 36 7 := ⟨agg_rbank9, fun w => sizeOf_run (by kernel_rfl) w⟩
theorem ty_rdisk : Ty Tryd.prog 30 5 := ⟨fun w => isAgg_struct (show Tryd.prog.underlying 30 = some (.struct (Tryd.prog.fieldsOf 30)) by kernel_rfl) w, fun w => sizeOf_run (by kernel_rfl) w⟩
theorem ty_rmap : Ty Tryd.prog 33 1 := ⟨agg_rmap, size_rmap⟩
section
variable {B : Nat} {I : (Nat → Prop) → World → Prop} {w w' : World} {L : List Ent} {T : List Sli} {P : Program} {g n : Nat} {t e : TypeId} {us : List Value} {v : Value}
theorem wp_move1 {ops : Array Oper} {rest : List Oper} {o : Oper} {a : Act} {Q : Exit → Act → World → Prop} {x : Operand} (hgd : o.guard = none) (ho : o.op = Op.move x) (hv : a.eval x = v) (hk : wpList P ops Q rest (a.put o.dst v) w) : wpList P ops Q (o :: rest) a w := by
 refine wpList_plain hgd fun K hK => ?_
 unfold Oper.wp execOp
 simp only [ho, hv, Sem.run_pure]
 exact hK _ _ hk
theorem wp_extract1 {ops : Array Oper} {rest : List Oper} {o : Oper} {a : Act} {Q : Exit → Act → World → Prop} {x : Operand} {i : Nat} {vs : Array Value} (hgd : o.guard = none) (ho : o.op = Op.extract x i) (hx : a.eval x = .tuple vs) (hv : vs[i]? = some v) (hk : wpList P ops Q rest (a.put o.dst v) w) : wpList P ops Q (o :: rest) a w := by
 refine wpList_plain hgd fun K hK => ?_
 unfold Oper.wp execOp
 simp only [ho, hx, Instr.extract, hv, Sem.run_bind, Sem.run_pure, Result.andThen_ok]
 exact hK _ _ hk
theorem sep_ret_cct2 {a : Act} {fn : Func} {R : Ending → World → Prop} {p q r : Tmp} (h : Sep B I w L T) {g' n' : Nat} {us' : List Value} {t' e' : TypeId} (hf : fn.results = #[.cell p t, .cell q t', .tmp r]) (hd : a.defers = []) (hp : a.tmps.getD p undef = .pointer (some ⟨g, 0, none⟩)) (hq : a.tmps.getD q undef = .pointer (some ⟨g', 0, none⟩)) (hq' : a.tmps.getD r undef = v) (hT : Ty P t n) (hT' : Ty P t' n') (hm : (⟨g, e, n, us⟩ : Ent) ∈ L) (hm' : (⟨g', e', n', us'⟩ : Ent) ∈ L)
 (hR : R (.returned (.tuple #[.agg us.toArray, .agg us'.toArray, v])) w) : bodyPost P fn R .ret a w := by
 refine bodyPost_ret_by (v := .tuple #[.agg us.toArray, .agg us'.toArray, v]) ?_ hd hR
 have hr := sep_load_run h hT hm
 have hr' := sep_load_run h hT' hm'
 rw [Array.getD_eq_getD_getElem?] at hp hq hq'
 simp [results, hf, hp, hq, hq', asAddr, Sem.run_bind, hr, hr']
end
section
variable {B : Nat} {I : (Nat → Prop) → World → Prop} {w w' : World} {L : List Ent} {T : List Sli}
theorem Sep.addAt (h : Sep B I w L T) {t : TypeId} {g n : Nat} {vs : List Value} (hb : Below w.heap.size w w') (hB : Blk t w' g vs) (hg : w.heap.size ≤ g) (hv : Vals n vs) : Sep B I w' (⟨g, t, n, vs⟩ :: L) T := by
 have hs := h.stays hb
 refine ⟨h.fr, h.fr.new h.inv hb (fun j hj => ?_), fun e he => ?_, ?_, fun s hs' => ⟨(hs.sl s hs').1, fun x hx => ⟨((hs.sl s hs').2 x hx).1, ((hs.sl s hs').2 x hx).2.1, fun e he => ?_⟩⟩⟩
 · rcases hj with ⟨e, he, rfl⟩ | hj
   · rcases List.mem_cons.1 he with rfl | he
     · exact .inr ⟨hg, hB.lt⟩
     · exact .inl (.inl ⟨e, he, rfl⟩)
   · exact .inl (.inr hj)
 · rcases List.mem_cons.1 he with rfl | he
   · exact ⟨hB, Nat.le_trans (h.fr.size h.inv) hg, hv⟩
   · exact hs.blk e he
 · rw [List.map_cons, List.nodup_cons]
   refine ⟨fun hm => ?_, h.nd⟩
   obtain ⟨e, he, h1⟩ := List.mem_map.1 hm
   have := (h.blk e he).1.lt
   simp only at h1
   omega
 · rcases List.mem_cons.1 he with rfl | he
   · have := ((h.sl s hs').2 x hx).2.1
     show g ≠ _
     omega
   · exact ((hs.sl s hs').2 x hx).2.2 e he
theorem Sep.addAt2 (h : Sep B I w L T) {t t' : TypeId} {g n g' n' : Nat} {vs vs' : List Value} (hb : Below w.heap.size w w') (hB : Blk t w' g vs) (hg : w.heap.size ≤ g) (hv : Vals n vs) (hB' : Blk t' w' g' vs') (hg' : w.heap.size ≤ g') (hv' : Vals n' vs') (hne : g ≠ g') : Sep B I w' (⟨g', t', n', vs'⟩ :: ⟨g, t, n, vs⟩ :: L) T := by
 have h1 := h.addAt hb hB hg hv
 have h2 := h.addAt hb hB' hg' hv'
 refine ⟨h.fr, h.fr.new h.inv hb (fun j hj => ?_), fun e he => ?_, ?_, fun s hs' => ⟨(h1.sl s hs').1, fun x hx => ⟨((h1.sl s hs').2 x hx).1, ((h1.sl s hs').2 x hx).2.1, fun e he => ?_⟩⟩⟩
 · rcases hj with ⟨e, he, rfl⟩ | hj
   · rcases List.mem_cons.1 he with rfl | he
     · exact .inr ⟨hg', hB'.lt⟩
     · rcases List.mem_cons.1 he with rfl | he
       · exact .inr ⟨hg, hB.lt⟩
       · exact .inl (.inl ⟨e, he, rfl⟩)
   · exact .inl (.inr hj)
 · rcases List.mem_cons.1 he with rfl | he
   · exact h2.blk _ List.mem_cons_self
   · exact h1.blk e he
 · rw [List.map_cons, List.nodup_cons]
   refine ⟨fun hm => ?_, h1.nd⟩
   obtain ⟨e, he, h3⟩ := List.mem_map.1 hm
   simp only at h3
   rcases List.mem_cons.1 he with rfl | he
   · exact hne h3
   · have := (h.blk e he).1.lt; omega
 · rcases List.mem_cons.1 he with rfl | he
   · exact (h2.sl s hs').2 x hx |>.2.2 _ List.mem_cons_self
   · exact (h1.sl s hs').2 x hx |>.2.2 e he
end
end Go.Proofs.YthbldjnpnligpaaDoor
