/-
  Bytes that grow, are made and are copied, beside a function's blocks.
-/
import Derived.Test.YthbldjnpnligpaaDoorG37
import Derived.Test.YthbldjnpnligpaaDoorG04
import Derived.Test.YthbldjnpnligpaaDoorG34
import Derived.Test.YthbldjnpnligpaaDoorG30
import Derived.Test.YthbldjnpnligpaaDoorG01
namespace Go.Proofs.YthbldjnpnligpaaDoor
set_option linter.unusedSimpArgs false
set_option linter.unusedVariables false
set_option maxRecDepth 100000
open Go.RowKit

section
variable {B : Nat} {I : (Nat → Prop) → World → Prop} {w w' : World} {L L' : List Ent} {T : List Sli}
variable {P : Program} {ops : Array Oper} {rest : List Oper} {o : Oper} {a : Act} {Q : Exit → Act → World → Prop} {n : Nat} {t e : TypeId} {vs us : List Value} {v : Value} {x s : Operand}
/-- append(l, more...): r elements that lie behind an address. -/
theorem sep_appendm {m r : Nat} {xs : List Value} (h : Sep B (Row1 B I ⟨v, t, n, m, xs⟩) w L T) (hF : Frame B I) (hgd : o.guard = none) {st : TypeId} (ho : o.op = .call { callee := .builtin .append, args := #[s, x], argTypes := #[st, st] }) (hE : Elem P st t n)
    (hs : a.eval s = v) {ad : Addr} {rc : Nat} (hx : a.eval x = .slice (some ad) r rc) (hl : us.length = r * n) (hsrc : ∀ j u, us[j]? = some u → w.cell? (ad.add j) = some u) (h1 : ∀ u ∈ us, u.oneCell' = true) (hr : 0 < r) (hlen : m + r ≤ 1000000)
    (hk : ∀ v' w', Sep B (Row1 B I ⟨v', t, n, m + r, xs ++ us⟩) w' L T → wpList P ops Q rest (a.put o.dst v') w') : wpList P ops Q (o :: rest) a w := by
  obtain ⟨hu, ⟨i, z, hi, hz, hsz, hby, hzc⟩, hp⟩ := hE
  obtain ⟨h1', h2, h3⟩ := h.inv
  have hbd : (m + r) * i.bytes ≤ 140737488355328 := Nat.le_trans (Nat.mul_le_mul hlen hby) (by decide)
  refine wpList_append_lies _ hgd s x st ho B t i z n i.bytes hu hi hz hsz rfl hzc hp v m xs hs h2 ad r rc us hx hl hsrc h1 hr (by unfold maxLen; omega) hbd (h.fr.size h.inv) _ rfl fun g cap w' q1 q2 q3 q4 => ?_
  have hown : ∀ j, (⟨.slice (some ⟨g, 0, none⟩) (m + r) cap, t, n, m + r, xs ++ us⟩ : Rw).own j → j = g := fun j hj => by
    have : g = j := by simpa [Rw.own, Value.ownBlock] using hj
    exact this.symm
  have hrow : ∀ j, v.ownBlock = some j → B ≤ j ∧ j < w.heap.size := fun j hj => Rw.holds.lt (r := ⟨v, t, n, m, xs⟩) h2 hj
  have hmine : ∀ j, mine L T j → j < w.heap.size := fun j hj => by
    rcases hj with ⟨e', he, rfl⟩ | ⟨s', hs', y, hy, rfl⟩
    · exact (h.blk e' he).1.lt
    · exact ((h.sl s' hs').2 y hy).2.1
  have hgo : ∀ j, mine L T j → w'.heap[j]? = w.heap[j]? := fun j hj => q2.block j (hmine j hj) (fun e' => h3 j e'.symm hj)
  refine hk _ w' ⟨Row1.frame hF, ⟨hF.grown h1' q2 (fun j hj => ⟨.inr hj, (hrow j hj).1⟩) (fun j hj => ?_), q1, fun j hj hn => ?_⟩, fun e' he => ⟨?_, (h.blk e' he).2⟩, h.nd, fun s' hs' => ⟨?_, fun y hy => ⟨((h.sl s' hs').2 y hy).1, Nat.lt_of_lt_of_le ((h.sl s' hs').2 y hy).2.1 q2.size, ((h.sl s' hs').2 y hy).2.2⟩⟩⟩
  · rcases hj with hj | hj
    · exact .inl (.inl hj)
    · rw [hown j hj]
      rcases q3 with q3 | q3
      · exact .inl (.inr q3)
      · exact .inr ⟨by omega, q4⟩
  · rw [hown j hj] at hn
    rcases q3 with q3 | q3
    · exact h3 g q3 hn
    · have := hmine g hn; omega
  · have hb1 := (h.blk e' he).1
    unfold Blk at *
    rw [hgo _ (.inl ⟨e', he, rfl⟩)]; exact hb1
  · exact Stay.bs (M := fun j => mine L T j) ⟨q2.size, fun j hj _ => hgo j hj⟩ (h.sl s' hs').1 (fun y hy => .inr ⟨s', hs', y, hy, rfl⟩)
/-- []T{}. -/
theorem sep_empty (h : Sep B I w L T) (hgd : o.guard = none) {st : TypeId} (ho : o.op = Op.buildSlice st 0 #[]) (hr : ∀ w : World, (Instr.buildSlice st 0 #[]).run P w = .ok (.slice (some ⟨w.heap.size, 0, none⟩) 0 0) (w.alloc (.cells #[] t)))
    (hk : ∀ v w', Sep B (Row1 B I ⟨v, t, n, 0, []⟩) w' L T → wpList P ops Q rest (a.put o.dst v) w') : wpList P ops Q (o :: rest) a w := by
  refine wpList_plain hgd fun K hK => ?_
  unfold Oper.wp execOp
  have e0 : (#[] : Array (Nat × Operand)).map (fun (i, x) => (i, a.eval x)) = #[] := by simp
  simp only [ho, Sem.run_bind, Sem.run_pure, Result.andThen_ok, e0, hr]
  have hb : Below w.heap.size w (w.alloc (.cells #[] t)) := (Below.refl _ _).alloc (Nat.le_refl _) _
  have hs := h.stays hb
  have hown : ∀ j, (⟨.slice (some ⟨w.heap.size, 0, none⟩) 0 0, t, n, 0, []⟩ : Rw).own j → j = w.heap.size := fun j hj => by
    have : w.heap.size = j := by simpa [Rw.own, Value.ownBlock] using hj
    exact this.symm
  have hmine : ∀ j, mine L T j → j < w.heap.size := fun j hj => by
    rcases hj with ⟨e', he, rfl⟩ | ⟨s', hs', y, hy, rfl⟩
    · exact (h.blk e' he).1.lt
    · exact ((h.sl s' hs').2 y hy).2.1
  have hq := World.ownsRow_made (e := t) (size := n) (base := B) w #[] 0 (h.fr.size h.inv) (by decide) (by simp)
  have hlt := World.ownsRow.lt hq _ rfl
  refine hK _ _ (hk _ _ ⟨Row1.frame h.fr, ⟨h.fr.new h.inv hb (fun j hj => ?_), hq, fun j hj hn => ?_⟩, hs.blk, hs.nd, hs.sl⟩)
  · rcases hj with hj | hj
    · exact .inl hj
    · rw [hown j hj]; exact .inr ⟨Nat.le_refl _, hlt.2⟩
  · rw [hown j hj] at hn
    have := hmine _ hn; omega
/-- What lies in a block of the list, from a place on. -/
theorem Sep.lies (h : Sep B I w L T) {g off r m : Nat} (hm : (⟨g, e, m, vs⟩ : Ent) ∈ L) (hu : us = (vs.drop off).take r) : ∀ j u, us[j]? = some u → w.cell? ((⟨g, off, none⟩ : Addr).add j) = some u := fun j u hj => by
  have hadd : (⟨g, off, none⟩ : Addr).add j = ⟨g, off + j, none⟩ := by unfold Addr.add; split <;> simp_all
  rw [hadd, (h.blk _ hm).1.cell]
  rw [hu, List.getElem?_take] at hj
  split at hj
  · rw [List.getElem?_drop] at hj; exact hj
  · cases hj
theorem Bs.lies {c : Nat} {xs : List Int} {ad : Addr} (h : Bs w (some ad) c xs) : ∀ j u, (xs.map (Value.int .u8))[j]? = some u → w.cell? (ad.add j) = some u := fun j u hj => by
  rw [List.getElem?_map] at hj
  have hlt : j < xs.length := by
    rcases Nat.lt_or_ge j xs.length with h1 | h1
    · exact h1
    · rw [List.getElem?_eq_none h1] at hj; cases hj
  rcases h.lay with h0 | ⟨b, off, h0, hc⟩
  · rw [h0] at hlt; simp at hlt
  · cases h0
    have hadd : (⟨b, off, none⟩ : Addr).add j = ⟨b, off + j, none⟩ := by unfold Addr.add; split <;> simp_all
    rw [hadd, hc j hlt, ← hj, List.getD_eq_getElem?_getD, List.getElem?_eq_getElem hlt]
    rfl
end
/-- Bytes that grow. -/
def rwB (v : Value) (xs : List Int) : Rw := ⟨v, 5, 1, xs.length, xs.map (Value.int .u8)⟩
theorem elem_byte : Elem Tryd.prog 43 5 1 := by
  have hi : (Tryd.prog.info? 5).map (fun i => (i.zero, i.size, i.bytes)) = some (some (.int .u8 0), 1, 1) := by kernel_rfl
  obtain ⟨i0, hi0, hz0, hz1, hz2⟩ := info_parts hi
  exact ⟨Tryd.underlying43, ⟨i0, _, hi0, hz0, hz1, by omega, rfl⟩, by decide⟩
section
variable {B : Nat} {I : (Nat → Prop) → World → Prop} {w w' : World} {L L' : List Ent} {T : List Sli} {v : Value} {xs : List Int}
theorem rwB_cast {n : Nat} {vs : List Value} (h : Sep B (Row1 B I ⟨v, 5, 1, n, vs⟩) w L T) (ys : List Int) (hn : n = ys.length) (hx : vs = ys.map (Value.int .u8)) : Sep B (Row1 B I (rwB v ys)) w L T := by subst hn hx; exact h
theorem rwB_more {ys : List Int} {m : Nat} (h : Sep B (Row1 B I ⟨v, 5, 1, xs.length + m, xs.map (Value.int .u8) ++ ys.map (Value.int .u8)⟩) w L T) (hm : m = ys.length) : Sep B (Row1 B I (rwB v (xs ++ ys))) w L T :=
  rwB_cast h _ (by rw [List.length_append, hm]) (by rw [List.map_append])
theorem rwB_bs (h : (rwB v xs).holds B w) (hr : ∀ x ∈ xs, 0 ≤ x ∧ x ≤ 255) : ∃ a c, v = .slice a xs.length c ∧ Bs w a c xs ∧ ∀ y, a = some y → (rwB v xs).own y.block := by
  obtain ⟨h1, ⟨hv, hn⟩ | ⟨g, cap, cur, hv, hb, hh, hc, hm, hs, ht⟩⟩ := h
  · have hn' : xs.length = 0 := hn
    have hx : xs = [] := List.length_eq_zero_iff.1 hn'
    subst hx
    exact ⟨none, 0, hv, Bs.empty w, fun y hy => by cases hy⟩
  · have hv' : v = .slice (some ⟨g, 0, none⟩) xs.length cap := hv
    have hh' : w.heap[g]? = some (.cells cur 5 (0, 0)) := hh
    have hB : Blk 5 w g cur.toList := by unfold Blk; simpa using hh'
    have ht' : cur.toList.take (xs.length * 1) = xs.map (Value.int .u8) := ht
    refine ⟨_, cap, hv', ⟨hr, hc, hm, by simp, .inr ⟨g, 0, rfl, fun i hi => ?_⟩⟩, fun y hy => ?_⟩
    · rw [hB.cell, Nat.zero_add]
      have h2 : (cur.toList.take (xs.length * 1))[i]? = (xs.map (Value.int .u8))[i]? := by rw [ht']
      rw [List.getElem?_take_of_lt (by omega), List.getElem?_map, List.getElem?_eq_getElem hi] at h2
      rw [h2, List.getD_eq_getElem?_getD, List.getElem?_eq_getElem hi]
      rfl
    · cases hy
      show v.ownBlock = some g
      rw [hv']; rfl
/-- Bytes that grew, as a slice of the function's own. -/
theorem Sep.unrow (h : Sep B (Row1 B I (rwB v xs)) w L T) (hF : Frame B I) (hr : ∀ x ∈ xs, 0 ≤ x ∧ x ≤ 255) : ∃ a c, v = .slice a xs.length c ∧ Sep B I w L (⟨a, c, xs⟩ :: T) := by
  obtain ⟨h1, h2, h3⟩ := h.inv
  obtain ⟨a, c, hv, hb, ho⟩ := rwB_bs h2 hr
  refine ⟨a, c, hv, hF, hF.new h1 (Below.refl _ _) (fun j hj => .inl ?_), h.blk, h.nd, fun s hs => ?_⟩
  · rcases hj with hj | ⟨s, hs, y, hy, rfl⟩
    · exact .inl (.inl hj)
    · rcases List.mem_cons.1 hs with rfl | hs
      · exact .inr (ho y hy)
      · exact .inl (.inr ⟨s, hs, y, hy, rfl⟩)
  · rcases List.mem_cons.1 hs with rfl | hs
    · exact ⟨hb, fun y hy => ⟨(Rw.holds.lt h2 (ho y hy)).1, (Rw.holds.lt h2 (ho y hy)).2, fun e' he he' => h3 _ (ho y hy) (.inl ⟨e', he, he'⟩)⟩⟩
    · exact h.sl s hs
variable {ops : Array Oper} {rest : List Oper} {o : Oper} {a : Act} {Q : Exit → Act → World → Prop} {x s lx cx : Operand} {n : Nat}
/-- make([]byte, 0, n). -/
theorem sep_make0 (h : Sep B I w L T) (hgd : o.guard = none) (ho : o.op = Op.makeSlice 43 lx cx) {kl kc : IntKind} {C : Int} (hl : a.eval lx = .int kl 0) (hc : a.eval cx = .int kc C) (hC : C = (n : Int)) (hn : n ≤ 1000000)
    (hk : ∀ v w', Sep B (Row1 B I (rwB v [])) w' L T → wpList Tryd.prog ops Q rest (a.put o.dst v) w') : wpList Tryd.prog ops Q (o :: rest) a w := by
  have hi : (Tryd.prog.info? 5).map (fun i => (i.zero, i.size, i.bytes)) = some (some (.int .u8 0), 1, 1) := by kernel_rfl
  obtain ⟨i0, hi0, hz0, hz1, hz2⟩ := info_parts hi
  refine wpList_make_own w hgd lx cx 43 ho B 5 i0 _ 1 Tryd.underlying43 hi0 hz0 hz1 kl kc C n hl hc hC (by rw [hz2]; omega) (by unfold maxLen; omega) (h.fr.size h.inv) fun w' q1 q2 => ?_
  have hb : Below w.heap.size w w' := (Below.refl _ _).grown q2 (Nat.le_refl _) (by simp)
  have hs := h.stays hb
  have hlt := World.ownsRow.lt q1
  obtain ⟨u1, ⟨q3, _⟩ | ⟨g, cap, cur, q3, q4, q5⟩⟩ := q1
  · cases q3
  obtain rfl : w.heap.size = g := by injection q3 with q3; injection q3 with q3; injection q3
  have hown : ∀ j, (rwB (.slice (some ⟨w.heap.size, 0, none⟩) 0 n) []).own j → j = w.heap.size := fun j hj => by
    have : w.heap.size = j := by simpa [rwB, Rw.own, Value.ownBlock] using hj
    exact this.symm
  have hmine : ∀ j, mine L T j → j < w.heap.size := fun j hj => by
    rcases hj with ⟨e', he, rfl⟩ | ⟨s', hs', y, hy, rfl⟩
    · exact (h.blk e' he).1.lt
    · exact ((h.sl s' hs').2 y hy).2.1
  refine hk _ w' ⟨Row1.frame h.fr, ⟨h.fr.new h.inv hb (fun j hj => ?_), ⟨u1, .inr ⟨w.heap.size, cap, cur, q3, q4, q5⟩⟩, fun j hj hn => ?_⟩, hs.blk, hs.nd, hs.sl⟩
  · rcases hj with hj | hj
    · exact .inl hj
    · rw [hown j hj]; exact .inr ⟨Nat.le_refl _, (hlt _ rfl).2⟩
  · rw [hown j hj] at hn
    have := hmine _ hn; omega
/-- make([]byte, n). -/
theorem sep_makeN (h : Sep B I w L T) (hgd : o.guard = none) (ho : o.op = Op.makeSlice 43 lx cx) {kl kc : IntKind} {C D : Int} (hl : a.eval lx = .int kl D) (hc : a.eval cx = .int kc C) (hD : D = (n : Int)) (hC : C = (n : Int)) (h0 : 0 < n) (hn : n ≤ 1000000)
    (hk : ∀ w' g, Sep B I w' L (⟨some ⟨g, 0, none⟩, n, List.replicate n 0⟩ :: T) → wpList Tryd.prog ops Q rest (a.put o.dst (.slice (some ⟨g, 0, none⟩) n n)) w') : wpList Tryd.prog ops Q (o :: rest) a w := by
  have hi : (Tryd.prog.info? 5).map (fun i => (i.zero, i.size, i.bytes)) = some (some (.int .u8 0), 1, 1) := by kernel_rfl
  obtain ⟨i0, hi0, hz0, hz1, hz2⟩ := info_parts hi
  refine wpList_make_bytes (w0 := w) hgd lx cx 43 ho w.heap.size 5 i0 Tryd.underlying43 hi0 hz0 hz1 hz2 kl kc D C n hl hc hD hC (by omega) (Nat.le_refl _) (Below.refl _ _) fun w' hR hb => hk w' _ ?_
  exact h.slice hb (by have := hR.bs (by simp) (by simp; unfold maxLen; omega); rwa [List.length_replicate] at this) (fun y hy => by cases hy; exact Nat.le_refl _) (by intro e; have := congrArg List.length e; simp at this; omega)
end
end Go.Proofs.YthbldjnpnligpaaDoor

/-
  A manifest: 16 hashes as 512 numbers.
-/

namespace Go.Proofs.YthbldjnpnligpaaDoor
set_option linter.unusedSimpArgs false
set_option linter.unusedVariables false
set_option maxRecDepth 100000
open Go.RowKit

theorem sep_copy {B : Nat} {I : (Nat → Prop) → World → Prop} {w : World} {L L' : List Ent} {T : List Sli} {P : Program} {ops : Array Oper} {rest : List Oper} {o : Oper} {a : Act} {Q : Exit → Act → World → Prop} {d s : Operand} {dT sT elem t : TypeId} {g off n m dLen dCap sLen sCap : Nat} {sp : Option Addr} {vs us : List Value} {ys : List Int}
    (h : Sep B I w L T) (hgd : o.guard = none) (ho : o.op = .call { callee := .builtin .copy, args := #[d, s], argTypes := #[dT, sT] }) (hu : P.underlying dT = some (.slice elem)) (hsz : (P.info? elem).map (·.size) = some 1)
    (hd : a.eval d = .slice (some ⟨g, off, none⟩) dLen dCap) (hs : a.eval s = .slice sp sLen sCap) (hup : Upd L g t n vs us L') (hB : Bs w sp sCap ys) (hpos : 0 < m) (hm : m = Nat.min sLen dLen) (hle : m ≤ ys.length) (hfit : off + m ≤ n)
    (hus : us = splice vs off ((ys.take m).map (Value.int .u8))) (hk : ∀ w', Sep B I w' L' T → wpList P ops Q rest (a.put o.dst (goInt m)) w') : wpList P ops Q (o :: rest) a w := by
  obtain ⟨P', R', hL, _⟩ := id hup
  have hme : (⟨g, t, n, vs⟩ : Ent) ∈ L := by rw [hL]; simp
  obtain ⟨hb, _, hvl, hv1⟩ := h.blk _ hme
  simp only at hb hvl hv1
  have hyl : ((ys.take m).map (Value.int .u8)).length = m := by simp; omega
  refine wpList_copy_blk hgd d s dT sT ho elem hu hsz g off dLen dCap sp sLen sCap hd hs hb ys m hB hpos hm hle (by omega) fun w' h1 h2 _ => hk w' (h.upd hup h2 (hus ▸ h1) ⟨?_, fun u hu => ?_⟩)
  · rw [hus, length_splice _ _ _ (by omega)]; exact hvl
  · rw [hus] at hu
    unfold splice at hu
    rcases List.mem_append.1 hu with h3 | h3
    · exact hv1 u (List.mem_of_mem_take h3)
    · rcases List.mem_append.1 h3 with h3 | h3
      · exact int_oneCell _ _ u h3
      · exact hv1 u (List.mem_of_mem_drop h3)
theorem run_load_at {P : Program} {w : World} {t : TypeId} {b off : Nat} {v : Value} (hT : Ty1 P t) (hc : w.cell? ⟨b, off, none⟩ = some v) : (Instr.loadAt t (.pointer (some ⟨b, off, none⟩))).run P w = .ok v w := by
  simp [Instr.loadAt, Instr.sureAddr, loadVar, hT.1, Sem.run_bind, hc]
/-- A manifest's cells; one hash of it. -/
def mV (M : List Int) : List Value := M.map (Value.int .u8)
def hAt (M : List Int) (i : Nat) : List Int := (M.drop (i * 32)).take 32
theorem hAt_len {M : List Int} (h : M.length = 512) {i : Nat} (hi : i < 16) : (hAt M i).length = 32 := by unfold hAt; simp; omega
theorem hAt_rng {M : List Int} (h : ∀ x ∈ M, 0 ≤ x ∧ x ≤ 255) (i : Nat) : ∀ x ∈ hAt M i, 0 ≤ x ∧ x ≤ 255 := fun x hx => h x (List.mem_of_mem_drop (List.mem_of_mem_take hx))
theorem mV_part {M : List Int} {i : Nat} : mV (hAt M i) = ((mV M).drop (i * 32)).take 32 := by unfold mV hAt; rw [List.map_take, List.map_drop]
theorem vals_mV {M : List Int} {n : Nat} (h : M.length = n) : Vals n (mV M) := ⟨by simp [mV, h], int_oneCell _ _⟩
theorem ty_man : Ty Tryd.prog 89 512 := ⟨fun w => isAgg_array Tryd.underlying89 w, fun w => sizeOf_run (by kernel_rfl) w⟩
theorem ty_hsh : Ty Tryd.prog 39 32 := ⟨agg_hsh, size_hash⟩
theorem ty1_byte : Ty1 Tryd.prog 5 := ⟨fun w => by kernel_rfl, fun w => sizeOf_run (by kernel_rfl) w⟩
theorem build_man0 (w : World) : (Instr.build 89 #[]).run Tryd.prog w = .ok (.agg (mV (List.replicate 512 0)).toArray) w := by kernel_rfl
theorem al_man : (∀ w, (Instr.alloc 89 true (.tuple #[])).run Tryd.prog w = .ok (.pointer (some ⟨w.heap.size, 0, none⟩)) (w.alloc (.cells (mV (List.replicate 512 0)).toArray 89))) ∧ Vals 512 (mV (List.replicate 512 0)) := ⟨fun w => by kernel_rfl, vals_mV rfl⟩
theorem al_hsh : (∀ w, (Instr.alloc 39 true (.tuple #[])).run Tryd.prog w = .ok (.pointer (some ⟨w.heap.size, 0, none⟩)) (w.alloc (.cells (mV (List.replicate 32 0)).toArray 39))) ∧ Vals 32 (mV (List.replicate 32 0)) := ⟨fun w => by kernel_rfl, vals_mV rfl⟩
theorem ix_man (g : Nat) {i : Nat} (hi : i < 16) (u : World) : (Instr.indexAt 89 (.pointer (some ⟨g, 0, none⟩)) (.int .i64 (i : Int))).run Tryd.prog u = .ok (.pointer (some ⟨g, i * 32, none⟩)) u := by
  have := index_ptr (P := Tryd.prog) (t := 89) (e := 39) (n := 16) (m := 32) (g := g) (off := 0) (K := .i64) (j := i) Tryd.underlying89 (by kernel_rfl) hi u
  rw [this, Nat.zero_add]
theorem ix_hsh (g off : Nat) {i : Nat} (hi : i < 32) (u : World) : (Instr.indexAt 39 (.pointer (some ⟨g, off, none⟩)) (.int .i64 (i : Int))).run Tryd.prog u = .ok (.pointer (some ⟨g, off + i, none⟩)) u := by
  have := index_ptr (P := Tryd.prog) (t := 39) (e := 5) (n := 32) (m := 1) (g := g) (off := off) (K := .i64) (j := i) Tryd.underlying39 (by kernel_rfl) hi u
  rw [this, Nat.mul_one]
theorem sl_hsh (g off : Nat) (u : World) : (Instr.sliceAt 39 (.pointer (some ⟨g, off, none⟩)) none none none).run Tryd.prog u = .ok (.slice (some ⟨g, off, none⟩) 32 32) u := slice_all Tryd.underlying39 (by kernel_rfl) u
theorem ix_man_agg {M : List Int} {i : Nat} (hi : i < 16) (u : World) : (Instr.index 89 (.agg (mV M).toArray) (.int .i64 (i : Int))).run Tryd.prog u = .ok (.agg (mV (hAt M i)).toArray) u :=
  index_part Tryd.underlying89 agg_hsh (by kernel_rfl) hi mV_part u
theorem eq_hsh {h : List Int} (hl : h.length = 32) (w : World) : (Op.equalIn 10000 39 (.agg (mV h).toArray) (.agg (mV h).toArray)).run Tryd.prog w = .ok true w := equal_same Tryd.underlying39 Tryd.underlying5 (by kernel_rfl) h hl w
theorem eq_man {M : List Int} (h : M.length = 512) (w : World) : (Op.equalIn 10000 89 (.agg (mV M).toArray) (.agg (mV M).toArray)).run Tryd.prog w = .ok true w := by
  have := equal_array (P := Tryd.prog) (w := w) Tryd.underlying89 (show (Tryd.prog.info? 39).map (·.size) = some 32 by kernel_rfl) 9999 (mV M).toArray (mV M).toArray (fun i => .agg (mV (hAt M i)).toArray) (fun i => .agg (mV (hAt M i)).toArray) (fun _ => true)
    (fun i _ => part_agg agg_hsh size_hash mV_part) (fun i _ => part_agg agg_hsh size_hash mV_part) (fun i hi => by
      have := equal_ints (P := Tryd.prog) Tryd.underlying39 Tryd.underlying5 (by kernel_rfl) 9997 (hAt M i) (hAt M i) (hAt_len h hi) (hAt_len h hi) w
      simpa [mV] using this)
  rw [show ((List.range 16).all fun _ => true) = true by decide] at this
  exact this
/-- What is decoded so far. -/
def sofar (xs : List Int) (k : Nat) : List Int := xs.take k ++ List.replicate (512 - k) 0
theorem sofar_len {xs : List Int} (h : xs.length = 512) {k : Nat} (hk : k ≤ 512) : (sofar xs k).length = 512 := by unfold sofar; simp; omega
theorem sofar_zero (xs : List Int) : sofar xs 0 = List.replicate 512 0 := rfl
theorem sofar_all {xs : List Int} (h : xs.length = 512) : sofar xs 512 = xs := by unfold sofar; rw [List.take_of_length_le (by omega)]; simp
theorem sofar_step {xs : List Int} (h : xs.length = 512) {k m : Nat} (hk : k + m ≤ 512) : mV (sofar xs (k + m)) = splice (mV (sofar xs k)) k (((xs.drop k).take m).map (Value.int .u8)) := by
  have h1 : (xs.take k).length = k := by simp; omega
  have h2 : ((xs.drop k).take m).length = m := by simp; omega
  have := splice_row (xs.take k) (List.replicate (512 - k) 0) ((xs.drop k).take m)
  rw [h1, h2] at this
  unfold mV sofar
  rw [this, List.take_add, List.drop_replicate]
  congr 3
  omega
theorem sofar_next {xs : List Int} (h : xs.length = 512) {k : Nat} (hk : k < 512) : mV (sofar xs (k + 1)) = (mV (sofar xs k)).set k (.int .u8 (xs.getD k 0)) := by
  have h0 : (mV (sofar xs k)).length = 512 := by unfold mV; rw [List.length_map, sofar_len h (by omega)]
  have h1 : ((xs.drop k).take 1).map (Value.int .u8) = [.int .u8 (xs.getD k 0)] := by
    rw [List.drop_eq_getElem_cons (by omega), List.getD_eq_getElem?_getD, List.getElem?_eq_getElem (by omega)]; rfl
  rw [sofar_step h (by omega), h1]
  unfold splice
  rw [List.set_eq_take_append_cons_drop, if_pos (by omega)]
  rfl
def decM (xs : List Int) : List Int := if xs.length = 512 then xs else List.replicate 512 0
def decE (xs : List Int) : Int := if xs.length = 512 then 0 else 3
theorem decM_len (xs : List Int) : (decM xs).length = 512 := by unfold decM; split <;> simp_all
theorem decM_rng {xs : List Int} (h : ∀ x ∈ xs, 0 ≤ x ∧ x ≤ 255) : ∀ x ∈ decM xs, 0 ≤ x ∧ x ≤ 255 := fun x hx => by
  unfold decM at hx
  split at hx
  · exact h x hx
  · have := (List.mem_replicate.1 hx).2; omega
end Go.Proofs.YthbldjnpnligpaaDoor

/-
  Manifests that came in.
-/

namespace Go.Proofs.YthbldjnpnligpaaDoor
set_option linter.unusedSimpArgs false
set_option linter.unusedVariables false
set_option maxRecDepth 100000
open Go.RowKit Go.ChangeShapes Go.WideShapes

section
variable {H : Type} {enc : TypeId × Value → H} {W : World} {base : Nat}
theorem open_man {r : Reach} {b0 : Nat} {v : Value} {d : DataW H} {p : List MemPlace} {held : Bool} (hv : Value.okWide Tryd.prog W r b0 89 v) (h : DataW.Trod enc Tryd.prog W base (fun _ => true) held 89 v d p) :
    ∃ M : List Int, v = .agg (mV M).toArray ∧ M.length = 512 ∧ ∀ x ∈ M, 0 ≤ x ∧ x ≤ 255 := by
  have hagg : ∃ cs, v = .agg cs := by
    simp only [Value.okWide, Tryd.underlying89] at hv
    obtain ⟨cs, h1, _⟩ := hv
    exact ⟨cs, h1⟩
  obtain ⟨cs, rfl⟩ := hagg
  obtain ⟨fuel, hf⟩ := h
  have hP : Tryd.prog.cellsOf 39 = 32 := by kernel_rfl
  have hF : Tryd.prog.cellsOf 89 = 512 := by kernel_rfl
  cases fuel with
  | zero => simp [DataW.trod] at hf
  | succ fuel =>
    simp only [DataW.trod, Tryd.underlying89, hP, hF] at hf
    split at hf
    · rename_i hl
      obtain ⟨xs, hm, hx⟩ := Option.map_eq_some_iff.1 hf
      have each : ∀ j, j < 512 → ∃ z, cs.toList[j]? = some (.int .u8 z) ∧ 0 ≤ z ∧ z ≤ 255 := fun j hj => by
        obtain ⟨b, hb, hf⟩ := Lib.mapM_at hm (j / 32) (j / 32) (List.getElem?_range (show j / 32 < 16 by omega))
        obtain ⟨zs, h1, h2, h3⟩ := open_array Tryd.underlying39 Tryd.underlying5 (by kernel_rfl) (by kernel_rfl) hf
        have h4 : ((cs.toList.drop (j / 32 * 32)).take 32)[j % 32]? = (zs.map (Value.int .u8))[j % 32]? := congrArg (fun l => l[j % 32]?) h1
        have h5 : j % 32 < zs.length := by rw [h2]; omega
        rw [List.getElem?_take, if_pos (show j % 32 < 32 by omega), List.getElem?_drop, show j / 32 * 32 + j % 32 = j by omega, List.getElem?_map, List.getElem?_eq_getElem h5] at h4
        exact ⟨zs[j % 32], h4, wf_u8 (h3 _ (List.getElem_mem h5))⟩
      have hlen : cs.toList.length = 512 := by simpa [Value.cells] using hl
      have he : cs.toList = mV ((List.range 512).map (fun j => intAt cs.toList[j]?)) := by
        apply List.ext_getElem?
        intro i
        by_cases hi : i < 512
        · obtain ⟨z, hz, _⟩ := each i hi
          rw [hz]
          unfold mV
          rw [List.getElem?_map, List.getElem?_map, List.getElem?_range hi]
          simp only [Option.map_some, hz, intAt]
        · rw [List.getElem?_eq_none (by omega), List.getElem?_eq_none (by simp [mV]; omega)]
      refine ⟨(List.range 512).map (fun j => intAt cs.toList[j]?), by rw [← he], by simp, fun x hx => ?_⟩
      obtain ⟨i, hi, rfl⟩ := List.mem_map.1 hx
      obtain ⟨y, hy, hw⟩ := each i (by simpa using hi)
      rw [hy]
      exact hw
    · cases hf
end
end Go.Proofs.YthbldjnpnligpaaDoor
