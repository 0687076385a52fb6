/-
  Lists of pointers of a law's own.
-/
import Derived.Test.YtcfjkkjjcljaoaaDoorG33
import Derived.Test.YtcfjkkjjcljaoaaDoorG32
import Derived.Test.YtcfjkkjjcljaoaaDoorG07
import Derived.Deep.AppendLies
namespace Go.Proofs.YtcfjkkjjcljaoaaDoor
set_option linter.unusedSimpArgs false
set_option linter.unusedVariables false
set_option maxRecDepth 100000
open Go.RowKit

instance : Inhabited Pt := ⟨Pt.zero⟩
def ptrsV (ps : List Pt) : List Value := ps.flatMap Pt.vs
def Plist (base : Nat) (w : World) (v : Value) (ps : List Pt) : Prop := (∀ p ∈ ps, p.ok) ∧ w.ownsRow base 42 35 v ps.length (ptrsV ps)
/-- The list's block. -/
def rowOf (v : Value) : Nat → Prop := fun j => v.ownBlock = some j

theorem ptrsV_len : ∀ {ps : List Pt}, (∀ p ∈ ps, p.ok) → (ptrsV ps).length = 35 * ps.length
  | [], _ => rfl
  | p :: ps, h => by
    have ih := ptrsV_len (ps := ps) (fun q hq => h q (List.mem_cons_of_mem _ hq))
    have h1 := Pt.vs_len (h p List.mem_cons_self)
    show (p.vs ++ ptrsV ps).length = _
    rw [List.length_append, ih, h1, List.length_cons]; omega
theorem ptrsV_more (ps : List Pt) (p : Pt) : ptrsV (ps ++ [p]) = ptrsV ps ++ p.vs := by unfold ptrsV; rw [List.flatMap_append]; simp
theorem ptrsV_at : ∀ {ps : List Pt}, (∀ p ∈ ps, p.ok) → ∀ i, i < ps.length → ∀ j, j < 35 → (ptrsV ps)[i * 35 + j]? = (ps.getD i default).vs[j]?
  | [], _, i, hi, _, _ => by simp at hi
  | p :: ps, h, i, hi, j, hj => by
    have h1 := Pt.vs_len (h p List.mem_cons_self)
    show (p.vs ++ ptrsV ps)[i * 35 + j]? = _
    cases i with
    | zero => rw [Nat.zero_mul, Nat.zero_add, List.getElem?_append_left (by omega)]; rfl
    | succ i =>
      rw [List.getElem?_append_right (by omega), h1, show (i + 1) * 35 + j - 35 = i * 35 + j by omega]
      exact ptrsV_at (fun q hq => h q (List.mem_cons_of_mem _ hq)) i (by simpa using hi) j hj

section
variable {base : Nat} {w w' w0 : World} {v : Value} {ps : List Pt}
theorem Plist.form (h : Plist base w v ps) : ∃ a c, v = .slice a ps.length c := by
  rcases h.2.2 with ⟨rfl, h0⟩ | ⟨g, cap, cur, rfl, _⟩
  · exact ⟨none, 0, by rw [h0]⟩
  · exact ⟨_, _, rfl⟩
theorem Plist.lt (h : Plist base w v ps) {j : Nat} (hj : rowOf v j) : base ≤ j ∧ j < w.heap.size := World.ownsRow.lt h.2 j hj
theorem Plist.keep (h : Plist base w v ps) (hk : ∀ j, rowOf v j → w'.heap[j]? = w.heap[j]?) : Plist base w' v ps := by
  obtain ⟨h0, h1, h2⟩ := h
  refine ⟨h0, h1, ?_⟩
  rcases h2 with h2 | ⟨g, cap, cur, rfl, hb, hh, rest⟩
  · exact .inl h2
  · exact .inr ⟨g, cap, cur, rfl, hb, by rw [hk g rfl]; exact hh, rest⟩
theorem Plist.stays (h : Plist base w v ps) (hb : Below w.heap.size w w') : Plist base w' v ps := h.keep fun j hj => hb.block j (h.lt hj).2
theorem Plist.stay {M : Nat → Prop} (h : Plist base w v ps) (hy : Stay M w w') (hM : ∀ j, rowOf v j → M j) : Plist base w' v ps := h.keep fun j hj => hy.block j (hM j hj) (h.lt hj).2
theorem Plist.but {m : Nat} (h : Plist base w v ps) (hb : But m w w') (hm : ¬ rowOf v m) : Plist base w' v ps := h.keep fun j hj => hb.block j (fun e => hm (e ▸ hj)) (h.lt hj).2
theorem Plist.at (h : Plist base w v ps) {i : Nat} (hi : i < ps.length) : ∃ b c, v = .slice (some ⟨b, 0, none⟩) ps.length c ∧ rowOf v b ∧ (∀ j, j < 35 → w.cell? ⟨b, i * 35 + j, none⟩ = (ps.getD i default).vs[j]?) ∧ (ps.getD i default).ok := by
  obtain ⟨h0, h1⟩ := h
  have h1' := h1
  rcases h1.2 with ⟨_, h2⟩ | ⟨g, cap, cur, rfl, _⟩
  · omega
  · refine ⟨g, cap, rfl, rfl, fun j hj => ?_, ?_⟩
    · rw [h1'.cellAt (i * 35 + j) (by have := Nat.mul_le_mul_right 35 (show i + 1 ≤ ps.length from hi); omega)]
      exact ptrsV_at h0 i hi j hj
    · exact h0 _ (by simp [List.getD, hi])
theorem index_ptrs (b n c i : Nat) (hi : i < n) (u : World) : (Instr.indexAt 38 (.slice (some ⟨b, 0, none⟩) n c) (.int .i64 (i : Int))).run Tryd.prog u = .ok (.pointer (some ⟨b, i * 35, none⟩)) u := by
  have := index_slice (P := Tryd.prog) 38 42 35 Tryd.underlying38 (by kernel_rfl) (by kernel_rfl) b 0 n c .i64 i hi u
  simpa using this

theorem run_nop (w : World) : (Instr.buildSlice 38 0 #[]).run Tryd.prog w = .ok (.slice (some ⟨w.heap.size, 0, none⟩) 0 0) (w.alloc (.cells #[] 42)) := by kernel_rfl
/-- A slice of no pointers. -/
theorem wpList_nop {ops : Array Oper} {rest : List Oper} {o : Oper} {a : Act} {Q : Exit → Act → World → Prop} (hgd : o.guard = none) (ho : o.op = Op.buildSlice 38 0 #[]) (d : Option Tmp) (hd : o.dst = d)
    (h : ∀ w' b, w.heap.size = b → Plist b w' (.slice (some ⟨b, 0, none⟩) 0 0) [] → Below w.heap.size w w' → wpList Tryd.prog ops Q rest (a.put d (.slice (some ⟨b, 0, none⟩) 0 0)) w') : wpList Tryd.prog ops Q (o :: rest) a w := by
  subst hd
  refine wpList_plain hgd fun K hK => ?_
  have e : (#[] : Array (Nat × Operand)).map (fun (i, x) => (i, a.eval x)) = #[] := by simp
  unfold Oper.wp execOp
  simp only [ho, Sem.run_bind, Sem.run_pure, Result.andThen_ok, e, run_nop]
  exact hK _ _ (h _ _ rfl ⟨fun p hp => (by cases hp), World.ownsRow_made w #[] 0 (Nat.le_refl _) (by decide) (by simp)⟩ ((Below.refl _ _).alloc (Nat.le_refl _) _))
theorem run_onep (p : Pt) (hp : p.ok) (w : World) : (Instr.buildSlice 38 1 [(0, Value.agg p.vs.toArray)].toArray).run Tryd.prog w = .ok (.slice (some ⟨w.heap.size, 0, none⟩) 1 1) (w.alloc (.cells p.vs.toArray 42)) := by
  obtain ⟨h, b, x, y⟩ := p
  have hl : h.length = 32 := hp.len
  clear hp
  match h, hl with
  | [x0, x1, x2, x3, x4, x5, x6, x7, x8, x9, x10, x11, x12, x13, x14, x15, x16, x17, x18, x19, x20, x21, x22, x23, x24, x25, x26, x27, x28, x29, x30, x31], _ => show _ = _; kernel_rfl
/-- A slice of one pointer. -/
theorem wpList_onep {ops : Array Oper} {rest : List Oper} {o : Oper} {a : Act} {Q : Exit → Act → World → Prop} (hgd : o.guard = none) (x : Operand) (ho : o.op = Op.buildSlice 38 1 [(0, x)].toArray) (d : Option Tmp) (hd : o.dst = d) (vs : List Value) (hx : a.eval x = .agg vs.toArray)
    (hr : ∀ w : World, (Instr.buildSlice 38 1 [(0, Value.agg vs.toArray)].toArray).run Tryd.prog w = .ok (.slice (some ⟨w.heap.size, 0, none⟩) 1 1) (w.alloc (.cells vs.toArray 42)))
    (h : ∀ w' b, w.heap.size = b → Blk 42 w' b vs → Below w.heap.size w w' → w'.heap.size = w.heap.size + 1 → wpList Tryd.prog ops Q rest (a.put d (.slice (some ⟨b, 0, none⟩) 1 1)) w') : wpList Tryd.prog ops Q (o :: rest) a w := by
  subst hd
  refine wpList_plain hgd fun K hK => ?_
  have e : [(0, x)].toArray.map (fun (i, x) => (i, a.eval x)) = [(0, Value.agg vs.toArray)].toArray := by simp [hx]
  unfold Oper.wp execOp
  simp only [ho, Sem.run_bind, Sem.run_pure, Result.andThen_ok, e, hr]
  exact hK _ _ (h _ _ rfl (Blk.newAt rfl rfl) ((Below.refl _ _).alloc (Nat.le_refl _) _) (by simp))

/-- append(l, p). -/
theorem wpList_append_ptr {ops : Array Oper} {rest : List Oper} {o : Oper} {a : Act} {Q : Exit → Act → World → Prop} (hgd : o.guard = none) (s x : Operand)
    (ho : o.op = .call { callee := .builtin .append, args := #[s, x], argTypes := #[38, 38] })
    (base : Nat) (v : Value) (ps : List Pt) (hs : a.eval s = v) (hown : Plist base w v ps) (b : Nat) (p : Pt) (hp : p.ok) (hx : a.eval x = .slice (some ⟨b, 0, none⟩) 1 1) (hb : Blk 42 w b p.vs) (hlen : ps.length ≤ 1000000) (hbase : base ≤ w.heap.size)
    (h : ∀ v' w', Plist base w' v' (ps ++ [p]) → w.grownBy w' v.ownBlock → (∀ j, rowOf v' j → rowOf v j ∨ (w.heap.size ≤ j ∧ j < w'.heap.size)) → wpList Tryd.prog ops Q rest (a.put o.dst v') w') : wpList Tryd.prog ops Q (o :: rest) a w := by
  have hi : (Tryd.prog.info? 42).map (fun i => (i.zero, i.size, i.bytes)) = some (some (.agg Pt.zero.vs.toArray), 35, 44) := by kernel_rfl
  obtain ⟨i0, hi0, hz0, hz1, hz2⟩ := info_parts hi
  have hvl := Pt.vs_len hp
  refine wpList_append_lies _ hgd s x 38 ho base 42 i0 (.agg Pt.zero.vs.toArray) 35 44 Tryd.underlying38 hi0 hz0 hz1 hz2 rfl (by decide) v ps.length (ptrsV ps) hs hown.2 ⟨b, 0, none⟩ 1 1 p.vs hx hvl (fun j u hj => ?_) (Pt.vs_one p) (by omega) (by unfold maxLen; omega) (by omega) hbase _ rfl fun g cap w' h1 h2 h4 h5 => ?_
  · have hadd : (⟨b, 0, none⟩ : Addr).add j = ⟨b, j, none⟩ := by unfold Addr.add; split <;> simp_all
    rw [hadd, hb.cell j, hj]
  · refine h _ w' ⟨fun q hq => ?_, ?_⟩ h2 (fun j hj => ?_)
    · rcases List.mem_append.1 hq with h3 | h3
      · exact hown.1 q h3
      · simp only [List.mem_singleton] at h3; rw [h3]; exact hp
    · rw [ptrsV_more, List.length_append]; exact h1
    · obtain rfl : g = j := by simpa [rowOf, Value.ownBlock] using hj
      rcases h4 with h4 | h4
      · exact .inl h4
      · exact .inr ⟨by omega, h5⟩

variable {M : Nat → Prop} {k p g : Nat} {S : DS} {l : List Bool} {t : Nat}
/-- A list that is held beside grows. -/
theorem BS.grown {row : Option Nat} (h : BS w0 w M k p g S l t) (hg : w.grownBy w' row) (hM : ∀ j, row = some j → M j ∧ w0.heap.size ≤ j) {N : Nat → Prop} (hN : ∀ j, N j → M j ∨ (w.heap.size ≤ j ∧ j < w'.heap.size)) : BS w0 w' N k p g S l t := by
  obtain ⟨F, h1, h2, h3⟩ := h
  have hkeep : ∀ j, ¬ M j → j < w.heap.size → w'.heap[j]? = w.heap[j]? := fun j hn hl => hg.block j hl (fun e => hn (hM j e.symm).1)
  refine ⟨F, ⟨h1.dk.keep (fun j hj hl => hkeep j (fun hm => (h3 j hm).1 hj) hl), ⟨?_, h1.mp.lo, h1.mp.hi⟩, ?_, fun j hj => ⟨(h1.low j hj).1, Nat.lt_of_lt_of_le (h1.low j hj).2 hg.size⟩, h1.fg, h1.fk, h1.lg, h1.lk, h1.sz, h1.lab, h1.tt⟩, h2.grown hg h2.size (fun j hj => (hM j hj).2), fun j hj => ?_⟩
  · have hl := h1.mp.blk.lt
    have hb := h1.mp.blk
    unfold Blk at *
    rw [hkeep g (fun hm => (h3 g hm).2.1 rfl) hl]; exact hb
  · have hl := h1.bb.lt
    have hb := h1.bb
    unfold Blk at *
    rw [hkeep k (fun hm => (h3 k hm).2.2.1 rfl) hl]; exact hb
  · rcases hN j hj with h4 | h4
    · exact ⟨(h3 j h4).1, (h3 j h4).2.1, (h3 j h4).2.2.1, Nat.lt_of_lt_of_le (h3 j h4).2.2.2 hg.size⟩
    · refine ⟨fun hf => ?_, fun e => ?_, fun e => ?_, h4.2⟩
      · have := (h1.low j hf).2; omega
      · have := h1.mp.blk.lt; omega
      · have := h1.bb.lt; omega
end

end Go.Proofs.YtcfjkkjjcljaoaaDoor

/-
  What BankFull finds, as plain data; no function here.
-/

namespace Go.Proofs.YtcfjkkjjcljaoaaDoor
set_option linter.unusedSimpArgs false
set_option linter.unusedVariables false
set_option maxRecDepth 100000
open Go.RowKit

theorem lab_below (n k j : Nat) (hj : j < n) : (lab n k).getD j false = decide (j < k) := by rw [lab_at]; simp [hj]
theorem Fr_lab0 (n k : Nat) (hk : k ≤ n) : ∀ i, i ≤ k → Fr (lab n k) i = []
  | 0, _ => rfl
  | i + 1, h => by rw [Fr_used _ i (by rw [lab_below _ _ _ (by omega)]; simp; omega)]; exact Fr_lab0 n k hk i (by omega)
theorem Fr_lab (n k : Nat) (hk : k ≤ n) : ∀ d, k + d ≤ n → Fr (lab n k) (k + d) = (List.range d).map (k + ·)
  | 0, _ => by rw [Nat.add_zero, Fr_lab0 n k hk k (Nat.le_refl _)]; rfl
  | d + 1, h => by
    rw [← Nat.add_assoc, Fr_free _ (k + d) (by rw [lab_below _ _ _ (by omega)]; simp), Fr_lab n k hk d (by omega), List.range_succ, List.map_append]
    rfl
theorem free_lab (n k : Nat) (hk : k ≤ n) : freeN (lab n k) = n - k := by
  rw [← Fr_all, lab_len]
  have h := Fr_lab n k hk (n - k) (by omega)
  rw [show k + (n - k) = n by omega] at h
  rw [h]; simp
theorem take_lab (n k : Nat) (hk : k ≤ n) (m : Nat) (hm : k + m ≤ n) : (Fr (lab n k) n).take m = (List.range m).map (k + ·) := by
  have h := Fr_take (lab n k) (k + m) (by rw [lab_len]; exact hm) m (by rw [Fr_lab n k hk m hm]; simp)
  rw [lab_len] at h
  rw [← h, Fr_lab n k hk m hm]
/-- The sectors that a block takes. -/
def secs (k c : Nat) : List Nat := (List.range c).map (k + ·)
theorem takeL_lab (n k c : Nat) (hc : c = 1 ∨ c = 2) (hk : k + c ≤ n) : takeL (lab n k) (c : Int) = (lab n (k + c), secs k c, 0) := by
  have h1 := take_lab n k (by omega) c hk
  unfold takeL
  rw [if_neg (by omega), if_neg (by rw [free_lab n k (by omega)]; omega), lab_len]
  simp only [Int.toNat_natCast]
  rw [h1]
  rcases hc with rfl | rfl
  · show (setAll (lab n k) [k + 0], [k + 0], 0) = (_, [k + 0], 0)
    show ((lab n k).set (k + 0) true, _, _) = _
    rw [Nat.add_zero, lab_next n k (by omega)]
  · show (setAll (lab n k) [k + 0, k + 1], [k + 0, k + 1], 0) = (_, [k + 0, k + 1], 0)
    show (((lab n k).set (k + 0) true).set (k + 1) true, _, _) = _
    rw [Nat.add_zero, lab_next n k (by omega), lab_next n (k + 1) (by omega)]
theorem takeL_none (n k c : Nat) (hc : c = 1 ∨ c = 2) (hk : k ≤ n) (hf : n < k + c) : (takeL (lab n k) (c : Int)).2.2 = 7 := by
  unfold takeL
  rw [if_neg (by omega), if_pos (by rw [free_lab n k hk]; omega)]

/-- The block number i of BankFull. -/
def ownB (b : List Int) (i : Nat) : List Int := (((i % 256 : Nat) : Int) :: b)
def blkB (b : List Int) (i : Nat) : List Int := wholeL (ownB b i)
theorem ownB_rng {b : List Int} (h : ∀ x ∈ b, 0 ≤ x ∧ x ≤ 255) (i : Nat) : ∀ x ∈ ownB b i, 0 ≤ x ∧ x ≤ 255 := by
  intro x hx
  rcases List.mem_cons.1 hx with rfl | h1
  · omega
  · exact h x h1
theorem blkB_len {b : List Int} (h : b.length ≤ 200) (i : Nat) : (blkB b i).length = 256 := wholeL_len (by simp [ownB]; omega)
theorem blkB_rng {b : List Int} (h : ∀ x ∈ b, 0 ≤ x ∧ x ≤ 255) (i : Nat) : ∀ x ∈ blkB b i, 0 ≤ x ∧ x ≤ 255 := wholeL_rng (ownB_rng h i) _
/-- The pointer to it. -/
def ptrB (b : List Int) (c i : Nat) : Pt := ⟨shaOf (blkB b i), 7, 4 + c * i, if c = 2 then 4 + c * i + 1 else 0⟩
theorem ptrB_ok {b : List Int} {c i : Nat} (hc : c = 1 ∨ c = 2) (hi : i ≤ 100) : (ptrB b c i).ok := by
  refine ⟨shaOf_length _, shaOf_rng _, by show (7 : Nat) < _; omega, ?_, ?_⟩
  · show 4 + c * i < _
    rcases hc with rfl | rfl <;> omega
  · show (if c = 2 then 4 + c * i + 1 else 0) < _
    rcases hc with rfl | rfl
    · rw [if_neg (by omega)]; omega
    · rw [if_pos rfl]; omega
/-- Behind i blocks. -/
structure FullAt (n c : Nat) (b : List Int) (i : Nat) (S : DS) : Prop where
  live : Live S n
  len : S.ws.length ≤ 2 * i
  read : ∀ j, j < i → readW S.laid S.ws (4 + c * j) = blkB b j
theorem full_start {n c : Nat} {b : List Int} (h1 : 16 ≤ n) (h2 : n ≤ 512) : FullAt n c b 0 (DS.new n) := ⟨Live.new h1 h2, by simp [DS.new], fun j hj => by omega⟩
theorem full_put {n c : Nat} {b : List Int} {i : Nat} {S : DS} (h : FullAt n c b i S) (hc : c = 1 ∨ c = 2) (hb : b.length ≤ 200) (hr : ∀ x ∈ b, 0 ≤ x ∧ x ≤ 255) (hk : 4 + c * i + c ≤ n) :
    ∃ S', putK S (lab n (4 + c * i)) 7 (blkB b i) (c : Int) = ((S', lab n (4 + c * (i + 1))), ptrB b c i, 0) ∧ FullAt n c b (i + 1) S' := by
  have hl := blkB_len hb i
  have hrg := blkB_rng hr i
  have ht := takeL_lab n (4 + c * i) c hc hk
  have hoff := h.live.off
  have hnx : 4 + c * i + c = 4 + c * (i + 1) := by rw [Nat.mul_succ]; omega
  rcases hc with rfl | rfl
  · obtain ⟨a1, a2, a3⟩ := h.live.write (x := 4 + 1 * i) (by omega) hl hrg
    refine ⟨(S.write ((4 + 1 * i : Nat) : Int) (blkB b i)).1, ?_, a2, by rw [a3]; simp; have := h.len; omega, fun j hj => ?_⟩
    · unfold putK
      have hw : wrK (blkB b i) S [4 + 1 * i + 0] = ((S.write ((4 + 1 * i : Nat) : Int) (blkB b i)).1, 0) := by
        simp only [wrK, Nat.add_zero]; rw [if_pos a1]
      rw [hoff, if_neg (by decide), if_neg (by omega), ht, if_neg (by simp)]
      have hse : secs (4 + 1 * i) 1 = [4 + 1 * i + 0] := rfl
      simp only [hse]
      rw [hw, if_neg (by simp), ← hnx]
      unfold ptrB
      rw [if_neg (by omega)]
      rfl
    · by_cases e : j = i
      · subst e; rw [readW_write a1, if_pos rfl]
      · rw [readW_write_ne _ _ (show 4 + 1 * i ≠ 4 + 1 * j by omega)]; exact h.read j (by omega)
  · obtain ⟨a1, a2, a3⟩ := h.live.write (x := 4 + 2 * i) (by omega) hl hrg
    obtain ⟨b1, b2, b3⟩ := a2.write (x := 4 + 2 * i + 1) (by omega) hl hrg
    refine ⟨((S.write ((4 + 2 * i : Nat) : Int) (blkB b i)).1.write ((4 + 2 * i + 1 : Nat) : Int) (blkB b i)).1, ?_, b2, by rw [b3, a3]; simp; have := h.len; omega, fun j hj => ?_⟩
    · unfold putK
      have hw : wrK (blkB b i) S [4 + 2 * i + 0, 4 + 2 * i + 1] = (((S.write ((4 + 2 * i : Nat) : Int) (blkB b i)).1.write ((4 + 2 * i + 1 : Nat) : Int) (blkB b i)).1, 0) := by
        simp only [wrK, Nat.add_zero]; rw [if_pos a1, if_pos b1]
      rw [hoff, if_neg (by decide), if_neg (by omega), ht, if_neg (by simp)]
      have hse : secs (4 + 2 * i) 2 = [4 + 2 * i + 0, 4 + 2 * i + 1] := rfl
      simp only [hse]
      rw [hw, if_neg (by simp), ← hnx]
      unfold ptrB
      rw [if_pos rfl]
      rfl
    · rw [readW_write_ne _ _ (show 4 + 2 * i + 1 ≠ 4 + 2 * j by omega)]
      by_cases e : j = i
      · subst e; rw [readW_write a1, if_pos rfl]
      · rw [readW_write_ne _ _ (show 4 + 2 * i ≠ 4 + 2 * j by omega)]; exact h.read j (by omega)
theorem full_none {n c : Nat} {b : List Int} {i m : Nat} {S : DS} (h : FullAt n c b i S) (hc : c = 1 ∨ c = 2) (hb : b.length ≤ 200) (hk : 4 + c * i ≤ n) (hf : n < 4 + c * i + c) : putK S (lab n (4 + c * i)) 7 (blkB b m) (c : Int) = ((S, lab n (4 + c * i)), Pt.zero, 7) := by
  have hl := blkB_len hb m
  have ht := takeL_none n (4 + c * i) c hc hk hf
  unfold putK
  rw [h.live.off, if_neg (by decide), if_neg (by omega), if_pos (by rw [ht]; simp), ht]
  rfl
theorem full_read {n c : Nat} {b : List Int} {i j : Nat} {S : DS} (h : FullAt n c b i S) (hc : c = 1 ∨ c = 2) (hj : j < i) (hk : 4 + c * i ≤ n) : readK S (ptrB b c j) = (blkB b j, 0) := by
  have hx : (ptrB b c j).x = 4 + c * j := rfl
  have hlt : 4 + c * j < n := by
    have : c * (j + 1) ≤ c * i := Nat.mul_le_mul_left c hj
    rw [Nat.mul_succ] at this
    omega
  have hm : (ptrB b c j).may = true := by
    unfold Pt.may
    rw [hx, if_neg (by omega)]
    show (!((if c = 2 then 4 + c * j + 1 else 0) == 4 + c * j)) = true
    rcases hc with rfl | rfl
    · rw [if_neg (by omega)]; simp; omega
    · rw [if_pos rfl]; simp
  have hh : (ptrB b c j).hole = false := by
    unfold Pt.hole
    refine Pt.same_not (fun e => ?_)
    have := congrArg Pt.x e
    rw [hx] at this
    simp [Pt.zero] at this
  have hr : rightL S (ptrB b c j).x (ptrB b c j).h = true := by
    unfold rightL
    rw [hx, h.live.ok.secs, h.read j hj]
    simp [hlt]
    rfl
  unfold readK
  rw [okK_live h.live hm, if_neg (by simp), hh, if_neg (by simp), if_pos hr, hx, h.read j hj]

end Go.Proofs.YtcfjkkjjcljaoaaDoor

/-
  The walks over ptr.Node and ptr.IsEmpty.
-/

namespace Go.Proofs.YtcfjkkjjcljaoaaDoor
set_option linter.unusedSimpArgs false
set_option linter.unusedVariables false
set_option maxRecDepth 100000
open Go.RowKit

/-- Pointers as they are written, one behind the other. -/
def encs : List Pt → List Int
  | [] => []
  | p :: l => p.enc ++ encs l

theorem encs_append (l m : List Pt) : encs (l ++ m) = encs l ++ encs m := by
  induction l with
  | nil => rfl
  | cons p l ih => simp [encs, ih]
theorem encs_len : ∀ {l : List Pt}, (∀ p ∈ l, p.ok) → (encs l).length = 44 * l.length
  | [], _ => rfl
  | p :: l, h => by rw [encs, List.length_append, Pt.enc_len (h p (by simp)), encs_len (fun q hq => h q (by simp [hq])), List.length_cons]; omega
theorem encs_rng : ∀ {l : List Pt}, (∀ p ∈ l, p.ok) → ∀ z ∈ encs l, 0 ≤ z ∧ z ≤ 255
  | [], _, z, hz => by simp [encs] at hz
  | p :: l, h, z, hz => by
    rcases List.mem_append.1 hz with hz | hz
    · exact Pt.enc_rng (h p (by simp)) z hz
    · exact encs_rng (fun q hq => h q (by simp [hq])) z hz

/-- A node as it is written. -/
def nodeL (l : List Pt) : List Int := encs l ++ List.replicate 80 0
theorem nodeL_len {l : List Pt} (h : ∀ p ∈ l, p.ok) (h4 : l.length = 4) : (nodeL l).length = 256 := by simp [nodeL, encs_len h, h4]
theorem nodeL_rng {l : List Pt} (h : ∀ p ∈ l, p.ok) : ∀ z ∈ nodeL l, 0 ≤ z ∧ z ≤ 255 := by
  intro z hz
  rcases List.mem_append.1 hz with hz | hz
  · exact encs_rng h z hz
  · rw [List.mem_replicate] at hz; omega

def nth (l : List Pt) (k : Nat) : Pt := l.getD k Pt.zero
theorem nth_ok {l : List Pt} (hl : ∀ p ∈ l, p.ok) (i : Nat) : (nth l i).ok := by
  unfold nth
  rw [List.getD_eq_getElem?_getD]
  cases h : l[i]? with
  | none => exact Pt.zero_ok
  | some p => exact hl p (List.mem_of_getElem? h)
theorem take_nth {l : List Pt} {k : Nat} (hk : k < l.length) : l.take (k + 1) = l.take k ++ [nth l k] := by
  unfold nth
  rw [List.take_succ_eq_append_getElem hk, List.getD_eq_getElem?_getD, List.getElem?_eq_getElem hk]; rfl
theorem four_part {l : List Pt} (hl : ∀ p ∈ l, p.ok) {k : Nat} (hk : k < l.length) : (nth l k).vs = ((fourV l).drop (k * 35)).take 35 := by
  rw [← fourV_part hl k hk]; unfold nth
  rw [List.getD_eq_getElem?_getD, List.getElem?_eq_getElem hk]; rfl

/-- One of the four, out of the value. -/
theorem index_part {P : Program} {t e : TypeId} {n m : Nat} {cs us : List Value} {K : IntKind} {j : Nat} (ht : P.underlying t = some (.array n e)) (hA : ∀ w, (isAgg e).run P w = .ok true w) (hs : (P.info? e).map (·.size) = some m) (hj : j < n) (hx : us = (cs.drop (j * m)).take m) (w : World) :
    (Instr.index t (.agg cs.toArray) (.int K (j : Int))).run P w = .ok (.agg us.toArray) w := by
  have hz := sizeOf_run hs w
  have hp := part_agg (P := P) (w := w) (t := e) (off := j * m) hA (sizeOf_run hs) hx
  have hb : (0 : Int) ≤ (j : Int) ∧ (j : Int) < (n : Int) := by omega
  simp [Instr.index, asIntOf, run_underlying ht, hz, hb, hp, Sem.run_bind]
  omega

theorem index_four {l : List Pt} (hl : ∀ p ∈ l, p.ok) (h4 : l.length = 4) {k : Nat} (hk : k < 4) (u : World) :
    (Instr.index 128 (.agg (fourV l).toArray) (.int .i64 (k : Int))).run Tryd.prog u = .ok (.agg (nth l k).vs.toArray) u :=
  index_part Tryd.underlying128 agg_ptr sizes26 hk (four_part hl (by omega)) u

set_option maxHeartbeats 1000000 in
set_option maxRecDepth 100000 in
theorem isEmpty_run (l : List Pt) (hl : ∀ p ∈ l, p.ok) (h4 : l.length = 4) (w : World) : Calls Tryd.prog 119 #[.agg (fourV l).toArray] w fun e w' => e = .returned (.bool (l.all Pt.hole)) ∧ Below w.heap.size w w' := by
  have hfl : (fourV l).length = 140 := by rw [fourV_len hl, h4]
  obtain ⟨fv, hfv⟩ : ∃ fv, fv = fourV l := ⟨_, rfl⟩
  have hix : ∀ k : Nat, k < 4 → ∀ u, (Instr.index 128 (.agg fv.toArray) (.int .i64 (k : Int))).run Tryd.prog u = .ok (.agg (nth l k).vs.toArray) u := fun k hk u => by rw [hfv]; exact index_four hl h4 hk u
  have HIX : Hid (∀ k : Nat, k < 4 → ∀ u, (Instr.index 128 (.agg fv.toArray) (.int .i64 (k : Int))).run Tryd.prog u = .ok (.agg (nth l k).vs.toArray) u) := hix
  have hzl : Pt.zero.vs.length = 35 := Pt.vs_len Pt.zero_ok
  rw [← hfv] at hfl ⊢
  clear hfv hix
  go_enter Tryd.func119, Tryd.ntmps119
  go_wp2_with (first
    | (refine wpList_box0 (by rfl) 128 (.tmp 0) (by rfl) fv (by rfl) ?_; intro w1 hF1 hb1 hs1)
    | (refine wpList_load_blk (by rfl) (.tmp 1) 128 (by rfl) _ 0 140 (by rfl) agg_four size_four hF1 _ (whole_load hfl) hfl ?_))
  go_loopw [6] (fun i wr => ∃ k : Nat, k ≤ 4 ∧ i = .int .i64 k ∧ Hid ((l.take k).all Pt.hole = true) ∧ Below w.heap.size w wr) (fun i _ => 4 - (intOf i).toNat)
  case atStart => exact ⟨0, by omega, rfl, rfl, hb1⟩
  case round =>
    rename_i hrel
    obtain ⟨k, hk, rfl, hall, hbr⟩ := hrel
    clear hF1 hb1 hs1
    have hsz := hbr.size
    by_cases hlt : k < 4
    · have hix := HIX.out k hlt
      obtain ⟨p, hp⟩ : ∃ p, p = nth l k := ⟨_, rfl⟩
      have hok : p.ok := hp ▸ nth_ok hl k
      have HT : Hid (l.take (k + 1) = l.take k ++ [p]) := by rw [hp]; exact take_nth (by omega)
      have hvl := Pt.vs_len hok
      have hh := isHole_run p hok
      rw [← hp] at hix
      clear hp
      cases hhv : p.hole
      · rw [hhv] at hh
        have HF : Hid (l.all Pt.hole = false) := by
          show _ = _
          have : l = l.take (k + 1) ++ l.drop (k + 1) := (List.take_append_drop _ _).symm
          rw [this, List.all_append, HT.out, List.all_append]
          simp [hhv]
        go_wp2_with (first
          | (refine wpList_alloc0 (by rfl) 42 (by rfl) (some 4) (by rfl) Pt.zero.vs alloc_ptr0 ?_; intro w3 hP3 hb3 hs3)
          | (refine wpList_store_blk (by rfl) (.tmp 4) (.tmp 8) 42 (by rfl) _ 0 35 (by rfl) _ (by rfl) size_ptr hP3 hvl (by omega) (Pt.vs_one _) _ (whole_store hzl) ?_
             intro w4 hP4 hbut4 hs4)
          | (refine wpList_load_blk (by rfl) (.tmp 4) 42 (by rfl) _ 0 35 (by rfl) agg_ptr size_ptr hP4 _ (whole_load hvl) hvl ?_)
          | (go_at_call 57; go_must (refine (hh _).mono ?_); rintro e w5 ⟨rfl, hb5⟩))
        go_ret
        refine ⟨by rw [HF.out]; rfl, ?_⟩
        exact ((hbr.trans (hb3.mono (by omega))).trans (hbut4.below (by omega) (by omega))).trans (hb5.mono (by omega))
      · rw [hhv] at hh
        go_wp2_with (first
          | (refine wpList_alloc0 (by rfl) 42 (by rfl) (some 4) (by rfl) Pt.zero.vs alloc_ptr0 ?_; intro w3 hP3 hb3 hs3)
          | (refine wpList_store_blk (by rfl) (.tmp 4) (.tmp 8) 42 (by rfl) _ 0 35 (by rfl) _ (by rfl) size_ptr hP3 hvl (by omega) (Pt.vs_one _) _ (whole_store hzl) ?_
             intro w4 hP4 hbut4 hs4)
          | (refine wpList_load_blk (by rfl) (.tmp 4) 42 (by rfl) _ 0 35 (by rfl) agg_ptr size_ptr hP4 _ (whole_load hvl) hvl ?_)
          | (go_at_call 57; go_must (refine (hh _).mono ?_); rintro e w5 ⟨rfl, hb5⟩))
        go_roundw
        case rel => exact ⟨k + 1, by omega, by go_num, by show _ = _; rw [HT.out, List.all_append, hall.out]; simp [hhv], ((hbr.trans (hb3.mono (by omega))).trans (hbut4.below (by omega) (by omega))).trans (hb5.mono (by omega))⟩
        case measure => simp [intOf]; omega
    · have HF : Hid (l.all Pt.hole = true) := by
        have := hall.out
        rw [List.take_of_length_le (by omega)] at this
        exact this
      go_wp2
      go_ret
      exact ⟨by rw [HF.out]; rfl, hbr⟩
/-- What of a node is laid so far. -/
theorem node_step {l : List Pt} (hl : ∀ p ∈ l, p.ok) {k : Nat} (hk : k < l.length) : encs (l.take (k + 1)) = encs (l.take k) ++ (nth l k).enc := by
  rw [take_nth hk, encs_append]; simp [encs]
theorem encs_take_len {l : List Pt} (hl : ∀ p ∈ l, p.ok) {k : Nat} (hk : k ≤ l.length) : (encs (l.take k)).length = 44 * k := by
  rw [encs_len (fun p hp => hl p (List.mem_of_mem_take hp)), List.length_take, Nat.min_eq_left hk]

set_option maxHeartbeats 1000000 in
set_option maxRecDepth 100000 in
theorem node_new (l : List Pt) (hl : ∀ p ∈ l, p.ok) (h4 : l.length = 4) (w : World) : Calls Tryd.prog 120 #[.agg (fourV l).toArray] w fun e w' => ∃ a c, e = .returned (.slice a 256 c) ∧ Bs w' a c (nodeL l) ∧ Below w.heap.size w w' ∧ ∀ x, a = some x → w.heap.size ≤ x.block := by
  obtain ⟨i0, hi, hz0, hz1, hz2⟩ := info_parts Tryd.info5
  have hfl : (fourV l).length = 140 := by rw [fourV_len hl, h4]
  obtain ⟨fv, hfv⟩ : ∃ fv, fv = fourV l := ⟨_, rfl⟩
  have HIX : Hid (∀ k : Nat, k < 4 → ∀ u, (Instr.index 128 (.agg fv.toArray) (.int .i64 (k : Int))).run Tryd.prog u = .ok (.agg (nth l k).vs.toArray) u) := fun k hk u => by rw [hfv]; exact index_four hl h4 hk u
  have hzl : Pt.zero.vs.length = 35 := Pt.vs_len Pt.zero_ok
  have hz4 : ((List.replicate 44 (0 : Int)).map (Value.int .u8)).length = 44 := rfl
  have HB : Hid (Bs w none 0 []) := Bs.empty w
  rw [← hfv] at hfl ⊢
  clear hfv
  go_enter Tryd.func120, Tryd.ntmps120
  go_wp2_with (first
    | (refine wpList_box0 (by rfl) 128 (.tmp 0) (by rfl) fv (by rfl) ?_; intro w1 hF1 hb1 hs1)
    | (at_make; go_must (refine wpList_make_bytes (w0 := w1) (by rfl) _ _ 43 (by rfl) w1.heap.size 5 i0 Tryd.underlying43 hi hz0 hz1 hz2 _ _ _ _ 256 (by rfl) (by rfl) (by omega) (by omega) (by omega) (Nat.le_refl _) (Below.refl _ _) ?_); intro w2 hO2 hb2; rw [hs1] at hO2; have hF2 := hF1.stays hb2; have hW2 := below_then hb1 hb2)
    | (refine wpList_load_blk (by rfl) (.tmp 1) 128 (by rfl) _ 0 140 (by rfl) agg_four size_four hF2 _ (whole_load hfl) hfl ?_))
  go_loopw [9] (fun i wr => ∃ k : Nat, k ≤ 4 ∧ i = .int .i64 k ∧ Row 5 wr (w.heap.size + 1) (encs (l.take k) ++ List.replicate (256 - 44 * k) 0) ∧ Below w.heap.size w wr) (fun i _ => 4 - (intOf i).toNat)
  case atStart => exact ⟨0, by omega, rfl, hO2, hW2⟩
  case round =>
    rename_i hrel
    obtain ⟨k, hk, rfl, hO, hbr⟩ := hrel
    clear hF1 hb1 hs1 hO2 hb2 hF2 hW2
    have hsz := hbr.size
    have hOl := hO.lt
    by_cases hlt : k < 4
    · have hix := HIX.out k hlt
      obtain ⟨p, hp⟩ : ∃ p, p = nth l k := ⟨_, rfl⟩
      have hok : p.ok := hp ▸ nth_ok hl k
      have HT : Hid (encs (l.take (k + 1)) = encs (l.take k) ++ p.enc) := by rw [hp]; exact node_step hl (by omega)
      have HD : Hid ((encs (l.take k)).length = 44 * k) := encs_take_len hl (by omega)
      have hvl := Pt.vs_len hok
      have hen := encode_run p hok
      have hel := Pt.enc_len hok
      have hevl : (p.enc.map (Value.int .u8)).length = 44 := by rw [List.length_map]; exact hel
      have her := Pt.enc_rng hok
      obtain ⟨D, hD⟩ : ∃ D, D = 44 * k := ⟨_, rfl⟩
      obtain ⟨A, hsl, hA⟩ := own_from (g := w.heap.size + 1) (n := 256) D (by omega)
      have hA' := hA (by omega)
      subst hA'
      have hDk : (k : Int) * 44 = (D : Int) := by omega
      have hD2 : D ≤ 132 := by omega
      have hwD : IntKind.i64.wrap (D : Int) = (D : Int) := by first | go_num | (rw [IntKind.wrap_i64]; omega)
      have HDk : Hid (D = 44 * k) := hD
      rw [← hp] at hix
      rw [← hD] at hO
      clear hp hA hD
      go_wp2_with (first
        | (refine wpList_alloc0 (by rfl) 42 (by rfl) (some 5) (by rfl) Pt.zero.vs alloc_ptr0 ?_; intro w3 hP3 hb3 hs3)
        | (refine wpList_store_blk (by rfl) (.tmp 5) (.tmp 12) 42 (by rfl) _ 0 35 (by rfl) _ (by rfl) size_ptr hP3 hvl (by omega) (Pt.vs_one _) _ (whole_store hzl) ?_
           intro w4 hP4 hbut4 hs4)
        | (refine wpList_load_blk (by rfl) (.tmp 5) 42 (by rfl) _ 0 35 (by rfl) agg_ptr size_ptr hP4 _ (whole_load hvl) hvl ?_)
        | (go_at_call 124; go_must (refine (hen _).mono ?_); rintro e w5 ⟨rfl, hb5⟩)
        | (refine wpList_alloc0 (by rfl) 199 (by rfl) (some 6) (by rfl) _ alloc_44 ?_; intro w6 hE6 hb6 hs6)
        | (refine wpList_store_blk (by rfl) (.tmp 6) (.tmp 14) 199 (by rfl) _ 0 44 (by rfl) _ (by rfl) size_44 hE6 hevl (by rw [hz4]; omega) (int_oneCell _ _) _ (whole_store hz4) ?_
           intro w7 hE7 hbut7 hs7))
      have hq3 : Below w.heap.size w w4 := (hbr.trans (hb3.mono (by omega))).trans (hbut4.below (by omega) (by omega))
      have hq5 := hq3.trans (hb5.mono hq3.size)
      have hq7 : Below w.heap.size w w7 := (hq5.trans (hb6.mono hq5.size)).trans (hbut7.below hq5.size (by have := hq5.size; omega))
      have hO4 : Row 5 w4 (w.heap.size + 1) (encs (l.take k) ++ List.replicate (256 - D) 0) := by
        have h3 := hO.stays hb3
        unfold Row at h3 ⊢
        rw [hbut4.block _ (by omega) (by omega)]; exact h3
      have hO7 : Row 5 w7 (w.heap.size + 1) (encs (l.take k) ++ List.replicate (256 - D) 0) := by
        have h6 := (hO4.stays hb5).stays hb6
        have := hb5.size
        unfold Row at h6 ⊢
        rw [hbut7.block _ (by omega) (by omega)]; exact h6
      obtain ⟨E, hEE⟩ : ∃ E, E = w5.heap.size := ⟨_, rfl⟩
      rw [← hEE] at hE7 ⊢
      have hBE : Bs w7 (some ⟨E, 0, none⟩) 44 p.enc := ⟨her, by omega, by decide, by simp, .inr ⟨E, 0, rfl, fun i hi => by
        rw [hE7.cell]
        simp [List.getD, hi]⟩⟩
      clear hO hO4 hP3 hP4 hb3 hbut4 hs3 hs4 hb5 hb6 hs6 hE6 hbut7 hs7 hEE hq3 hq5
      refine wp_region_any (by kernel_rfl) ?_
      change wpAny _ _ _ _ _ _ _ (World.drew _)
      refine any_take 0 rfl (some 15) rfl (.slice (some ⟨w.heap.size + 1, 0, none⟩) 256 256) (by kernel_rfl) (by kernel_rfl) (by kernel_rfl) (fun _ _ _ h => h) (Or.inl ⟨by rfl, fun w => by go_simp⟩) ?_
      simp only [Act.put, List.setIfInBounds_toArray, List.set_cons_succ, List.set_cons_zero]
      refine any_take 1 rfl (some 16) rfl (.int .i64 (k : Int)) (by kernel_rfl) (by kernel_rfl) (by kernel_rfl) (fun _ _ _ h => h) (Or.inl ⟨by rfl, fun w => by go_simp⟩) ?_
      simp only [Act.put, List.setIfInBounds_toArray, List.set_cons_succ, List.set_cons_zero]
      refine any_take 2 rfl (some 17) rfl (.int .i64 (D : Int)) (by kernel_rfl) (by kernel_rfl) (by kernel_rfl) (fun _ _ _ h => h) (Or.inl ⟨by rfl, fun w => by go_simp; try go_num⟩) ?_
      simp only [Act.put, List.setIfInBounds_toArray, List.set_cons_succ, List.set_cons_zero]
      refine any_take 3 rfl (some 18) rfl (.slice (some ⟨w.heap.size + 1, D, none⟩) (256 - D) (256 - D)) (by kernel_rfl) (by kernel_rfl) (by kernel_rfl) (fun _ _ _ h => h) (Or.inl ⟨by rfl, fun w => by go_simp⟩) ?_
      simp only [Act.put, List.setIfInBounds_toArray, List.set_cons_succ, List.set_cons_zero]
      refine any_take 4 rfl (some 19) rfl (.slice (some ⟨E, 0, none⟩) 44 44) (by kernel_rfl) (by kernel_rfl) (by kernel_rfl) (fun _ _ _ h => h) (Or.inl ⟨by rfl, fun w => by go_simp⟩) ?_
      simp only [Act.put, List.setIfInBounds_toArray, List.set_cons_succ, List.set_cons_zero]
      refine any_seq 5 (by rfl) (by kernel_rfl) ?_
      simp only [List.drop_succ_cons, List.drop_zero]
      have hdl : D = (encs (l.take k)).length := by rw [HD.out, HDk.out]
      refine wpList_copy_bytes (w0 := w) (by rfl) (.tmp 18) (.tmp 19) 43 43 (by rfl) 5 Tryd.underlying43 sizes5 _ _ (256 - D) (256 - D) 44 44 (by rfl) (by rfl) (w.heap.size + 1) (encs (l.take k)) (List.replicate (256 - D) 0) p.enc (show Row _ w7.drew _ _ from hO7) (fun _ => by rw [← hdl]) (by simp) (by omega) (by simp; omega) (hBE.stays (Below.refl _ _).drew) w.heap.size hq7.drew (by omega) ?_
      intro w8 hO8 hb8
      have hO9 : Row 5 w8 (w.heap.size + 1) (encs (l.take (k + 1)) ++ List.replicate (256 - 44 * (k + 1)) 0) := by
        rw [HT.out]
        have : (List.replicate (256 - D) (0 : Int)).drop p.enc.length = List.replicate (256 - 44 * (k + 1)) 0 := by rw [List.drop_replicate, hel]; have := HDk.out; congr 1; omega
        rw [← this]; exact hO8
      have HO9 : Hid _ := hO9
      clear hO8 hO9 hO7 hBE hE7 hdl
      go_wp2
      go_roundw
      case rel => exact ⟨k + 1, by omega, by go_num, HO9.out, hb8⟩
      case measure => simp [intOf]; omega
    · have hk4 : k = 4 := by omega
      subst hk4
      have hR : Row 5 wr (w.heap.size + 1) (nodeL l) := by
        rw [List.take_of_length_le (by omega)] at hO
        exact hO
      have hn := nodeL_len hl h4
      have hB := hR.bs (nodeL_rng hl) (by rw [hn]; decide)
      rw [hn] at hB
      have HBB : Hid _ := hB
      clear hO hR hB hn
      go_wp2
      go_ret
      exact ⟨_, _, rfl, HBB.out, hbr, fun x hx => by cases hx; exact Nat.le_succ _⟩
theorem node_run (l : List Pt) (hl : ∀ p ∈ l, p.ok) (h4 : l.length = 4) (w : World) : Calls Tryd.prog 120 #[.agg (fourV l).toArray] w fun e w' => ∃ a c, e = .returned (.slice a 256 c) ∧ Bs w' a c (nodeL l) ∧ Below w.heap.size w w' := by
  refine (node_new l hl h4 w).mono ?_
  rintro e w' ⟨a, c, h1, h2, h3, _⟩
  exact ⟨a, c, h1, h2, h3⟩

end Go.Proofs.YtcfjkkjjcljaoaaDoor
