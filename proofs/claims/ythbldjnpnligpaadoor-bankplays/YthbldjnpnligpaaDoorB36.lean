/-
 A region that draws: a load and a store that may both come up; what is taken out of a block beside.
-/
import Derived.Test.YthbldjnpnligpaaDoorB03
import Derived.Test.YthbldjnpnligpaaDoorB34
import Derived.Test.YthbldjnpnligpaaDoorB35
import Derived.Test.YthbldjnpnligpaaDoorB29
namespace Go.Proofs.YthbldjnpnligpaaDoor
set_option linter.unusedSimpArgs false
set_option linter.unusedVariables false
set_option maxRecDepth 100000
open Go.RowKit
section
variable {P : Program} {md : Region.Mode} {ops : Array Oper} {Q : Exit → Act → World → Prop} {fuel : Nat} {listed : Array Bool} {a : Act} {w : World}
theorem any_ls (i j : Nat) (hr : Region.ready md ops listed = [i, j]) {o o' : Oper} (ho : ops[i]? = some o) (ho' : ops[j]? = some o') (hg : o.guard = none) (hg' : o'.guard = none) (d d' : Option Tmp) (hd : o.dst = d) (hd' : o'.dst = d')
 (x : Operand) (t : TypeId) (hop : o.op = Op.load t x) (g off n : Nat) (hx : a.eval x = .pointer (some ⟨g, off, none⟩)) (hA : ∀ w, (isAgg t).run P w = .ok true w) (hZ : ∀ w, (sizeOf t).run P w = .ok n w) {e : TypeId} {vs : List Value} (hb : Blk e w g vs)
 (us : List Value) (hu : us = (vs.drop off).take n) (hl : us.length = n)
 (x' y' : Operand) (t' : TypeId) (hop' : o'.op = Op.store t' x' y') (g' off' n' : Nat) (hx' : a.eval x' = .pointer (some ⟨g', off', none⟩)) (us' : List Value) (hy' : a.eval y' = .agg us'.toArray) (hZ' : ∀ w, (sizeOf t').run P w = .ok n' w) {e' : TypeId} {vs' : List Value} (hb' : Blk e' w g' vs')
 (hl' : us'.length = n') (hle' : off' + n' ≤ vs'.length) (h1' : ∀ v ∈ us', v.oneCell' = true) (ws' : List Value) (hw' : ws' = vs'.take off' ++ us' ++ vs'.drop (off' + n'))
 (h1 : wpAny P md ops Q fuel (listed.setIfInBounds i true) (a.put d (.agg us.toArray)) w)
 (h2 : ∀ w', Blk e' w' g' ws' → But g' w w' → w'.heap.size = w.heap.size → wpAny P md ops Q fuel (listed.setIfInBounds j true) (a.put d' undef) w') :
 wpAny P md ops Q (fuel + 1) listed a w := by
 refine wpAny_ready (rs := [i, j]) hr (by simp) ?_
 refine AllReady.cons ho (fun K hK => ?_) (AllReady.cons ho' (fun K hK => ?_) AllReady.nil)
 · rw [if_pos (by simp [Region.wanted, hg])]
   exact step_load_blk x t hop g off n hx hA hZ hb us hu hl (hK _ _ (hd ▸ h1))
 · rw [if_pos (by simp [Region.wanted, hg'])]
   exact step_store_blk x' y' t' hop' g' off' n' hx' us' hy' hZ' hb' hl' hle' h1' ws' hw' (fun w' k1 k2 k3 => hK _ _ (hd' ▸ h2 w' k1 k2 k3))
end
structure Ns (w : World) (b off : Nat) (xs : List Nat) : Prop where
 lt : b < w.heap.size
 at' : ∀ i, i < xs.length → w.cell? ⟨b, off + i, none⟩ = some (.int .u32 ((xs.getD i 0 : Nat) : Int))
theorem Ns.stays {w w' : World} {b off : Nat} {xs : List Nat} (h : Ns w b off xs) (hb : Below w.heap.size w w') : Ns w' b off xs :=
 ⟨Nat.lt_of_lt_of_le h.lt hb.size, fun i hi => by rw [hb.cell h.lt]; exact h.at' i hi⟩
theorem Ns.but {w w' : World} {b off g : Nat} {xs : List Nat} (h : Ns w b off xs) (hb : But g w w') (hne : b ≠ g) : Ns w' b off xs :=
 ⟨Nat.lt_of_lt_of_le h.lt hb.size, fun i hi => by rw [World.cell?_of_block (w := w) (hb.block b hne h.lt)]; exact h.at' i hi⟩
end Go.Proofs.YthbldjnpnligpaaDoor

/-
 The document's bank beside a function's blocks (Sep's frame).
-/

namespace Go.Proofs.YthbldjnpnligpaaDoor
set_option linter.unusedSimpArgs false
set_option linter.unusedVariables false
set_option maxRecDepth 100000
open Go.RowKit
section
variable {w0 w w' : World} {G M N : Nat → Prop} {X X' : List (Nat × Nat × List Bool)} {cs cs' : List Value} {S S' : DS} {l l' : List Bool} {t t' : Nat}
theorem RS.grown {row : Option Nat} (h : RS w0 w G M X cs S l t) (hg : w.grownBy w' row) (hM : ∀ j, row = some j → M j ∧ w0.heap.size ≤ j) (hN : ∀ j, N j → M j ∨ (w.heap.size ≤ j ∧ j < w'.heap.size)) : RS w0 w' G N X cs S l t := by
 obtain ⟨H, h1, h2, h3, h4, h5⟩ := h
 have hk : ∀ j, H j → j < w.heap.size → w'.heap[j]? = w.heap[j]? := fun j hj hl => hg.block j hl (fun e => (h3 j (hM j e.symm).1).1 hj)
 refine ⟨H, h1.keep (fun j hj hl => ⟨hk j hj hl, hj⟩), fun j hj => ⟨(h2 j hj).1, Nat.lt_of_lt_of_le (h2 j hj).2 hg.size⟩, fun j hj => ?_, fun m hm => ⟨(h4 m hm).1, ?_⟩, h5.grown hg h5.size (fun j hj => (hM j hj).2)⟩
 · rcases hN j hj with h6 | h6
   · exact ⟨(h3 j h6).1, (h3 j h6).2.1, Nat.lt_of_lt_of_le (h3 j h6).2.2 hg.size⟩
   · exact ⟨fun hh => by have := (h2 j hh).2; omega, by have := h5.size; omega, h6.2⟩
 · obtain ⟨rest, k1, k2, k3⟩ := (h4 m hm).2
   have hl := k1.lt
   refine ⟨rest, ?_, k2, k3⟩
   unfold Blk at *
   rw [hk _ (h4 m hm).1 hl]
   exact k1
def RI (w0 : World) (G : Nat → Prop) (X : List (Nat × Nat × List Bool)) (cs : List Value) (S : DS) (l : List Bool) (t : Nat) (N : Nat → Prop) (w : World) : Prop := RS w0 w G N X cs S l t
theorem RI.frame : Frame w0.heap.size (RI w0 G X cs S l t) where
 size h := (RS.bel h).size
 new h hb hN := RS.new h hb hN
 set h hb hm _ := RS.set h hb hm
 grown h hg hM hN := RS.grown h hg hM hN
theorem RB.sep (h : RB w G cs S l t) : Sep w.heap.size (RI w G [] cs S l t) w [] [] :=
 ⟨RI.frame, h.start.less (fun j hj => by rcases hj with ⟨e, he, _⟩ | ⟨e, he, _⟩ <;> simp at he), fun e he => by simp at he, by simp, fun s hs => by simp at hs⟩
variable {B : Nat} {L : List Ent} {T : List Sli}
theorem Sep.rs (h : Sep B (RI w0 G X cs S l t) w L T) : RS w0 w G (mine L T) X cs S l t := h.inv
theorem Sep.rb (h : Sep B (RI w0 G X cs S l t) w L T) : ∃ H, RB w H cs S l t := RS.rb h.inv
theorem Sep.rbel (h : Sep B (RI w0 G X cs S l t) w L T) : Below w0.heap.size w0 w := RS.bel h.inv
theorem Sep.rdone (h : Sep B (RI w0 G X cs S l t) w L T) : RBThen G w0 w cs S l t := RS.done h.inv
theorem Sep.rturn (h : Sep w0.heap.size (RI w0 G X cs S l t) w L T) (hb : Below w.heap.size w w') (hR : RS w0 w' G (mine L T) X' cs' S' l' t') : Sep w0.heap.size (RI w0 G X' cs' S' l' t') w' L T :=
 have hs := h.stays hb
 ⟨RI.frame, hR, hs.blk, hs.nd, hs.sl⟩
end
def Besides (I : (Nat → Prop) → World → Prop) (F : Nat → Prop) (R : World → Prop) (N : Nat → Prop) (w : World) : Prop := I N w ∧ R w ∧ (∀ j, F j → j < w.heap.size) ∧ ∀ j, F j → ¬ N j
section
variable {B : Nat} {I : (Nat → Prop) → World → Prop} {F : Nat → Prop} {R : World → Prop} {w w' : World} {L : List Ent} {T : List Sli}
theorem Besides.frame (hF : Frame B I) (hR : ∀ w w' : World, R w → (∀ j, F j → j < w.heap.size → w'.heap[j]? = w.heap[j]?) → w.heap.size ≤ w'.heap.size → R w') : Frame B (Besides I F R) where
 size h := hF.size h.1
 new h hb hN := ⟨hF.new h.1 hb hN, hR _ _ h.2.1 (fun j hj hl => hb.block j hl) hb.size, fun j hj => Nat.lt_of_lt_of_le (h.2.2.1 j hj) hb.size, fun j hj hn => by
  rcases hN j hn with h1 | h1
  · exact h.2.2.2 j hj h1
  · have := h.2.2.1 j hj; omega⟩
 set {_ w w'} {m} h hb hm hB := ⟨hF.set h.1 hb hm hB, hR _ _ h.2.1 (fun j hj hl => hb.block j (fun e => h.2.2.2 j hj (e ▸ hm)) hl) hb.size, fun j hj => Nat.lt_of_lt_of_le (h.2.2.1 j hj) hb.size, h.2.2.2⟩
 grown {_ _ w w'} row h hg hM hN := ⟨hF.grown h.1 hg hM hN, hR _ _ h.2.1 (fun j hj hl => hg.block j hl (fun e => h.2.2.2 j hj (hM j e.symm).1)) hg.size, fun j hj => Nat.lt_of_lt_of_le (h.2.2.1 j hj) hg.size, fun j hj hn => by
  rcases hN j hn with h1 | h1
  · exact h.2.2.2 j hj h1
  · have := h.2.2.1 j hj; omega⟩
theorem Sep.mine_lt (h : Sep B I w L T) : ∀ j, mine L T j → j < w.heap.size := fun j hj => by
 rcases hj with ⟨e', he, rfl⟩ | ⟨s', hs', y, hy, rfl⟩
 · exact (h.blk e' he).1.lt
 · exact ((h.sl s' hs').2 y hy).2.1
theorem Sep.beside (h : Sep B I w L T) (hF : ∀ j, F j → j < w.heap.size ∧ ¬ mine L T j) (hw : R w) (hR : ∀ w w' : World, R w → (∀ j, F j → j < w.heap.size → w'.heap[j]? = w.heap[j]?) → w.heap.size ≤ w'.heap.size → R w') : Sep B (Besides I F R) w L T :=
 ⟨Besides.frame h.fr hR, ⟨h.inv, hw, fun j hj => (hF j hj).1, fun j hj => (hF j hj).2⟩, h.blk, h.nd, h.sl⟩
theorem Sep.less (h : Sep B (Besides I F R) w L T) (hF : Frame B I) : Sep B I w L T := ⟨hF, h.inv.1, h.blk, h.nd, h.sl⟩
end
section
variable {w0 w w' : World} {G : Nat → Prop} {X X' : List (Nat × Nat × List Bool)} {cs cs' : List Value} {S S' : DS} {l l' : List Bool} {t t' : Nat} {F : Nat → Prop} {R : World → Prop} {L : List Ent} {T : List Sli}
theorem Sep.bturn (h : Sep w0.heap.size (Besides (RI w0 G X cs S l t) F R) w L T) (hb : Below w.heap.size w w') (hR : RS w0 w' G (mine L T) X' cs' S' l' t')
 (hk : ∀ w w' : World, R w → (∀ j, F j → j < w.heap.size → w'.heap[j]? = w.heap[j]?) → w.heap.size ≤ w'.heap.size → R w') : Sep w0.heap.size (Besides (RI w0 G X' cs' S' l' t') F R) w' L T :=
 have hs := h.stays hb
 ⟨Besides.frame RI.frame hk, ⟨hR, hs.inv.2.1, hs.inv.2.2.1, hs.inv.2.2.2⟩, hs.blk, hs.nd, hs.sl⟩
theorem Sep.brs (h : Sep w0.heap.size (Besides (RI w0 G X cs S l t) F R) w L T) : RS w0 w G (mine L T) X cs S l t := h.inv.1
theorem Sep.bbel (h : Sep w0.heap.size (Besides (RI w0 G X cs S l t) F R) w L T) : Below w0.heap.size w0 w := RS.bel h.inv.1
end
theorem Ns.keepN {w w' : World} {b off : Nat} {xs : List Nat} (h : Ns w b off xs) (hk : ∀ j, j = b → j < w.heap.size → w'.heap[j]? = w.heap[j]?) (hs : w.heap.size ≤ w'.heap.size) : Ns w' b off xs :=
 ⟨Nat.lt_of_lt_of_le h.lt hs, fun i hi => by rw [World.cell?_of_block (w := w) (hk b rfl h.lt)]; exact h.at' i hi⟩
end Go.Proofs.YthbldjnpnligpaaDoor

/-
 The document's bank: its types, for Sep.
-/

namespace Go.Proofs.YthbldjnpnligpaaDoor
set_option linter.unusedSimpArgs false
set_option linter.unusedVariables false
set_option maxRecDepth 100000
open Go.RowKit
section
variable {w w' : World} {G G' : Nat → Prop} {cs cs' : List Value} {S S' : DS} {l l' : List Bool} {t : Nat}
theorem alloc_rbank (w : World) : (Instr.alloc 36 true (.tuple #[])).run Tryd.prog w = .ok (.pointer (some ⟨w.heap.size, 0, none⟩)) (w.alloc (.cells [Value.slice none 0 0, .slice none 0 0, .bool false, .int .i64 0, .bool false, .slice none 0 0, .int .u32 0].toArray 36)) := by kernel_rfl
theorem alloc_rdisk (w : World) : (Instr.alloc 30 true (.tuple #[])).run Tryd.prog w = .ok (.pointer (some ⟨w.heap.size, 0, none⟩)) (w.alloc (.cells [Value.slice none 0 0, .slice none 0 0, .bool false, .int .i64 0, .bool false].toArray 30)) := by kernel_rfl
theorem al_rbank1 : (∀ w, (Instr.alloc 36 true (.tuple #[])).run Tryd.prog w = .ok (.pointer (some ⟨w.heap.size, 0, none⟩)) (w.alloc (.cells [Value.slice none 0 0, .slice none 0 0, .bool false, .int .i64 0, .bool false, .slice none 0 0, .int .u32 0].toArray 36))) ∧ Vals 7 [Value.slice none 0 0, .slice none 0 0, .bool false, .int .i64 0, .bool false, .slice none 0 0, .int .u32 0] := ⟨alloc_rbank, rfl, by simp [Value.oneCell']⟩
theorem al_rdisk1 : (∀ w, (Instr.alloc 30 true (.tuple #[])).run Tryd.prog w = .ok (.pointer (some ⟨w.heap.size, 0, none⟩)) (w.alloc (.cells [Value.slice none 0 0, .slice none 0 0, .bool false, .int .i64 0, .bool false].toArray 30))) ∧ Vals 5 [Value.slice none 0 0, .slice none 0 0, .bool false, .int .i64 0, .bool false] := ⟨alloc_rdisk, rfl, by simp [Value.oneCell']⟩
theorem al_two1 : (∀ w, (Instr.alloc 46 true (.tuple #[])).run Tryd.prog w = .ok (.pointer (some ⟨w.heap.size, 0, none⟩)) (w.alloc (.cells (twoB false false).toArray 46))) ∧ Vals 2 (twoB false false) := ⟨fun w => by kernel_rfl, rfl, twoB_one _ _⟩
theorem ty_two : Ty Tryd.prog 46 2 := ⟨fun w => isAgg_array Tryd.underlying46 w, fun w => sizeOf_run (by kernel_rfl) w⟩
theorem ty_ptrz : Ty Tryd.prog 42 35 := ⟨agg_ptr, size_ptr⟩
theorem ty1_boolz : Ty1 Tryd.prog 4 := ⟨fun w => by kernel_rfl, fun w => sizeOf_run (by kernel_rfl) w⟩
theorem ty1_u32z : Ty1 Tryd.prog 34 := ⟨fun w => by kernel_rfl, fun w => sizeOf_run (by kernel_rfl) w⟩
theorem ty1_strsz : Ty1 Tryd.prog 27 := ⟨fun w => by kernel_rfl, fun w => sizeOf_run (by kernel_rfl) w⟩
theorem Vals.bank {H : Nat → Prop} (h : RB w H cs S l t) : Vals 7 cs := h.len
theorem Vals.setDisk {ds : List Value} (hc : Vals 7 cs) (hd : Vals 5 ds) : Vals 7 (cs.take 0 ++ ds ++ cs.drop (0 + 5)) := ⟨by simp [hc.1, hd.1], fun v hv => by
 rcases List.mem_append.1 hv with h1 | h1
 · rcases List.mem_append.1 h1 with h1 | h1
   · exact hc.2 v (List.mem_of_mem_take h1)
   · exact hd.2 v h1
 · exact hc.2 v (List.mem_of_mem_drop h1)⟩
theorem al_rmap1 : (∀ w, (Instr.alloc 33 true (.tuple #[])).run Tryd.prog w = .ok (.pointer (some ⟨w.heap.size, 0, none⟩)) (w.alloc (.cells [Value.slice none 0 0].toArray 33))) ∧ Vals 1 [Value.slice none 0 0] := ⟨fun w => by kernel_rfl, rfl, by simp [Value.oneCell']⟩
theorem al_ptrz : (∀ w, (Instr.alloc 42 true (.tuple #[])).run Tryd.prog w = .ok (.pointer (some ⟨w.heap.size, 0, none⟩)) (w.alloc (.cells Pt.zero.vs.toArray 42))) ∧ Vals 35 Pt.zero.vs := ⟨alloc_ptr0, Pt.vs_len Pt.zero_ok, Pt.vs_one _⟩
end
end Go.Proofs.YthbldjnpnligpaaDoor
