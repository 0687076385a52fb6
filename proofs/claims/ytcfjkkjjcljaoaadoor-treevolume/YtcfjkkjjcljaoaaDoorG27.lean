/-
  The program's disk and the document's one beside each other.
-/
import Derived.Test.YtcfjkkjjcljaoaaDoorG26
import Derived.Test.YtcfjkkjjcljaoaaDoorG25
import Derived.Test.YtcfjkkjjcljaoaaDoorG15
import Derived.Test.YtcfjkkjjcljaoaaDoorG17
import Derived.Test.YtcfjkkjjcljaoaaDoorG20
import Derived.Test.YtcfjkkjjcljaoaaDoorG21
import Derived.Test.YtcfjkkjjcljaoaaDoorG22
import Derived.Test.YtcfjkkjjcljaoaaDoorG24
import Derived.Test.YtcfjkkjjcljaoaaDoorG10
namespace Go.Proofs.YtcfjkkjjcljaoaaDoor
set_option linter.unusedSimpArgs false
set_option linter.unusedVariables false
set_option maxRecDepth 100000
open Go.RowKit

/-- Both disks, the program's among the blocks from B on, with no block in common: the program's at p, with blocks of F, holds S; the document's in the cells cs, with blocks of G, holds T. -/
structure Pair (B : Nat) (w : World) (F G : Nat → Prop) (p : Nat) (S : DS) (cs : List Value) (T : DS) : Prop where
  low : ∀ k, F k → B ≤ k ∧ k < w.heap.size
  lowG : ∀ k, G k → k < w.heap.size
  dis : ∀ k, F k → G k → False
  dk : Dk w F p S
  rf : Rf w G cs T

section
variable {B p : Nat} {w w' : World} {F G : Nat → Prop} {S S' T T' : DS} {cs cs' : List Value}

theorem Pair.stays (h : Pair B w F G p S cs T) (hb : Below w.heap.size w w') : Pair B w' F G p S cs T :=
  ⟨fun k hk => ⟨(h.low k hk).1, Nat.lt_of_lt_of_le (h.low k hk).2 hb.size⟩, fun k hk => Nat.lt_of_lt_of_le (h.lowG k hk) hb.size, h.dis, h.dk.stays hb, h.rf.stays hb⟩

/-- A call of the program's disk. -/
theorem Pair.disk (h : Pair B w F G p S cs T) (hB : B ≤ w.heap.size) (ht : Then F w w' p S') :
    ∃ F', Pair B w' F' G p S' cs T ∧ (∀ k, F' k → F k ∨ w.heap.size ≤ k) ∧ Below B w w' := by
  refine ⟨fun k => (F k ∨ w.heap.size ≤ k) ∧ k < w'.heap.size, ⟨fun k hk => ⟨?_, hk.2⟩, fun k hk => Nat.lt_of_lt_of_le (h.lowG k hk) ht.2.size, fun k hk hg => ?_, ht.1.mono (fun k hk hl => ⟨hk, hl⟩), ?_⟩, fun k hk => hk.1, ht.2.below hB (fun k hk => (h.low k hk).1)⟩
  · rcases hk.1 with h1 | h1
    · exact (h.low k h1).1
    · omega
  · rcases hk.1 with h1 | h1
    · exact h.dis k h1 hg
    · have := h.lowG k hg
      omega
  · exact h.rf.keep (fun k hg hl => ⟨ht.2.block k (fun hf => h.dis k hf hg) hl, hg⟩)

/-- A call of the document's disk. -/
theorem Pair.ref (h : Pair B w F G p S cs T) (ht : RThen G w w' cs' T') : Pair B w' F (fun k => (G k ∨ w.heap.size ≤ k) ∧ k < w'.heap.size) p S cs' T' := by
  refine ⟨fun k hk => ⟨(h.low k hk).1, Nat.lt_of_lt_of_le (h.low k hk).2 ht.2.size⟩, fun k hk => hk.2, fun k hk hg => ?_, h.dk.stays ht.2, ht.1.keep (fun k hg hl => ⟨rfl, hg, hl⟩)⟩
  rcases hg.1 with hg | hg
  · exact h.dis k hk hg
  · have := (h.low k hk).2
    omega

/-- Both disks stay where a block turns that is neither's. -/
theorem Pair.but {g : Nat} (h : Pair B w F G p S cs T) (hb : But g w w') (hF : ¬ F g) (hG : ¬ G g) : Pair B w' F G p S cs T :=
  ⟨fun k hk => ⟨(h.low k hk).1, Nat.lt_of_lt_of_le (h.low k hk).2 hb.size⟩, fun k hk => Nat.lt_of_lt_of_le (h.lowG k hk) hb.size, h.dis, h.dk.keep (fun k hk hl => hb.block k (fun e => hF (e ▸ hk)) hl), h.rf.keep (fun k hk hl => ⟨hb.block k (fun e => hG (e ▸ hk)) hl, hk⟩)⟩

end

/-- A block that is not the disk's stays. -/
theorem box_keep {X : Nat} {w w' : World} {F : Nat → Prop} {t : TypeId} {vs : List Value} (hf : Frm F w w') (hX : Blk t w X vs) (hn : ¬ F X) : Blk t w' X vs := by
  have hl := hX.lt
  unfold Blk at *
  rw [hf.block X hn hl]
  exact hX

end Go.Proofs.YtcfjkkjjcljaoaaDoor

/-
  The document's Read: its bytes are new.
-/

namespace Go.Proofs.YtcfjkkjjcljaoaaDoor
set_option linter.unusedSimpArgs false
set_option linter.unusedVariables false
set_option maxRecDepth 100000
open Go.RowKit

section
variable {G : Nat → Prop} {S : DS} {sa : Option Addr} {sc : Nat} {wa : Option Addr} {wc n : Nat}

set_option maxRecDepth 100000 in
set_option maxHeartbeats 600000 in
theorem rread_go_new (s : Nat) (sn wn : Nat) (HSN : Hid (sn = n)) (HWN : Hid (wn = S.ws.length)) (fused : Bool) (left : Nat) (w : World) (hok : S.Ok n) (hsn : s < n) (hs : SsAt w G sa (secStrs S.laid n)) (hW : WsAt w G wa wc S.ws) (hlen : S.ws.length ≤ 900000) :
    Calls Tryd.prog 107 #[.agg #[.slice sa sn sc, .slice wa wn wc, .bool fused, .int .i64 (left : Int), .bool false], .int .i64 (s : Int)] w fun e w' =>
      ∃ a c, e = .returned (.tuple #[.slice a 256 c, .int .i64 0]) ∧ (Bs w' a c (readW S.laid S.ws s) ∧ ∀ x, a = some x → w.heap.size ≤ x.block) ∧ Below w.heap.size w w' := by
  have h1' : ¬ ((s : Int) < 0) := by omega
  have hsn2 := HSN.out
  have hwn2 := HWN.out
  have h2' : ¬ ((sn : Int) ≤ (s : Int)) := by omega
  have h2'' : (s : Int) < (sn : Int) := by omega
  have hX : Blk 30 (w.alloc (.cells #[.slice sa sn sc, .slice wa wn wc, .bool fused, .int .i64 (left : Int), .bool false] 30)) w.heap.size [.slice sa sn sc, .slice wa wn wc, .bool fused, .int .i64 (left : Int), .bool false] := Blk.newAt rfl rfl
  obtain ⟨W, hWe⟩ : ∃ W, W = w.alloc (.cells #[.slice sa sn sc, .slice wa wn wc, .bool fused, .int .i64 (left : Int), .bool false] 30) := ⟨_, rfl⟩
  have hbW : Below w.heap.size w W := by rw [hWe]; exact (Below.refl _ _).alloc (Nat.le_refl _) _
  rw [← hWe] at hX
  obtain ⟨z0, z1, z2, z3, z4⟩ := box_cells hX
  obtain ⟨sb, so, rfl, _, hcs⟩ := hs.keep (w' := W) (G' := G) (by rw [secStrs_length]; omega) (fun k hg hl => ⟨hbW.block k hl, hg⟩)
  have hc := hcs s (by rw [secStrs_length]; exact hsn)
  have hgd : (secStrs S.laid n).getD s .empty = strOfNums (readW S.laid (S.ws.take 0) s) := by
    simp [secStrs, List.getD, hsn, readW]
  rw [hgd] at hc
  have HWE : Hid (W = _) := hWe
  have hWW := hW.keep (w' := W) (G' := G) (fun k hg hl => ⟨hbW.block k hl, hg⟩)
  have hall : ∀ k, k ≤ S.ws.length → (readW S.laid (S.ws.take k) s).length = 256 ∧ ∀ x ∈ readW S.laid (S.ws.take k) s, 0 ≤ x ∧ x ≤ 255 := fun k hk =>
    readW_ok (S := { S with ws := S.ws.take k }) (n := n) ⟨hok.len, hok.lo, hok.hi, hok.rng, fun q hq => hok.ws q (List.mem_of_mem_take hq), hok.left⟩ hsn
  clear hWe hcs hgd hsn2 hwn2
  rw [HWE.out] at z0 z1 z2 z3 z4 hc
  go_enter Tryd.func107, Tryd.ntmps107
  go_wp2
  go_loopw [6, 7] (fun v x wr => ∃ k : Nat, x = .int .i64 k ∧ k ≤ S.ws.length ∧ v = .string (strOfNums (readW S.laid (S.ws.take k) s)) ∧ wr = W) (fun _ x _ => S.ws.length - (intOf x).toNat)
  case atStart => exact ⟨0, rfl, Nat.zero_le _, rfl, HWE.out.symm⟩
  case round =>
    rename_i hrel
    rw [← HWE.out] at z0 z1 z2 z3 z4 hc
    obtain ⟨k, rfl, hk, rfl, rfl⟩ := hrel
    by_cases hlt : k < S.ws.length
    · have hlt' : (k : Int) < (wn : Int) := by have := HWN.out; omega
      obtain ⟨b, off, rfl, hc0, hc1⟩ := hWW.at hlt
      have hru := readW_upto S.laid (S.ws.take k) (S.ws.getD k (0, [])) s
      rw [← take_succ_getD hlt] at hru
      obtain ⟨t, hte⟩ : ∃ t, t = (S.ws.getD k (0, [])).1 := ⟨_, rfl⟩
      obtain ⟨y, hye⟩ : ∃ y, y = (S.ws.getD k (0, [])).2 := ⟨_, rfl⟩
      rw [← hte] at hc0 hru
      rw [← hye] at hc1 hru
      have e2 : off + 2 * k = off + k * 2 := by omega
      rw [e2] at hc0 hc1
      have HRU : Hid (readW S.laid (S.ws.take (k + 1)) s = if t = s then y else readW S.laid (S.ws.take k) s) := hru
      clear hte hye e2 hru
      by_cases hts : t = s
      · have hts' : ((t : Int) = (s : Int)) = True := eq_true (by omega)
        go_wp2
        go_roundw
        case rel => exact ⟨k + 1, by go_num, by omega, by rw [HRU.out, if_pos hts], trivial⟩
        case measure => simp [intOf]; omega
      · have hts' : ((t : Int) = (s : Int)) = False := eq_false (by omega)
        go_wp2
        go_roundw
        case rel => exact ⟨k + 1, by go_num, by omega, by rw [HRU.out, if_neg hts], trivial⟩
        case measure => simp [intOf]; omega
    · have hlt' : ¬ ((k : Int) < (wn : Int)) := by have := HWN.out; omega
      have hkk : k = S.ws.length := by omega
      obtain ⟨hl, hr⟩ := hall k hk
      obtain ⟨c, w', hrun, hB, hb, _⟩ := conv_bs _ hr (by omega) wr
      rw [hl] at hrun
      have hfin : (Bs w' (some ⟨wr.heap.size, 0, none⟩) c (readW S.laid S.ws s) ∧ ∀ x, some (⟨wr.heap.size, 0, none⟩ : Addr) = some x → w.heap.size ≤ x.block) ∧ Below w.heap.size w w' := by
        refine ⟨⟨?_, fun x hx => by cases hx; exact hbW.size⟩, hbW.trans (hb.mono hbW.size)⟩
        rw [hkk, List.take_length] at hB
        exact hB
      generalize readW S.laid (S.ws.take k) s = R at *
      clear hkk
      go_wp2
      refine bodyPost_ret (results_tmp2 rfl _ _ _) rfl ?_
      exact ⟨_, _, rfl, hfin⟩

theorem rread_new {w : World} {cs : List Value} (h : Rf w G cs S) (i : Int) (hl : S.ws.length ≤ 900000) :
    Calls Tryd.prog 107 #[.agg cs.toArray, .int .i64 i] w fun e w' => ∃ a c, e = .returned (.tuple #[.slice a (S.read i).1.length c, .int .i64 (S.read i).2]) ∧ (Bs w' a c (S.read i).1 ∧ ∀ x, a = some x → w.heap.size ≤ x.block) ∧ Below w.heap.size w w' := by
  obtain ⟨n, sa, sc, wa, wc, hok, rfl, hs, hw⟩ := h
  have hn : S.laid.length / 256 = n := by rw [hok.len]; omega
  have hhas : S.has i ↔ (0 ≤ i ∧ i < (n : Int)) := by unfold DS.has; rw [hn]
  unfold DS.read
  by_cases h1 : S.off = true
  · rw [if_pos h1]
    unfold rcells
    refine (rread_err (sa := sa) (sc := sc) (wa := wa) (wc := wc) i n S.ws.length S.fused S.off S.left w (.inl h1)).mono ?_
    rintro e w' ⟨rfl, hb⟩
    rw [if_pos h1]
    exact ⟨none, 0, rfl, ⟨Bs.empty _, fun x hx => by cases hx⟩, hb⟩
  · rw [if_neg h1]
    have hoff : S.off = false := by simpa using h1
    by_cases h2 : S.has i
    · rw [if_neg (by simpa using h2)]
      obtain ⟨hi0, hi1⟩ := hhas.1 h2
      obtain ⟨s, rfl⟩ : ∃ s : Nat, i = (s : Int) := ⟨i.toNat, by omega⟩
      have hr := readW_ok hok (s := s) (by omega)
      unfold rcells
      rw [hoff]
      refine (rread_go_new (G := G) (S := S) (n := n) (sa := sa) (sc := sc) (wa := wa) (wc := wc) s n S.ws.length rfl rfl S.fused S.left w hok (by omega) hs hw hl).mono ?_
      rintro e w' ⟨a, c, rfl, hB, hb⟩
      simp only [Int.toNat_natCast]
      rw [hr.1]
      exact ⟨a, c, rfl, hB, hb⟩
    · rw [if_pos (by simpa using h2)]
      unfold rcells
      refine (rread_err (sa := sa) (sc := sc) (wa := wa) (wc := wc) i n S.ws.length S.fused S.off S.left w (.inr ⟨hoff, by rw [hhas] at h2; exact h2⟩)).mono ?_
      rintro e w' ⟨rfl, hb⟩
      rw [if_neg h1]
      exact ⟨none, 0, rfl, ⟨Bs.empty _, fun x hx => by cases hx⟩, hb⟩

end

end Go.Proofs.YtcfjkkjjcljaoaaDoor

/-
  What package bank's texts want of general laws.
-/

namespace Go.Proofs.YtcfjkkjjcljaoaaDoor
set_option linter.unusedSimpArgs false
set_option linter.unusedVariables false
set_option maxRecDepth 100000
open Go.RowKit

theorem rng_app {xs ys : List Int} (h1 : ∀ x ∈ xs, 0 ≤ x ∧ x ≤ 255) (h2 : ∀ x ∈ ys, 0 ≤ x ∧ x ≤ 255) : ∀ x ∈ xs ++ ys, 0 ≤ x ∧ x ≤ 255 := fun x hx => (List.mem_append.1 hx).elim (h1 x) (h2 x)

theorem rng_zeros (n : Nat) : ∀ x ∈ List.replicate n (0 : Int), 0 ≤ x ∧ x ≤ 255 := by
  intro x hx
  rw [(List.mem_replicate.1 hx).2]; decide

theorem out_none (w : World) (base : Nat) : Out base w (.slice none 0 0) [] := ⟨by simp, .inl ⟨rfl, rfl⟩⟩

/-- The value is a slice of its own of these bytes. -/
def ouB (base : Nat) (xs : List Int) : Value → World → Prop := fun v w => ∃ a c, v = .slice a xs.length c ∧ Out base w (.slice a xs.length c) xs

theorem ouB_steady (base : Nat) (xs : List Int) : Up.Steady (ouB base xs) := fun v w w' hb ⟨a, c, h1, h2⟩ => ⟨a, c, h1, owns_keep h2 (fun k hk => hb.block k (World.ownsRow.lt h2 k hk).2)⟩

theorem owns_but {w w' : World} {base g : Nat} {e : TypeId} {s : Nat} {v : Value} {n : Nat} {xs : List Value} (h : w.ownsRow base e s v n xs) (hb : But g w w') (hg : g < base) : w'.ownsRow base e s v n xs :=
  owns_keep h (fun k hk => hb.block k (by have := (World.ownsRow.lt h k hk).1; omega) (World.ownsRow.lt h k hk).2)

theorem str_inj {xs ys : List Int} (hx : ∀ x ∈ xs, 0 ≤ x ∧ x ≤ 255) (hy : ∀ x ∈ ys, 0 ≤ x ∧ x ≤ 255) (h : strOfNums xs = strOfNums ys) : xs = ys := by
  have h1 := strCells_nums hx
  rw [h, strCells_nums hy] at h1
  exact ((List.map_inj_right (fun a b h => by injection h)).1 h1).symm

theorem str_beq {xs ys : List Int} (hx : ∀ x ∈ xs, 0 ≤ x ∧ x ≤ 255) (hy : ∀ x ∈ ys, 0 ≤ x ∧ x ≤ 255) : ((strOfNums xs).toList == (strOfNums ys).toList) = decide (xs = ys) := by
  by_cases h : xs = ys
  · subst h; simp
  · have h1 : (strOfNums xs).toList ≠ (strOfNums ys).toList := fun h' => h (str_inj hx hy (by rw [ByteArray.toList_eq, ByteArray.toList_eq] at h'; exact ByteArray.ext (Array.ext' h')))
    rw [decide_eq_false h]
    simpa using h1

theorem out_row {w : World} {g base : Nat} {xs : List Int} (h : Row 5 w g xs) (hg : base ≤ g) (hm : xs.length ≤ maxLen) : Out base w (.slice (some ⟨g, 0, none⟩) xs.length xs.length) xs :=
  ⟨by simp, .inr ⟨g, xs.length, _, rfl, hg, h, Nat.le_refl _, hm, by simp, by simp [List.take_of_length_le]⟩⟩

/-- The law of a guarded load, its operation looked at first. -/
theorem wpList_load_guard7 {P : Program} {w : World} {ops : Array Oper} {rest : List Oper} {o : Oper} {a : Act} {Q : Exit → Act → World → Prop} (x : Operand) (t : TypeId) (ho : o.op = Op.load t x) (hw : Region.wanted o (yielded ops a.tmps) = true)
    (g off n : Nat) (hx : a.eval x = .pointer (some ⟨g, off, none⟩)) (hA : ∀ w, (isAgg t).run P w = .ok true w) (hZ : ∀ w, (sizeOf t).run P w = .ok n w) {e : TypeId} {vs : List Value} (hb : Blk e w g vs)
    (us : List Value) (hu : us = (vs.drop off).take n) (hl : us.length = n) (h : wpList P ops Q rest (a.put o.dst (.agg us.toArray)) w) : wpList P ops Q (o :: rest) a w :=
  wpList_load_blk_guard hw x t ho g off n hx hA hZ hb us hu hl h

theorem run_load_cells {P : Program} {w : World} {t : TypeId} {b off n : Nat} {us : List Value} (hA : ∀ w, (isAgg t).run P w = .ok true w) (hZ : ∀ w, (sizeOf t).run P w = .ok n w)
    (hc : ∀ j, j < n → w.cell? ⟨b, off + j, none⟩ = us[j]?) (hl : us.length = n) : (Instr.loadAt t (.pointer (some ⟨b, off, none⟩))).run P w = .ok (.agg us.toArray) w := by
  have h := run_loadCells_list (P := P) w ⟨b, off, none⟩ us (fun j v hj => by
    have hadd : (⟨b, off, none⟩ : Addr).add j = ⟨b, off + j, none⟩ := by unfold Addr.add; split <;> simp_all
    have hjl : j < n := by
      rcases Nat.lt_or_ge j n with h1 | h1
      · exact h1
      · rw [List.getElem?_eq_none (by omega)] at hj; cases hj
    rw [hadd, hc j hjl]
    exact hj)
  rw [hl] at h
  simp [Instr.loadAt, Instr.sureAddr, loadVar, hA, hZ, h, Sem.run_bind]

/-- A load of a whole value that lies somewhere. -/
theorem wpList_load_cells {P : Program} {w : World} {ops : Array Oper} {rest : List Oper} {o : Oper} {a : Act} {Q : Exit → Act → World → Prop} (hgd : o.guard = none) (x : Operand) (t : TypeId) (ho : o.op = Op.load t x)
    (b off n : Nat) (hx : a.eval x = .pointer (some ⟨b, off, none⟩)) (hA : ∀ w, (isAgg t).run P w = .ok true w) (hZ : ∀ w, (sizeOf t).run P w = .ok n w)
    (us : List Value) (hc : ∀ j, j < n → w.cell? ⟨b, off + j, none⟩ = us[j]?) (hl : us.length = n) (h : wpList P ops Q rest (a.put o.dst (.agg us.toArray)) w) : wpList P ops Q (o :: rest) a w := by
  refine wpList_plain hgd fun K hK => ?_
  have hr := run_load_cells (P := P) (w := w) hA hZ hc hl
  unfold Oper.wp execOp
  simp only [ho, hx, Sem.run_bind, Sem.run_pure, Result.andThen_ok, hr]
  exact hK _ _ h

theorem index_sl42 {P : Program} {t e : TypeId} {b off n c j m : Nat} (ht : P.underlying t = some (.slice e)) (hs : (P.info? e).map (·.size) = some m) (hj : j < n) (w : World) :
    (Instr.indexAt t (.slice (some ⟨b, off, none⟩) n c) (.int .i64 (j : Int))).run P w = .ok (.pointer (some ⟨b, off + j * m, none⟩)) w := by
  have hz := sizeOf_run hs w
  have hb : (0 : Int) ≤ (j : Int) ∧ (j : Int) < (n : Int) := by omega
  have hadd : (⟨b, off, none⟩ : Addr).add (j * m) = ⟨b, off + j * m, none⟩ := by unfold Addr.add; split <;> simp_all
  simp [Instr.indexAt, asIntOf, run_underlying ht, hz, hb, hadd, Sem.run_bind, Instr.sureAddr]
  try omega

theorem is_stays {w w' : World} {a : Option Addr} {ks : List Int} (h : Is w a ks) (hb : Below w.heap.size w w') : Is w' a ks := by
  rcases h with h | ⟨b, off, rfl, hc⟩
  · exact .inl h
  · by_cases h0 : ks = []
    · exact .inl h0
    · have hlt := World.block_lt_of_cell? w _ (hc 0 (List.length_pos_iff.2 h0))
      refine .inr ⟨b, off, rfl, fun i hi => ?_⟩
      rw [← hc i hi]
      unfold World.cell?
      rw [hb.block b hlt]

end Go.Proofs.YtcfjkkjjcljaoaaDoor
