/-
 The document's map: truths behind a slice; what is told of them.
-/
import Derived.Test.YthbldjnpnligpaaDoorB13
namespace Go.Proofs.YthbldjnpnligpaaDoor
set_option linter.unusedSimpArgs false
set_option linter.unusedVariables false
set_option maxRecDepth 100000
open Go.RowKit
def Tr (w : World) (g c : Nat) (l : List Bool) : Prop := ∃ rest : List Value, Blk 4 w g (l.map Value.bool ++ rest) ∧ c = l.length + rest.length ∧ c ≤ maxLen
theorem Tr.stays {w w' : World} {g c : Nat} {l : List Bool} (h : Tr w g c l) (hb : Below w.heap.size w w') : Tr w' g c l := by
 obtain ⟨r, h1, h2, h3⟩ := h
 exact ⟨r, h1.stays hb, h2, h3⟩
theorem Tr.but {w w' : World} {g g' c : Nat} {l : List Bool} (h : Tr w g c l) (hb : But g' w w') (hne : g ≠ g') : Tr w' g c l := by
 obtain ⟨r, h1, h2, h3⟩ := h
 exact ⟨r, h1.but hb hne, h2, h3⟩
theorem Tr.lt {w : World} {g c : Nat} {l : List Bool} (h : Tr w g c l) : g < w.heap.size := by
 obtain ⟨r, h1, h2, h3⟩ := h
 exact h1.lt
theorem Tr.cap {w : World} {g c : Nat} {l : List Bool} (h : Tr w g c l) : l.length ≤ c ∧ c ≤ maxLen := by
 obtain ⟨r, h1, h2, h3⟩ := h
 exact ⟨by omega, h3⟩
theorem Tr.cell {w : World} {g c : Nat} {l : List Bool} (h : Tr w g c l) (i : Nat) (hi : i < l.length) : w.cell? ⟨g, i, none⟩ = some (.bool (l.getD i false)) := by
 obtain ⟨r, h1, h2, h3⟩ := h
 rw [h1.cell i, List.getElem?_append_left (by simpa using hi)]
 simp [List.getD, hi]
theorem Tr.free {w : World} {g c : Nat} {l : List Bool} (h : Tr w g c l) (i : Nat) : w.frozen? ⟨g, i, none⟩ = false := by
 obtain ⟨r, h1, h2, h3⟩ := h
 exact h1.free i
theorem Tr.set {w : World} {g c : Nat} {l : List Bool} (h : Tr w g c l) (i : Nat) (hi : i < l.length) (b : Bool) : Tr (w.setCell ⟨g, i, none⟩ (.bool b)) g c (l.set i b) := by
 obtain ⟨r, h1, h2, h3⟩ := h
 refine ⟨r, ?_, by simpa using h2, h3⟩
 have := h1.set i (.bool b)
 rw [List.set_append_left _ _ (by simpa using hi), ← List.map_set] at this
 exact this
theorem sizesB : (Tryd.prog.info? 4).map (·.size) = some 1 := by kernel_rfl
theorem elemB : Tryd.prog.elem 31 = 4 := by kernel_rfl
theorem index_tr (g n c i : Nat) (hi : i < n) (K : IntKind) (u : World) : (Instr.indexAt 31 (.slice (some ⟨g, 0, none⟩) n c) (.int K (i : Int))).run Tryd.prog u = .ok (.pointer (some ⟨g, i, none⟩)) u := by
 have := index_run 31 4 Tryd.underlying31 sizesB elemB g 0 n c K i hi u
 rwa [Nat.zero_add] at this
section
variable {g c : Nat} {l : List Bool}
theorem free_take (l : List Bool) (k : Nat) (hk : k < l.length) : (l.take (k + 1)).count false = (l.take k).count false + (if l.getD k false then 0 else 1) := by
 rw [List.take_succ_eq_append_getElem hk, List.count_append]
 have : l[k] = l.getD k false := by simp [List.getD, hk]
 rw [this]
 cases l.getD k false <;> simp
theorem rfree_run (w : World) (h : Tr w g c l) (hl : l.length ≤ 512) : Calls Tryd.prog 148 #[.agg #[.slice (some ⟨g, 0, none⟩) l.length c]] w fun e w' => e = .returned (.int .i64 ((freeN l : Nat) : Int)) ∧ Below w.heap.size w w' := by
 obtain ⟨n, hn⟩ : ∃ n, n = l.length := ⟨_, rfl⟩
 obtain ⟨cf, hcf⟩ : ∃ cf : Nat → Nat, cf = fun k => (l.take k).count false := ⟨_, rfl⟩
 have HC : Hid (∀ k, k < n → ∀ u, Below w.heap.size w u → u.cell? ⟨g, k, none⟩ = some (.bool (l.getD k false))) := fun k hk u hu => (h.stays hu).cell k (by omega)
 have HS : Hid (∀ k, k < n → cf (k + 1) = cf k + (if l.getD k false then 0 else 1)) := fun k hk => by rw [hcf]; exact free_take l k (by omega)
 have HB : Hid (∀ k, cf k ≤ 512) := fun k => by
  rw [hcf]
  show (l.take k).count false ≤ 512
  have h1 := List.count_le_length (a := false) (l := l.take k)
  have h2 : (l.take k).length ≤ l.length := by simp; omega
  omega
 have H0 : Hid (cf 0 = 0) := by rw [hcf]; rfl
 have HE : Hid (cf n = freeN l) := by rw [hcf, hn]; show (l.take l.length).count false = _; rw [List.take_length]; rfl
 obtain ⟨F, hF⟩ : ∃ F, F = freeN l := ⟨_, rfl⟩
 rw [← hF] at HE ⊢
 rw [← hn] at hl ⊢
 clear hcf hn h hF
 go_enter Tryd.func148, Tryd.ntmps148
 go_wp2_with (refine wpList_box0 (by rfl) 33 (.tmp 0) (by rfl) [.slice (some ⟨g, 0, none⟩) n c] (by rfl) ?_; intro w1 hP1 hb1 hs1; have hc0 := hP1.cell 0)
 go_loopw [3, 4] (fun v i wr => ∃ k : Nat, k ≤ n ∧ i = .int .i64 k ∧ v = .int .i64 ((cf k : Nat) : Int) ∧ wr = w1) (fun _ i _ => n - (intOf i).toNat)
 case atStart => exact ⟨0, by omega, rfl, by rw [H0.out]; rfl, rfl⟩
 case round =>
  rename_i hrel
  obtain ⟨k, hk, rfl, rfl, rfl⟩ := hrel
  by_cases hlt : k < n
  · have hck := HC.out k hlt wr hb1
    have hix := index_tr g n c k hlt .i64
    have hs := HS.out k hlt
    have hbd := HB.out k
    obtain ⟨q, hq⟩ : ∃ q, q = cf k := ⟨_, rfl⟩
    rw [← hq] at hs hbd ⊢
    have HQ : Hid (cf (k + 1) = q + (if l.getD k false then 0 else 1)) := hs
    clear hs hq
    cases hb : l.getD k false
    · rw [hb] at hck HQ
      clear hb
      go_wp2
      go_roundw
      case rel => exact ⟨k + 1, by omega, by go_num, by rw [HQ.out]; go_num, trivial⟩
      case measure => simp [intOf]; omega
    · rw [hb] at hck HQ
      clear hb
      go_wp2
      go_roundw
      case rel => exact ⟨k + 1, by omega, by go_num, by rw [HQ.out]; rfl, trivial⟩
      case measure => simp [intOf]; omega
  · have hkn : k = n := by omega
    subst hkn
    rw [HE.out]
    go_wp2
    go_ret
    exact ⟨rfl, hb1⟩
end
end Go.Proofs.YthbldjnpnligpaaDoor

/-
 The document's Bytes.
-/

namespace Go.Proofs.YthbldjnpnligpaaDoor
set_option linter.unusedSimpArgs false
set_option linter.unusedVariables false
set_option maxRecDepth 100000
open Go.RowKit
theorem getD_take (l : List Bool) (k j : Nat) : (l.take k).getD j false = (decide (j < k) && l.getD j false) := by
 by_cases h : j < k
 · simp [List.getD, List.getElem?_take, h]
 · simp [List.getD, List.getElem?_take, h]
theorem Bt_take_zero (l : List Bool) (k j : Nat) (h : l.getD k false = false) : Bt (l.take (k + 1)) j = Bt (l.take k) j := by
 refine Nat.eq_of_testBit_eq fun i => ?_
 rw [Bt_bit, Bt_bit, getD_take, getD_take]
 by_cases e : 8 * j + i = k
 · rw [e, h]; simp
 · rw [show decide (8 * j + i < k + 1) = decide (8 * j + i < k) from decide_eq_decide.2 (by omega)]
theorem Bt_take_low (l : List Bool) (k : Nat) : Bt (l.take k) (k / 8) < 2 ^ (k % 8) := by
 refine Nat.lt_pow_two_of_testBit _ fun i hi => ?_
 rw [Bt_bit, getD_take]
 simp [show ¬ 8 * (k / 8) + i < k by omega]
theorem Bt_take_one (l : List Bool) (k j : Nat) (h : l.getD k false = true) : Bt (l.take (k + 1)) j = if j = k / 8 then Bt (l.take k) j + 2 ^ (k % 8) else Bt (l.take k) j := by
 by_cases hj : j = k / 8
 · rw [if_pos hj, hj, Nat.add_comm (Bt (l.take k) (k / 8)), ← nat_join (k % 8) (2 ^ (k % 8)) _ (by simp) (Bt_take_low l k)]
   refine Nat.eq_of_testBit_eq fun i => ?_
   rw [Nat.testBit_or, Nat.testBit_two_pow, Bt_bit, Bt_bit, getD_take, getD_take]
   by_cases e : k % 8 = i
   · subst e
     rw [show 8 * (k / 8) + k % 8 = k by omega, h]
     simp [show k % 8 < 8 by omega]
   · simp only [e, decide_false, Bool.false_or]
     rw [show decide (8 * (k / 8) + i < k + 1) = decide (8 * (k / 8) + i < k) from decide_eq_decide.2 (by omega)]
 · rw [if_neg hj]
   refine Nat.eq_of_testBit_eq fun i => ?_
   rw [Bt_bit, Bt_bit, getD_take, getD_take]
   by_cases hi : i < 8
   · rw [show decide (8 * j + i < k + 1) = decide (8 * j + i < k) from decide_eq_decide.2 (by omega)]
   · simp [hi]
theorem bytesL_zero (l : List Bool) (k : Nat) (h : l.getD k false = false) : bytesM (l.take (k + 1)) = bytesM (l.take k) := by
 unfold bytesM
 simp only [Bt_take_zero l k _ h]
theorem bytesL_one (l : List Bool) (k : Nat) (h : l.getD k false = true) (hk : k < 512) : bytesM (l.take (k + 1)) = (bytesM (l.take k)).set (k / 8) ((Bt (l.take k) (k / 8) + 2 ^ (k % 8) : Nat) : Int) := by
 refine List.ext_getElem? fun j => ?_
 rw [List.getElem?_set, bytesL_len]
 by_cases hj : j < 64
 · have e1 : (bytesM (l.take (k + 1)))[j]? = some ((Bt (l.take (k + 1)) j : Nat) : Int) := by simp [bytesM, hj]
   have e2 : (bytesM (l.take k))[j]? = some ((Bt (l.take k) j : Nat) : Int) := by simp [bytesM, hj]
   rw [e1, e2, Bt_take_one l k j h]
   by_cases e : j = k / 8
   · subst e; rw [if_pos rfl, if_pos rfl, if_pos hj]
   · rw [if_neg e, if_neg (fun x => e x.symm)]
 · rw [if_neg (by omega), List.getElem?_eq_none (by rw [bytesL_len]; omega), List.getElem?_eq_none (by rw [bytesL_len]; omega)]
theorem bytesL_none : bytesM [] = List.replicate 64 0 := by decide +kernel
section
variable {g c : Nat} {l : List Bool}
set_option maxRecDepth 100000 in
theorem rbytes_run (w : World) (h : Tr w g c l) (hl : l.length ≤ 512) : Calls Tryd.prog 19 #[.agg #[.slice (some ⟨g, 0, none⟩) l.length c]] w fun e w' => ∃ a c, e = .returned (.slice a 64 c) ∧ Bs w' a c (bytesM l) ∧ Below w.heap.size w w' := by
 have hi0 : (Tryd.prog.info? 5).map (fun i => (i.zero, i.size, i.bytes)) = some (some (.int .u8 0), 1, 1) := by kernel_rfl
 obtain ⟨ti, ht0, ht1, ht2, ht3⟩ := info_parts hi0
 obtain ⟨n, hn⟩ : ∃ n, n = l.length := ⟨_, rfl⟩
 have HC : Hid (∀ k, k < n → ∀ u, Below w.heap.size w u → u.cell? ⟨g, k, none⟩ = some (.bool (l.getD k false))) := fun k hk u hu => (h.stays hu).cell k (by omega)
 have HE : Hid (bytesM (l.take n) = bytesM l) := by show _ = _; rw [hn, List.take_length]
 have HI : Hid (bytesM (l.take 0) = List.replicate 64 0) := bytesL_none
 rw [← hn] at hl ⊢
 clear hn h hi0
 go_enter Tryd.func19, Tryd.ntmps19
 go_wp2_with (first
  | (refine wpList_box0 (by rfl) 33 (.tmp 0) (by rfl) [.slice (some ⟨g, 0, none⟩) n c] (by rfl) ?_; intro w1 hP1 hb1 hs1)
  | (refine wpList_make_bytes (by rfl) (.const (.int .i64 64)) (.const (.int .i64 64)) 43 (by rfl) w1.heap.size 5 ti Tryd.underlying43 ht0 ht1 ht2 ht3 .i64 .i64 64 64 64 (by rfl) (by rfl) rfl rfl (by decide) (Nat.le_refl _) (Below.refl _ w1) ?_; intro w2 hR2 hb2))
 have hP2 := hP1.stays hb2
 obtain ⟨B, hB⟩ : ∃ B, B = w.heap.size + 1 := ⟨_, rfl⟩
 have hwB : w.heap.size < B := by omega
 rw [hs1, ← hB] at hR2
 rw [← hB]
 have hX2 : Below w.heap.size w w2 := hb1.trans (hb2.mono (by omega))
 clear hB hb1 hb2 hP1 hs1
 go_loopw [4] (fun i wr => ∃ k : Nat, k ≤ n ∧ i = .int .i64 k ∧ Blk 5 wr B ((bytesM (l.take k)).map (Value.int .u8)) ∧ Blk 33 wr w.heap.size [.slice (some ⟨g, 0, none⟩) n c] ∧ Below w.heap.size w wr) (fun i _ => n - (intOf i).toNat)
 case atStart => exact ⟨0, by omega, rfl, by rw [HI.out]; exact hR2, hP2, hX2⟩
 case round =>
  rename_i hrel
  obtain ⟨k, hk, rfl, hR, hP, hbr⟩ := hrel
  clear hR2 hP2 hX2
  have hc0 := hP.cell 0
  by_cases hlt : k < n
  · have hck := HC.out k hlt wr hbr
    have hix := index_tr g n c k hlt .i64
    cases hb : l.getD k false
    · rw [hb] at hck
      have hR3 : Blk 5 wr B ((bytesM (l.take (k + 1))).map (Value.int .u8)) := by rw [bytesL_zero l k hb]; exact hR
      clear hb hR
      go_wp2
      go_roundw
      case rel => exact ⟨k + 1, by omega, by go_num, hR3, hP, hbr⟩
      case measure => simp [intOf]; omega
    · rw [hb] at hck
      have hlow := Bt_take_low l k
      have hone := bytesL_one l k hb (by omega)
      have hcx : wr.cell? ⟨B, k / 8, none⟩ = some (.int .u8 ((Bt (l.take k) (k / 8) : Nat) : Int)) := by
       rw [hR.cell]; simp [bytesM, show k / 8 < 64 by omega]
      have hcl : k / 8 < ((bytesM (l.take k)).map (Value.int .u8)).length := by rw [List.length_map, bytesL_len]; omega
      obtain ⟨x, hx⟩ : ∃ x, x = Bt (l.take k) (k / 8) := ⟨_, rfl⟩
      rw [← hx] at hlow hone hcx
      clear hx hb
      obtain ⟨cur, hcur⟩ : ∃ cur, cur = bytesM (l.take k) := ⟨_, rfl⟩
      rw [← hcur] at hR hone hcl
      clear hcur
      have HON : Hid (bytesM (l.take (k + 1)) = cur.set (k / 8) ((x + 2 ^ (k % 8) : Nat) : Int)) := hone
      clear hone
      have hix8 : ∀ u : World, (Instr.indexAt 43 (.slice (some ⟨B, 0, none⟩) 64 64) (.int .i64 ((k : Int) / 8))).run Tryd.prog u = .ok (.pointer (some ⟨B, k / 8, none⟩)) u := fun u => by
       have := index_run 43 5 Tryd.underlying43 ssizes5 selem5 B 0 64 64 .i64 (k / 8) (by omega) u
       rwa [Nat.zero_add, show (((k / 8 : Nat)) : Int) = (k : Int) / 8 by omega] at this
      obtain ⟨p, hp⟩ : ∃ p, p = 2 ^ (k % 8) := ⟨_, rfl⟩
      have hp8 : p ≤ 128 := by rw [hp]; exact Nat.pow_le_pow_right (by decide) (show k % 8 ≤ 7 by omega)
      have hpI : (2 : Int) ^ (k % 8) = (p : Int) := by rw [hp, Int.natCast_pow]; rfl
      rw [← hp] at hlow HON
      clear hp
      go_wp2_with (refine wpList_store_int (by rfl) (.tmp 31) (.tmp 30) 5 (by rfl) B (k / 8) (by rfl) .u8 _ (by rfl) ssize_u8 hR hcl ?_; intro w5 hR5 hbut5 hs5)
      have hR6 : Blk 5 w5 B ((bytesM (l.take (k + 1))).map (Value.int .u8)) := by
       rw [HON.out, List.map_set]; exact hR5
      have hP6 := hP.but hbut5 (by omega)
      go_roundw
      case rel => exact ⟨k + 1, by omega, by go_num, hR6, hP6, hbr.trans (hbut5.below (Nat.le_of_lt hwB) hbr.size)⟩
      case measure => simp [intOf]; omega
  · have hkn : k = n := by omega
    subst hkn
    rw [HE.out] at hR
    have hB : Bs wr (some ⟨B, 0, none⟩) 64 (bytesM l) := by
        have := Row.bs (e := 5) (w := wr) (g := B) hR (bytesL_rng l) (by rw [bytesL_len]; decide)
        rwa [bytesL_len] at this
    clear hR
    go_wp2
    go_ret
    exact ⟨_, 64, rfl, hB, hbr⟩
end
end Go.Proofs.YthbldjnpnligpaaDoor

/-
 The document's New, Give and Keep.
-/

namespace Go.Proofs.YthbldjnpnligpaaDoor
set_option linter.unusedSimpArgs false
set_option linter.unusedVariables false
set_option maxRecDepth 100000
open Go.RowKit
theorem agg_rmap (w : World) : (isAgg 33).run Tryd.prog w = .ok true w := by kernel_rfl
theorem size_rmap (w : World) : (sizeOf 33).run Tryd.prog w = .ok 1 w := sizeOf_run (by kernel_rfl) w
theorem alloc_rmap (w : World) : (Instr.alloc 33 true (.tuple #[])).run Tryd.prog w = .ok (.pointer (some ⟨w.heap.size, 0, none⟩)) (w.alloc (.cells [Value.slice none 0 0].toArray 33)) := by kernel_rfl
theorem build_rmap (a : Option Addr) (n c : Nat) (w : World) : (Instr.build 33 #[(0, .slice a n c)]).run Tryd.prog w = .ok (.agg [Value.slice a n c].toArray) w := by kernel_rfl
theorem boolInfo : ∃ i, Tryd.prog.info? 4 = some i ∧ i.zero = some (.bool false) ∧ i.size = 1 ∧ i.bytes = 1 := ⟨_, rfl, rfl, rfl, rfl⟩
theorem wpList_make_bools {w : World} {ops : Array Oper} {rest : List Oper} {o : Oper} {a : Act} {Q : Exit → Act → World → Prop}
 (hg : o.guard = none) (l c : Operand) (hop : o.op = Op.makeSlice 31 l c) (n : Nat) (hl : a.eval l = .int .i64 (n : Int)) (hc : a.eval c = .int .i64 (n : Int)) (hn : n ≤ 512)
 (hK : ∀ w', Tr w' w.heap.size n (lab n 0) → Below w.heap.size w w' → wpList Tryd.prog ops Q rest (a.put o.dst (.slice (some ⟨w.heap.size, 0, none⟩) n n)) w') :
 wpList Tryd.prog ops Q (o :: rest) a w := by
 obtain ⟨i, hi, hz, hs, hb⟩ := boolInfo
 refine wpList_make_full w hg l c 31 hop w.heap.size 4 i (.bool false) 1 Tryd.underlying31 hi hz hs .i64 .i64 _ _ n hl hc rfl rfl (by rw [hb]; omega) (by unfold maxLen; omega) (Nat.le_refl _) ?_
 intro w' hown hgr
 refine hK w' ?_ ((Below.refl _ w).grown hgr (Nat.le_refl _) (by simp))
 rcases hown.2 with ⟨h, _⟩ | ⟨g, cap, cur, hv, hg, hh, h1, h2, h3, h4⟩
 · simp at h
 · simp only [Value.slice.injEq, Option.some.injEq, Addr.mk.injEq, and_true, true_and] at hv
   obtain ⟨h5, h6⟩ := hv
   subst h5 h6
   refine ⟨[], ?_, by rw [lab_len]; simp, h2⟩
   unfold Blk
   rw [hh]
   congr 2
   have : cur.toList = List.replicate n (Value.bool false) := by
    have e1 : cur.toList.take (n * 1) = cur.toList := List.take_of_length_le (by simp [h3])
    rw [← e1, h4]
    have e2 : (Value.bool false).cells = #[.bool false] := rfl
    rw [e2, Nat.mul_one, toList_madeCells_one]
   have hl0 : (lab n 0).map Value.bool = List.replicate n (Value.bool false) := by
    refine List.ext_getElem (by simp [lab_len]) fun j h1 h2 => ?_
    simp [lab]
   rw [List.append_nil, hl0, ← this]
theorem wpList_clone_bools {w : World} {ops : Array Oper} {rest : List Oper} {o : Oper} {a : Act} {Q : Exit → Act → World → Prop} (hgd : o.guard = none) (s x : Operand)
 (ho : o.op = .call { callee := .builtin .append, args := #[s, x], argTypes := #[31, 31] })
 (v : Value) (hs : a.eval s = v) (base : Nat) (hown : w.ownsRow base 4 1 v 0 [])
 (g c : Nat) (l : List Bool) (hx : a.eval x = .slice (some ⟨g, 0, none⟩) l.length c) (hT : Tr w g c l) (hl0 : 0 < l.length) (hl : l.length ≤ 512) (hbase : base ≤ w.heap.size)
 (h : ∀ w' q c', Tr w' q c' l → base ≤ q → Below base w w' → wpList Tryd.prog ops Q rest (a.put o.dst (.slice (some ⟨q, 0, none⟩) l.length c')) w') : wpList Tryd.prog ops Q (o :: rest) a w := by
 obtain ⟨i, hi, hz, hsz, hb⟩ := boolInfo
 refine wpList_append_own _ hgd s x 31 ho base 4 i (.bool false) 1 1 Tryd.underlying31 hi hz hsz hb rfl (by decide) v 0 [] hs hown ⟨g, 0, none⟩ l.length c (l.map Value.bool) hx (by simp) ?_ ?_ (by unfold maxLen; omega) (by omega) hbase ?_
 · intro j u hj
   have hjl : j < l.length := by
    rcases Nat.lt_or_ge j l.length with h1 | h1
    · exact h1
    · rw [List.getElem?_eq_none (by simpa using h1)] at hj; cases hj
   have hadd : (⟨g, 0, none⟩ : Addr).add j = ⟨g, j, none⟩ := by unfold Addr.add; split <;> simp_all
   rw [hadd, hT.cell j hjl]
   simpa [List.getD, hjl] using hj
 · intro u hu
   obtain ⟨b, _, rfl⟩ := List.mem_map.1 hu
   rfl
 · intro v' w' h1 h2 _
   have hbl : Below base w w' := (Below.refl base w).grown h2 hbase (fun k hk => (World.ownsRow.lt hown k hk).1)
   rcases h1.2 with ⟨_, h0⟩ | ⟨q, cap, cur, hv', hq, hh, e1, e2, e3, e4⟩
   · omega
   · rw [hv', Nat.zero_add]
     refine h w' q cap ⟨cur.toList.drop l.length, ?_, ?_, e2⟩ hq hbl
     · unfold Blk
       rw [hh]
       congr 2
       simp only [Nat.zero_add, Nat.mul_one, List.nil_append] at e4
       rw [← e4, List.take_append_drop]
     · rw [List.length_drop]
       simp only [Nat.zero_add] at e1
       have : cur.toList.length = cap := by simp [e3]
       omega
theorem one_slice (a : Option Addr) (n c : Nat) : ∀ v ∈ [Value.slice a n c], v.oneCell' = true := by simp; rfl
theorem srnew_run (n : Nat) (h16 : 16 ≤ n) (h512 : n ≤ 512) (w : World) : Calls Tryd.prog 49 #[.int .i64 (n : Int)] w fun e w' =>
 ∃ q c, e = .returned (.tuple #[.agg #[.slice (some ⟨q, 0, none⟩) n c], .int .i64 0]) ∧ Tr w' q c (lab n 4) ∧ w.heap.size ≤ q ∧ Below w.heap.size w w' := by
 have hz1 : [Value.slice none 0 0].length = 1 := rfl
 have hz2 : ∀ a n c, [Value.slice a n c].length = 1 := fun _ _ _ => rfl
 go_enter Tryd.func49, Tryd.ntmps49
 go_wp2_with (first
  | (refine wpList_alloc0 (by rfl) 33 (by rfl) (some 2) (by rfl) _ alloc_rmap ?_; intro w1 hP1 hb1 hs1)
  | (refine wpList_make_bools (by rfl) (.tmp 13) (.tmp 13) (by rfl) n (by rfl) (by rfl) h512 ?_; intro w2 hT2 hb2))
 have hP2 := hP1.stays hb2
 have hX2 : Below w.heap.size w w2 := hb1.trans (hb2.mono (by omega))
 rw [hs1] at hT2
 clear hP1 hb1 hb2 hs1
 go_loopw [5] (fun i wr => ∃ k : Nat, k ≤ 4 ∧ i = .int .i64 k ∧ Tr wr (w.heap.size + 1) n (lab n k) ∧ Blk 33 wr w.heap.size [.slice none 0 0] ∧ Below w.heap.size w wr) (fun i _ => 4 - (intOf i).toNat)
 case atStart => exact ⟨0, by omega, rfl, hT2, hP2, hX2⟩
 case round =>
  rename_i hrel
  obtain ⟨k, hk, rfl, hT, hP, hbr⟩ := hrel
  clear hT2 hP2 hX2
  have hsz := hbr.size
  by_cases hlt : k < 4
  · have hck := hT.cell k (by rw [lab_len]; omega)
    have hfr := hT.free k
    have hix := index_tr (w.heap.size + 1) n n k (by omega) .i64
    have hT3 := hT.set k (by rw [lab_len]; omega) true
    rw [lab_next n k (by omega)] at hT3
    have hP3 : Blk 33 (wr.setCell ⟨w.heap.size + 1, k, none⟩ (.bool true)) w.heap.size [.slice none 0 0] := hP.but ((But.refl _ wr).setCell k (.bool true)) (by omega)
    have hb3 : Below w.heap.size w (wr.setCell ⟨w.heap.size + 1, k, none⟩ (.bool true)) := hbr.setCell (by simp) _
    have HT3 : Hid _ := hT3
    have HP3 : Hid _ := hP3
    have HB3 : Hid _ := hb3
    clear hT hP hbr hT3 hP3 hb3
    go_wp2
    go_roundw
    case rel => exact ⟨k + 1, by omega, by go_num, HT3.out, HP3.out, HB3.out⟩
    case measure => simp [intOf]; omega
  · have hk4 : k = 4 := by omega
    subst hk4
    go_wp2_with (first
        | (refine wpList_build (by rfl) 33 [(0, .tmp 22)] (by rfl) [(0, .slice (some ⟨w.heap.size + 1, 0, none⟩) n n)] (by rfl) _ (build_rmap _ _ _) ?_)
        | (refine wpList_store_blk (by rfl) (.tmp 2) (.tmp 23) 33 (by rfl) w.heap.size 0 1 (by rfl) [.slice (some ⟨w.heap.size + 1, 0, none⟩) n n] (by rfl) size_rmap hP (hz2 _ _ _) (by simp) (one_slice _ _ _) _ (whole_store hz1) ?_; intro w3 hP3 hbut3 hs3))
    exact bodyPost_ret_blk2 rfl rfl (by rfl) (by rfl) agg_rmap size_rmap hP3 (hz2 _ _ _) ⟨_, n, rfl, hT.but hbut3 (by omega), by omega, hbr.trans (hbut3.below (Nat.le_refl _) hsz)⟩
end Go.Proofs.YthbldjnpnligpaaDoor
