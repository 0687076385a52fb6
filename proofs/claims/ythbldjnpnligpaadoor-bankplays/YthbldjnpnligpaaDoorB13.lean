/-
 Package space: Take.
-/
import Derived.Test.YthbldjnpnligpaaDoorB12
namespace Go.Proofs.YthbldjnpnligpaaDoor
set_option linter.unusedSimpArgs false
set_option linter.unusedVariables false
set_option maxRecDepth 100000
open Go.RowKit
def n32s (xs : List Nat) : List Value := xs.map (fun n : Nat => Value.int .u32 (n : Int))
theorem n32s_len (xs : List Nat) : (n32s xs).length = xs.length := by simp [n32s]
def Nums (base : Nat) (w : World) (v : Value) (xs : List Nat) : Prop := w.ownsRow base 34 1 v xs.length (n32s xs)
theorem Nums.none (base : Nat) (w : World) : Nums base w (.slice none 0 0) [] := ⟨by simp [n32s], .inl ⟨rfl, rfl⟩⟩
theorem Nums.form {base : Nat} {w : World} {v : Value} {xs : List Nat} (h : Nums base w v xs) : ∃ a c, v = .slice a xs.length c := by
 rcases h.2 with ⟨rfl, h0⟩ | ⟨g, cap, cur, rfl, _⟩
 · exact ⟨Option.none, 0, by rw [h0]⟩
 · exact ⟨_, _, rfl⟩
theorem Nums.keep {base : Nat} {w w' : World} {v : Value} {xs : List Nat} (h : Nums base w v xs) (hk : ∀ k, v.ownBlock = some k → w'.heap[k]? = w.heap[k]?) : Nums base w' v xs := by
 obtain ⟨h1, h2⟩ := h
 refine ⟨h1, ?_⟩
 rcases h2 with h2 | ⟨g, cap, cur, rfl, hb, hh, rest⟩
 · exact .inl h2
 · exact .inr ⟨g, cap, cur, rfl, hb, by rw [hk g rfl]; exact hh, rest⟩
theorem Nums.lt {base : Nat} {w : World} {v : Value} {xs : List Nat} (h : Nums base w v xs) {k : Nat} (hk : v.ownBlock = some k) : base ≤ k ∧ k < w.heap.size := World.ownsRow.lt h k hk
theorem Nums.stays {base : Nat} {w w' : World} {v : Value} {xs : List Nat} (h : Nums base w v xs) (hb : Below w.heap.size w w') : Nums base w' v xs :=
 h.keep fun k hk => hb.block k (h.lt hk).2
theorem Nums.but {base g : Nat} {w w' : World} {v : Value} {xs : List Nat} (h : Nums base w v xs) (hb : But g w w') (hg : g < base) : Nums base w' v xs :=
 h.keep fun k hk => hb.block k (by have := h.lt hk; omega) (h.lt hk).2
theorem Nums.us {base : Nat} {w : World} {a : Option Addr} {n c : Nat} {xs : List Nat} (h : Nums base w (.slice a n c) xs) (hr : ∀ x ∈ xs, x < 4294967296) : n = xs.length ∧ Us w a xs := by
 have hl : n = xs.length := by
  obtain ⟨a', c', he⟩ := h.form
  simp only [Value.slice.injEq] at he
  exact he.2.1
 refine ⟨hl, hr, ?_⟩
 by_cases h0 : xs = []
 · exact .inl h0
 · rcases h.2 with ⟨he, hz⟩ | ⟨g, cap, cur, he, hg, hh, h1, h2, h3, h4⟩
   · exact .inl (List.eq_nil_of_length_eq_zero hz)
   · simp only [Value.slice.injEq] at he
     obtain ⟨rfl, _, _⟩ := he
     subst hl
     refine .inr ⟨g, 0, rfl, fun i hi => ?_⟩
     have := World.ownsRow.cellAt h i (by omega)
     simp [n32s, hi, List.getD] at this ⊢
     exact this
theorem u32Info : ∃ i, Tryd.prog.info? 34 = some i ∧ i.zero = some (.int .u32 0) ∧ i.size = 1 ∧ i.bytes = 4 := ⟨_, rfl, rfl, rfl, rfl⟩
theorem wpList_append_u32 {w : World} {ops : Array Oper} {rest : List Oper} {o : Oper} {a : Act} {Q : Exit → Act → World → Prop} (hgd : o.guard = none) (s x : Operand)
 (ho : o.op = .call { callee := .builtin .append, args := #[s, x], argTypes := #[169, 169] })
 (base : Nat) (v : Value) (xs : List Nat) (hs : a.eval s = v) (hown : Nums base w v xs)
 (b c : Nat) (y : Nat) (hx : a.eval x = .slice (some ⟨b, 0, none⟩) 1 c) (hB : w.cell? ⟨b, 0, none⟩ = some (.int .u32 (y : Int)))
 (hlen : xs.length ≤ 1000000) (hbase : base ≤ w.heap.size)
 (h : ∀ v' w', Nums base w' v' (xs ++ [y]) → w.grownBy w' v.ownBlock → wpList Tryd.prog ops Q rest (a.put o.dst v') w') : wpList Tryd.prog ops Q (o :: rest) a w := by
 obtain ⟨i, hi, hz, hsize, hby⟩ := u32Info
 refine wpList_append_own _ hgd s x 169 ho base 34 i (.int .u32 0) 1 4 Tryd.underlying169 hi hz hsize hby rfl (by decide) v xs.length (n32s xs) hs hown ⟨b, 0, none⟩ 1 c [.int .u32 (y : Int)] hx (by simp) ?_ (by simp [Value.oneCell']) ?_ ?_ hbase ?_
 · intro j u hj
   cases j with
   | zero =>
     simp at hj
     subst hj
     exact hB
   | succ j => simp at hj
 · unfold maxLen; omega
 · omega
 · intro v' w' h1 h2 _
   refine h v' w' ?_ h2
   unfold Nums
   simpa [n32s] using h1
section
variable {g : Nat} {l : List Bool}
theorem take_bad (p : Option Addr) (k : Int) (hk : k < 0 ∨ 8 < k ∨ p = none) (w : World) : Calls Tryd.prog 103 #[.pointer p, .int .i64 k] w fun e w' => e = .returned (.tuple #[.slice none 0 0, .int .i64 1]) ∧ w' = w := by
 cases p with
 | none =>
   go_enter Tryd.func103, Tryd.ntmps103
   go_wp2
   go_ret2
   exact ⟨rfl, rfl⟩
 | some p =>
   by_cases h0 : k < 0
   · go_enter Tryd.func103, Tryd.ntmps103
     go_wp2
     go_ret2
     exact ⟨rfl, rfl⟩
   · have h8 : 8 < k := by
        rcases hk with h | h | h
        · omega
        · exact h
        · cases h
     clear hk
     go_enter Tryd.func103, Tryd.ntmps103
     go_wp2
     go_ret2
     exact ⟨rfl, rfl⟩
theorem take_full (k : Nat) (h8 : k ≤ 8) (hf : freeN l < k) (w : World) (h : Mp w g l) : Calls Tryd.prog 103 #[.pointer (some ⟨g, 0, none⟩), .int .i64 (k : Int)] w fun e w' => e = .returned (.tuple #[.slice none 0 0, .int .i64 7]) ∧ w' = w := by
 obtain ⟨F, hF⟩ : ∃ F, F = freeN l := ⟨_, rfl⟩
 have HF : Hid (Calls Tryd.prog 30 #[.pointer (some ⟨g, 0, none⟩)] w fun e w' => e = .returned (.int .i64 (F : Int)) ∧ w' = w) := by rw [hF]; exact free_run w h
 rw [← hF] at hf
 clear hF
 go_enter Tryd.func103, Tryd.ntmps103
 go_wp2_with (go_at_call 30; refine HF.out.mono ?_; rintro e w' ⟨rfl, rfl⟩)
 go_ret2
 exact ⟨rfl, rfl⟩
theorem grown_but {w0 w w' : World} {v : Option Nat} (h : But g w0 w) (hg : w.grownBy w' v) (hv : ∀ k, v = some k → w0.heap.size ≤ k) : But g w0 w' :=
 ⟨hg.os.trans h.os, hg.tape.trans h.tape, hg.output.trans h.output, Nat.le_trans h.size hg.size, fun k hk hl => (hg.block k (Nat.lt_of_lt_of_le hl h.size) (fun e => by have := hv k e.symm; omega)).trans (h.block k hk hl)⟩
theorem take_some (k : Nat) (h8 : k ≤ 8) (hf : k ≤ freeN l) (w : World) (h : Mp w g l) : Calls Tryd.prog 103 #[.pointer (some ⟨g, 0, none⟩), .int .i64 (k : Int)] w fun e w' =>
 ∃ v, e = .returned (.tuple #[v, .int .i64 0]) ∧ Nums w.heap.size w' v ((Fr l l.length).take k) ∧ Mp w' g (setAll l ((Fr l l.length).take k)) ∧ But g w w' := by
 obtain ⟨ti, ht0, ht1, ht2, ht3⟩ := u32Info
 have hlo := h.lo
 have hhi := h.hi
 have hgl := h.blk.lt
 obtain ⟨n, hn⟩ : ∃ n, n = l.length := ⟨_, rfl⟩
 obtain ⟨F, hF⟩ : ∃ F, F = freeN l := ⟨_, rfl⟩
 have HF : Hid (Calls Tryd.prog 30 #[.pointer (some ⟨g, 0, none⟩)] w fun e w' => e = .returned (.int .i64 (F : Int)) ∧ w' = w) := by rw [hF]; exact free_run w h
 have HLT : Hid (∀ i, i ≤ n → (Fr l i).length < k → i < n) := fun i hi hk => by
  rcases Nat.lt_or_ge i n with h1 | h1
  · exact h1
  · exfalso
    have : i = l.length := by omega
    rw [this, Fr_all] at hk
    omega
 have HEND : Hid (∀ i, i ≤ n → (Fr l i).length = k → Fr l i = (Fr l l.length).take k) := fun i hi hk => Fr_take l i (by omega) k hk
 have HCL : Hid (∀ i, (Cu l i).length = n) := fun i => by rw [hn]; exact Cu_len l i
 have HCA : Hid (∀ i, i < n → (Cu l i).getD i false = l.getD i false) := fun i hi => Cu_at l i (by omega)
 have hP0 : Mp w g (Cu l 0) := h
 obtain ⟨O, hO⟩ : ∃ O, O = (Fr l l.length).take k := ⟨_, rfl⟩
 have HSA : Hid (∀ i, Fr l i = O → Cu l i = setAll l O) := fun i hi => by unfold Cu; rw [hi]
 rw [← hO] at HEND ⊢
 rw [← hF] at hf
 rw [← hn] at hlo hhi
 clear hn hF hO h
 have hb1 : ti.bytes * k ≤ 281474976710656 := by rw [ht3]; omega
 have hb2 : k ≤ maxLen := by unfold maxLen; omega
 go_enter Tryd.func103, Tryd.ntmps103
 go_wp2_with (first
  | (go_at_call 30; refine HF.out.mono ?_; rintro e w ⟨rfl, rfl⟩)
  | (refine wpList_make_own _ (by rfl) (.const (.int .i64 0)) (.tmp 22) 169 (by rfl) w.heap.size 34 ti (.int .u32 0) 1 Tryd.underlying169 ht0 ht1 ht2 .i64 .i64 (k : Int) k (by rfl) (by rfl) rfl hb1 hb2 (Nat.le_refl _) ?_; intro w1 hN1 hg1))
 have hP1 : Mp w1 g (Cu l 0) := ⟨(hg1.block g hgl (by simp)).trans hP0.blk, hP0.lo, hP0.hi⟩
 have hbut1 : But g w w1 := grown_but (But.refl g w) hg1 (by simp)
 have hn1 : Nums w.heap.size w1 (.slice (some ⟨w.heap.size, 0, none⟩) 0 k) (Fr l 0) := hN1
 clear hP0 hN1 hg1 HF hb1 hb2 ht0 ht1 ht2 ht3
 go_loopw [6, 7] (fun v i wr => ∃ j : Nat, j ≤ n ∧ i = .int .i64 j ∧ (Fr l j).length ≤ k ∧ Nums w.heap.size wr v (Fr l j) ∧ Mp wr g (Cu l j) ∧ But g w wr) (fun _ i _ => n - (intOf i).toNat)
 case atStart => exact ⟨0, by omega, rfl, Nat.zero_le _, hn1, hP1, hbut1⟩
 case round =>
  rename_i hrel
  obtain ⟨j, hj, rfl, hle, hN, hP, hbr⟩ := hrel
  clear hP1 hbut1 hn1
  obtain ⟨av, cv, hv⟩ := hN.form
  rw [hv] at hN ⊢
  clear hv
  obtain ⟨m, hm⟩ : ∃ m, m = (Fr l j).length := ⟨_, rfl⟩
  have HM : Hid (m = (Fr l j).length) := hm
  have HN : Hid (Nums w.heap.size wr (.slice av m cv) (Fr l j)) := by rw [hm]; exact hN
  have HE := HEND.out j hj
  rw [← hm] at hle ⊢
  rw [← hm] at HE
  have HLJ := HLT.out j hj
  rw [← hm] at HLJ
  clear hm hN
  by_cases hlt : m < k
  · have hjn := HLJ hlt
    clear HE HLJ
    have hua := HCA.out j hjn
    have hcl := HCL.out j
    have hU := used_in j wr hP (by rw [hcl]; exact hjn)
    rw [hua] at hU
    by_cases hx : l.getD j false = true
    · rw [hx] at hU
      have HU : Hid (Calls Tryd.prog 143 #[.pointer (some ⟨g, 0, none⟩), .int .i64 (j : Int)] wr fun e w' => e = .returned (.bool true) ∧ Below wr.heap.size wr w') := hU
      have HF1 : Hid (Fr l j = Fr l (j + 1) ∧ Cu l j = Cu l (j + 1)) := ⟨(Fr_used l j hx).symm, Cu_used l j hx⟩
      clear hU hua hcl hx
      go_wp2_with (go_at_call 143; refine HU.out.mono ?_; rintro e w2 ⟨rfl, hb2⟩)
      have hN2 := HN.out.stays hb2
      have hP2 := hP.stays hb2
      have hM2 := HM.out
      rw [HF1.out.1] at hN2 hM2
      rw [HF1.out.2] at hP2
      go_roundw
      case rel => exact ⟨j + 1, by omega, by go_num, by omega, hN2, hP2, hbr.trans (But.of_below hb2)⟩
      case measure => simp [intOf]; omega
    · have hx' : l.getD j false = false := by cases hh : l.getD j false; rfl; exact absurd hh hx
      rw [hx'] at hU
      have HU : Hid (Calls Tryd.prog 143 #[.pointer (some ⟨g, 0, none⟩), .int .i64 (j : Int)] wr fun e w' => e = .returned (.bool false) ∧ Below wr.heap.size wr w') := hU
      have HF1 : Hid (Fr l (j + 1) = Fr l j ++ [j] ∧ (Cu l j).set j true = Cu l (j + 1)) := ⟨Fr_free l j hx', Cu_free l j hx'⟩
      have HUS : Hid (∀ u, Mp u g (Cu l j) → Calls Tryd.prog 140 #[.pointer (some ⟨g, 0, none⟩), .int .i64 (j : Int)] u fun e w' => e = .returned (.tuple #[]) ∧ Mp w' g (Cu l (j + 1)) ∧ But g u w') := fun u hu => by
       have := use_run j u hu (by rw [hcl]; exact hjn)
       rw [HF1.out.2] at this
       exact this.mono fun e w' ⟨h1, h2, h3, _⟩ => ⟨h1, h2, h3⟩
      have HLN : Hid ((Fr l j).length ≤ 1000000) := by have := HM.out; show _ ≤ _; omega
      clear hU hua hcl hx hx'
      have hsz := hbr.size
      go_wp2_with (first
       | (go_at_call 143; refine HU.out.mono ?_; rintro e w2 ⟨rfl, hb2⟩; have hz2 := hb2.size)
       | (go_at_call 140; refine (HUS.out _ (hP.stays hb2)).mono ?_; rintro e w3 ⟨rfl, hP3, hb3⟩; have hz3 := hb3.size; have hN3 := (HN.out.stays hb2).but hb3 hgl)
       | (at_builtin; refine wpList_append_u32 (by rfl) (.tmp 37) (.tmp 40) (by rfl) w.heap.size _ (Fr l j) (by rfl) (hN3.stays ((Below.refl _ _).alloc (Nat.le_refl _) _)) w3.heap.size 1 j (by rfl) (by simp) HLN.out (by simp; omega) ?_; intro v5 w5 hN5 hg5))
      have hNO : ∀ q, (Value.slice av m cv).ownBlock = some q → w.heap.size ≤ q := fun q hq => (hN3.lt hq).1
      have hP4 := hP3.stays ((Below.refl _ _).alloc (Nat.le_refl _) (.cells #[.int .u32 (j : Int)] 34))
      have hP5 : Mp w5 g (Cu l (j + 1)) := ⟨(hg5.block g hP4.blk.lt (fun hq => by have := hNO g hq.symm; omega)).trans hP4.blk, hP4.lo, hP4.hi⟩
      have hb5 : But g w w5 := grown_but ((hbr.trans ((But.of_below hb2).trans hb3)).trans (But.of_below ((Below.refl _ _).alloc (Nat.le_refl _) _))) hg5 hNO
      rw [← HF1.out.1] at hN5
      have hle5 : (Fr l (j + 1)).length ≤ k := by rw [HF1.out.1, List.length_append]; have := HM.out; simp; omega
      go_roundw
      case rel => exact ⟨j + 1, by omega, by go_num, hle5, hN5, hP5, hb5⟩
      case measure => simp [intOf]; omega
  · have hmk : m = k := by omega
    have hfin := HE hmk
    have hN2 := HN.out
    rw [hfin] at hN2
    rw [HSA.out j hfin] at hP
    go_wp2
    go_ret2
    exact ⟨_, rfl, hN2, hP, hbr⟩
theorem take_run (k : Int) (w : World) (h : Mp w g l) : Calls Tryd.prog 103 #[.pointer (some ⟨g, 0, none⟩), .int .i64 k] w fun e w' =>
 ∃ v, e = .returned (.tuple #[v, .int .i64 ((takeL l k).2.2 : Int)]) ∧ Nums w.heap.size w' v (takeL l k).2.1 ∧ Mp w' g (takeL l k).1 ∧ But g w w' := by
 unfold takeL
 by_cases h1 : k < 0 ∨ 8 < k
 · rw [if_pos h1]
   refine (take_bad _ k (by omega) w).mono ?_
   rintro e w' ⟨rfl, rfl⟩
   exact ⟨_, rfl, Nums.none _ _, h, But.refl _ _⟩
 · rw [if_neg h1]
   obtain ⟨m, rfl⟩ : ∃ m : Nat, k = (m : Int) := ⟨k.toNat, by omega⟩
   by_cases h2 : (freeN l : Int) < (m : Int)
   · rw [if_pos h2]
     refine (take_full m (by omega) (by omega) w h).mono ?_
     rintro e w' ⟨rfl, rfl⟩
     exact ⟨_, rfl, Nums.none _ _, h, But.refl _ _⟩
   · rw [if_neg h2]
     exact take_some m (by omega) (by omega) w h
end
end Go.Proofs.YthbldjnpnligpaaDoor

/-
 What is taken: it was free; how it is given back; no program here.
-/

namespace Go.Proofs.YthbldjnpnligpaaDoor
set_option linter.unusedSimpArgs false
set_option linter.unusedVariables false
set_option maxRecDepth 100000
theorem srt_lt {o : List Nat} (h : o.Pairwise (· < ·)) {i j : Nat} (hij : i < j) (hj : j < o.length) : o.getD i 0 < o.getD j 0 := by
 have h1 : i < o.length := by omega
 have := List.pairwise_iff_getElem.1 h i j h1 hj hij
 simpa [List.getD, h1, hj] using this
structure Gv (n : Nat) (o : List Nat) (k : Nat) (l : List Bool) : Prop where
 len : l.length = n
 lab : Lab l
 mem : ∀ j, k ≤ j → j < o.length → 4 ≤ o.getD j 0 ∧ o.getD j 0 < n ∧ l.getD (o.getD j 0) false = true
 srt : o.Pairwise (· < ·)
theorem Gv.once {n k : Nat} {o : List Nat} {l : List Bool} (h : Gv n o k l) (hk : k < o.length) : giveL l (o.getD k 0) = (l.set (o.getD k 0) false, 0) := by
 obtain ⟨h1, h2, h3⟩ := h.mem k (Nat.le_refl _) hk
 unfold giveL
 rw [if_pos ⟨by rw [h.len]; exact h2, h1, h3⟩]
theorem Gv.next {n k : Nat} {o : List Nat} {l : List Bool} (h : Gv n o k l) (hk : k < o.length) : Gv n o (k + 1) (l.set (o.getD k 0) false) := by
 obtain ⟨h1, h2, h3⟩ := h.mem k (Nat.le_refl _) hk
 refine ⟨by simpa using h.len, fun i hi => ?_, fun j hj hjl => ?_, h.srt⟩
 · rw [getD_set _ _ _ _ (by rw [h.len]; exact h2), if_neg (by omega)]
   exact h.lab i hi
 · obtain ⟨g1, g2, g3⟩ := h.mem j (by omega) hjl
   refine ⟨g1, g2, ?_⟩
   have := srt_lt h.srt (show k < j by omega) hjl
   rw [getD_set _ _ _ _ (by rw [h.len]; exact h2), if_neg (by omega)]
   exact g3
end Go.Proofs.YthbldjnpnligpaaDoor

/-
 What Load tells; no program here.
-/

namespace Go.Proofs.YthbldjnpnligpaaDoor
set_option linter.unusedSimpArgs false
set_option linter.unusedVariables false
set_option maxRecDepth 100000
def bitX (xs : List Int) (j : Nat) : Bool := (xs.getD (j / 8) 0).toNat.testBit (j % 8)
def bad (xs : List Int) (n j : Nat) : Bool := (bitX xs j && decide (n ≤ j)) || (!bitX xs j && decide (j < 4))
def okX (xs : List Int) (n : Nat) : Prop := ∀ j, j < 512 → bad xs n j = false
def ldL (xs : List Int) (n i : Nat) : List Bool := (List.range n).map (fun j => decide (j < i) && bitX xs j)
theorem ldL_at (xs : List Int) (n i j : Nat) : (ldL xs n i).getD j false = (decide (j < n) && (decide (j < i) && bitX xs j)) := by
 by_cases h : j < n
 · simp [ldL, List.getD, h]
 · simp [ldL, List.getD, h]
def mapX (xs : List Int) (n : Nat) : List Bool := ldL xs n 512
theorem mapX_at (xs : List Int) (n j : Nat) (hn : n ≤ 512) (hj : j < n) : (mapX xs n).getD j false = bitX xs j := by
 rw [mapX, ldL_at]
 simp [hj, show j < 512 by omega]
theorem okX.lab {xs : List Int} {n : Nat} (h : okX xs n) (h4 : 4 ≤ n) (hn : n ≤ 512) : Lab (mapX xs n) := fun i hi => by
 rw [mapX_at _ _ _ hn (by omega)]
 have := h i (by omega)
 unfold bad at this
 cases hb : bitX xs i
 · rw [hb] at this; simp [hi] at this
 · rfl
end Go.Proofs.YthbldjnpnligpaaDoor
