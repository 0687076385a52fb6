/-
  The document's disk: Flush.
-/
import Derived.Test.YteocmmmnfbabaaaDoorRef2
import Derived.StillTailTactics
namespace Go.Proofs.YteocmmmnfbabaaaDoor
set_option linter.unusedSimpArgs false
set_option linter.unusedVariables false
open Go.RowKit

theorem secStrs_lay {laid : List Int} {n s : Nat} {ys : List Int} (hl : laid.length = 256 * n) (hs : s < n) (hy : ys.length ≤ 256) : secStrs (layAt laid s ys) n = (secStrs laid n).set s (strOfNums (ys ++ (secOf laid s).drop ys.length)) := by
  apply List.ext_getElem?
  intro i
  rw [List.getElem?_set]
  unfold secStrs
  by_cases hi : i < n
  · by_cases he : s = i
    · subst he
      simp [hs, secOf_same (laid := laid) (s := s) (by omega) hy]
    · simp [he, hi, secOf_other (laid := laid) (s := s) (t := i) (by omega) hy he]
  · simp [hi]
    intro he
    omega

theorem secStrs_length (laid : List Int) (n : Nat) : (secStrs laid n).length = n := by simp [secStrs]

theorem strs_one (l : List ByteArray) : ∀ v ∈ l.map Value.string, v.oneCell' = true := by
  intro v hv
  obtain ⟨x, _, rfl⟩ := List.mem_map.1 hv
  rfl

/-- append(s, x...) of strings. -/
theorem wpList_append_ss {w w0 : World} {ops : Array Oper} {rest : List Oper} {o : Oper} {a : Act} {Q : Exit → Act → World → Prop} (hgd : o.guard = none) (s x : Operand)
    (ho : o.op = .call { callee := .builtin .append, args := #[s, x], argTypes := #[45, 45] })
    (base : Nat) (v : Value) (hs : a.eval s = v) (hown : w.ownsRow base 9 1 v 0 [])
    (G : Nat → Prop) (sa : Option Addr) (sn sc : Nat) (xs : List ByteArray) (hx : a.eval x = .slice sa sn sc) (hn : sn = xs.length) (hW : SsAt w G sa xs)
    (hlen : xs.length ≤ 1000000) (hbase : base ≤ w.heap.size) (hb : Below base w0 w)
    (h : ∀ v' w', w'.ownsRow base 9 1 v' xs.length (xs.map Value.string) → Below base w0 w' → wpList Tryd.prog ops Q rest (a.put o.dst v') w') : wpList Tryd.prog ops Q (o :: rest) a w := by
  subst hn
  have hi : (Tryd.prog.info? 9).map (fun i => (i.zero, i.size, i.bytes)) = some (some (.string .empty), 1, 16) := by kernel_rfl
  obtain ⟨i0, hi0, hz0, hz1, hz2⟩ := info_parts hi
  obtain ⟨b, off, rfl, _, hc⟩ := hW
  have hcell : ∀ j u, (xs.map Value.string)[j]? = some u → w.cell? ((⟨b, off, none⟩ : Addr).add j) = some u := by
    intro j u hj
    have hjl : j < xs.length := by
      rcases Nat.lt_or_ge j xs.length with h1 | h1
      · exact h1
      · rw [List.getElem?_eq_none (by simpa using h1)] at hj; cases hj
    rw [plain_add, hc j hjl]
    simp [List.getElem?_eq_getElem hjl] at hj
    subst hj
    simp [List.getD, List.getElem?_eq_getElem hjl]
  refine wpList_append_own _ hgd s x 45 ho base 9 i0 (.string .empty) 1 16 Tryd.underlying45 hi0 hz0 hz1 hz2 rfl (by decide) v 0 [] hs hown ⟨b, off, none⟩ xs.length sc (xs.map Value.string) hx (by simp) hcell (strs_one xs) (by unfold maxLen; omega) (by omega) hbase ?_
  intro v' w' h1 h2 _
  exact h v' w' (by simpa using h1) (owns_below hown hb hbase h2)

theorem ss_of_owns {w : World} {base : Nat} {v : Value} {xs : List ByteArray} (h : w.ownsRow base 9 1 v xs.length (xs.map Value.string)) (h0 : 0 < xs.length) : ∃ g c, v = .slice (some ⟨g, 0, none⟩) xs.length c ∧ base ≤ g ∧ SsAt w (fun k => base ≤ k) (some ⟨g, 0, none⟩) xs := by
  rcases h.2 with ⟨rfl, h1⟩ | ⟨g, cap, cur, rfl, hb, _⟩
  · omega
  · refine ⟨g, cap, rfl, hb, g, 0, rfl, hb, fun i hi => ?_⟩
    rw [Nat.zero_add]
    rw [h.cellAt i (by omega)]
    simp [List.getD, hi]

theorem SsAt.mono {w : World} {G G' : Nat → Prop} {a : Option Addr} {xs : List ByteArray} (h : SsAt w G a xs) (hg : ∀ k, G k → G' k) : SsAt w G' a xs := by
  obtain ⟨b, off, h1, h2, h3⟩ := h
  exact ⟨b, off, h1, hg b h2, h3⟩

theorem WsAt.at {w : World} {G : Nat → Prop} {a : Option Addr} {c : Nat} {ws : List (Nat × List Int)} (h : WsAt w G a c ws) {k : Nat} (hk : k < ws.length) :
    ∃ b off, a = some ⟨b, off, none⟩ ∧ w.cell? ⟨b, off + 2 * k, none⟩ = some (.int .i64 ((ws.getD k (0, [])).1 : Int)) ∧ w.cell? ⟨b, off + 2 * k + 1, none⟩ = some (.string (strOfNums (ws.getD k (0, [])).2)) := by
  rcases h with ⟨rfl, _⟩ | ⟨b, off, rfl, _, hc⟩
  · simp at hk
  · exact ⟨b, off, rfl, hc k hk⟩

theorem layW_rng {S : DS} {n : Nat} (hok : S.Ok n) (keep : Nat → Int) (i : Nat) (hi : i ≤ S.ws.length) : ∀ x ∈ layW S.laid S.ws keep i, 0 ≤ x ∧ x ≤ 255 := by
  induction i with
  | zero => exact hok.rng
  | succ i ih =>
    rw [layW_succ]
    have hq : S.ws.getD i (0, []) ∈ S.ws := by simp [List.getD, show i < S.ws.length by omega]
    exact layAt_rng (ih (by omega)) (fun x hx => (hok.ws _ hq).2.2 x (List.mem_of_mem_take hx))

section
variable {G : Nat → Prop} {S : DS} {sa : Option Addr} {sc : Nat} {wa : Option Addr} {wc n : Nat}

set_option maxRecDepth 100000 in
set_option maxHeartbeats 600000 in
theorem rflush_off (sn wn : Nat) (fused : Bool) (left : Nat) (w : World) :
    Calls Tryd.prog 23 #[.agg #[.slice sa sn sc, .slice wa wn wc, .bool fused, .int .i64 (left : Int), .bool true]] w fun e w' =>
      e = .returned (.tuple #[.agg #[.slice sa sn sc, .slice wa wn wc, .bool fused, .int .i64 (left : Int), .bool true], .int .i64 8]) ∧ Below w.heap.size w w' := by
  go_enter Tryd.func23, Tryd.ntmps23
  go_wp2
  refine bodyPost_ret (results_blk_tmp rfl _ _ _ rfl rAgg rSize (Blk.newAt (by simp) rfl) rfl) rfl ?_
  exact ⟨rfl, ((Below.refl _ _).alloc (Nat.le_refl _) _).alloc (by simp) _⟩

set_option maxRecDepth 100000 in
set_option maxHeartbeats 1000000 in
theorem rflush_go (sn wn : Nat) (HSN : Hid (sn = n)) (HWN : Hid (wn = S.ws.length)) (fused : Bool) (left : Nat) (hl : left < 9223372036854775808) (w : World) (hok : S.Ok n) (hs : SsAt w G sa (secStrs S.laid n)) (hW : WsAt w G wa wc S.ws) (hlen : S.ws.length ≤ 900000) :
    Calls Tryd.prog 23 #[.agg #[.slice sa sn sc, .slice wa wn wc, .bool fused, .int .i64 (left : Int), .bool false]] w fun e w' =>
      (may fused left = false ∧ e = .returned (.tuple #[.agg #[.slice sa sn sc, .slice wa wn wc, .bool fused, .int .i64 ((if fused then left - 1 else left : Nat) : Int), .bool true], .int .i64 8]) ∧ Below w.heap.size w w') ∨
      (may fused left = true ∧ ∃ sa' sc', e = .returned (.tuple #[.agg #[.slice sa' sn sc', .slice none 0 0, .bool fused, .int .i64 ((if fused then left - 1 else left : Nat) : Int), .bool false], .int .i64 0]) ∧ SsAt w' (fun k => w.heap.size ≤ k) sa' (secStrs (layW S.laid S.ws (fun _ => 256) S.ws.length) n) ∧ Below w.heap.size w w') := by
  obtain ⟨left', hle⟩ : ∃ l : Nat, l = (if fused then left - 1 else left) := ⟨_, rfl⟩
  have hsp := rspend_run (.slice sa sn sc) (.slice wa wn wc) sa sn sc rfl wa wn wc rfl fused false left hl
  rw [← hle]
  rw [← hle] at hsp
  clear hle
  have hX : Blk 48 ((w.alloc (.cells #[.slice sa sn sc, .slice wa wn wc, .bool fused, .int .i64 (left : Int), .bool false] 48)).alloc (.cells #[.slice none 0 0, .slice none 0 0, .bool false, .int .i64 0, .bool false] 48)) w.heap.size [.slice sa sn sc, .slice wa wn wc, .bool fused, .int .i64 (left : Int), .bool false] := (Blk.newAt rfl rfl).alloc _
  have hY : Blk 48 ((w.alloc (.cells #[.slice sa sn sc, .slice wa wn wc, .bool fused, .int .i64 (left : Int), .bool false] 48)).alloc (.cells #[.slice none 0 0, .slice none 0 0, .bool false, .int .i64 0, .bool false] 48)) (w.heap.size + 1) [.slice none 0 0, .slice none 0 0, .bool false, .int .i64 0, .bool false] := Blk.newAt (by simp) rfl
  cases hm : may fused left with
  | false =>
    rw [hm] at hsp
    go_enter Tryd.func23, Tryd.ntmps23
    go_wp2_with (go_at_call 55; refine (hsp _).mono ?_; rintro e w2 ⟨rfl, hb2⟩
                 have hX2 := hX.stays hb2
                 have hY2 := hY.stays hb2
                 obtain ⟨x0, x1, x2, x3, x4⟩ := box_cells hX2
                 obtain ⟨y0, y1, y2, y3, y4⟩ := box_cells hY2
                 have fx := hX2.free
                 have fy := hY2.free)
    refine bodyPost_ret (results_blk_tmp rfl _ _ _ rfl rAgg rSize (put5_same (hY2.but (put5_but w2 w.heap.size (.slice sa sn sc) (.slice wa wn wc) (.bool fused) (.int .i64 (left' : Int)) (.bool true)) (by omega)) (.slice sa sn sc) (.slice wa wn wc) (.bool fused) (.int .i64 (left' : Int)) (.bool true)) rfl) rfl ?_
    refine .inl ⟨trivial, rfl, ?_⟩
    have hb : Below w.heap.size w w2 := (((Below.refl _ _).alloc (Nat.le_refl _) _).alloc (by simp) _).trans (hb2.mono (by simp; omega))
    exact (hb.trans ((put5_but w2 w.heap.size _ _ _ _ _).below (Nat.le_refl _) hb.size)).trans ((put5_but _ (w.heap.size + 1) _ _ _ _ _).below (by omega) (by rw [put5_size]; exact hb.size))
  | true =>
    rw [hm] at hsp
    have hb1 : ∀ o o' : Obj, Below w.heap.size w ((w.alloc o).alloc o') := fun o o' => ((Below.refl _ _).alloc (Nat.le_refl _) _).alloc (by simp) _
    go_enter Tryd.func23, Tryd.ntmps23
    go_wp2_with (first
      | (go_at_call 55; refine (hsp _).mono ?_; rintro e w2 ⟨rfl, hb2⟩
         have hX2 := hX.stays hb2
         have hY2 := hY.stays hb2
         obtain ⟨x0, x1, x2, x3, x4⟩ := box_cells hX2
         have fx := hX2.free
         have hb02 : Below w.heap.size w w2 := (hb1 _ _).trans (hb2.mono (by simp; omega))
         obtain ⟨W3, hW3⟩ : ∃ W3, W3 = put5 w2 w.heap.size (.slice sa sn sc) (.slice wa wn wc) (.bool fused) (.int .i64 (left' : Int)) (.bool false) := ⟨_, rfl⟩
         have hX3 : Blk 48 W3 w.heap.size [.slice sa sn sc, .slice wa wn wc, .bool fused, .int .i64 (left' : Int), .bool false] := by rw [hW3]; exact put5_same hX2 _ _ _ _ _
         have hY3 : Blk 48 W3 (w.heap.size + 1) [.slice none 0 0, .slice none 0 0, .bool false, .int .i64 0, .bool false] := by rw [hW3]; exact hY2.but (put5_but _ _ _ _ _ _ _) (by omega)
         have hb03 : Below w.heap.size w W3 := by rw [hW3]; exact hb02.trans ((put5_but w2 w.heap.size _ _ _ _ _).below (Nat.le_refl _) hb02.size)
         have hs3 : W3.heap.size = w2.heap.size := by rw [hW3]; exact put5_size _ _ _ _ _ _ _
         have hs3' := hb03.size
         have hown0 : (W3.alloc (.cells #[] 9)).ownsRow w2.heap.size 9 1 (.slice (some ⟨w2.heap.size, 0, none⟩) 0 0) 0 [] := by
           rw [← hs3]
           exact World.ownsRow_made W3 #[] 0 (Nat.le_refl _) (by decide) rfl
         have hbA : Below w2.heap.size W3 (W3.alloc (.cells #[] 9)) := by rw [← hs3]; exact (Below.refl _ _).alloc (Nat.le_refl _) _
         have HW3 : Hid (W3 = put5 w2 w.heap.size (.slice sa sn sc) (.slice wa wn wc) (.bool fused) (.int .i64 (left' : Int)) (.bool false)) := hW3
         unfold put5 at HW3
         have h14 : ∀ o : Obj, (W3.alloc o).cell? ⟨w.heap.size, 0, none⟩ = some (.slice sa sn sc) := fun o => (hX3.alloc o).cell 0
         rw [HW3.out] at h14
         clear hW3)
      | (at_builtin; rw [← HW3.out]; refine wpList_append_ss (w0 := W3) (by rfl) (.tmp 18) (.tmp 20) (by rfl) w2.heap.size _ (by rfl) hown0 G sa sn sc (secStrs S.laid n) (by rfl) (by rw [HSN.out, secStrs_length]) (hs.keep (G' := G) (by rw [secStrs_length]; have := hok.lo; omega) (fun k hg hl => ⟨(hb03.trans (hbA.mono (by omega))).block k hl, hg⟩)) (by rw [secStrs_length]; have := hok.hi; omega) (by simp [hs3]) hbA ?_
         rw [secStrs_length]; intro v4 w4 hown4 hb4))
    have hn16 := hok.lo
    have hn512 := hok.hi
    obtain ⟨g, cg, hv4, hg4, _⟩ := ss_of_owns (xs := secStrs S.laid n) (by rw [secStrs_length]; exact hown4) (by rw [secStrs_length]; omega)
    rw [secStrs_length] at hv4
    subst hv4
    have hws : ∀ q ∈ S.ws, q.1 < n ∧ q.2.length = 256 := fun q hq => ⟨(hok.ws q hq).1, (hok.ws q hq).2.1⟩
    go_loopw [6] (fun x wr => ∃ k : Nat, x = .int .i64 k ∧ k ≤ S.ws.length ∧ wr.ownsRow w2.heap.size 9 1 (.slice (some ⟨g, 0, none⟩) n cg) n ((secStrs (layW S.laid S.ws (fun _ => 256) k) n).map Value.string) ∧ Below w2.heap.size W3 wr) (fun x _ => S.ws.length - (intOf x).toNat)
    case atStart => exact ⟨0, rfl, Nat.zero_le _, hown4, hb4⟩
    case round =>
      rename_i hrel
      clear hown4 hb4 h14 hown0 hbA
      obtain ⟨k, rfl, hk, hown, hbr⟩ := hrel
      have hXr := hX3.stays (hs3 ▸ hbr)
      have hYr := hY3.stays (hs3 ▸ hbr)
      obtain ⟨z0, z1, z2, z3, z4⟩ := box_cells hXr
      have hb0r : Below w.heap.size w wr := hb03.trans (hbr.mono (by omega))
      have hwnl := HWN.out
      by_cases hlt : k < S.ws.length
      · have hlt' : (k : Int) < (wn : Int) := by omega
        obtain ⟨b, off, rfl, hc0, hc1⟩ := (hW.keep (w' := wr) (G' := G) (fun k hg hl => ⟨hb0r.block k hl, hg⟩)).at hlt
        have hq : S.ws.getD k (0, []) ∈ S.ws := by simp [List.getD, hlt]
        obtain ⟨q1, q2⟩ := hws _ hq
        obtain ⟨s, hse⟩ : ∃ s, s = (S.ws.getD k (0, [])).1 := ⟨_, rfl⟩
        obtain ⟨y, hye⟩ : ∃ y, y = (S.ws.getD k (0, [])).2 := ⟨_, rfl⟩
        rw [← hse] at hc0 q1
        rw [← hye] at hc1 q2
        have HST : Hid (secStrs (layW S.laid S.ws (fun _ => 256) (k + 1)) n = (secStrs (layW S.laid S.ws (fun _ => 256) k) n).set s (strOfNums y)) := by
          unfold Hid
          have hll := layW_length hok.len hws (fun _ => 256) k (by omega)
          rw [layW_succ, ← hse, ← hye, show clamp 256 = 256 by decide, List.take_of_length_le (by omega), secStrs_lay (by rw [hll]; exact hok.len) q1 (by omega), List.drop_eq_nil_of_le (by rw [secOf_length (by rw [hll, hok.len]; omega)]; omega), List.append_nil]
        have e2 : off + 2 * k = off + k * 2 := by omega
        rw [e2] at hc0 hc1
        have hq1' : (s : Int) < (n : Int) := by omega
        have hcs : ∃ u, wr.cell? ⟨g, s, none⟩ = some u := by
          have h5 := hown.cellAt s (by omega)
          rw [List.getElem?_map, List.getElem?_eq_getElem (by rw [secStrs_length]; exact q1)] at h5
          exact ⟨_, h5⟩
        obtain ⟨u, hu⟩ := hcs
        have hfz := hown.frozenAt s
        have hst := hown.stored s (.string (strOfNums y))
        have hbs : Below w2.heap.size W3 (wr.setCell ⟨g, s, none⟩ (.string (strOfNums y))) := hbr.setCell (p := ⟨g, s, none⟩) hg4 _
        have HK : Hid (wn = S.ws.length) := HWN
        clear hse hye e2 hwnl hq HWN
        go_wp2
        go_still_tail 14, (by kernel_rfl)
        go_wp2
        go_roundw
        case rel => exact ⟨k + 1, by go_num, by omega, by rw [HST.out, List.map_set]; exact hst.1.drew, hbs.drew⟩
        case measure => simp [intOf]; omega
      · have hlt' : ¬ ((k : Int) < (wn : Int)) := by omega
        have hkk : k = S.ws.length := by omega
        rw [hkk] at hown
        obtain ⟨q0, q1, q2, q3, q4⟩ := box_cells hYr
        have gx := hXr.free
        have gy := hYr.free
        have hsn := HSN.out
        clear hwnl
        subst hsn
        go_wp2
        have hb6 : But w.heap.size wr ((wr.setCell ⟨w.heap.size, 0, none⟩ (.slice (some ⟨g, 0, none⟩) sn cg)).setCell ⟨w.heap.size, 1, none⟩ (.slice none 0 0)) := ((But.refl _ _).setCell _ _).setCell _ _
        refine bodyPost_ret (results_blk_tmp rfl _ _ _ rfl rAgg rSize (put5_same (hYr.but hb6 (by omega)) (.slice (some ⟨g, 0, none⟩) sn cg) (.slice none 0 0) (.bool fused) (.int .i64 (left' : Int)) (.bool false)) rfl) rfl ?_
        have hb7 : Below w.heap.size w _ := hb0r.trans (hb6.below (Nat.le_refl _) hb0r.size)
        have hb8 := put5_but ((wr.setCell ⟨w.heap.size, 0, none⟩ (.slice (some ⟨g, 0, none⟩) sn cg)).setCell ⟨w.heap.size, 1, none⟩ (.slice none 0 0)) (w.heap.size + 1) (.slice (some ⟨g, 0, none⟩) sn cg) (.slice none 0 0) (.bool fused) (.int .i64 (left' : Int)) (.bool false)
        obtain ⟨g', cg', hv, hg', hSS⟩ := ss_of_owns (xs := secStrs (layW S.laid S.ws (fun _ => 256) S.ws.length) sn) (by rw [secStrs_length]; exact hown) (by rw [secStrs_length]; omega)
        simp only [secStrs_length, Value.slice.injEq, Option.some.injEq, Addr.mk.injEq, and_true, true_and] at hv
        obtain ⟨rfl, rfl⟩ := hv
        have hlt2 : w.heap.size + 1 < w2.heap.size := hY2.lt
        refine ⟨_, ⟨_, rfl⟩, hSS.keep (by rw [secStrs_length]; omega) (fun k hg hl => ⟨?_, ?_⟩), hb7.trans (hb8.below (by omega) hb7.size)⟩
        · exact (hb8.block k (by omega) (by simpa using hl)).trans (hb6.block k (by omega) hl)
        · have h1 := hb02.size
          omega

theorem rflush_run {w : World} {cs : List Value} (h : Rf w G cs S) (hl : S.ws.length ≤ 900000) :
    Calls Tryd.prog 23 #[.agg cs.toArray] w fun e w' => ∃ cs', e = .returned (.tuple #[.agg cs'.toArray, .int .i64 S.flush.2]) ∧ RThen G w w' cs' S.flush.1 := by
  have h0 := h
  obtain ⟨n, sa, sc, wa, wc, hok, rfl, hs, hw⟩ := h
  unfold DS.flush
  by_cases h1 : S.off = true
  · rw [if_pos h1]
    unfold rcells at h0 ⊢
    rw [h1] at h0 ⊢
    refine (rflush_off (sa := sa) (sc := sc) (wa := wa) (wc := wc) n S.ws.length S.fused S.left w).mono ?_
    rintro e w' ⟨rfl, hb⟩
    exact ⟨_, rfl, rthen_same h0 hb⟩
  · rw [if_neg h1]
    have hoff : S.off = false := by simpa using h1
    unfold rcells at h0 ⊢
    rw [hoff] at h0 ⊢
    refine (rflush_go (G := G) (S := S) (n := n) (sa := sa) (sc := sc) (wa := wa) (wc := wc) n S.ws.length rfl rfl S.fused S.left hok.left w hok hs hw hl).mono ?_
    rintro e w' (⟨hm, rfl, hb⟩ | ⟨hm, sa', sc', rfl, hS', hb⟩)
    · have hm' : ¬ may S.fused S.left = true := by rw [hm]; decide
      rw [if_neg hm']
      obtain ⟨hfu, hle⟩ := may_dead hm'
      refine ⟨[.slice sa n sc, .slice wa S.ws.length wc, .bool S.fused, .int .i64 ((if S.fused then S.left - 1 else S.left : Nat) : Int), .bool true], rfl, ?_, hb⟩
      have := Rf.flags (w' := w') (G' := fun k => G k ∨ w.heap.size ≤ k) (sc := sc) (off := true) (fused := S.fused) (left := S.left) hok hs hw hok.left (fun k hg hl => ⟨hb.block k hl, .inl hg⟩)
      have hd : S.dead = ⟨S.laid, S.ws, true, true, 0⟩ := by unfold DS.dead; rw [hfu, hle]
      show Rf _ _ _ S.dead
      rw [hd]
      rw [hfu, hle] at this ⊢
      exact this
    · rw [if_pos hm]
      have hws : ∀ q ∈ S.ws, q.1 < n ∧ q.2.length = 256 := fun q hq => ⟨(hok.ws q hq).1, (hok.ws q hq).2.1⟩
      refine ⟨[.slice sa' n sc', .slice none 0 0, .bool S.fused, .int .i64 ((if S.fused then S.left - 1 else S.left : Nat) : Int), .bool false], rfl, ⟨n, sa', sc', none, 0, ⟨?_, hok.lo, hok.hi, ?_, fun q hq => by simp at hq, ?_⟩, by simp [rcells, DS.left', hoff], hS'.mono (fun k hk => .inr hk), .inl ⟨rfl, fun _ => rfl⟩⟩, hb⟩
      · simp only; rw [layW_length hok.len hws _ _ (Nat.le_refl _)]; exact hok.len
      · exact layW_rng hok _ _ (Nat.le_refl _)
      · simp only [DS.left']
        have := hok.left
        split <;> omega

end
end Go.Proofs.YteocmmmnfbabaaaDoor
