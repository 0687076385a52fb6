/-
  The document's disk: lists that are appended; Put.
-/
import Derived.Test.YteocmmmnfbabaaaDoorRef
namespace Go.Proofs.YteocmmmnfbabaaaDoor
set_option linter.unusedSimpArgs false
set_option linter.unusedVariables false
open Go.RowKit

def wcells (ws : List (Nat × List Int)) : List Value := ws.flatMap fun q => [.int .i64 (q.1 : Int), .string (strOfNums q.2)]

theorem wcells_length (ws : List (Nat × List Int)) : (wcells ws).length = ws.length * 2 := by
  induction ws with
  | nil => rfl
  | cons q r ih =>
    have : wcells (q :: r) = [.int .i64 (q.1 : Int), .string (strOfNums q.2)] ++ wcells r := rfl
    rw [this, List.length_append, ih]
    simp; omega

theorem wcells_get {ws : List (Nat × List Int)} {k : Nat} (hk : k < ws.length) : (wcells ws)[2 * k]? = some (.int .i64 ((ws.getD k (0, [])).1 : Int)) ∧ (wcells ws)[2 * k + 1]? = some (.string (strOfNums (ws.getD k (0, [])).2)) := by
  induction ws generalizing k with
  | nil => simp at hk
  | cons q r ih =>
    have e : wcells (q :: r) = (.int .i64 (q.1 : Int)) :: (.string (strOfNums q.2)) :: wcells r := rfl
    cases k with
    | zero => rw [e]; simp
    | succ k =>
      have := ih (k := k) (by simpa using hk)
      have e1 : 2 * (k + 1) = 2 * k + 2 := by omega
      rw [e, e1]
      simpa using this

theorem wcells_one (ws : List (Nat × List Int)) : ∀ u ∈ wcells ws, u.oneCell' = true := by
  intro u hu
  obtain ⟨q, _, hq⟩ := List.mem_flatMap.1 hu
  simp at hq
  rcases hq with rfl | rfl <;> rfl

theorem plain_add (b off j : Nat) : (⟨b, off, none⟩ : Addr).add j = ⟨b, off + j, none⟩ := by unfold Addr.add; split <;> simp_all

/-- append(s, x...) of waiting writes. -/
theorem wpList_append_ws {w w0 : World} {ops : Array Oper} {rest : List Oper} {o : Oper} {a : Act} {Q : Exit → Act → World → Prop} (hgd : o.guard = none) (s x : Operand)
    (ho : o.op = .call { callee := .builtin .append, args := #[s, x], argTypes := #[46, 46] })
    (base : Nat) (v : Value) (k : Nat) (xs : List Value) (hs : a.eval s = v) (hown : w.ownsRow base 96 2 v k xs)
    (G : Nat → Prop) (wa : Option Addr) (wn wc : Nat) (ws : List (Nat × List Int)) (hx : a.eval x = .slice wa wn wc) (hn : wn = ws.length) (hW : WsAt w G wa wc ws)
    (hlen : k + ws.length ≤ 1000000) (hbase : base ≤ w.heap.size) (hb : Below base w0 w)
    (h : ∀ v' w', w'.ownsRow base 96 2 v' (k + ws.length) (xs ++ wcells ws) → Below base w0 w' → wpList Tryd.prog ops Q rest (a.put o.dst v') w') : wpList Tryd.prog ops Q (o :: rest) a w := by
  subst hn
  have hi : (Tryd.prog.info? 96).map (fun i => (i.zero, i.size, i.bytes)) = some (some (.agg #[.int .i64 0, .string .empty]), 2, 24) := by kernel_rfl
  obtain ⟨i0, hi0, hz0, hz1, hz2⟩ := info_parts hi
  cases wa with
  | none =>
    have hw0 : ws = [] ∧ wc = 0 := by
      rcases hW with ⟨h1, h2⟩ | ⟨b, off, h1, _⟩
      · exact ⟨h1, h2 rfl⟩
      · cases h1
    obtain ⟨rfl, rfl⟩ := hw0
    refine wpList_append_own_none hgd s x 46 ho base 96 i0 2 Tryd.underlying46 hi0 v k xs hs hown hx ?_
    exact h v w (by simpa [wcells] using hown) hb
  | some ad =>
    have hcell : ∀ j u, (wcells ws)[j]? = some u → w.cell? (ad.add j) = some u := by
      intro j u hj
      have hjl : j < ws.length * 2 := by
        rcases Nat.lt_or_ge j (ws.length * 2) with h1 | h1
        · exact h1
        · rw [List.getElem?_eq_none (by rw [wcells_length]; exact h1)] at hj; cases hj
      rcases hW with ⟨rfl, _⟩ | ⟨b, off, h1, _, hc⟩
      · simp at hjl
      · cases h1
        rw [plain_add]
        obtain ⟨h2, h3⟩ := wcells_get (ws := ws) (k := j / 2) (by omega)
        obtain ⟨h4, h5⟩ := hc (j / 2) (by omega)
        rcases Nat.mod_two_eq_zero_or_one j with hm | hm
        · have e : 2 * (j / 2) = j := by omega
          rw [e] at h2 h4
          rw [h4, ← h2, hj]
        · have e : 2 * (j / 2) + 1 = j := by omega
          have e2 : off + 2 * (j / 2) + 1 = off + j := by omega
          rw [e] at h3
          rw [e2] at h5
          rw [h5, ← h3, hj]
    refine wpList_append_own _ hgd s x 46 ho base 96 i0 (.agg #[.int .i64 0, .string .empty]) 2 24 Tryd.underlying46 hi0 hz0 hz1 hz2 rfl (by decide) v k xs hs hown ad ws.length wc (wcells ws) hx (wcells_length ws) hcell (wcells_one ws) (by unfold maxLen; omega) (by omega) hbase ?_
    intro v' w' h1 h2 _
    exact h v' w' h1 (owns_below hown hb hbase h2)

theorem ws_of_owns {w : World} {base : Nat} {v : Value} {ws : List (Nat × List Int)} (h : w.ownsRow base 96 2 v ws.length (wcells ws)) : ∃ a c, v = .slice a ws.length c ∧ WsAt w (fun k => base ≤ k) a c ws := by
  rcases h.2 with ⟨rfl, h0⟩ | ⟨g, cap, cur, rfl, hb, _⟩
  · have : ws = [] := List.eq_nil_of_length_eq_zero h0
    subst this
    exact ⟨none, 0, rfl, .inl ⟨rfl, fun _ => rfl⟩⟩
  · refine ⟨_, _, rfl, .inr ⟨g, 0, rfl, hb, fun i hi => ?_⟩⟩
    obtain ⟨h2, h3⟩ := wcells_get hi
    rw [Nat.zero_add]
    exact ⟨(h.cellAt (2 * i) (by omega)).trans h2, (h.cellAt (2 * i + 1) (by omega)).trans h3⟩

theorem WsAt.mono {w : World} {G G' : Nat → Prop} {a : Option Addr} {c : Nat} {ws : List (Nat × List Int)} (h : WsAt w G a c ws) (hg : ∀ k, G k → G' k) : WsAt w G' a c ws := by
  rcases h with h | ⟨b, off, h1, h2, h3⟩
  · exact .inl h
  · exact .inr ⟨b, off, h1, hg b h2, h3⟩

/-- Five cells of a block. -/
def put5 (w : World) (g : Nat) (b0 b1 b2 b3 b4 : Value) : World := ((((w.setCell ⟨g, 0, none⟩ b0).setCell ⟨g, 1, none⟩ b1).setCell ⟨g, 2, none⟩ b2).setCell ⟨g, 3, none⟩ b3).setCell ⟨g, 4, none⟩ b4

theorem put5_same {w : World} {t : TypeId} {g : Nat} {a0 a1 a2 a3 a4 : Value} (h : Blk t w g [a0, a1, a2, a3, a4]) (b0 b1 b2 b3 b4 : Value) : Blk t (put5 w g b0 b1 b2 b3 b4) g [b0, b1, b2, b3, b4] := ((((h.set 0 b0).set 1 b1).set 2 b2).set 3 b3).set 4 b4

theorem put5_but (w : World) (g : Nat) (b0 b1 b2 b3 b4 : Value) : But g w (put5 w g b0 b1 b2 b3 b4) := (((((But.refl _ _).setCell _ _).setCell _ _).setCell _ _).setCell _ _).setCell _ _

theorem put5_size (w : World) (g : Nat) (b0 b1 b2 b3 b4 : Value) : (put5 w g b0 b1 b2 b3 b4).heap.size = w.heap.size := by simp [put5]

section
variable {w : World} {G : Nat → Prop} {S : DS} {sa : Option Addr} {sc : Nat} {wa : Option Addr} {wc n : Nat}

set_option maxRecDepth 100000 in
set_option maxHeartbeats 1000000 in
theorem rput_off (i : Int) (b : Value) (sv wv : Value) (sn : Nat) (hsv : sv = .slice sa sn sc) (wn : Nat) (hwv : wv = .slice wa wn wc) (fused : Bool) (left : Nat) (w : World) :
    Calls Tryd.prog 50 #[.agg #[sv, wv, .bool fused, .int .i64 (left : Int), .bool true], .int .i64 i, b] w fun e w' =>
      e = .returned (.tuple #[.agg #[sv, wv, .bool fused, .int .i64 (left : Int), .bool true], .int .i64 8]) ∧ Below w.heap.size w w' := by
  subst hsv hwv
  go_enter Tryd.func50, Tryd.ntmps50
  go_wp2
  refine bodyPost_ret (results_blk_tmp rfl _ _ _ rfl rAgg rSize (Blk.newAt (by simp) rfl) rfl) rfl ?_
  exact ⟨rfl, ((Below.refl _ _).alloc (Nat.le_refl _) _).alloc (by simp) _⟩

set_option maxRecDepth 100000 in
set_option maxHeartbeats 1000000 in
theorem rput_arg (i : Int) (ba : Option Addr) (bn bc : Nat) (sn : Nat) (wn : Nat) (fused : Bool) (left : Nat) (w : World) (hi : ¬ ((0 ≤ i ∧ i < (sn : Int)) ∧ bn = 256)) :
    Calls Tryd.prog 50 #[.agg #[.slice sa sn sc, .slice wa wn wc, .bool fused, .int .i64 (left : Int), .bool false], .int .i64 i, .slice ba bn bc] w fun e w' =>
      e = .returned (.tuple #[.agg #[.slice sa sn sc, .slice wa wn wc, .bool fused, .int .i64 (left : Int), .bool false], .int .i64 1]) ∧ Below w.heap.size w w' := by
  rcases (by omega : i < 0 ∨ 0 ≤ i ∧ (sn : Int) ≤ i ∨ 0 ≤ i ∧ i < (sn : Int) ∧ bn ≠ 256) with h | ⟨h1, h2⟩ | ⟨h1, h2, h3⟩
  · clear hi
    go_enter Tryd.func50, Tryd.ntmps50
    go_wp2
    refine bodyPost_ret (results_blk_tmp rfl _ _ _ rfl rAgg rSize (Blk.newAt (by simp) rfl) rfl) rfl ?_
    exact ⟨rfl, ((Below.refl _ _).alloc (Nat.le_refl _) _).alloc (by simp) _⟩
  · clear hi
    have h1' : ¬ (i < 0) := by omega
    go_enter Tryd.func50, Tryd.ntmps50
    go_wp2
    refine bodyPost_ret (results_blk_tmp rfl _ _ _ rfl rAgg rSize (Blk.newAt (by simp) rfl) rfl) rfl ?_
    exact ⟨rfl, ((Below.refl _ _).alloc (Nat.le_refl _) _).alloc (by simp) _⟩
  · clear hi
    have h1' : ¬ (i < 0) := by omega
    have h2' : ¬ ((sn : Int) ≤ i) := by omega
    have h3' : ((bn : Int) = 256) = False := eq_false (by omega)
    have h3'' : ((bn : Int) == 256) = false := by simp; omega
    clear h3
    go_enter Tryd.func50, Tryd.ntmps50
    go_wp2
    refine bodyPost_ret (results_blk_tmp rfl _ _ _ rfl rAgg rSize (Blk.newAt (by simp) rfl) rfl) rfl ?_
    exact ⟨rfl, ((Below.refl _ _).alloc (Nat.le_refl _) _).alloc (by simp) _⟩

set_option maxRecDepth 100000 in
set_option maxHeartbeats 600000 in
theorem rput_go (i : Nat) (ba : Option Addr) (bc : Nat) (xs : List Int) (sn : Nat) (wn : Nat) (ws : List (Nat × List Int)) (HWN : Hid (wn = ws.length)) (fused : Bool) (left : Nat) (hl : left < 9223372036854775808) (w : World) (hi : (i : Int) < (sn : Int)) (hB : Bs w ba bc xs) (hx : xs.length = 256) (hW : WsAt w G wa wc ws) (hlen : ws.length ≤ 900000) :
    Calls Tryd.prog 50 #[.agg #[.slice sa sn sc, .slice wa wn wc, .bool fused, .int .i64 (left : Int), .bool false], .int .i64 (i : Int), .slice ba 256 bc] w fun e w' =>
      (may fused left = false ∧ e = .returned (.tuple #[.agg #[.slice sa sn sc, .slice wa wn wc, .bool fused, .int .i64 ((if fused then left - 1 else left : Nat) : Int), .bool true], .int .i64 8]) ∧ Below w.heap.size w w') ∨
      (may fused left = true ∧ ∃ wa' wc', e = .returned (.tuple #[.agg #[.slice sa sn sc, .slice wa' (wn + 1) wc', .bool fused, .int .i64 ((if fused then left - 1 else left : Nat) : Int), .bool false], .int .i64 0]) ∧ WsAt w' (fun k => w.heap.size ≤ k) wa' wc' (ws ++ [(i, xs)]) ∧ Below w.heap.size w w') := by
  have h1' : ¬ ((i : Int) < 0) := by omega
  have h2' : ¬ ((sn : Int) ≤ (i : Int)) := by omega
  obtain ⟨left', hle⟩ : ∃ l : Nat, l = (if fused then left - 1 else left) := ⟨_, rfl⟩
  have hsp := rspend_run (.slice sa sn sc) (.slice wa wn wc) sa sn sc rfl wa wn wc rfl fused false left hl
  rw [← hle]
  rw [← hle] at hsp
  clear hle
  have hX : Blk 48 ((w.alloc (.cells #[.slice sa sn sc, .slice wa wn wc, .bool fused, .int .i64 (left : Int), .bool false] 48)).alloc (.cells #[.slice none 0 0, .slice none 0 0, .bool false, .int .i64 0, .bool false] 48)) w.heap.size [.slice sa sn sc, .slice wa wn wc, .bool fused, .int .i64 (left : Int), .bool false] := (Blk.newAt rfl rfl).alloc _
  have hY : Blk 48 ((w.alloc (.cells #[.slice sa sn sc, .slice wa wn wc, .bool fused, .int .i64 (left : Int), .bool false] 48)).alloc (.cells #[.slice none 0 0, .slice none 0 0, .bool false, .int .i64 0, .bool false] 48)) (w.heap.size + 1) [.slice none 0 0, .slice none 0 0, .bool false, .int .i64 0, .bool false] := Blk.newAt (by simp) rfl
  cases hm : may fused left with
  | false =>
    rw [hm] at hsp
    go_enter Tryd.func50, Tryd.ntmps50
    go_wp2_with (go_at_call 55; refine (hsp _).mono ?_; rintro e w2 ⟨rfl, hb2⟩
                 have hX2 := hX.stays hb2
                 have hY2 := hY.stays hb2
                 obtain ⟨x0, x1, x2, x3, x4⟩ := box_cells hX2
                 obtain ⟨y0, y1, y2, y3, y4⟩ := box_cells hY2
                 have fx := hX2.free
                 have fy := hY2.free)
    refine bodyPost_ret (results_blk_tmp rfl _ _ _ rfl rAgg rSize (put5_same (hY2.but (put5_but w2 w.heap.size (.slice sa sn sc) (.slice wa wn wc) (.bool fused) (.int .i64 (left' : Int)) (.bool true)) (by omega)) (.slice sa sn sc) (.slice wa wn wc) (.bool fused) (.int .i64 (left' : Int)) (.bool true)) rfl) rfl ?_
    refine .inl ⟨trivial, rfl, ?_⟩
    have hb : Below w.heap.size w w2 := (((Below.refl _ _).alloc (Nat.le_refl _) _).alloc (by simp) _).trans (hb2.mono (by simp; omega))
    exact (hb.trans ((put5_but w2 w.heap.size _ _ _ _ _).below (Nat.le_refl _) hb.size)).trans ((put5_but _ (w.heap.size + 1) _ _ _ _ _).below (by omega) (by rw [put5_size]; exact hb.size))
  | true =>
    rw [hm] at hsp
    have hi : (Tryd.prog.info? 96).map (fun i => (i.zero, i.size, i.bytes)) = some (some (.agg #[.int .i64 0, .string .empty]), 2, 24) := by kernel_rfl
    obtain ⟨i0, hi0, hz0, hz1, hz2⟩ := info_parts hi
    have hb1 : ∀ o o' : Obj, Below w.heap.size w ((w.alloc o).alloc o') := fun o o' => ((Below.refl _ _).alloc (Nat.le_refl _) _).alloc (by simp) _
    go_enter Tryd.func50, Tryd.ntmps50
    go_wp2_with (first
      | (go_at_call 55; refine (hsp _).mono ?_; rintro e w2 ⟨rfl, hb2⟩
         have hX2 := hX.stays hb2
         have hY2 := hY.stays hb2
         obtain ⟨x0, x1, x2, x3, x4⟩ := box_cells hX2
         have fx := hX2.free
         have hb02 : Below w.heap.size w w2 := (hb1 _ _).trans (hb2.mono (by simp; omega))
         obtain ⟨W3, hW3⟩ : ∃ W3, W3 = put5 w2 w.heap.size (.slice sa sn sc) (.slice wa wn wc) (.bool fused) (.int .i64 (left' : Int)) (.bool false) := ⟨_, rfl⟩
         have hX3 : Blk 48 W3 w.heap.size [.slice sa sn sc, .slice wa wn wc, .bool fused, .int .i64 (left' : Int), .bool false] := by rw [hW3]; exact put5_same hX2 _ _ _ _ _
         have hY3 : Blk 48 W3 (w.heap.size + 1) [.slice none 0 0, .slice none 0 0, .bool false, .int .i64 0, .bool false] := by rw [hW3]; exact hY2.but (put5_but _ _ _ _ _ _ _) (by omega)
         have hb03 : Below w.heap.size w W3 := by rw [hW3]; exact hb02.trans ((put5_but w2 w.heap.size _ _ _ _ _).below (Nat.le_refl _) hb02.size)
         have hs3 : W3.heap.size = w2.heap.size := by rw [hW3]; exact put5_size _ _ _ _ _ _ _
         have hs3' := hb03.size
         have hown0 : (W3.alloc (.cells #[] 96)).ownsRow w2.heap.size 96 2 (.slice (some ⟨w2.heap.size, 0, none⟩) 0 0) 0 [] := by
           rw [← hs3]
           exact World.ownsRow_made W3 #[] 0 (Nat.le_refl _) (by decide) rfl
         have hbA : Below w2.heap.size W3 (W3.alloc (.cells #[] 96)) := by rw [← hs3]; exact (Below.refl _ _).alloc (Nat.le_refl _) _
         have HW3 : Hid (W3 = put5 w2 w.heap.size (.slice sa sn sc) (.slice wa wn wc) (.bool fused) (.int .i64 (left' : Int)) (.bool false)) := hW3
         unfold put5 at HW3
         have h14 : ∀ o : Obj, (W3.alloc o).cell? ⟨w.heap.size, 1, none⟩ = some (.slice wa wn wc) := fun o => (hX3.alloc o).cell 1
         rw [HW3.out] at h14
         clear hW3)
      | (at_builtin; rw [← HW3.out]; (refine wpList_append_ws (w0 := W3) (by rfl) (.tmp 36) (.tmp 38) (by rfl) w2.heap.size _ 0 [] (by rfl) hown0 G wa wn wc ws (by rfl) HWN.out (hW.keep (G' := G) (fun k hg hl => ⟨(hb03.trans (hbA.mono (by omega))).block k hl, hg⟩)) (by omega) (by simp [hs3]) hbA ?_)
         rw [Nat.zero_add, List.nil_append]; intro v4 w4 hown4 hb4
         have hX4 := hX3.stays (hs3 ▸ hb4)
         have hY4 := hY3.stays (hs3 ▸ hb4)
         have hb04 : Below w.heap.size w w4 := hb03.trans (hb4.mono (by omega))
         have hcv := (hB.stays hb04).conv (P := Tryd.prog) 256 hx.symm 27 5 Tryd.underlying27 Tryd.underlying5 9 Tryd.underlying9
         have hs4 := hb4.size)
      | (at_builtin; refine wpList_append_own _ (by rfl) (.tmp 40) (.tmp 45) 46 (by rfl) w2.heap.size 96 i0 (.agg #[.int .i64 0, .string .empty]) 2 24 Tryd.underlying46 hi0 hz0 hz1 hz2 rfl (by decide) v4 ws.length (wcells ws) (by rfl) (hown4.alloc _) ⟨w4.heap.size, 0, none⟩ 1 1 [.int .i64 (i : Int), .string (strOfNums xs)] (by rfl) (by rfl) (two_new _ _ _ _) (by simp [Value.oneCell']) (by unfold maxLen; omega) (by omega) (by simp; omega) ?_
         intro v5 w5 hown5 hgrow5 _
         have hall : w5.ownsRow w2.heap.size 96 2 v5 (ws ++ [(i, xs)]).length (wcells (ws ++ [(i, xs)])) := by
           have e : wcells (ws ++ [(i, xs)]) = wcells ws ++ [.int .i64 (i : Int), .string (strOfNums xs)] := by simp [wcells]
           rw [e, List.length_append]
           exact hown5
         obtain ⟨a5, c5, hv5, hW5⟩ := ws_of_owns hall
         have hlen5 : (ws ++ [(i, xs)]).length = wn + 1 := by rw [HWN.out]; simp
         rw [hlen5] at hv5
         subst hv5
         have hb5 : Below w2.heap.size W3 w5 := owns_below (hown4.alloc _) (hb4.alloc (by omega) _) (by simp; omega) hgrow5
         have hX5 := hX3.stays (hs3 ▸ hb5)
         have hY5 := hY3.stays (hs3 ▸ hb5)
         obtain ⟨z0, z1, z2, z3, z4⟩ := box_cells hX5
         obtain ⟨q0, q1, q2, q3, q4⟩ := box_cells hY5
         have gx := hX5.free
         have gy := hY5.free
         have hb05 : Below w.heap.size w w5 := hb03.trans (hb5.mono (by omega))
         clear hlen5 hgrow5 hown5 hall))
    have hb6 : But w.heap.size w5 (w5.setCell ⟨w.heap.size, 1, none⟩ (.slice a5 (wn + 1) c5)) := (But.refl _ _).setCell _ _
    refine bodyPost_ret (results_blk_tmp rfl _ _ _ rfl rAgg rSize (put5_same (hY5.but hb6 (by omega)) (.slice sa sn sc) (.slice a5 (wn + 1) c5) (.bool fused) (.int .i64 (left' : Int)) (.bool false)) rfl) rfl ?_
    have hb7 : Below w.heap.size w (w5.setCell ⟨w.heap.size, 1, none⟩ (.slice a5 (wn + 1) c5)) := hb05.trans (hb6.below (Nat.le_refl _) hb05.size)
    have hb8 : But (w.heap.size + 1) (w5.setCell ⟨w.heap.size, 1, none⟩ (.slice a5 (wn + 1) c5)) _ := put5_but (w5.setCell ⟨w.heap.size, 1, none⟩ (.slice a5 (wn + 1) c5)) (w.heap.size + 1) (.slice sa sn sc) (.slice a5 (wn + 1) c5) (.bool fused) (.int .i64 (left' : Int)) (.bool false)
    refine .inr ⟨trivial, a5, c5, rfl, hW5.keep (fun k hg hl => ⟨?_, ?_⟩), hb7.trans (hb8.below (by omega) hb7.size)⟩
    · have h1 := hb02.size
      have h2 : w.heap.size + 1 < w2.heap.size := hY2.lt
      exact (hb8.block k (by omega) (by simpa using hl)).trans (hb6.block k (by omega) hl)
    · have h1 := hb02.size
      omega

theorem rput_run {w : World} {cs : List Value} (h : Rf w G cs S) (i : Int) (ba : Option Addr) (bc : Nat) (xs : List Int) (hB : Bs w ba bc xs) (hl : S.ws.length ≤ 900000) :
    Calls Tryd.prog 50 #[.agg cs.toArray, .int .i64 i, .slice ba xs.length bc] w fun e w' => ∃ cs', e = .returned (.tuple #[.agg cs'.toArray, .int .i64 (S.write i xs).2]) ∧ RThen G w w' cs' (S.write i xs).1 := by
  have h0 := h
  obtain ⟨n, sa, sc, wa, wc, hok, rfl, hs, hw⟩ := h
  have hn : S.laid.length / 256 = n := by rw [hok.len]; omega
  have hhas : S.has i ↔ (0 ≤ i ∧ i < (n : Int)) := by unfold DS.has; rw [hn]
  unfold DS.write
  by_cases h1 : S.off = true
  · rw [if_pos h1]
    unfold rcells at h0 ⊢
    rw [h1] at h0 ⊢
    refine (rput_off (sa := sa) (sc := sc) (wa := wa) (wc := wc) i _ _ _ n rfl S.ws.length rfl S.fused S.left w).mono ?_
    rintro e w' ⟨rfl, hb⟩
    exact ⟨_, rfl, rthen_same h0 hb⟩
  · rw [if_neg h1]
    have hoff : S.off = false := by simpa using h1
    unfold rcells at h0 ⊢
    rw [hoff] at h0 ⊢
    by_cases h2 : S.has i ∧ xs.length = 256
    · rw [if_neg (by simpa using h2)]
      obtain ⟨hh, hx⟩ := h2
      obtain ⟨hi0, hi1⟩ := hhas.1 hh
      obtain ⟨s, rfl⟩ : ∃ s : Nat, i = (s : Int) := ⟨i.toNat, by omega⟩
      rw [hx]
      refine (rput_go (G := G) (sa := sa) (sc := sc) (wa := wa) (wc := wc) s ba bc xs n S.ws.length S.ws rfl S.fused S.left hok.left w (by omega) hB hx hw hl).mono ?_
      rintro e w' (⟨hm, rfl, hb⟩ | ⟨hm, wa', wc', rfl, hW', hb⟩)
      · have hm' : ¬ may S.fused S.left = true := by rw [hm]; decide
        rw [if_neg hm']
        obtain ⟨hfu, hle⟩ := may_dead hm'
        refine ⟨[.slice sa n sc, .slice wa S.ws.length wc, .bool S.fused, .int .i64 ((if S.fused then S.left - 1 else S.left : Nat) : Int), .bool true], rfl, ?_, hb⟩
        have := Rf.flags (w' := w') (G' := fun k => G k ∨ w.heap.size ≤ k) (sc := sc) (off := true) (fused := S.fused) (left := S.left) hok hs hw hok.left (fun k hg hl => ⟨hb.block k hl, .inl hg⟩)
        have hd : S.dead = ⟨S.laid, S.ws, true, true, 0⟩ := by unfold DS.dead; rw [hfu, hle]
        show Rf _ _ _ S.dead
        rw [hd]
        rw [hfu, hle] at this ⊢
        exact this
      · rw [if_pos hm]
        refine ⟨[.slice sa n sc, .slice wa' (S.ws.length + 1) wc', .bool S.fused, .int .i64 ((if S.fused then S.left - 1 else S.left : Nat) : Int), .bool false], rfl, ⟨n, sa, sc, wa', wc', ⟨hok.len, hok.lo, hok.hi, hok.rng, ?_, ?_⟩, ?_, hs.keep (by have := hok.lo; simp [secStrs]; omega) (fun k hg hl => ⟨hb.block k hl, .inl hg⟩), hW'.mono (fun k hk => .inr hk)⟩, hb⟩
        · intro q hq
          rcases List.mem_append.1 hq with hq | hq
          · exact hok.ws q hq
          · simp at hq
            subst hq
            exact ⟨by simp only; omega, hx, hB.rng⟩
        · simp only [DS.left']
          have := hok.left
          split <;> omega
        · simp [rcells, DS.left', hoff]
    · rw [if_pos (by simpa using h2)]
      refine (rput_arg (sa := sa) (sc := sc) (wa := wa) (wc := wc) i ba xs.length bc n S.ws.length S.fused S.left w (by rw [hhas] at h2; exact h2)).mono ?_
      rintro e w' ⟨rfl, hb⟩
      exact ⟨_, rfl, rthen_same h0 hb⟩

end
end Go.Proofs.YteocmmmnfbabaaaDoor
