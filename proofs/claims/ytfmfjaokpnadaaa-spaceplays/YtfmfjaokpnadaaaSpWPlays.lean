/-
  The walk of the law SpacePlays.
-/
import Derived.Test.YtfmfjaokpnadaaaSpAlive
import Derived.Test.YtfmfjaokpnadaaaSpPack
namespace Go.Proofs.Ytfmfjaokpnadaaa
set_option linter.unusedSimpArgs false
set_option linter.unusedVariables false
open Go.RowKit

theorem bytes_bs {g : Nat} {l : List Bool} (u : World) (hu : Mp u g l) : Calls Try.prog 11 #[.pointer (some ⟨g, 0, none⟩)] u fun e w' => ∃ a c, e = .returned (.slice a 64 c) ∧ Bs w' a c (bytesL l) ∧ Below u.heap.size u w' := by
  refine (bytes_run u hu).mono ?_
  rintro e w' ⟨h1, h2, h3⟩
  have hB := h2.bs (bytesL_rng l) (by rw [bytesL_len]; decide)
  rw [bytesL_len] at hB
  exact ⟨_, 64, h1, hB, h3⟩

/-- Both maps, in a world that has grown from the walk's own. -/
def PB (H : Nat) (w u : World) (g M q cq n X C : Nat) (lm lt l0 : List Bool) (av : List Value) : Prop := Pk u g M q cq n X C lm lt l0 av ∧ Below H w u ∧ H ≤ u.heap.size ∧ H ≤ g ∧ H ≤ M ∧ C ≠ g

section
variable {H : Nat} {w u u' : World} {g M q cq n X C : Nat} {lm lt l0 : List Bool} {av : List Value}
theorem PB.stays (h : PB H w u g M q cq n X C lm lt l0 av) (hb : Below u.heap.size u u') : PB H w u' g M q cq n X C lm lt l0 av := by
  obtain ⟨h1, h2, h3, h4, h5, h6⟩ := h
  exact ⟨h1.stays hb, h2.trans (hb.mono h3), Nat.le_trans h3 hb.size, h4, h5, h6⟩
theorem PB.act {lm' : List Bool} (h : PB H w u g M q cq n X C lm lt l0 av) (hm : Mp u' g lm') (hb : But g u u') : PB H w u' g M q cq n X C lm' lt l0 av := by
  obtain ⟨h1, h2, h3, h4, h5, h6⟩ := h
  exact ⟨h1.act hm hb h6, h2.trans (hb.below h4 h3), Nat.le_trans h3 hb.size, h4, h5, h6⟩
theorem PB.ref {q' cq' : Nat} {lt' : List Bool} (h : PB H w u g M q cq n X C lm lt l0 av) (ht : Tr u q' cq' lt') : PB H w (u.setCell ⟨M, 0, none⟩ (.slice (some ⟨q', 0, none⟩) n cq')) g M q' cq' n X C lm lt' l0 av := by
  obtain ⟨h1, h2, h3, h4, h5, h6⟩ := h
  exact ⟨h1.ref ht, h2.setCell h5 _, by simpa [World.setCell] using h3, h4, h5, h6⟩
end

set_option maxRecDepth 100000 in
set_option maxHeartbeats 4000000 in
theorem plays_bad (n : Int) (hn : ¬ (16 ≤ n ∧ n ≤ 512)) (a : Option Addr) (m c : Nat) (w : World) : Calls Try.prog 3 #[.int .i64 n, .slice a m c] w fun e w' => e = .returned (.bool true) ∧ Below w.heap.size w w' := by
  have HN : Hid (∀ u, Calls Try.prog 8 #[.int .i64 n] u fun e w' => e = .returned (.tuple #[.pointer none, .int .i64 1]) ∧ w' = u) := fun u => new_bad n hn u
  have HR : Hid (∀ u, Calls Try.prog 9 #[.int .i64 n] u fun e w' => e = .returned (.tuple #[.agg #[.slice none 0 0], .int .i64 1]) ∧ Below u.heap.size u w') := fun u => rnew_bad n hn u
  clear hn
  go_enter Try.func3, Try.ntmps3
  go_wp2_with (first
    | (go_at_call 8; refine (HN.out _).mono ?_; rintro e w ⟨rfl, rfl⟩)
    | (go_at_call 9; refine (HR.out _).mono ?_; rintro e w2 ⟨rfl, hb2⟩)
    | (refine wpList_alloc0 (by rfl) 29 (by rfl) (some 7) (by rfl) _ alloc_rmap ?_; intro w3 hM3 hb3 hs3; have hm3 := hM3.cell 0; have hf3 := hM3.free 0))
  have hX : Below w.heap.size w (w3.setCell ⟨w2.heap.size, 0, none⟩ (.slice none 0 0)) := (hb2.trans (hb3.mono hb2.size)).setCell hb2.size _
  go_loopw [9] (fun x wr => x = .int .i64 0 ∧ Below w.heap.size w wr) (fun _ _ => 0)
  case atStart => exact ⟨rfl, hX⟩
  case round =>
    rename_i hrel
    obtain ⟨rfl, hbr⟩ := hrel
    clear hX
    go_wp2_with (go_at_call 25; refine (alive_run _).mono ?_; rintro e w5 ⟨rfl, hb5⟩)
    go_ret
    exact ⟨rfl, hbr.trans (hb5.mono hbr.size)⟩

set_option maxRecDepth 100000 in
set_option maxHeartbeats 20000000 in
theorem plays_walk (n : Nat) (h16 : 16 ≤ n) (h512 : n ≤ 512) (a : Option Addr) (c : Nat) (acts : List ActV) (w : World) (hS : Acts w a acts) (hlen : acts.length ≤ 9223372036854775807) :
    Calls Try.prog 3 #[.int .i64 (n : Int), .slice a acts.length c] w fun e w' => e = .returned (.bool true) ∧ Below w.heap.size w w' := by
  have HNEW : Hid (∀ u, Calls Try.prog 8 #[.int .i64 (n : Int)] u fun e w' => ∃ g, e = .returned (.tuple #[.pointer (some ⟨g, 0, none⟩), .int .i64 0]) ∧ Mp w' g (lab n 4) ∧ g = u.heap.size ∧ Below u.heap.size u w') := fun u =>
    (new_run n h16 h512 u).mono fun e w' ⟨h1, h2, h3⟩ => ⟨_, h1, h2, rfl, h3⟩
  have HRNEW : Hid (∀ u, Calls Try.prog 9 #[.int .i64 (n : Int)] u fun e w' => ∃ q c, e = .returned (.tuple #[.agg #[.slice (some ⟨q, 0, none⟩) n c], .int .i64 0]) ∧ Tr w' q c (lab n 4) ∧ u.heap.size ≤ q ∧ Below u.heap.size u w') := fun u => rnew_run n h16 h512 u
  obtain ⟨H, hH⟩ : ∃ H, H = w.heap.size := ⟨_, rfl⟩
  have HH : Hid (H = w.heap.size) := hH
  have HA : Hid (∀ u, Below H w u → Acts u a acts) := fun u hu => hS.stays (by rw [← hH]; exact hu)
  obtain ⟨sl, hsl⟩ : ∃ sl, sl = acts.length := ⟨_, rfl⟩
  have HSL : Hid (sl = acts.length) := hsl
  have HL0 : Hid ((lab n 4).length = n) := lab_len _ _
  rw [← hsl] at hlen ⊢
  clear hsl hS
  go_enter Try.func3, Try.ntmps3
  go_wp2_with (first
    | (go_at_call 8; refine (HNEW.out _).mono ?_; rintro e w1 ⟨g, rfl, hP1, hg1, hb1⟩; have HG1 : Hid (g = w.heap.size) := hg1; clear hg1)
    | (go_at_call 9; refine (HRNEW.out _).mono ?_; rintro e w2 ⟨q, cq, rfl, hT2, hq2, hb2⟩; have hP2 := hP1.stays hb2)
    | (refine wpList_alloc0 (by rfl) 29 (by rfl) (some 7) (by rfl) _ alloc_rmap ?_; intro w3 hM3 hb3 hs3; have hm3 := hM3.cell 0; have hf3 := hM3.free 0))
  have hgl := hP2.blk.lt
  have hql := hT2.lt
  have hX3 : Below w.heap.size w (w3.setCell ⟨w2.heap.size, 0, none⟩ (.slice (some ⟨q, 0, none⟩) n cq)) := ((hb1.trans (hb2.mono hb1.size)).trans (hb3.mono (Nat.le_trans hb1.size hb2.size))).setCell (Nat.le_trans hb1.size hb2.size) _
  have hbM : But w2.heap.size w3 (w3.setCell ⟨w2.heap.size, 0, none⟩ (.slice (some ⟨q, 0, none⟩) n cq)) := (But.refl _ _).setCell 0 _
  have hP3 : Mp (w3.setCell ⟨w2.heap.size, 0, none⟩ (.slice (some ⟨q, 0, none⟩) n cq)) g (lab n 4) := ⟨(hP2.stays hb3).blk.but hbM (by omega), hP2.lo, hP2.hi⟩
  have hT3 : Tr (w3.setCell ⟨w2.heap.size, 0, none⟩ (.slice (some ⟨q, 0, none⟩) n cq)) q cq (lab n 4) := (hT2.stays hb3).but hbM (by omega)
  have hM4 : Blk 29 (w3.setCell ⟨w2.heap.size, 0, none⟩ (.slice (some ⟨q, 0, none⟩) n cq)) w2.heap.size [.slice (some ⟨q, 0, none⟩) n cq] := hM3.set 0 _
  have hHM : H ≤ w2.heap.size := by rw [hH]; exact Nat.le_trans hb1.size hb2.size
  have hHg : H ≤ g := by have := HG1.out; omega
  rw [← hH] at hX3
  obtain ⟨M, hM⟩ : ∃ M, M = w2.heap.size := ⟨_, rfl⟩
  obtain ⟨W0, hW0⟩ : ∃ W0, W0 = w3.setCell ⟨w2.heap.size, 0, none⟩ (.slice (some ⟨q, 0, none⟩) n cq) := ⟨_, rfl⟩
  rw [← hW0] at hX3 hP3 hT3 hM4 ⊢
  rw [← hM] at hM4 hHM ⊢
  clear hW0 hM hbM hP1 hb1 hT2 hq2 hb2 hP2 hM3 hb3 hs3 hm3 hf3 hgl hql hH
  go_loopw [9, 10, 11, 12, 13, 14, 15, 16] (fun x _ _ _ _ _ _ _ wr => ∃ (i : Nat) (l : List Bool) (q cq : Nat), x = .int .i64 i ∧ i ≤ 60 ∧ i ≤ sl ∧ Mp wr g l ∧ l.length = n ∧ Blk 29 wr M [.slice (some ⟨q, 0, none⟩) n cq] ∧ Tr wr q cq l ∧ Below H w wr) (fun x _ _ _ _ _ _ _ _ => 60 - (intOf x).toNat)
  case atStart => exact ⟨0, lab n 4, q, cq, rfl, by omega, by omega, hP3, HL0.out, hM4, hT3, hX3⟩
  case round =>
    rename_i hrel
    clear hP3 hM4 hT3 hX3
    obtain ⟨i, l, q, cq, rfl, hi60, hil, hP, hln, hMb, hT, hbr⟩ := hrel
    have hHr : H ≤ wr.heap.size := by have := HH.out; have := hbr.size; omega
    by_cases hstop : i < sl ∧ i < 60
    · obtain ⟨hlt, hlt60⟩ := hstop
      obtain ⟨sb, so, ha, hcs, hok⟩ := (HA.out wr hbr).at (i := i) (by rw [← HSL.out]; exact hlt)
      rw [show so + 4 * i = so + i * 4 by omega] at hcs
      have hix : ∀ u : World, (Instr.indexAt 22 (.slice a sl c) (.int .i64 (i : Int))).run Try.prog u = .ok (.pointer (some ⟨sb, so + i * 4, none⟩)) u := fun u => by
        rw [ha]; exact index_act sb so sl c i hlt u
      obtain ⟨x, hx⟩ : ∃ x, x = acts.getD i default := ⟨_, rfl⟩
      rw [← hx] at hcs hok
      clear hx ha
      obtain ⟨kd, num, pos, ka, kc, ks⟩ := x
      have hpos : pos < 4294967296 := hok.pos
      have hks : Us wr ka ks := hok.ks
      have hkll : ks.length ≤ 9223372036854775807 := hok.kl
      obtain ⟨y0, y1, y2, y3⟩ := act_cells hcs
      simp only at y0 y1 y2 y3
      obtain ⟨kl, hkl⟩ : ∃ kl, kl = ks.length := ⟨_, rfl⟩
      rw [← hkl] at y3 hkll
      have HKL : Hid (kl = ks.length) := hkl
      clear hok hcs hkl
      obtain ⟨av, hav⟩ : ∃ av, av = [Value.int .i64 kd, .int .i64 num, .int .u32 (pos : Int), .slice ka kl kc] := ⟨_, rfl⟩
      obtain ⟨C, hC⟩ : ∃ C, C = (wr.alloc (.cells #[.int .i64 kd, .int .i64 num, .int .u32 (pos : Int), .slice ka kl kc] 35)).heap.size := ⟨_, rfl⟩
      have hb1 : Below wr.heap.size wr (wr.alloc (.cells #[.int .i64 kd, .int .i64 num, .int .u32 (pos : Int), .slice ka kl kc] 35)) := (Below.refl _ _).alloc (Nat.le_refl _) _
      have hgl := hP.blk.lt
      have HCP : Hid (Calls Try.prog 10 #[.pointer (some ⟨g, 0, none⟩)] (wr.alloc (.cells #[.int .i64 kd, .int .i64 num, .int .u32 (pos : Int), .slice ka kl kc] 35)) fun e w' => e = .returned (.pointer (some ⟨C, 0, none⟩)) ∧ PB H w w' g M q cq n wr.heap.size C l l l [.int .i64 kd, .int .i64 num, .int .u32 (pos : Int), .slice ka kl kc] ∧ Below wr.heap.size wr w') := by
        refine (copy_run _ (hP.stays hb1)).mono ?_
        rintro e w' ⟨h1, h2, h3⟩
        rw [← hC] at h1 h2 h3
        have h3' : Below wr.heap.size wr w' := hb1.trans (h3.mono (by rw [hC]; simp))
        refine ⟨h1, ⟨⟨hP.stays h3', hMb.stays h3', hT.stays h3', ?_, h2⟩, hbr.trans (h3'.mono hHr), Nat.le_trans hHr h3'.size, hHg, hHM, ?_⟩, h3'⟩
        · have h5 : Blk 35 (wr.alloc (.cells #[.int .i64 kd, .int .i64 num, .int .u32 (pos : Int), .slice ka kl kc] 35)) wr.heap.size [.int .i64 kd, .int .i64 num, .int .u32 (pos : Int), .slice ka kl kc] := Blk.newAt rfl rfl
          exact h5.stays (by rw [← hC]; exact h3)
        · rw [hC]; simp; omega
      obtain ⟨X0, hX0⟩ : ∃ X0, X0 = bytesL l := ⟨_, rfl⟩
      obtain ⟨Z0, hZ0⟩ : ∃ Z0, Z0 = strOfNums X0 := ⟨_, rfl⟩
      have HCN0 : Hid (∀ a' c' u, slB 64 X0 (.slice a' 64 c') u → (convert 37 9 (.slice a' 64 c')).run Try.prog u = .ok (.string Z0) u) := fun a' c' u hu => by
        obtain ⟨a2, c2, h5, h6⟩ := hu
        cases h5
        rw [hZ0]
        exact h6.conv 64 (by rw [hX0, bytesL_len]) 37 5 Try.underlying37 Try.underlying5 9 Try.underlying9
      have HBC : Hid (∀ u p, Mp u p l → Calls Try.prog 11 #[.pointer (some ⟨p, 0, none⟩)] u fun e w' => ∃ a c, e = .returned (.slice a 64 c) ∧ Bs w' a c X0 ∧ Below u.heap.size u w') := fun u p hu => by rw [hX0]; exact bytes_bs u hu
      have HB0 : Hid (∀ u, PB H w u g M q cq n wr.heap.size C l l l [.int .i64 kd, .int .i64 num, .int .u32 (pos : Int), .slice ka kl kc] → Calls Try.prog 11 #[.pointer (some ⟨g, 0, none⟩)] u fun e w' => ∃ a3 c3, e = .returned (.slice a3 64 c3) ∧ (convert 37 9 (.slice a3 64 c3)).run Try.prog w' = .ok (.string Z0) w' ∧ Below u.heap.size u w') := fun u hu =>
        (HBC.out u g hu.1.m).mono fun e w' ⟨a3, c3, h1, h2, h3⟩ => ⟨a3, c3, h1, HCN0.out a3 c3 w' ⟨_, _, rfl, h2⟩, h3⟩
      have HKS : Hid (∀ u, Below wr.heap.size wr u → Us u ka ks) := fun u hu => hks.stays hu
      clear hX0 hZ0 hav hks hb1
      by_cases hk1 : kd = 1
      · subst hk1
        obtain ⟨l1, hl1e⟩ : ∃ l1, l1 = (takeL l num).1 := ⟨_, rfl⟩
        obtain ⟨o, hoe⟩ : ∃ o, o = (takeL l num).2.1 := ⟨_, rfl⟩
        obtain ⟨er, here⟩ : ∃ er, er = (takeL l num).2.2 := ⟨_, rfl⟩
        obtain ⟨ol, hol⟩ : ∃ ol, ol = o.length := ⟨_, rfl⟩
        have HL1 : Hid (l1.length = n) := by rw [hl1e]; show (takeL l num).1.length = n; rw [takeL_len]; exact hln
        have HOL : Hid (ol = o.length ∧ ol ≤ 1000) := ⟨hol, by rw [hol, hoe]; have := takeL_few l num; omega⟩
        have HOR : Hid (∀ x ∈ o, x < 4294967296) := by rw [hoe]; exact takeL_rng l num (by omega)
        have HT : Hid (∀ u, PB H w u g M q cq n wr.heap.size C l l l [.int .i64 1, .int .i64 num, .int .u32 (pos : Int), .slice ka kl kc] → Calls Try.prog 12 #[.pointer (some ⟨g, 0, none⟩), .int .i64 num] u fun e w' => ∃ a6 c6, e = .returned (.tuple #[.slice a6 ol c6, .int .i64 (er : Int)]) ∧ Us w' a6 o ∧ PB H w w' g M q cq n wr.heap.size C l1 l l [.int .i64 1, .int .i64 num, .int .u32 (pos : Int), .slice ka kl kc]) := fun u hu => by
          refine (take_run num u hu.1.m).mono ?_
          rintro e w' ⟨v, h1, h2, h3, h4⟩
          rw [← hoe] at h2
          rw [← hl1e] at h3
          rw [← here] at h1
          obtain ⟨a6, c6, rfl⟩ := h2.form
          exact ⟨a6, c6, by rw [hol]; exact h1, (h2.us HOR.out).2, hu.act h3 h4⟩
        have HRT : Hid (∀ u, PB H w u g M q cq n wr.heap.size C l1 l l [.int .i64 1, .int .i64 num, .int .u32 (pos : Int), .slice ka kl kc] → Calls Try.prog 13 #[.agg #[.slice (some ⟨q, 0, none⟩) n cq], .int .i64 num] u fun e w' => ∃ q7 cq7 a7 c7, e = .returned (.tuple #[.agg #[.slice (some ⟨q7, 0, none⟩) n cq7], .slice a7 ol c7, .int .i64 (er : Int)]) ∧ Tr w' q7 cq7 l1 ∧ Us w' a7 o ∧ Below u.heap.size u w') := fun u hu => by
          refine (rtake_run n num u hu.1.t hln.symm h16 h512).mono ?_
          rintro e w' ⟨q7, cq7, v, h1, h2, h3, h4⟩
          rw [← hoe] at h3
          rw [← hl1e] at h2
          rw [← here] at h1
          obtain ⟨a7, c7, rfl⟩ := h3.form
          exact ⟨q7, cq7, a7, c7, by rw [hol]; exact h1, h2, (h3.us HOR.out).2, h4⟩
        clear hl1e hoe here hol
        obtain ⟨ub, hub⟩ : ∃ ub, ub = usedL l1 num := ⟨_, rfl⟩
        obtain ⟨F, hF⟩ : ∃ F, F = freeN l1 := ⟨_, rfl⟩
        obtain ⟨X1, hX1⟩ : ∃ X1, X1 = bytesL l1 := ⟨_, rfl⟩
        obtain ⟨Z1, hZ1⟩ : ∃ Z1, Z1 = strOfNums X1 := ⟨_, rfl⟩
        have hl1 := HL1.out
        have HUS : Hid (∀ u, Mp u g l1 → Calls Try.prog 19 #[.pointer (some ⟨g, 0, none⟩), .int .i64 num] u fun e w' => e = .returned (.bool ub) ∧ Below u.heap.size u w') := fun u hu => by rw [hub]; exact used_run num u hu
        have HRU : Hid (∀ u q cq, Tr u q cq l1 → Calls Try.prog 20 #[.agg #[.slice (some ⟨q, 0, none⟩) n cq], .int .i64 num] u fun e w' => e = .returned (.bool ub) ∧ Below u.heap.size u w') := fun u q cq hu => by
          have := rused_run num u hu (by omega)
          rw [hl1] at this
          rw [hub]; exact this
        have HFR : Hid (∀ u, Mp u g l1 → Calls Try.prog 21 #[.pointer (some ⟨g, 0, none⟩)] u fun e w' => e = .returned (.int .i64 (F : Int)) ∧ Below u.heap.size u w') := fun u hu => by
          rw [hF]; exact (free_run u hu).mono fun e w' ⟨h1, h2⟩ => ⟨h1, h2 ▸ Below.refl _ _⟩
        have HRF : Hid (∀ u q cq, Tr u q cq l1 → Calls Try.prog 22 #[.agg #[.slice (some ⟨q, 0, none⟩) n cq]] u fun e w' => e = .returned (.int .i64 (F : Int)) ∧ Below u.heap.size u w') := fun u q cq hu => by
          have := rfree_run u hu (by omega)
          rw [hl1] at this
          rw [hF]; exact this
        have HBY : Hid (∀ u p, Mp u p l1 → Calls Try.prog 11 #[.pointer (some ⟨p, 0, none⟩)] u fun e w' => ∃ a c, e = .returned (.slice a 64 c) ∧ Bs w' a c X1 ∧ Below u.heap.size u w') := fun u p hu => by rw [hX1]; exact bytes_bs u hu
        have HRB : Hid (∀ u q cq, Tr u q cq l1 → Calls Try.prog 23 #[.agg #[.slice (some ⟨q, 0, none⟩) n cq]] u fun e w' => ∃ a c, e = .returned (.slice a 64 c) ∧ Bs w' a c X1 ∧ Below u.heap.size u w') := fun u q cq hu => by
          have := rbytes_run u hu (by omega)
          rw [hl1] at this
          rw [hX1]; exact this
        have HLN : Hid (∀ u, Mp u g l1 → Calls Try.prog 24 #[.pointer (some ⟨g, 0, none⟩)] u fun e w' => e = .returned (.int .i64 (n : Int)) ∧ Below u.heap.size u w') := fun u hu => by
          have := len_run u hu
          rw [hl1] at this
          exact this.mono fun e w' ⟨h1, h2⟩ => ⟨h1, h2 ▸ Below.refl _ _⟩
        have HCN1 : Hid (∀ a' c' u, slB 64 X1 (.slice a' 64 c') u → (convert 37 9 (.slice a' 64 c')).run Try.prog u = .ok (.string Z1) u) := fun a' c' u hu => by
          obtain ⟨a2, c2, h5, h6⟩ := hu
          cases h5
          rw [hZ1]
          exact h6.conv 64 (by rw [hX1, bytesL_len]) 37 5 Try.underlying37 Try.underlying5 9 Try.underlying9
        clear hub hF hX1 hZ1 hl1
        go_wp2_with (first
          | (go_at_call 10; refine HCP.out.mono ?_; rintro e w2 ⟨rfl, hK2, hb2⟩)
          | (go_at_call 11; refine (HB0.out _ hK2).mono ?_; rintro e w3 ⟨a3, c3, rfl, hcv3, hb3⟩; have hK3 := hK2.stays hb3)
          | (refine wpList_none32 (by rfl) (by rfl) (some 60) (by rfl) ?_; intro w4 b4 hb4; have hK4 := hK3.stays hb4)
          | (refine wpList_none32 (by rfl) (by rfl) (some 61) (by rfl) ?_; intro w5 b5 hb5; have hK5 := hK4.stays hb5; have x0 := hK5.1.x.cell 0; have x1 := hK5.1.x.cell 1; have x2 := hK5.1.x.cell 2; have x3 := hK5.1.x.cell 3)
          | (go_at_call 12; refine (HT.out _ hK5).mono ?_; rintro e w6 ⟨a6, c6, rfl, hU6, hK6⟩; have x6 := hK6.1.x.cell 1; have m6 := hK6.1.b.cell 0)
          | (go_at_call 13; refine (HRT.out _ hK6).mono ?_; rintro e w7 ⟨q7, cq7, a7, c7, rfl, hT7, hU7, hb7⟩; have hK7 := hK6.stays hb7; have m7 := hK7.1.b.cell 0; have f7 := hK7.1.b.free 0))
        have hK := hK7.ref hT7
        have hUx := us_ref (x := .slice (some ⟨q7, 0, none⟩) n cq7) (hU6.stays hb7) hK7.1.b
        have hUy := us_ref (x := .slice (some ⟨q7, 0, none⟩) n cq7) hU7 hK7.1.b
        clear hK2 hK3 hK4 hK5 hK6 hK7 hT7 hU6 hU7 m6 m7 f7 x6 x0 x1 x2 x3 hcv3
        obtain ⟨W, hW⟩ : ∃ W, W = w7.setCell ⟨M, 0, none⟩ (.slice (some ⟨q7, 0, none⟩) n cq7) := ⟨_, rfl⟩
        rw [← hW] at hK hUx hUy ⊢
        clear hW
        have HXC : Hid (∀ u, Below W.heap.size W u → u.cell? ⟨wr.heap.size, 1, none⟩ = some (.int .i64 num) ∧ u.cell? ⟨M, 0, none⟩ = some (.slice (some ⟨q7, 0, none⟩) n cq7)) := fun u hu => ⟨(hK.1.stays hu).x.cell 1, (hK.1.stays hu).b.cell 0⟩
        have HSA : Hid (∀ u, Below W.heap.size W u → Calls Try.prog 18 #[.slice a6 ol c6, .slice a7 ol c7] u fun e w' => e = .returned (.bool true) ∧ Below u.heap.size u w') := fun u hu => same_run _ _ _ _ _ _ u (hUx.stays hu) (hUy.stays hu) HOL.out.1 HOL.out.2
        refine Up.wp_region_up (Up.tell [(6, isV (.bool true)), (13, isV (.bool ub)), (17, isV (.bool ub)), (22, isV (.int .i64 (F : Int))), (24, isV (.int .i64 (F : Int))), (29, slB 64 X1), (32, slB 64 X1), (38, isV (.int .i64 (n : Int))), (44, slB 64 X0)]) (by kernel_rfl) (by kernel_rfl) (Up.tell_steady _ (by
          intro p hp
          simp only [List.mem_cons, List.not_mem_nil, or_false] at hp
          rcases hp with rfl | rfl | rfl | rfl | rfl | rfl | rfl | rfl | rfl <;> first | exact isV_steady _ | exact slB_steady _ _)) ?_
        repeat (first
          | (refine Up.wpUp_pass (by rfl) ?_; simp only [Act.put, List.setIfInBounds_toArray, List.set_cons_zero, List.set_cons_succ])
          | (apply Up.wpUp_pure
             case hw => rfl
             case hψ => rfl
             case hv => (intro w1 hp; clear hp; go_simp; try (with_reducible rfl))
             simp only [Act.put, List.setIfInBounds_toArray, List.set_cons_zero, List.set_cons_succ]))
        refine Up.wpUp_call _ 18 #[.slice a6 ol c6, .slice a7 ol c7] (by rfl) (by rfl) (fun wz => by go_simp) (fun wz hp => calls_isV (HSA.out wz hp.1)) ?_
        rintro v ⟨u, _, hf⟩
        obtain rfl := hf 6 v _ rfl rfl
        clear hf
        simp only [Act.put, List.setIfInBounds_toArray, List.set_cons_zero, List.set_cons_succ]
        repeat (first
          | (refine Up.wpUp_pass (by rfl) ?_; simp only [Act.put, List.setIfInBounds_toArray, List.set_cons_zero, List.set_cons_succ])
          | (apply Up.wpUp_pure
             case hw => rfl
             case hψ => rfl
             case hv => (intro w1 hp; clear hp; go_simp; try (with_reducible rfl))
             simp only [Act.put, List.setIfInBounds_toArray, List.set_cons_zero, List.set_cons_succ])
          | (apply Up.wpUp_pure
             case hw => rfl
             case hψ => rfl
             case hv => (intro w1 hp; have hq5 := (HXC.out _ hp.1).1; have hq6 := (HXC.out _ hp.1).2; clear hp; go_simp; try (with_reducible rfl))
             simp only [Act.put, List.setIfInBounds_toArray, List.set_cons_zero, List.set_cons_succ]))
        refine Up.wpUp_call _ 19 #[.pointer (some ⟨g, 0, none⟩), .int .i64 num] (by rfl) (by rfl) (fun wz => by go_simp) (fun wz hp => calls_isV (HUS.out wz (hK.1.stays hp.1).m)) ?_
        rintro v ⟨u, _, hf⟩
        obtain rfl := hf 13 v _ rfl rfl
        clear hf
        simp only [Act.put, List.setIfInBounds_toArray, List.set_cons_zero, List.set_cons_succ]
        repeat (first
          | (refine Up.wpUp_pass (by rfl) ?_; simp only [Act.put, List.setIfInBounds_toArray, List.set_cons_zero, List.set_cons_succ])
          | (apply Up.wpUp_pure
             case hw => rfl
             case hψ => rfl
             case hv => (intro w1 hp; clear hp; go_simp; try (with_reducible rfl))
             simp only [Act.put, List.setIfInBounds_toArray, List.set_cons_zero, List.set_cons_succ])
          | (apply Up.wpUp_pure
             case hw => rfl
             case hψ => rfl
             case hv => (intro w1 hp; have hq5 := (HXC.out _ hp.1).1; have hq6 := (HXC.out _ hp.1).2; clear hp; go_simp; try (with_reducible rfl))
             simp only [Act.put, List.setIfInBounds_toArray, List.set_cons_zero, List.set_cons_succ]))
        refine Up.wpUp_call _ 20 #[.agg #[.slice (some ⟨q7, 0, none⟩) n cq7], .int .i64 num] (by rfl) (by rfl) (fun wz => by go_simp) (fun wz hp => calls_isV (HRU.out wz _ _ (hK.1.stays hp.1).t)) ?_
        rintro v ⟨u, _, hf⟩
        obtain rfl := hf 17 v _ rfl rfl
        clear hf
        simp only [Act.put, List.setIfInBounds_toArray, List.set_cons_zero, List.set_cons_succ]
        repeat (first
          | (refine Up.wpUp_pass (by rfl) ?_; simp only [Act.put, List.setIfInBounds_toArray, List.set_cons_zero, List.set_cons_succ])
          | (apply Up.wpUp_pure
             case hw => rfl
             case hψ => rfl
             case hv => (intro w1 hp; clear hp; go_simp; try (with_reducible rfl))
             simp only [Act.put, List.setIfInBounds_toArray, List.set_cons_zero, List.set_cons_succ])
          | (apply Up.wpUp_pure
             case hw => rfl
             case hψ => rfl
             case hv => (intro w1 hp; have hq5 := (HXC.out _ hp.1).1; have hq6 := (HXC.out _ hp.1).2; clear hp; go_simp; try (with_reducible rfl))
             simp only [Act.put, List.setIfInBounds_toArray, List.set_cons_zero, List.set_cons_succ]))
        refine Up.wpUp_call _ 21 #[.pointer (some ⟨g, 0, none⟩)] (by rfl) (by rfl) (fun wz => by go_simp) (fun wz hp => calls_isV (HFR.out wz (hK.1.stays hp.1).m)) ?_
        rintro v ⟨u, _, hf⟩
        obtain rfl := hf 22 v _ rfl rfl
        clear hf
        simp only [Act.put, List.setIfInBounds_toArray, List.set_cons_zero, List.set_cons_succ]
        repeat (first
          | (refine Up.wpUp_pass (by rfl) ?_; simp only [Act.put, List.setIfInBounds_toArray, List.set_cons_zero, List.set_cons_succ])
          | (apply Up.wpUp_pure
             case hw => rfl
             case hψ => rfl
             case hv => (intro w1 hp; clear hp; go_simp; try (with_reducible rfl))
             simp only [Act.put, List.setIfInBounds_toArray, List.set_cons_zero, List.set_cons_succ])
          | (apply Up.wpUp_pure
             case hw => rfl
             case hψ => rfl
             case hv => (intro w1 hp; have hq5 := (HXC.out _ hp.1).1; have hq6 := (HXC.out _ hp.1).2; clear hp; go_simp; try (with_reducible rfl))
             simp only [Act.put, List.setIfInBounds_toArray, List.set_cons_zero, List.set_cons_succ]))
        refine Up.wpUp_call _ 22 #[.agg #[.slice (some ⟨q7, 0, none⟩) n cq7]] (by rfl) (by rfl) (fun wz => by go_simp) (fun wz hp => calls_isV (HRF.out wz _ _ (hK.1.stays hp.1).t)) ?_
        rintro v ⟨u, _, hf⟩
        obtain rfl := hf 24 v _ rfl rfl
        clear hf
        simp only [Act.put, List.setIfInBounds_toArray, List.set_cons_zero, List.set_cons_succ]
        repeat (first
          | (refine Up.wpUp_pass (by rfl) ?_; simp only [Act.put, List.setIfInBounds_toArray, List.set_cons_zero, List.set_cons_succ])
          | (apply Up.wpUp_pure
             case hw => rfl
             case hψ => rfl
             case hv => (intro w1 hp; clear hp; go_simp; try (with_reducible rfl))
             simp only [Act.put, List.setIfInBounds_toArray, List.set_cons_zero, List.set_cons_succ])
          | (apply Up.wpUp_pure
             case hw => rfl
             case hψ => rfl
             case hv => (intro w1 hp; have hq5 := (HXC.out _ hp.1).1; have hq6 := (HXC.out _ hp.1).2; clear hp; go_simp; try (with_reducible rfl))
             simp only [Act.put, List.setIfInBounds_toArray, List.set_cons_zero, List.set_cons_succ]))
        refine Up.wpUp_call _ 11 #[.pointer (some ⟨g, 0, none⟩)] (by rfl) (by rfl) (fun wz => by go_simp) (fun wz hp => calls_slB (HBY.out wz _ (hK.1.stays hp.1).m)) ?_
        rintro v ⟨u, _, hf⟩
        obtain ⟨a10, c10, rfl, _⟩ := hf 29 v _ rfl rfl
        clear hf
        simp only [Act.put, List.setIfInBounds_toArray, List.set_cons_zero, List.set_cons_succ]
        repeat (first
          | (refine Up.wpUp_pass (by rfl) ?_; simp only [Act.put, List.setIfInBounds_toArray, List.set_cons_zero, List.set_cons_succ])
          | (apply Up.wpUp_pure
             case hw => rfl
             case hψ => rfl
             case hv => (intro w1 hp; clear hp; go_simp; try (with_reducible rfl))
             simp only [Act.put, List.setIfInBounds_toArray, List.set_cons_zero, List.set_cons_succ])
          | (apply Up.wpUp_pure
             case hw => rfl
             case hψ => rfl
             case hv => (intro w1 hp; have hq5 := (HXC.out _ hp.1).1; have hq6 := (HXC.out _ hp.1).2; clear hp; go_simp; try (with_reducible rfl))
             simp only [Act.put, List.setIfInBounds_toArray, List.set_cons_zero, List.set_cons_succ])
          | (apply Up.wpUp_pure
             case hw => rfl
             case hψ => rfl
             case hv => (intro w1 hp; have hq3 := HCN1.out _ _ _ (hp.2 29 _ _ rfl rfl rfl); clear hp; go_simp; try (with_reducible rfl))
             simp only [Act.put, List.setIfInBounds_toArray, List.set_cons_zero, List.set_cons_succ]))
        refine Up.wpUp_call _ 23 #[.agg #[.slice (some ⟨q7, 0, none⟩) n cq7]] (by rfl) (by rfl) (fun wz => by go_simp) (fun wz hp => calls_slB (HRB.out wz _ _ (hK.1.stays hp.1).t)) ?_
        rintro v ⟨u, _, hf⟩
        obtain ⟨a11, c11, rfl, _⟩ := hf 32 v _ rfl rfl
        clear hf
        simp only [Act.put, List.setIfInBounds_toArray, List.set_cons_zero, List.set_cons_succ]
        repeat (first
          | (refine Up.wpUp_pass (by rfl) ?_; simp only [Act.put, List.setIfInBounds_toArray, List.set_cons_zero, List.set_cons_succ])
          | (apply Up.wpUp_pure
             case hw => rfl
             case hψ => rfl
             case hv => (intro w1 hp; clear hp; go_simp; try (with_reducible rfl))
             simp only [Act.put, List.setIfInBounds_toArray, List.set_cons_zero, List.set_cons_succ])
          | (apply Up.wpUp_pure
             case hw => rfl
             case hψ => rfl
             case hv => (intro w1 hp; have hq5 := (HXC.out _ hp.1).1; have hq6 := (HXC.out _ hp.1).2; clear hp; go_simp; try (with_reducible rfl))
             simp only [Act.put, List.setIfInBounds_toArray, List.set_cons_zero, List.set_cons_succ])
          | (apply Up.wpUp_pure
             case hw => rfl
             case hψ => rfl
             case hv => (intro w1 hp; have hq3 := HCN1.out _ _ _ (hp.2 32 _ _ rfl rfl rfl); clear hp; go_simp; try (with_reducible rfl))
             simp only [Act.put, List.setIfInBounds_toArray, List.set_cons_zero, List.set_cons_succ]))
        refine Up.wpUp_call _ 24 #[.pointer (some ⟨g, 0, none⟩)] (by rfl) (by rfl) (fun wz => by go_simp) (fun wz hp => calls_isV (HLN.out wz (hK.1.stays hp.1).m)) ?_
        rintro v ⟨u, _, hf⟩
        obtain rfl := hf 38 v _ rfl rfl
        clear hf
        simp only [Act.put, List.setIfInBounds_toArray, List.set_cons_zero, List.set_cons_succ]
        repeat (first
          | (refine Up.wpUp_pass (by rfl) ?_; simp only [Act.put, List.setIfInBounds_toArray, List.set_cons_zero, List.set_cons_succ])
          | (apply Up.wpUp_pure
             case hw => rfl
             case hψ => rfl
             case hv => (intro w1 hp; clear hp; go_simp; try (with_reducible rfl))
             simp only [Act.put, List.setIfInBounds_toArray, List.set_cons_zero, List.set_cons_succ])
          | (apply Up.wpUp_pure
             case hw => rfl
             case hψ => rfl
             case hv => (intro w1 hp; have hq5 := (HXC.out _ hp.1).1; have hq6 := (HXC.out _ hp.1).2; clear hp; go_simp; try (with_reducible rfl))
             simp only [Act.put, List.setIfInBounds_toArray, List.set_cons_zero, List.set_cons_succ]))
        refine Up.wpUp_call _ 11 #[.pointer (some ⟨C, 0, none⟩)] (by rfl) (by rfl) (fun wz => by go_simp) (fun wz hp => calls_slB (HBC.out wz _ (hK.1.stays hp.1).c)) ?_
        rintro v ⟨u, _, hf⟩
        obtain ⟨a12, c12, rfl, _⟩ := hf 44 v _ rfl rfl
        clear hf
        simp only [Act.put, List.setIfInBounds_toArray, List.set_cons_zero, List.set_cons_succ]
        repeat (first
          | (refine Up.wpUp_pass (by rfl) ?_; simp only [Act.put, List.setIfInBounds_toArray, List.set_cons_zero, List.set_cons_succ])
          | (apply Up.wpUp_pure
             case hw => rfl
             case hψ => rfl
             case hv => (intro w1 hp; clear hp; go_simp; try (with_reducible rfl))
             simp only [Act.put, List.setIfInBounds_toArray, List.set_cons_zero, List.set_cons_succ])
          | (apply Up.wpUp_pure
             case hw => rfl
             case hψ => rfl
             case hv => (intro w1 hp; have hq5 := (HXC.out _ hp.1).1; have hq6 := (HXC.out _ hp.1).2; clear hp; go_simp; try (with_reducible rfl))
             simp only [Act.put, List.setIfInBounds_toArray, List.set_cons_zero, List.set_cons_succ])
          | (apply Up.wpUp_pure
             case hw => rfl
             case hψ => rfl
             case hv => (intro w1 hp; have hq3 := HCN0.out _ _ _ (hp.2 44 _ _ rfl rfl rfl); clear hp; go_simp; try (with_reducible rfl))
             simp only [Act.put, List.setIfInBounds_toArray, List.set_cons_zero, List.set_cons_succ]))
        refine Up.wpUp_end ?_
        intro w9 hb9 _
        have hK9 := hK.stays hb9
        clear hK
        go_wp2
        go_roundw
        case rel => exact ⟨i + 1, l1, q7, cq7, by go_num, by omega, by omega, hK9.1.m, HL1.out, hK9.1.b, hK9.1.t, hK9.2.1⟩
        case measure => simp [intOf]; omega
      · have hb1 : (kd == 1) = false := beq_false_of_ne hk1
        by_cases hk2 : kd = 2
        · subst hk2
          clear hk1 hb1
          obtain ⟨l1, hl1e⟩ : ∃ l1, l1 = (giveL l pos).1 := ⟨_, rfl⟩
          obtain ⟨er, here⟩ : ∃ er, er = (giveL l pos).2 := ⟨_, rfl⟩
          have HL1 : Hid (l1.length = n) := by rw [hl1e]; show (giveL l pos).1.length = n; rw [giveL_len]; exact hln
          have HOL : Hid (0 = ([] : List Nat).length ∧ 0 ≤ 1000) := ⟨rfl, by omega⟩
          have HT : Hid (∀ u, PB H w u g M q cq n wr.heap.size C l l l [.int .i64 2, .int .i64 num, .int .u32 (pos : Int), .slice ka kl kc] → Calls Try.prog 14 #[.pointer (some ⟨g, 0, none⟩), .int .u32 (pos : Int)] u fun e w' => e = .returned (.int .i64 (er : Int)) ∧ PB H w w' g M q cq n wr.heap.size C l1 l l [.int .i64 2, .int .i64 num, .int .u32 (pos : Int), .slice ka kl kc]) := fun u hu => by
            refine (give_run pos hpos u hu.1.m).mono ?_
            rintro e w' ⟨h1, h3, h4⟩
            rw [← hl1e] at h3
            rw [← here] at h1
            exact ⟨h1, hu.act h3 h4⟩
          have HRT : Hid (∀ u, PB H w u g M q cq n wr.heap.size C l1 l l [.int .i64 2, .int .i64 num, .int .u32 (pos : Int), .slice ka kl kc] → Calls Try.prog 15 #[.agg #[.slice (some ⟨q, 0, none⟩) n cq], .int .u32 (pos : Int)] u fun e w' => ∃ q7 cq7, e = .returned (.tuple #[.agg #[.slice (some ⟨q7, 0, none⟩) n cq7], .int .i64 (er : Int)]) ∧ Tr w' q7 cq7 l1 ∧ Below u.heap.size u w') := fun u hu => by
            refine (rgive_run n pos hpos u hu.1.t hln.symm h512).mono ?_
            rintro e w' ⟨q7, cq7, h1, h2, h4⟩
            rw [← hl1e] at h2
            rw [← here] at h1
            exact ⟨q7, cq7, h1, h2, h4⟩
          clear hl1e here
          obtain ⟨ub, hub⟩ : ∃ ub, ub = usedL l1 num := ⟨_, rfl⟩
          obtain ⟨F, hF⟩ : ∃ F, F = freeN l1 := ⟨_, rfl⟩
          obtain ⟨X1, hX1⟩ : ∃ X1, X1 = bytesL l1 := ⟨_, rfl⟩
          obtain ⟨Z1, hZ1⟩ : ∃ Z1, Z1 = strOfNums X1 := ⟨_, rfl⟩
          have hl1 := HL1.out
          have HUS : Hid (∀ u, Mp u g l1 → Calls Try.prog 19 #[.pointer (some ⟨g, 0, none⟩), .int .i64 num] u fun e w' => e = .returned (.bool ub) ∧ Below u.heap.size u w') := fun u hu => by rw [hub]; exact used_run num u hu
          have HRU : Hid (∀ u q cq, Tr u q cq l1 → Calls Try.prog 20 #[.agg #[.slice (some ⟨q, 0, none⟩) n cq], .int .i64 num] u fun e w' => e = .returned (.bool ub) ∧ Below u.heap.size u w') := fun u q cq hu => by
            have := rused_run num u hu (by omega)
            rw [hl1] at this
            rw [hub]; exact this
          have HFR : Hid (∀ u, Mp u g l1 → Calls Try.prog 21 #[.pointer (some ⟨g, 0, none⟩)] u fun e w' => e = .returned (.int .i64 (F : Int)) ∧ Below u.heap.size u w') := fun u hu => by
            rw [hF]; exact (free_run u hu).mono fun e w' ⟨h1, h2⟩ => ⟨h1, h2 ▸ Below.refl _ _⟩
          have HRF : Hid (∀ u q cq, Tr u q cq l1 → Calls Try.prog 22 #[.agg #[.slice (some ⟨q, 0, none⟩) n cq]] u fun e w' => e = .returned (.int .i64 (F : Int)) ∧ Below u.heap.size u w') := fun u q cq hu => by
            have := rfree_run u hu (by omega)
            rw [hl1] at this
            rw [hF]; exact this
          have HBY : Hid (∀ u p, Mp u p l1 → Calls Try.prog 11 #[.pointer (some ⟨p, 0, none⟩)] u fun e w' => ∃ a c, e = .returned (.slice a 64 c) ∧ Bs w' a c X1 ∧ Below u.heap.size u w') := fun u p hu => by rw [hX1]; exact bytes_bs u hu
          have HRB : Hid (∀ u q cq, Tr u q cq l1 → Calls Try.prog 23 #[.agg #[.slice (some ⟨q, 0, none⟩) n cq]] u fun e w' => ∃ a c, e = .returned (.slice a 64 c) ∧ Bs w' a c X1 ∧ Below u.heap.size u w') := fun u q cq hu => by
            have := rbytes_run u hu (by omega)
            rw [hl1] at this
            rw [hX1]; exact this
          have HLN : Hid (∀ u, Mp u g l1 → Calls Try.prog 24 #[.pointer (some ⟨g, 0, none⟩)] u fun e w' => e = .returned (.int .i64 (n : Int)) ∧ Below u.heap.size u w') := fun u hu => by
            have := len_run u hu
            rw [hl1] at this
            exact this.mono fun e w' ⟨h1, h2⟩ => ⟨h1, h2 ▸ Below.refl _ _⟩
          have HCN1 : Hid (∀ a' c' u, slB 64 X1 (.slice a' 64 c') u → (convert 37 9 (.slice a' 64 c')).run Try.prog u = .ok (.string Z1) u) := fun a' c' u hu => by
            obtain ⟨a2, c2, h5, h6⟩ := hu
            cases h5
            rw [hZ1]
            exact h6.conv 64 (by rw [hX1, bytesL_len]) 37 5 Try.underlying37 Try.underlying5 9 Try.underlying9
          clear hub hF hX1 hZ1 hl1
          go_wp2_with (first
            | (go_at_call 10; refine HCP.out.mono ?_; rintro e w2 ⟨rfl, hK2, hb2⟩)
            | (go_at_call 11; refine (HB0.out _ hK2).mono ?_; rintro e w3 ⟨a3, c3, rfl, hcv3, hb3⟩; have hK3 := hK2.stays hb3)
            | (refine wpList_none32 (by rfl) (by rfl) (some 60) (by rfl) ?_; intro w4 b4 hb4; have hK4 := hK3.stays hb4)
            | (refine wpList_none32 (by rfl) (by rfl) (some 61) (by rfl) ?_; intro w5 b5 hb5; have hK5 := hK4.stays hb5; have x0 := hK5.1.x.cell 0; have x1 := hK5.1.x.cell 1; have x2 := hK5.1.x.cell 2; have x3 := hK5.1.x.cell 3)
            | (go_at_call 14; refine (HT.out _ hK5).mono ?_; rintro e w6 ⟨rfl, hK6⟩; have x6 := hK6.1.x.cell 2; have m6 := hK6.1.b.cell 0)
            | (go_at_call 15; refine (HRT.out _ hK6).mono ?_; rintro e w7 ⟨q7, cq7, rfl, hT7, hb7⟩; have hK7 := hK6.stays hb7; have m7 := hK7.1.b.cell 0; have f7 := hK7.1.b.free 0))
          have hK := hK7.ref hT7
          have hUx : Us (w7.setCell ⟨M, 0, none⟩ (.slice (some ⟨q7, 0, none⟩) n cq7)) (some ⟨b4, 0, none⟩) [] := Us.none _ _
          have hUy : Us (w7.setCell ⟨M, 0, none⟩ (.slice (some ⟨q7, 0, none⟩) n cq7)) (some ⟨b5, 0, none⟩) [] := Us.none _ _
          clear hK2 hK3 hK4 hK5 hK6 hK7 hT7 m6 m7 f7 x6 x0 x1 x2 x3 hcv3
          obtain ⟨W, hW⟩ : ∃ W, W = w7.setCell ⟨M, 0, none⟩ (.slice (some ⟨q7, 0, none⟩) n cq7) := ⟨_, rfl⟩
          rw [← hW] at hK hUx hUy ⊢
          clear hW
          have HXC : Hid (∀ u, Below W.heap.size W u → u.cell? ⟨wr.heap.size, 1, none⟩ = some (.int .i64 num) ∧ u.cell? ⟨M, 0, none⟩ = some (.slice (some ⟨q7, 0, none⟩) n cq7)) := fun u hu => ⟨(hK.1.stays hu).x.cell 1, (hK.1.stays hu).b.cell 0⟩
          have HSA : Hid (∀ u, Below W.heap.size W u → Calls Try.prog 18 #[.slice (some ⟨b4, 0, none⟩) 0 0, .slice (some ⟨b5, 0, none⟩) 0 0] u fun e w' => e = .returned (.bool true) ∧ Below u.heap.size u w') := fun u hu => same_run _ _ _ _ _ _ u (hUx.stays hu) (hUy.stays hu) HOL.out.1 HOL.out.2
          refine Up.wp_region_up (Up.tell [(6, isV (.bool true)), (13, isV (.bool ub)), (17, isV (.bool ub)), (22, isV (.int .i64 (F : Int))), (24, isV (.int .i64 (F : Int))), (29, slB 64 X1), (32, slB 64 X1), (38, isV (.int .i64 (n : Int))), (44, slB 64 X0)]) (by kernel_rfl) (by kernel_rfl) (Up.tell_steady _ (by
            intro p hp
            simp only [List.mem_cons, List.not_mem_nil, or_false] at hp
            rcases hp with rfl | rfl | rfl | rfl | rfl | rfl | rfl | rfl | rfl <;> first | exact isV_steady _ | exact slB_steady _ _)) ?_
          repeat (first
            | (refine Up.wpUp_pass (by rfl) ?_; simp only [Act.put, List.setIfInBounds_toArray, List.set_cons_zero, List.set_cons_succ])
            | (apply Up.wpUp_pure
               case hw => rfl
               case hψ => rfl
               case hv => (intro w1 hp; clear hp; go_simp; try (with_reducible rfl))
               simp only [Act.put, List.setIfInBounds_toArray, List.set_cons_zero, List.set_cons_succ]))
          refine Up.wpUp_call _ 18 #[.slice (some ⟨b4, 0, none⟩) 0 0, .slice (some ⟨b5, 0, none⟩) 0 0] (by rfl) (by rfl) (fun wz => by go_simp) (fun wz hp => calls_isV (HSA.out wz hp.1)) ?_
          rintro v ⟨u, _, hf⟩
          obtain rfl := hf 6 v _ rfl rfl
          clear hf
          simp only [Act.put, List.setIfInBounds_toArray, List.set_cons_zero, List.set_cons_succ]
          repeat (first
            | (refine Up.wpUp_pass (by rfl) ?_; simp only [Act.put, List.setIfInBounds_toArray, List.set_cons_zero, List.set_cons_succ])
            | (apply Up.wpUp_pure
               case hw => rfl
               case hψ => rfl
               case hv => (intro w1 hp; clear hp; go_simp; try (with_reducible rfl))
               simp only [Act.put, List.setIfInBounds_toArray, List.set_cons_zero, List.set_cons_succ])
            | (apply Up.wpUp_pure
               case hw => rfl
               case hψ => rfl
               case hv => (intro w1 hp; have hq5 := (HXC.out _ hp.1).1; have hq6 := (HXC.out _ hp.1).2; clear hp; go_simp; try (with_reducible rfl))
               simp only [Act.put, List.setIfInBounds_toArray, List.set_cons_zero, List.set_cons_succ]))
          refine Up.wpUp_call _ 19 #[.pointer (some ⟨g, 0, none⟩), .int .i64 num] (by rfl) (by rfl) (fun wz => by go_simp) (fun wz hp => calls_isV (HUS.out wz (hK.1.stays hp.1).m)) ?_
          rintro v ⟨u, _, hf⟩
          obtain rfl := hf 13 v _ rfl rfl
          clear hf
          simp only [Act.put, List.setIfInBounds_toArray, List.set_cons_zero, List.set_cons_succ]
          repeat (first
            | (refine Up.wpUp_pass (by rfl) ?_; simp only [Act.put, List.setIfInBounds_toArray, List.set_cons_zero, List.set_cons_succ])
            | (apply Up.wpUp_pure
               case hw => rfl
               case hψ => rfl
               case hv => (intro w1 hp; clear hp; go_simp; try (with_reducible rfl))
               simp only [Act.put, List.setIfInBounds_toArray, List.set_cons_zero, List.set_cons_succ])
            | (apply Up.wpUp_pure
               case hw => rfl
               case hψ => rfl
               case hv => (intro w1 hp; have hq5 := (HXC.out _ hp.1).1; have hq6 := (HXC.out _ hp.1).2; clear hp; go_simp; try (with_reducible rfl))
               simp only [Act.put, List.setIfInBounds_toArray, List.set_cons_zero, List.set_cons_succ]))
          refine Up.wpUp_call _ 20 #[.agg #[.slice (some ⟨q7, 0, none⟩) n cq7], .int .i64 num] (by rfl) (by rfl) (fun wz => by go_simp) (fun wz hp => calls_isV (HRU.out wz _ _ (hK.1.stays hp.1).t)) ?_
          rintro v ⟨u, _, hf⟩
          obtain rfl := hf 17 v _ rfl rfl
          clear hf
          simp only [Act.put, List.setIfInBounds_toArray, List.set_cons_zero, List.set_cons_succ]
          repeat (first
            | (refine Up.wpUp_pass (by rfl) ?_; simp only [Act.put, List.setIfInBounds_toArray, List.set_cons_zero, List.set_cons_succ])
            | (apply Up.wpUp_pure
               case hw => rfl
               case hψ => rfl
               case hv => (intro w1 hp; clear hp; go_simp; try (with_reducible rfl))
               simp only [Act.put, List.setIfInBounds_toArray, List.set_cons_zero, List.set_cons_succ])
            | (apply Up.wpUp_pure
               case hw => rfl
               case hψ => rfl
               case hv => (intro w1 hp; have hq5 := (HXC.out _ hp.1).1; have hq6 := (HXC.out _ hp.1).2; clear hp; go_simp; try (with_reducible rfl))
               simp only [Act.put, List.setIfInBounds_toArray, List.set_cons_zero, List.set_cons_succ]))
          refine Up.wpUp_call _ 21 #[.pointer (some ⟨g, 0, none⟩)] (by rfl) (by rfl) (fun wz => by go_simp) (fun wz hp => calls_isV (HFR.out wz (hK.1.stays hp.1).m)) ?_
          rintro v ⟨u, _, hf⟩
          obtain rfl := hf 22 v _ rfl rfl
          clear hf
          simp only [Act.put, List.setIfInBounds_toArray, List.set_cons_zero, List.set_cons_succ]
          repeat (first
            | (refine Up.wpUp_pass (by rfl) ?_; simp only [Act.put, List.setIfInBounds_toArray, List.set_cons_zero, List.set_cons_succ])
            | (apply Up.wpUp_pure
               case hw => rfl
               case hψ => rfl
               case hv => (intro w1 hp; clear hp; go_simp; try (with_reducible rfl))
               simp only [Act.put, List.setIfInBounds_toArray, List.set_cons_zero, List.set_cons_succ])
            | (apply Up.wpUp_pure
               case hw => rfl
               case hψ => rfl
               case hv => (intro w1 hp; have hq5 := (HXC.out _ hp.1).1; have hq6 := (HXC.out _ hp.1).2; clear hp; go_simp; try (with_reducible rfl))
               simp only [Act.put, List.setIfInBounds_toArray, List.set_cons_zero, List.set_cons_succ]))
          refine Up.wpUp_call _ 22 #[.agg #[.slice (some ⟨q7, 0, none⟩) n cq7]] (by rfl) (by rfl) (fun wz => by go_simp) (fun wz hp => calls_isV (HRF.out wz _ _ (hK.1.stays hp.1).t)) ?_
          rintro v ⟨u, _, hf⟩
          obtain rfl := hf 24 v _ rfl rfl
          clear hf
          simp only [Act.put, List.setIfInBounds_toArray, List.set_cons_zero, List.set_cons_succ]
          repeat (first
            | (refine Up.wpUp_pass (by rfl) ?_; simp only [Act.put, List.setIfInBounds_toArray, List.set_cons_zero, List.set_cons_succ])
            | (apply Up.wpUp_pure
               case hw => rfl
               case hψ => rfl
               case hv => (intro w1 hp; clear hp; go_simp; try (with_reducible rfl))
               simp only [Act.put, List.setIfInBounds_toArray, List.set_cons_zero, List.set_cons_succ])
            | (apply Up.wpUp_pure
               case hw => rfl
               case hψ => rfl
               case hv => (intro w1 hp; have hq5 := (HXC.out _ hp.1).1; have hq6 := (HXC.out _ hp.1).2; clear hp; go_simp; try (with_reducible rfl))
               simp only [Act.put, List.setIfInBounds_toArray, List.set_cons_zero, List.set_cons_succ]))
          refine Up.wpUp_call _ 11 #[.pointer (some ⟨g, 0, none⟩)] (by rfl) (by rfl) (fun wz => by go_simp) (fun wz hp => calls_slB (HBY.out wz _ (hK.1.stays hp.1).m)) ?_
          rintro v ⟨u, _, hf⟩
          obtain ⟨a10, c10, rfl, _⟩ := hf 29 v _ rfl rfl
          clear hf
          simp only [Act.put, List.setIfInBounds_toArray, List.set_cons_zero, List.set_cons_succ]
          repeat (first
            | (refine Up.wpUp_pass (by rfl) ?_; simp only [Act.put, List.setIfInBounds_toArray, List.set_cons_zero, List.set_cons_succ])
            | (apply Up.wpUp_pure
               case hw => rfl
               case hψ => rfl
               case hv => (intro w1 hp; clear hp; go_simp; try (with_reducible rfl))
               simp only [Act.put, List.setIfInBounds_toArray, List.set_cons_zero, List.set_cons_succ])
            | (apply Up.wpUp_pure
               case hw => rfl
               case hψ => rfl
               case hv => (intro w1 hp; have hq5 := (HXC.out _ hp.1).1; have hq6 := (HXC.out _ hp.1).2; clear hp; go_simp; try (with_reducible rfl))
               simp only [Act.put, List.setIfInBounds_toArray, List.set_cons_zero, List.set_cons_succ])
            | (apply Up.wpUp_pure
               case hw => rfl
               case hψ => rfl
               case hv => (intro w1 hp; have hq3 := HCN1.out _ _ _ (hp.2 29 _ _ rfl rfl rfl); clear hp; go_simp; try (with_reducible rfl))
               simp only [Act.put, List.setIfInBounds_toArray, List.set_cons_zero, List.set_cons_succ]))
          refine Up.wpUp_call _ 23 #[.agg #[.slice (some ⟨q7, 0, none⟩) n cq7]] (by rfl) (by rfl) (fun wz => by go_simp) (fun wz hp => calls_slB (HRB.out wz _ _ (hK.1.stays hp.1).t)) ?_
          rintro v ⟨u, _, hf⟩
          obtain ⟨a11, c11, rfl, _⟩ := hf 32 v _ rfl rfl
          clear hf
          simp only [Act.put, List.setIfInBounds_toArray, List.set_cons_zero, List.set_cons_succ]
          repeat (first
            | (refine Up.wpUp_pass (by rfl) ?_; simp only [Act.put, List.setIfInBounds_toArray, List.set_cons_zero, List.set_cons_succ])
            | (apply Up.wpUp_pure
               case hw => rfl
               case hψ => rfl
               case hv => (intro w1 hp; clear hp; go_simp; try (with_reducible rfl))
               simp only [Act.put, List.setIfInBounds_toArray, List.set_cons_zero, List.set_cons_succ])
            | (apply Up.wpUp_pure
               case hw => rfl
               case hψ => rfl
               case hv => (intro w1 hp; have hq5 := (HXC.out _ hp.1).1; have hq6 := (HXC.out _ hp.1).2; clear hp; go_simp; try (with_reducible rfl))
               simp only [Act.put, List.setIfInBounds_toArray, List.set_cons_zero, List.set_cons_succ])
            | (apply Up.wpUp_pure
               case hw => rfl
               case hψ => rfl
               case hv => (intro w1 hp; have hq3 := HCN1.out _ _ _ (hp.2 32 _ _ rfl rfl rfl); clear hp; go_simp; try (with_reducible rfl))
               simp only [Act.put, List.setIfInBounds_toArray, List.set_cons_zero, List.set_cons_succ]))
          refine Up.wpUp_call _ 24 #[.pointer (some ⟨g, 0, none⟩)] (by rfl) (by rfl) (fun wz => by go_simp) (fun wz hp => calls_isV (HLN.out wz (hK.1.stays hp.1).m)) ?_
          rintro v ⟨u, _, hf⟩
          obtain rfl := hf 38 v _ rfl rfl
          clear hf
          simp only [Act.put, List.setIfInBounds_toArray, List.set_cons_zero, List.set_cons_succ]
          repeat (first
            | (refine Up.wpUp_pass (by rfl) ?_; simp only [Act.put, List.setIfInBounds_toArray, List.set_cons_zero, List.set_cons_succ])
            | (apply Up.wpUp_pure
               case hw => rfl
               case hψ => rfl
               case hv => (intro w1 hp; clear hp; go_simp; try (with_reducible rfl))
               simp only [Act.put, List.setIfInBounds_toArray, List.set_cons_zero, List.set_cons_succ])
            | (apply Up.wpUp_pure
               case hw => rfl
               case hψ => rfl
               case hv => (intro w1 hp; have hq5 := (HXC.out _ hp.1).1; have hq6 := (HXC.out _ hp.1).2; clear hp; go_simp; try (with_reducible rfl))
               simp only [Act.put, List.setIfInBounds_toArray, List.set_cons_zero, List.set_cons_succ]))
          refine Up.wpUp_call _ 11 #[.pointer (some ⟨C, 0, none⟩)] (by rfl) (by rfl) (fun wz => by go_simp) (fun wz hp => calls_slB (HBC.out wz _ (hK.1.stays hp.1).c)) ?_
          rintro v ⟨u, _, hf⟩
          obtain ⟨a12, c12, rfl, _⟩ := hf 44 v _ rfl rfl
          clear hf
          simp only [Act.put, List.setIfInBounds_toArray, List.set_cons_zero, List.set_cons_succ]
          repeat (first
            | (refine Up.wpUp_pass (by rfl) ?_; simp only [Act.put, List.setIfInBounds_toArray, List.set_cons_zero, List.set_cons_succ])
            | (apply Up.wpUp_pure
               case hw => rfl
               case hψ => rfl
               case hv => (intro w1 hp; clear hp; go_simp; try (with_reducible rfl))
               simp only [Act.put, List.setIfInBounds_toArray, List.set_cons_zero, List.set_cons_succ])
            | (apply Up.wpUp_pure
               case hw => rfl
               case hψ => rfl
               case hv => (intro w1 hp; have hq5 := (HXC.out _ hp.1).1; have hq6 := (HXC.out _ hp.1).2; clear hp; go_simp; try (with_reducible rfl))
               simp only [Act.put, List.setIfInBounds_toArray, List.set_cons_zero, List.set_cons_succ])
            | (apply Up.wpUp_pure
               case hw => rfl
               case hψ => rfl
               case hv => (intro w1 hp; have hq3 := HCN0.out _ _ _ (hp.2 44 _ _ rfl rfl rfl); clear hp; go_simp; try (with_reducible rfl))
               simp only [Act.put, List.setIfInBounds_toArray, List.set_cons_zero, List.set_cons_succ]))
          refine Up.wpUp_end ?_
          intro w9 hb9 _
          have hK9 := hK.stays hb9
          clear hK
          go_wp2
          go_roundw
          case rel => exact ⟨i + 1, l1, q7, cq7, by go_num, by omega, by omega, hK9.1.m, HL1.out, hK9.1.b, hK9.1.t, hK9.2.1⟩
          case measure => simp [intOf]; omega
        · have hb2 : (kd == 2) = false := beq_false_of_ne hk2
          by_cases hk3 : kd = 3
          · subst hk3
            clear hk1 hk2 hb1 hb2
            by_cases h600 : 600 < kl
            · go_wp2_with (first
                | (go_at_call 10; refine HCP.out.mono ?_; rintro e w2 ⟨rfl, hK2, hb2⟩)
                | (go_at_call 11; refine (HB0.out _ hK2).mono ?_; rintro e w3 ⟨a3, c3, rfl, hcv3, hb3⟩; have hK3 := hK2.stays hb3)
                | (refine wpList_none32 (by rfl) (by rfl) (some 60) (by rfl) ?_; intro w4 b4 hb4; have hK4 := hK3.stays hb4)
                | (refine wpList_none32 (by rfl) (by rfl) (some 61) (by rfl) ?_; intro w5 b5 hb5; have hK5 := hK4.stays hb5; have x0 := hK5.1.x.cell 0; have x1 := hK5.1.x.cell 1; have x2 := hK5.1.x.cell 2; have x3 := hK5.1.x.cell 3))
              go_roundw
              case rel => exact ⟨i + 1, l, q, cq, by go_num, by omega, by omega, hK5.1.m, hln, hK5.1.b, hK5.1.t, hK5.2.1⟩
              case measure => simp [intOf]; omega
            · have h600' : kl ≤ 600 := by omega
              obtain ⟨l1, hl1e⟩ : ∃ l1, l1 = keepL n ks := ⟨_, rfl⟩
              have HL1 : Hid (l1.length = n) := by rw [hl1e]; show (keepL n ks).length = n; exact keepL_len _ _
              have HOL : Hid (0 = ([] : List Nat).length ∧ 0 ≤ 1000) := ⟨rfl, by omega⟩
              have HT : Hid (∀ u, PB H w u g M q cq n wr.heap.size C l l l [.int .i64 3, .int .i64 num, .int .u32 (pos : Int), .slice ka kl kc] → Us u ka ks → Calls Try.prog 16 #[.pointer (some ⟨g, 0, none⟩), .slice ka kl kc] u fun e w' => e = .returned (.tuple #[]) ∧ Us w' ka ks ∧ PB H w w' g M q cq n wr.heap.size C l1 l l [.int .i64 3, .int .i64 num, .int .u32 (pos : Int), .slice ka kl kc]) := fun u hu hk => by
                have := keep_run ka kc ks u hu.1.m hk (by have := HKL.out; omega)
                rw [hln, ← HKL.out, ← hl1e] at this
                exact this.mono fun e w' ⟨h1, h3, h4⟩ => ⟨h1, hk.but hu.1.m h4, hu.act h3 h4⟩
              have HRT : Hid (∀ u, PB H w u g M q cq n wr.heap.size C l1 l l [.int .i64 3, .int .i64 num, .int .u32 (pos : Int), .slice ka kl kc] → Us u ka ks → Calls Try.prog 17 #[.agg #[.slice (some ⟨q, 0, none⟩) n cq], .slice ka kl kc] u fun e w' => ∃ q7 cq7, e = .returned (.agg #[.slice (some ⟨q7, 0, none⟩) n cq7]) ∧ Tr w' q7 cq7 l1 ∧ Below u.heap.size u w') := fun u hu hk => by
                have := rkeep_run (g := q) (c := cq) n h16 h512 ka kc ks u hk (by have := HKL.out; omega)
                rw [← HKL.out, ← hl1e] at this
                exact this.mono fun e w' ⟨q7, cq7, h1, h2, _, h4⟩ => ⟨q7, cq7, h1, h2, h4⟩
              clear hl1e
              obtain ⟨ub, hub⟩ : ∃ ub, ub = usedL l1 num := ⟨_, rfl⟩
              obtain ⟨F, hF⟩ : ∃ F, F = freeN l1 := ⟨_, rfl⟩
              obtain ⟨X1, hX1⟩ : ∃ X1, X1 = bytesL l1 := ⟨_, rfl⟩
              obtain ⟨Z1, hZ1⟩ : ∃ Z1, Z1 = strOfNums X1 := ⟨_, rfl⟩
              have hl1 := HL1.out
              have HUS : Hid (∀ u, Mp u g l1 → Calls Try.prog 19 #[.pointer (some ⟨g, 0, none⟩), .int .i64 num] u fun e w' => e = .returned (.bool ub) ∧ Below u.heap.size u w') := fun u hu => by rw [hub]; exact used_run num u hu
              have HRU : Hid (∀ u q cq, Tr u q cq l1 → Calls Try.prog 20 #[.agg #[.slice (some ⟨q, 0, none⟩) n cq], .int .i64 num] u fun e w' => e = .returned (.bool ub) ∧ Below u.heap.size u w') := fun u q cq hu => by
                have := rused_run num u hu (by omega)
                rw [hl1] at this
                rw [hub]; exact this
              have HFR : Hid (∀ u, Mp u g l1 → Calls Try.prog 21 #[.pointer (some ⟨g, 0, none⟩)] u fun e w' => e = .returned (.int .i64 (F : Int)) ∧ Below u.heap.size u w') := fun u hu => by
                rw [hF]; exact (free_run u hu).mono fun e w' ⟨h1, h2⟩ => ⟨h1, h2 ▸ Below.refl _ _⟩
              have HRF : Hid (∀ u q cq, Tr u q cq l1 → Calls Try.prog 22 #[.agg #[.slice (some ⟨q, 0, none⟩) n cq]] u fun e w' => e = .returned (.int .i64 (F : Int)) ∧ Below u.heap.size u w') := fun u q cq hu => by
                have := rfree_run u hu (by omega)
                rw [hl1] at this
                rw [hF]; exact this
              have HBY : Hid (∀ u p, Mp u p l1 → Calls Try.prog 11 #[.pointer (some ⟨p, 0, none⟩)] u fun e w' => ∃ a c, e = .returned (.slice a 64 c) ∧ Bs w' a c X1 ∧ Below u.heap.size u w') := fun u p hu => by rw [hX1]; exact bytes_bs u hu
              have HRB : Hid (∀ u q cq, Tr u q cq l1 → Calls Try.prog 23 #[.agg #[.slice (some ⟨q, 0, none⟩) n cq]] u fun e w' => ∃ a c, e = .returned (.slice a 64 c) ∧ Bs w' a c X1 ∧ Below u.heap.size u w') := fun u q cq hu => by
                have := rbytes_run u hu (by omega)
                rw [hl1] at this
                rw [hX1]; exact this
              have HLN : Hid (∀ u, Mp u g l1 → Calls Try.prog 24 #[.pointer (some ⟨g, 0, none⟩)] u fun e w' => e = .returned (.int .i64 (n : Int)) ∧ Below u.heap.size u w') := fun u hu => by
                have := len_run u hu
                rw [hl1] at this
                exact this.mono fun e w' ⟨h1, h2⟩ => ⟨h1, h2 ▸ Below.refl _ _⟩
              have HCN1 : Hid (∀ a' c' u, slB 64 X1 (.slice a' 64 c') u → (convert 37 9 (.slice a' 64 c')).run Try.prog u = .ok (.string Z1) u) := fun a' c' u hu => by
                obtain ⟨a2, c2, h5, h6⟩ := hu
                cases h5
                rw [hZ1]
                exact h6.conv 64 (by rw [hX1, bytesL_len]) 37 5 Try.underlying37 Try.underlying5 9 Try.underlying9
              clear hub hF hX1 hZ1 hl1
              go_wp2_with (first
                | (go_at_call 10; refine HCP.out.mono ?_; rintro e w2 ⟨rfl, hK2, hb2⟩)
                | (go_at_call 11; refine (HB0.out _ hK2).mono ?_; rintro e w3 ⟨a3, c3, rfl, hcv3, hb3⟩; have hK3 := hK2.stays hb3)
                | (refine wpList_none32 (by rfl) (by rfl) (some 60) (by rfl) ?_; intro w4 b4 hb4; have hK4 := hK3.stays hb4)
                | (refine wpList_none32 (by rfl) (by rfl) (some 61) (by rfl) ?_; intro w5 b5 hb5; have hK5 := hK4.stays hb5; have x0 := hK5.1.x.cell 0; have x1 := hK5.1.x.cell 1; have x2 := hK5.1.x.cell 2; have x3 := hK5.1.x.cell 3)
                | (go_at_call 16; refine (HT.out _ hK5 (HKS.out _ (((hb2.trans (hb3.mono hb2.size)).trans (hb4.mono (Nat.le_trans hb2.size hb3.size))).trans (hb5.mono (Nat.le_trans hb2.size (Nat.le_trans hb3.size hb4.size)))))).mono ?_; rintro e w6 ⟨rfl, hU6, hK6⟩; have x6 := hK6.1.x.cell 3; have m6 := hK6.1.b.cell 0)
                | (go_at_call 17; refine (HRT.out _ hK6 hU6).mono ?_; rintro e w7 ⟨q7, cq7, rfl, hT7, hb7⟩; have hK7 := hK6.stays hb7; have m7 := hK7.1.b.cell 0; have f7 := hK7.1.b.free 0))
              have hK := hK7.ref hT7
              have hUx : Us (w7.setCell ⟨M, 0, none⟩ (.slice (some ⟨q7, 0, none⟩) n cq7)) (some ⟨b4, 0, none⟩) [] := Us.none _ _
              have hUy : Us (w7.setCell ⟨M, 0, none⟩ (.slice (some ⟨q7, 0, none⟩) n cq7)) (some ⟨b5, 0, none⟩) [] := Us.none _ _
              clear hK2 hK3 hK4 hK5 hK6 hK7 hT7 hU6 m6 m7 f7 x6 x0 x1 x2 x3 hcv3
              obtain ⟨W, hW⟩ : ∃ W, W = w7.setCell ⟨M, 0, none⟩ (.slice (some ⟨q7, 0, none⟩) n cq7) := ⟨_, rfl⟩
              rw [← hW] at hK hUx hUy ⊢
              clear hW
              have HXC : Hid (∀ u, Below W.heap.size W u → u.cell? ⟨wr.heap.size, 1, none⟩ = some (.int .i64 num) ∧ u.cell? ⟨M, 0, none⟩ = some (.slice (some ⟨q7, 0, none⟩) n cq7)) := fun u hu => ⟨(hK.1.stays hu).x.cell 1, (hK.1.stays hu).b.cell 0⟩
              have HSA : Hid (∀ u, Below W.heap.size W u → Calls Try.prog 18 #[.slice (some ⟨b4, 0, none⟩) 0 0, .slice (some ⟨b5, 0, none⟩) 0 0] u fun e w' => e = .returned (.bool true) ∧ Below u.heap.size u w') := fun u hu => same_run _ _ _ _ _ _ u (hUx.stays hu) (hUy.stays hu) HOL.out.1 HOL.out.2
              refine Up.wp_region_up (Up.tell [(6, isV (.bool true)), (13, isV (.bool ub)), (17, isV (.bool ub)), (22, isV (.int .i64 (F : Int))), (24, isV (.int .i64 (F : Int))), (29, slB 64 X1), (32, slB 64 X1), (38, isV (.int .i64 (n : Int))), (44, slB 64 X0)]) (by kernel_rfl) (by kernel_rfl) (Up.tell_steady _ (by
                intro p hp
                simp only [List.mem_cons, List.not_mem_nil, or_false] at hp
                rcases hp with rfl | rfl | rfl | rfl | rfl | rfl | rfl | rfl | rfl <;> first | exact isV_steady _ | exact slB_steady _ _)) ?_
              repeat (first
                | (refine Up.wpUp_pass (by rfl) ?_; simp only [Act.put, List.setIfInBounds_toArray, List.set_cons_zero, List.set_cons_succ])
                | (apply Up.wpUp_pure
                   case hw => rfl
                   case hψ => rfl
                   case hv => (intro w1 hp; clear hp; go_simp; try (with_reducible rfl))
                   simp only [Act.put, List.setIfInBounds_toArray, List.set_cons_zero, List.set_cons_succ]))
              refine Up.wpUp_call _ 18 #[.slice (some ⟨b4, 0, none⟩) 0 0, .slice (some ⟨b5, 0, none⟩) 0 0] (by rfl) (by rfl) (fun wz => by go_simp) (fun wz hp => calls_isV (HSA.out wz hp.1)) ?_
              rintro v ⟨u, _, hf⟩
              obtain rfl := hf 6 v _ rfl rfl
              clear hf
              simp only [Act.put, List.setIfInBounds_toArray, List.set_cons_zero, List.set_cons_succ]
              repeat (first
                | (refine Up.wpUp_pass (by rfl) ?_; simp only [Act.put, List.setIfInBounds_toArray, List.set_cons_zero, List.set_cons_succ])
                | (apply Up.wpUp_pure
                   case hw => rfl
                   case hψ => rfl
                   case hv => (intro w1 hp; clear hp; go_simp; try (with_reducible rfl))
                   simp only [Act.put, List.setIfInBounds_toArray, List.set_cons_zero, List.set_cons_succ])
                | (apply Up.wpUp_pure
                   case hw => rfl
                   case hψ => rfl
                   case hv => (intro w1 hp; have hq5 := (HXC.out _ hp.1).1; have hq6 := (HXC.out _ hp.1).2; clear hp; go_simp; try (with_reducible rfl))
                   simp only [Act.put, List.setIfInBounds_toArray, List.set_cons_zero, List.set_cons_succ]))
              refine Up.wpUp_call _ 19 #[.pointer (some ⟨g, 0, none⟩), .int .i64 num] (by rfl) (by rfl) (fun wz => by go_simp) (fun wz hp => calls_isV (HUS.out wz (hK.1.stays hp.1).m)) ?_
              rintro v ⟨u, _, hf⟩
              obtain rfl := hf 13 v _ rfl rfl
              clear hf
              simp only [Act.put, List.setIfInBounds_toArray, List.set_cons_zero, List.set_cons_succ]
              repeat (first
                | (refine Up.wpUp_pass (by rfl) ?_; simp only [Act.put, List.setIfInBounds_toArray, List.set_cons_zero, List.set_cons_succ])
                | (apply Up.wpUp_pure
                   case hw => rfl
                   case hψ => rfl
                   case hv => (intro w1 hp; clear hp; go_simp; try (with_reducible rfl))
                   simp only [Act.put, List.setIfInBounds_toArray, List.set_cons_zero, List.set_cons_succ])
                | (apply Up.wpUp_pure
                   case hw => rfl
                   case hψ => rfl
                   case hv => (intro w1 hp; have hq5 := (HXC.out _ hp.1).1; have hq6 := (HXC.out _ hp.1).2; clear hp; go_simp; try (with_reducible rfl))
                   simp only [Act.put, List.setIfInBounds_toArray, List.set_cons_zero, List.set_cons_succ]))
              refine Up.wpUp_call _ 20 #[.agg #[.slice (some ⟨q7, 0, none⟩) n cq7], .int .i64 num] (by rfl) (by rfl) (fun wz => by go_simp) (fun wz hp => calls_isV (HRU.out wz _ _ (hK.1.stays hp.1).t)) ?_
              rintro v ⟨u, _, hf⟩
              obtain rfl := hf 17 v _ rfl rfl
              clear hf
              simp only [Act.put, List.setIfInBounds_toArray, List.set_cons_zero, List.set_cons_succ]
              repeat (first
                | (refine Up.wpUp_pass (by rfl) ?_; simp only [Act.put, List.setIfInBounds_toArray, List.set_cons_zero, List.set_cons_succ])
                | (apply Up.wpUp_pure
                   case hw => rfl
                   case hψ => rfl
                   case hv => (intro w1 hp; clear hp; go_simp; try (with_reducible rfl))
                   simp only [Act.put, List.setIfInBounds_toArray, List.set_cons_zero, List.set_cons_succ])
                | (apply Up.wpUp_pure
                   case hw => rfl
                   case hψ => rfl
                   case hv => (intro w1 hp; have hq5 := (HXC.out _ hp.1).1; have hq6 := (HXC.out _ hp.1).2; clear hp; go_simp; try (with_reducible rfl))
                   simp only [Act.put, List.setIfInBounds_toArray, List.set_cons_zero, List.set_cons_succ]))
              refine Up.wpUp_call _ 21 #[.pointer (some ⟨g, 0, none⟩)] (by rfl) (by rfl) (fun wz => by go_simp) (fun wz hp => calls_isV (HFR.out wz (hK.1.stays hp.1).m)) ?_
              rintro v ⟨u, _, hf⟩
              obtain rfl := hf 22 v _ rfl rfl
              clear hf
              simp only [Act.put, List.setIfInBounds_toArray, List.set_cons_zero, List.set_cons_succ]
              repeat (first
                | (refine Up.wpUp_pass (by rfl) ?_; simp only [Act.put, List.setIfInBounds_toArray, List.set_cons_zero, List.set_cons_succ])
                | (apply Up.wpUp_pure
                   case hw => rfl
                   case hψ => rfl
                   case hv => (intro w1 hp; clear hp; go_simp; try (with_reducible rfl))
                   simp only [Act.put, List.setIfInBounds_toArray, List.set_cons_zero, List.set_cons_succ])
                | (apply Up.wpUp_pure
                   case hw => rfl
                   case hψ => rfl
                   case hv => (intro w1 hp; have hq5 := (HXC.out _ hp.1).1; have hq6 := (HXC.out _ hp.1).2; clear hp; go_simp; try (with_reducible rfl))
                   simp only [Act.put, List.setIfInBounds_toArray, List.set_cons_zero, List.set_cons_succ]))
              refine Up.wpUp_call _ 22 #[.agg #[.slice (some ⟨q7, 0, none⟩) n cq7]] (by rfl) (by rfl) (fun wz => by go_simp) (fun wz hp => calls_isV (HRF.out wz _ _ (hK.1.stays hp.1).t)) ?_
              rintro v ⟨u, _, hf⟩
              obtain rfl := hf 24 v _ rfl rfl
              clear hf
              simp only [Act.put, List.setIfInBounds_toArray, List.set_cons_zero, List.set_cons_succ]
              repeat (first
                | (refine Up.wpUp_pass (by rfl) ?_; simp only [Act.put, List.setIfInBounds_toArray, List.set_cons_zero, List.set_cons_succ])
                | (apply Up.wpUp_pure
                   case hw => rfl
                   case hψ => rfl
                   case hv => (intro w1 hp; clear hp; go_simp; try (with_reducible rfl))
                   simp only [Act.put, List.setIfInBounds_toArray, List.set_cons_zero, List.set_cons_succ])
                | (apply Up.wpUp_pure
                   case hw => rfl
                   case hψ => rfl
                   case hv => (intro w1 hp; have hq5 := (HXC.out _ hp.1).1; have hq6 := (HXC.out _ hp.1).2; clear hp; go_simp; try (with_reducible rfl))
                   simp only [Act.put, List.setIfInBounds_toArray, List.set_cons_zero, List.set_cons_succ]))
              refine Up.wpUp_call _ 11 #[.pointer (some ⟨g, 0, none⟩)] (by rfl) (by rfl) (fun wz => by go_simp) (fun wz hp => calls_slB (HBY.out wz _ (hK.1.stays hp.1).m)) ?_
              rintro v ⟨u, _, hf⟩
              obtain ⟨a10, c10, rfl, _⟩ := hf 29 v _ rfl rfl
              clear hf
              simp only [Act.put, List.setIfInBounds_toArray, List.set_cons_zero, List.set_cons_succ]
              repeat (first
                | (refine Up.wpUp_pass (by rfl) ?_; simp only [Act.put, List.setIfInBounds_toArray, List.set_cons_zero, List.set_cons_succ])
                | (apply Up.wpUp_pure
                   case hw => rfl
                   case hψ => rfl
                   case hv => (intro w1 hp; clear hp; go_simp; try (with_reducible rfl))
                   simp only [Act.put, List.setIfInBounds_toArray, List.set_cons_zero, List.set_cons_succ])
                | (apply Up.wpUp_pure
                   case hw => rfl
                   case hψ => rfl
                   case hv => (intro w1 hp; have hq5 := (HXC.out _ hp.1).1; have hq6 := (HXC.out _ hp.1).2; clear hp; go_simp; try (with_reducible rfl))
                   simp only [Act.put, List.setIfInBounds_toArray, List.set_cons_zero, List.set_cons_succ])
                | (apply Up.wpUp_pure
                   case hw => rfl
                   case hψ => rfl
                   case hv => (intro w1 hp; have hq3 := HCN1.out _ _ _ (hp.2 29 _ _ rfl rfl rfl); clear hp; go_simp; try (with_reducible rfl))
                   simp only [Act.put, List.setIfInBounds_toArray, List.set_cons_zero, List.set_cons_succ]))
              refine Up.wpUp_call _ 23 #[.agg #[.slice (some ⟨q7, 0, none⟩) n cq7]] (by rfl) (by rfl) (fun wz => by go_simp) (fun wz hp => calls_slB (HRB.out wz _ _ (hK.1.stays hp.1).t)) ?_
              rintro v ⟨u, _, hf⟩
              obtain ⟨a11, c11, rfl, _⟩ := hf 32 v _ rfl rfl
              clear hf
              simp only [Act.put, List.setIfInBounds_toArray, List.set_cons_zero, List.set_cons_succ]
              repeat (first
                | (refine Up.wpUp_pass (by rfl) ?_; simp only [Act.put, List.setIfInBounds_toArray, List.set_cons_zero, List.set_cons_succ])
                | (apply Up.wpUp_pure
                   case hw => rfl
                   case hψ => rfl
                   case hv => (intro w1 hp; clear hp; go_simp; try (with_reducible rfl))
                   simp only [Act.put, List.setIfInBounds_toArray, List.set_cons_zero, List.set_cons_succ])
                | (apply Up.wpUp_pure
                   case hw => rfl
                   case hψ => rfl
                   case hv => (intro w1 hp; have hq5 := (HXC.out _ hp.1).1; have hq6 := (HXC.out _ hp.1).2; clear hp; go_simp; try (with_reducible rfl))
                   simp only [Act.put, List.setIfInBounds_toArray, List.set_cons_zero, List.set_cons_succ])
                | (apply Up.wpUp_pure
                   case hw => rfl
                   case hψ => rfl
                   case hv => (intro w1 hp; have hq3 := HCN1.out _ _ _ (hp.2 32 _ _ rfl rfl rfl); clear hp; go_simp; try (with_reducible rfl))
                   simp only [Act.put, List.setIfInBounds_toArray, List.set_cons_zero, List.set_cons_succ]))
              refine Up.wpUp_call _ 24 #[.pointer (some ⟨g, 0, none⟩)] (by rfl) (by rfl) (fun wz => by go_simp) (fun wz hp => calls_isV (HLN.out wz (hK.1.stays hp.1).m)) ?_
              rintro v ⟨u, _, hf⟩
              obtain rfl := hf 38 v _ rfl rfl
              clear hf
              simp only [Act.put, List.setIfInBounds_toArray, List.set_cons_zero, List.set_cons_succ]
              repeat (first
                | (refine Up.wpUp_pass (by rfl) ?_; simp only [Act.put, List.setIfInBounds_toArray, List.set_cons_zero, List.set_cons_succ])
                | (apply Up.wpUp_pure
                   case hw => rfl
                   case hψ => rfl
                   case hv => (intro w1 hp; clear hp; go_simp; try (with_reducible rfl))
                   simp only [Act.put, List.setIfInBounds_toArray, List.set_cons_zero, List.set_cons_succ])
                | (apply Up.wpUp_pure
                   case hw => rfl
                   case hψ => rfl
                   case hv => (intro w1 hp; have hq5 := (HXC.out _ hp.1).1; have hq6 := (HXC.out _ hp.1).2; clear hp; go_simp; try (with_reducible rfl))
                   simp only [Act.put, List.setIfInBounds_toArray, List.set_cons_zero, List.set_cons_succ]))
              refine Up.wpUp_call _ 11 #[.pointer (some ⟨C, 0, none⟩)] (by rfl) (by rfl) (fun wz => by go_simp) (fun wz hp => calls_slB (HBC.out wz _ (hK.1.stays hp.1).c)) ?_
              rintro v ⟨u, _, hf⟩
              obtain ⟨a12, c12, rfl, _⟩ := hf 44 v _ rfl rfl
              clear hf
              simp only [Act.put, List.setIfInBounds_toArray, List.set_cons_zero, List.set_cons_succ]
              repeat (first
                | (refine Up.wpUp_pass (by rfl) ?_; simp only [Act.put, List.setIfInBounds_toArray, List.set_cons_zero, List.set_cons_succ])
                | (apply Up.wpUp_pure
                   case hw => rfl
                   case hψ => rfl
                   case hv => (intro w1 hp; clear hp; go_simp; try (with_reducible rfl))
                   simp only [Act.put, List.setIfInBounds_toArray, List.set_cons_zero, List.set_cons_succ])
                | (apply Up.wpUp_pure
                   case hw => rfl
                   case hψ => rfl
                   case hv => (intro w1 hp; have hq5 := (HXC.out _ hp.1).1; have hq6 := (HXC.out _ hp.1).2; clear hp; go_simp; try (with_reducible rfl))
                   simp only [Act.put, List.setIfInBounds_toArray, List.set_cons_zero, List.set_cons_succ])
                | (apply Up.wpUp_pure
                   case hw => rfl
                   case hψ => rfl
                   case hv => (intro w1 hp; have hq3 := HCN0.out _ _ _ (hp.2 44 _ _ rfl rfl rfl); clear hp; go_simp; try (with_reducible rfl))
                   simp only [Act.put, List.setIfInBounds_toArray, List.set_cons_zero, List.set_cons_succ]))
              refine Up.wpUp_end ?_
              intro w9 hb9 _
              have hK9 := hK.stays hb9
              clear hK
              go_wp2
              go_roundw
              case rel => exact ⟨i + 1, l1, q7, cq7, by go_num, by omega, by omega, hK9.1.m, HL1.out, hK9.1.b, hK9.1.t, hK9.2.1⟩
              case measure => simp [intOf]; omega
          · have hb3 : (kd == 3) = false := beq_false_of_ne hk3
            clear hk1 hk2 hk3
            have HL1 : Hid (l.length = n) := hln
            have HOL : Hid (0 = ([] : List Nat).length ∧ 0 ≤ 1000) := ⟨rfl, by omega⟩
            obtain ⟨ub, hub⟩ : ∃ ub, ub = usedL l num := ⟨_, rfl⟩
            obtain ⟨F, hF⟩ : ∃ F, F = freeN l := ⟨_, rfl⟩
            obtain ⟨X1, hX1⟩ : ∃ X1, X1 = bytesL l := ⟨_, rfl⟩
            obtain ⟨Z1, hZ1⟩ : ∃ Z1, Z1 = strOfNums X1 := ⟨_, rfl⟩
            have hl1 := HL1.out
            have HUS : Hid (∀ u, Mp u g l → Calls Try.prog 19 #[.pointer (some ⟨g, 0, none⟩), .int .i64 num] u fun e w' => e = .returned (.bool ub) ∧ Below u.heap.size u w') := fun u hu => by rw [hub]; exact used_run num u hu
            have HRU : Hid (∀ u q cq, Tr u q cq l → Calls Try.prog 20 #[.agg #[.slice (some ⟨q, 0, none⟩) n cq], .int .i64 num] u fun e w' => e = .returned (.bool ub) ∧ Below u.heap.size u w') := fun u q cq hu => by
              have := rused_run num u hu (by omega)
              rw [hl1] at this
              rw [hub]; exact this
            have HFR : Hid (∀ u, Mp u g l → Calls Try.prog 21 #[.pointer (some ⟨g, 0, none⟩)] u fun e w' => e = .returned (.int .i64 (F : Int)) ∧ Below u.heap.size u w') := fun u hu => by
              rw [hF]; exact (free_run u hu).mono fun e w' ⟨h1, h2⟩ => ⟨h1, h2 ▸ Below.refl _ _⟩
            have HRF : Hid (∀ u q cq, Tr u q cq l → Calls Try.prog 22 #[.agg #[.slice (some ⟨q, 0, none⟩) n cq]] u fun e w' => e = .returned (.int .i64 (F : Int)) ∧ Below u.heap.size u w') := fun u q cq hu => by
              have := rfree_run u hu (by omega)
              rw [hl1] at this
              rw [hF]; exact this
            have HBY : Hid (∀ u p, Mp u p l → Calls Try.prog 11 #[.pointer (some ⟨p, 0, none⟩)] u fun e w' => ∃ a c, e = .returned (.slice a 64 c) ∧ Bs w' a c X1 ∧ Below u.heap.size u w') := fun u p hu => by rw [hX1]; exact bytes_bs u hu
            have HRB : Hid (∀ u q cq, Tr u q cq l → Calls Try.prog 23 #[.agg #[.slice (some ⟨q, 0, none⟩) n cq]] u fun e w' => ∃ a c, e = .returned (.slice a 64 c) ∧ Bs w' a c X1 ∧ Below u.heap.size u w') := fun u q cq hu => by
              have := rbytes_run u hu (by omega)
              rw [hl1] at this
              rw [hX1]; exact this
            have HLN : Hid (∀ u, Mp u g l → Calls Try.prog 24 #[.pointer (some ⟨g, 0, none⟩)] u fun e w' => e = .returned (.int .i64 (n : Int)) ∧ Below u.heap.size u w') := fun u hu => by
              have := len_run u hu
              rw [hl1] at this
              exact this.mono fun e w' ⟨h1, h2⟩ => ⟨h1, h2 ▸ Below.refl _ _⟩
            have HCN1 : Hid (∀ a' c' u, slB 64 X1 (.slice a' 64 c') u → (convert 37 9 (.slice a' 64 c')).run Try.prog u = .ok (.string Z1) u) := fun a' c' u hu => by
              obtain ⟨a2, c2, h5, h6⟩ := hu
              cases h5
              rw [hZ1]
              exact h6.conv 64 (by rw [hX1, bytesL_len]) 37 5 Try.underlying37 Try.underlying5 9 Try.underlying9
            clear hub hF hX1 hZ1 hl1
            go_wp2_with (first
              | (go_at_call 10; refine HCP.out.mono ?_; rintro e w2 ⟨rfl, hK2, hb2⟩)
              | (go_at_call 11; refine (HB0.out _ hK2).mono ?_; rintro e w3 ⟨a3, c3, rfl, hcv3, hb3⟩; have hK3 := hK2.stays hb3)
              | (refine wpList_none32 (by rfl) (by rfl) (some 60) (by rfl) ?_; intro w4 b4 hb4; have hK4 := hK3.stays hb4)
              | (refine wpList_none32 (by rfl) (by rfl) (some 61) (by rfl) ?_; intro w5 b5 hb5; have hK5 := hK4.stays hb5; have x0 := hK5.1.x.cell 0; have x1 := hK5.1.x.cell 1; have x2 := hK5.1.x.cell 2; have x3 := hK5.1.x.cell 3))
            have hK := hK5
            have hUx : Us w5 (some ⟨b4, 0, none⟩) [] := Us.none _ _
            have hUy : Us w5 (some ⟨b5, 0, none⟩) [] := Us.none _ _
            clear hK2 hK3 hK4 hK5 x0 x1 x2 x3 hcv3
            obtain ⟨W, hW⟩ : ∃ W, W = w5 := ⟨_, rfl⟩
            rw [← hW] at hK hUx hUy ⊢
            clear hW
            have HXC : Hid (∀ u, Below W.heap.size W u → u.cell? ⟨wr.heap.size, 1, none⟩ = some (.int .i64 num) ∧ u.cell? ⟨M, 0, none⟩ = some (.slice (some ⟨q, 0, none⟩) n cq)) := fun u hu => ⟨(hK.1.stays hu).x.cell 1, (hK.1.stays hu).b.cell 0⟩
            have HSA : Hid (∀ u, Below W.heap.size W u → Calls Try.prog 18 #[.slice (some ⟨b4, 0, none⟩) 0 0, .slice (some ⟨b5, 0, none⟩) 0 0] u fun e w' => e = .returned (.bool true) ∧ Below u.heap.size u w') := fun u hu => same_run _ _ _ _ _ _ u (hUx.stays hu) (hUy.stays hu) HOL.out.1 HOL.out.2
            refine Up.wp_region_up (Up.tell [(6, isV (.bool true)), (13, isV (.bool ub)), (17, isV (.bool ub)), (22, isV (.int .i64 (F : Int))), (24, isV (.int .i64 (F : Int))), (29, slB 64 X1), (32, slB 64 X1), (38, isV (.int .i64 (n : Int))), (44, slB 64 X0)]) (by kernel_rfl) (by kernel_rfl) (Up.tell_steady _ (by
              intro p hp
              simp only [List.mem_cons, List.not_mem_nil, or_false] at hp
              rcases hp with rfl | rfl | rfl | rfl | rfl | rfl | rfl | rfl | rfl <;> first | exact isV_steady _ | exact slB_steady _ _)) ?_
            repeat (first
              | (refine Up.wpUp_pass (by rfl) ?_; simp only [Act.put, List.setIfInBounds_toArray, List.set_cons_zero, List.set_cons_succ])
              | (apply Up.wpUp_pure
                 case hw => rfl
                 case hψ => rfl
                 case hv => (intro w1 hp; clear hp; go_simp; try (with_reducible rfl))
                 simp only [Act.put, List.setIfInBounds_toArray, List.set_cons_zero, List.set_cons_succ]))
            refine Up.wpUp_call _ 18 #[.slice (some ⟨b4, 0, none⟩) 0 0, .slice (some ⟨b5, 0, none⟩) 0 0] (by rfl) (by rfl) (fun wz => by go_simp) (fun wz hp => calls_isV (HSA.out wz hp.1)) ?_
            rintro v ⟨u, _, hf⟩
            obtain rfl := hf 6 v _ rfl rfl
            clear hf
            simp only [Act.put, List.setIfInBounds_toArray, List.set_cons_zero, List.set_cons_succ]
            repeat (first
              | (refine Up.wpUp_pass (by rfl) ?_; simp only [Act.put, List.setIfInBounds_toArray, List.set_cons_zero, List.set_cons_succ])
              | (apply Up.wpUp_pure
                 case hw => rfl
                 case hψ => rfl
                 case hv => (intro w1 hp; clear hp; go_simp; try (with_reducible rfl))
                 simp only [Act.put, List.setIfInBounds_toArray, List.set_cons_zero, List.set_cons_succ])
              | (apply Up.wpUp_pure
                 case hw => rfl
                 case hψ => rfl
                 case hv => (intro w1 hp; have hq5 := (HXC.out _ hp.1).1; have hq6 := (HXC.out _ hp.1).2; clear hp; go_simp; try (with_reducible rfl))
                 simp only [Act.put, List.setIfInBounds_toArray, List.set_cons_zero, List.set_cons_succ]))
            refine Up.wpUp_call _ 19 #[.pointer (some ⟨g, 0, none⟩), .int .i64 num] (by rfl) (by rfl) (fun wz => by go_simp) (fun wz hp => calls_isV (HUS.out wz (hK.1.stays hp.1).m)) ?_
            rintro v ⟨u, _, hf⟩
            obtain rfl := hf 13 v _ rfl rfl
            clear hf
            simp only [Act.put, List.setIfInBounds_toArray, List.set_cons_zero, List.set_cons_succ]
            repeat (first
              | (refine Up.wpUp_pass (by rfl) ?_; simp only [Act.put, List.setIfInBounds_toArray, List.set_cons_zero, List.set_cons_succ])
              | (apply Up.wpUp_pure
                 case hw => rfl
                 case hψ => rfl
                 case hv => (intro w1 hp; clear hp; go_simp; try (with_reducible rfl))
                 simp only [Act.put, List.setIfInBounds_toArray, List.set_cons_zero, List.set_cons_succ])
              | (apply Up.wpUp_pure
                 case hw => rfl
                 case hψ => rfl
                 case hv => (intro w1 hp; have hq5 := (HXC.out _ hp.1).1; have hq6 := (HXC.out _ hp.1).2; clear hp; go_simp; try (with_reducible rfl))
                 simp only [Act.put, List.setIfInBounds_toArray, List.set_cons_zero, List.set_cons_succ]))
            refine Up.wpUp_call _ 20 #[.agg #[.slice (some ⟨q, 0, none⟩) n cq], .int .i64 num] (by rfl) (by rfl) (fun wz => by go_simp) (fun wz hp => calls_isV (HRU.out wz _ _ (hK.1.stays hp.1).t)) ?_
            rintro v ⟨u, _, hf⟩
            obtain rfl := hf 17 v _ rfl rfl
            clear hf
            simp only [Act.put, List.setIfInBounds_toArray, List.set_cons_zero, List.set_cons_succ]
            repeat (first
              | (refine Up.wpUp_pass (by rfl) ?_; simp only [Act.put, List.setIfInBounds_toArray, List.set_cons_zero, List.set_cons_succ])
              | (apply Up.wpUp_pure
                 case hw => rfl
                 case hψ => rfl
                 case hv => (intro w1 hp; clear hp; go_simp; try (with_reducible rfl))
                 simp only [Act.put, List.setIfInBounds_toArray, List.set_cons_zero, List.set_cons_succ])
              | (apply Up.wpUp_pure
                 case hw => rfl
                 case hψ => rfl
                 case hv => (intro w1 hp; have hq5 := (HXC.out _ hp.1).1; have hq6 := (HXC.out _ hp.1).2; clear hp; go_simp; try (with_reducible rfl))
                 simp only [Act.put, List.setIfInBounds_toArray, List.set_cons_zero, List.set_cons_succ]))
            refine Up.wpUp_call _ 21 #[.pointer (some ⟨g, 0, none⟩)] (by rfl) (by rfl) (fun wz => by go_simp) (fun wz hp => calls_isV (HFR.out wz (hK.1.stays hp.1).m)) ?_
            rintro v ⟨u, _, hf⟩
            obtain rfl := hf 22 v _ rfl rfl
            clear hf
            simp only [Act.put, List.setIfInBounds_toArray, List.set_cons_zero, List.set_cons_succ]
            repeat (first
              | (refine Up.wpUp_pass (by rfl) ?_; simp only [Act.put, List.setIfInBounds_toArray, List.set_cons_zero, List.set_cons_succ])
              | (apply Up.wpUp_pure
                 case hw => rfl
                 case hψ => rfl
                 case hv => (intro w1 hp; clear hp; go_simp; try (with_reducible rfl))
                 simp only [Act.put, List.setIfInBounds_toArray, List.set_cons_zero, List.set_cons_succ])
              | (apply Up.wpUp_pure
                 case hw => rfl
                 case hψ => rfl
                 case hv => (intro w1 hp; have hq5 := (HXC.out _ hp.1).1; have hq6 := (HXC.out _ hp.1).2; clear hp; go_simp; try (with_reducible rfl))
                 simp only [Act.put, List.setIfInBounds_toArray, List.set_cons_zero, List.set_cons_succ]))
            refine Up.wpUp_call _ 22 #[.agg #[.slice (some ⟨q, 0, none⟩) n cq]] (by rfl) (by rfl) (fun wz => by go_simp) (fun wz hp => calls_isV (HRF.out wz _ _ (hK.1.stays hp.1).t)) ?_
            rintro v ⟨u, _, hf⟩
            obtain rfl := hf 24 v _ rfl rfl
            clear hf
            simp only [Act.put, List.setIfInBounds_toArray, List.set_cons_zero, List.set_cons_succ]
            repeat (first
              | (refine Up.wpUp_pass (by rfl) ?_; simp only [Act.put, List.setIfInBounds_toArray, List.set_cons_zero, List.set_cons_succ])
              | (apply Up.wpUp_pure
                 case hw => rfl
                 case hψ => rfl
                 case hv => (intro w1 hp; clear hp; go_simp; try (with_reducible rfl))
                 simp only [Act.put, List.setIfInBounds_toArray, List.set_cons_zero, List.set_cons_succ])
              | (apply Up.wpUp_pure
                 case hw => rfl
                 case hψ => rfl
                 case hv => (intro w1 hp; have hq5 := (HXC.out _ hp.1).1; have hq6 := (HXC.out _ hp.1).2; clear hp; go_simp; try (with_reducible rfl))
                 simp only [Act.put, List.setIfInBounds_toArray, List.set_cons_zero, List.set_cons_succ]))
            refine Up.wpUp_call _ 11 #[.pointer (some ⟨g, 0, none⟩)] (by rfl) (by rfl) (fun wz => by go_simp) (fun wz hp => calls_slB (HBY.out wz _ (hK.1.stays hp.1).m)) ?_
            rintro v ⟨u, _, hf⟩
            obtain ⟨a10, c10, rfl, _⟩ := hf 29 v _ rfl rfl
            clear hf
            simp only [Act.put, List.setIfInBounds_toArray, List.set_cons_zero, List.set_cons_succ]
            repeat (first
              | (refine Up.wpUp_pass (by rfl) ?_; simp only [Act.put, List.setIfInBounds_toArray, List.set_cons_zero, List.set_cons_succ])
              | (apply Up.wpUp_pure
                 case hw => rfl
                 case hψ => rfl
                 case hv => (intro w1 hp; clear hp; go_simp; try (with_reducible rfl))
                 simp only [Act.put, List.setIfInBounds_toArray, List.set_cons_zero, List.set_cons_succ])
              | (apply Up.wpUp_pure
                 case hw => rfl
                 case hψ => rfl
                 case hv => (intro w1 hp; have hq5 := (HXC.out _ hp.1).1; have hq6 := (HXC.out _ hp.1).2; clear hp; go_simp; try (with_reducible rfl))
                 simp only [Act.put, List.setIfInBounds_toArray, List.set_cons_zero, List.set_cons_succ])
              | (apply Up.wpUp_pure
                 case hw => rfl
                 case hψ => rfl
                 case hv => (intro w1 hp; have hq3 := HCN1.out _ _ _ (hp.2 29 _ _ rfl rfl rfl); clear hp; go_simp; try (with_reducible rfl))
                 simp only [Act.put, List.setIfInBounds_toArray, List.set_cons_zero, List.set_cons_succ]))
            refine Up.wpUp_call _ 23 #[.agg #[.slice (some ⟨q, 0, none⟩) n cq]] (by rfl) (by rfl) (fun wz => by go_simp) (fun wz hp => calls_slB (HRB.out wz _ _ (hK.1.stays hp.1).t)) ?_
            rintro v ⟨u, _, hf⟩
            obtain ⟨a11, c11, rfl, _⟩ := hf 32 v _ rfl rfl
            clear hf
            simp only [Act.put, List.setIfInBounds_toArray, List.set_cons_zero, List.set_cons_succ]
            repeat (first
              | (refine Up.wpUp_pass (by rfl) ?_; simp only [Act.put, List.setIfInBounds_toArray, List.set_cons_zero, List.set_cons_succ])
              | (apply Up.wpUp_pure
                 case hw => rfl
                 case hψ => rfl
                 case hv => (intro w1 hp; clear hp; go_simp; try (with_reducible rfl))
                 simp only [Act.put, List.setIfInBounds_toArray, List.set_cons_zero, List.set_cons_succ])
              | (apply Up.wpUp_pure
                 case hw => rfl
                 case hψ => rfl
                 case hv => (intro w1 hp; have hq5 := (HXC.out _ hp.1).1; have hq6 := (HXC.out _ hp.1).2; clear hp; go_simp; try (with_reducible rfl))
                 simp only [Act.put, List.setIfInBounds_toArray, List.set_cons_zero, List.set_cons_succ])
              | (apply Up.wpUp_pure
                 case hw => rfl
                 case hψ => rfl
                 case hv => (intro w1 hp; have hq3 := HCN1.out _ _ _ (hp.2 32 _ _ rfl rfl rfl); clear hp; go_simp; try (with_reducible rfl))
                 simp only [Act.put, List.setIfInBounds_toArray, List.set_cons_zero, List.set_cons_succ]))
            refine Up.wpUp_call _ 24 #[.pointer (some ⟨g, 0, none⟩)] (by rfl) (by rfl) (fun wz => by go_simp) (fun wz hp => calls_isV (HLN.out wz (hK.1.stays hp.1).m)) ?_
            rintro v ⟨u, _, hf⟩
            obtain rfl := hf 38 v _ rfl rfl
            clear hf
            simp only [Act.put, List.setIfInBounds_toArray, List.set_cons_zero, List.set_cons_succ]
            repeat (first
              | (refine Up.wpUp_pass (by rfl) ?_; simp only [Act.put, List.setIfInBounds_toArray, List.set_cons_zero, List.set_cons_succ])
              | (apply Up.wpUp_pure
                 case hw => rfl
                 case hψ => rfl
                 case hv => (intro w1 hp; clear hp; go_simp; try (with_reducible rfl))
                 simp only [Act.put, List.setIfInBounds_toArray, List.set_cons_zero, List.set_cons_succ])
              | (apply Up.wpUp_pure
                 case hw => rfl
                 case hψ => rfl
                 case hv => (intro w1 hp; have hq5 := (HXC.out _ hp.1).1; have hq6 := (HXC.out _ hp.1).2; clear hp; go_simp; try (with_reducible rfl))
                 simp only [Act.put, List.setIfInBounds_toArray, List.set_cons_zero, List.set_cons_succ]))
            refine Up.wpUp_call _ 11 #[.pointer (some ⟨C, 0, none⟩)] (by rfl) (by rfl) (fun wz => by go_simp) (fun wz hp => calls_slB (HBC.out wz _ (hK.1.stays hp.1).c)) ?_
            rintro v ⟨u, _, hf⟩
            obtain ⟨a12, c12, rfl, _⟩ := hf 44 v _ rfl rfl
            clear hf
            simp only [Act.put, List.setIfInBounds_toArray, List.set_cons_zero, List.set_cons_succ]
            repeat (first
              | (refine Up.wpUp_pass (by rfl) ?_; simp only [Act.put, List.setIfInBounds_toArray, List.set_cons_zero, List.set_cons_succ])
              | (apply Up.wpUp_pure
                 case hw => rfl
                 case hψ => rfl
                 case hv => (intro w1 hp; clear hp; go_simp; try (with_reducible rfl))
                 simp only [Act.put, List.setIfInBounds_toArray, List.set_cons_zero, List.set_cons_succ])
              | (apply Up.wpUp_pure
                 case hw => rfl
                 case hψ => rfl
                 case hv => (intro w1 hp; have hq5 := (HXC.out _ hp.1).1; have hq6 := (HXC.out _ hp.1).2; clear hp; go_simp; try (with_reducible rfl))
                 simp only [Act.put, List.setIfInBounds_toArray, List.set_cons_zero, List.set_cons_succ])
              | (apply Up.wpUp_pure
                 case hw => rfl
                 case hψ => rfl
                 case hv => (intro w1 hp; have hq3 := HCN0.out _ _ _ (hp.2 44 _ _ rfl rfl rfl); clear hp; go_simp; try (with_reducible rfl))
                 simp only [Act.put, List.setIfInBounds_toArray, List.set_cons_zero, List.set_cons_succ]))
            refine Up.wpUp_end ?_
            intro w9 hb9 _
            have hK9 := hK.stays hb9
            clear hK
            go_wp2
            go_roundw
            case rel => exact ⟨i + 1, l, q, cq, by go_num, by omega, by omega, hK9.1.m, HL1.out, hK9.1.b, hK9.1.t, hK9.2.1⟩
            case measure => simp [intOf]; omega
    · by_cases h1 : i < sl
      · have h2 : ¬ i < 60 := fun h => hstop ⟨h1, h⟩
        clear hstop
        go_wp2_with (go_at_call 25; refine (alive_run _).mono ?_; rintro e w3 ⟨rfl, hb3⟩)
        go_ret
        exact ⟨rfl, by have h5 := HH.out; exact h5 ▸ hbr.trans (hb3.mono hHr)⟩
      · clear hstop
        go_wp2_with (go_at_call 25; refine (alive_run _).mono ?_; rintro e w3 ⟨rfl, hb3⟩)
        go_ret
        exact ⟨rfl, by have h5 := HH.out; exact h5 ▸ hbr.trans (hb3.mono hHr)⟩
end Go.Proofs.Ytfmfjaokpnadaaa
