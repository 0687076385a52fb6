/-
  The walks over label.Lay and the document's.
-/
import Derived.Test.YthbcphalokoknaaDoorG26
import Derived.Test.YthbcphalokoknaaDoorG25
namespace Go.Proofs.YthbcphalokoknaaDoor
set_option linter.unusedSimpArgs false
set_option linter.unusedVariables false
set_option maxRecDepth 100000
open Go.RowKit

/-- Lay's answer: what the disk holds then, and the error. -/
def layL (S : DS) (l : Lb) : DS × Int :=
  if l.may then (if (S.write (plc l.t : Int) l.bytes).2 = 0 then (S.write (plc l.t : Int) l.bytes).1.write ((plc l.t + 1 : Nat) : Int) l.bytes else S.write (plc l.t : Int) l.bytes) else (S, 1)

theorem write_code (S : DS) (i : Int) (xs : List Int) : 0 ≤ (S.write i xs).2 ∧ (S.write i xs).2 ≤ 8 := by
  unfold DS.write
  repeat' split
  all_goals simp only
  all_goals omega

section
variable {w : World} {F : Nat → Prop} {p : Nat} {S : DS}

set_option maxHeartbeats 8000000 in
theorem lay_bad (h : Dk w F p S) (l : Lb) (hl : l.ok) (a : Option Addr) (c : Nat) (hB : Bs w a c l.m) (hV : Vars w) (hm : l.may = false) :
    Calls Tryd.prog 20 #[.pointer (some ⟨p, 0, none⟩), .agg (l.vs a c).toArray] w fun e w' => e = .returned (.int .i64 1) ∧ Below w.heap.size w w' := by
  have hvl := Lb.vs_len hl.p a c
  have henc : ∀ u, Below w.heap.size w u → Calls Tryd.prog 9 #[.agg (l.vs a c).toArray] u fun e w' => e = .returned (.tuple #[.slice none 0 0, .int .i64 1]) ∧ Below u.heap.size u w' := fun u hu => lencode_bad l hl a c u (by have h1 := hB.cap; have h2 := hB.capm; unfold maxLen at h2; omega) hm
  obtain ⟨vs, hvs⟩ : ∃ vs, vs = l.vs a c := ⟨_, rfl⟩
  rw [← hvs] at hvl henc ⊢
  clear hvs
  go_enter Tryd.func20, Tryd.ntmps20
  go_wp2_with (first
    | ((with_reducible show wpList _ _ _ (Oper.mk _ (Op.box _ _) _ _ _ _ :: _) _ _); refine wpList_box0 (by rfl) 29 (.tmp 1) (by rfl) vs (by rfl) ?_; intro w1 hL1 hb1 hs1
       have he1 := henc w1 hb1)
    | ((with_reducible show wpList _ _ _ (Oper.mk _ (Op.load _ _) _ _ _ _ :: _) _ _); refine wpList_load_blk (by rfl) (.tmp 3) 29 (by rfl) _ 0 37 (by rfl) agg_label size_label hL1 _ (whole_load hvl) hvl ?_)
    | (go_at_call 9; go_must (refine he1.mono ?_); rintro e w2 ⟨rfl, hb2⟩))
  go_ret
  exact ⟨rfl, below_then hb1 hb2⟩

set_option maxHeartbeats 20000000 in
theorem lay_ok (h : Dk w F p S) (hF : ∀ k, F k → k < w.heap.size) (l : Lb) (hl : l.ok) (a : Option Addr) (c : Nat) (hB : Bs w a c l.m) (hV : Vars w) (hlen : S.ws.length ≤ 900000) (hm : l.may = true) :
    Calls Tryd.prog 20 #[.pointer (some ⟨p, 0, none⟩), .agg (l.vs a c).toArray] w fun e w' => e = .returned (.int .i64 (layL S l).2) ∧ Then F w w' p (layL S l).1 := by
  have hvl := Lb.vs_len hl.p a c
  have henc : ∀ u, Below w.heap.size w u → Calls Tryd.prog 9 #[.agg (l.vs a c).toArray] u fun e w' => ∃ g, e = .returned (.tuple #[.slice (some ⟨g, 0, none⟩) 256 256, .int .i64 0]) ∧ u.heap.size ≤ g ∧ Row 5 w' g l.bytes ∧ Below u.heap.size u w' := fun u hu => lencode_ok l hl a c u (hB.stays hu) (hV.stays hu) hm
  have h256 := Lb.bytes_len hl.p (Lb.may_parts hm).2
  have hbr := Lb.bytes_rng hl
  have hpl := places_run l.t hl.t
  have HT : Hid ((l.vs a c)[0]? = some (.int .u32 (l.t : Int))) := Lb.vs_txg l a c
  obtain ⟨vs, hvs⟩ : ∃ vs, vs = l.vs a c := ⟨_, rfl⟩
  rw [← hvs] at hvl henc HT ⊢
  unfold layL
  rw [hm, if_pos rfl]
  obtain ⟨bs, hbs⟩ : ∃ bs, bs = l.bytes := ⟨_, rfl⟩
  rw [← hbs] at h256 hbr henc ⊢
  obtain ⟨q, hq⟩ : ∃ q, q = plc l.t := ⟨_, rfl⟩
  obtain ⟨q1, hq1⟩ : ∃ q1 : Nat, q1 = q + 1 := ⟨_, rfl⟩
  unfold placesV at hpl
  rw [← hq, ← hq1] at hpl
  rw [← hq, ← hq1]
  have hwl : (S.write (q : Int) bs).1.ws.length ≤ 1000000 := by have := write_len S (q : Int) bs; omega
  clear hvs hbs hq hq1 hm
  have hix0 : ∀ u : World, (Instr.index 34 (.agg #[.int .i64 (q : Int), .int .i64 (q1 : Int)]) (.int .i64 0)).run Tryd.prog u = .ok (.int .i64 (q : Int)) u := fun u => index_agg (j := 0) Tryd.underlying34 Tryd.underlying3 (by kernel_rfl) (by omega) rfl .i64 u
  have hix1 : ∀ u : World, (Instr.index 34 (.agg #[.int .i64 (q : Int), .int .i64 (q1 : Int)]) (.int .i64 1)).run Tryd.prog u = .ok (.int .i64 (q1 : Int)) u := fun u => index_agg (j := 1) Tryd.underlying34 Tryd.underlying3 (by kernel_rfl) (by omega) rfl .i64 u
  obtain ⟨S1, hS1⟩ : ∃ S1, S1 = (S.write (q : Int) bs).1 := ⟨_, rfl⟩
  obtain ⟨e1, he1'⟩ : ∃ e1, e1 = (S.write (q : Int) bs).2 := ⟨_, rfl⟩
  have HW : Hid (S.write (q : Int) bs = (S1, e1)) := by show _ = _; rw [hS1, he1']
  rw [HW.out]
  rw [← hS1] at hwl
  clear hS1 he1'
  obtain ⟨S2, hS2⟩ : ∃ S2, S2 = (S1.write (q1 : Int) bs).1 := ⟨_, rfl⟩
  obtain ⟨e2, he2⟩ : ∃ e2, e2 = (S1.write (q1 : Int) bs).2 := ⟨_, rfl⟩
  have HW2 : Hid (S1.write (q1 : Int) bs = (S2, e2)) := by show _ = _; rw [hS2, he2]
  rw [HW2.out]
  clear hS2 he2
  go_enter Tryd.func20, Tryd.ntmps20
  go_wp2_with (first
    | ((with_reducible show wpList _ _ _ (Oper.mk _ (Op.box _ _) _ _ _ _ :: _) _ _); refine wpList_box0 (by rfl) 29 (.tmp 1) (by rfl) vs (by rfl) ?_; intro w1 hL1 hb1 hs1
       have he1 := henc w1 hb1)
    | ((with_reducible show wpList _ _ _ (Oper.mk _ (Op.load _ _) _ _ _ _ :: _) _ _); refine wpList_load_blk (by rfl) (.tmp 3) 29 (by rfl) _ 0 37 (by rfl) agg_label size_label hL1 _ (whole_load hvl) hvl ?_)
    | (go_at_call 9; go_must (refine he1.mono ?_); rintro e w2 ⟨g, rfl, hg, hR2, hb2⟩
       have hL2 := hL1.stays hb2
       have hc0 : w2.cell? ⟨w.heap.size, 0, none⟩ = some (.int .u32 (l.t : Int)) := (hL2.cell 0).trans HT.out)
    | (go_at_call 11; go_must (refine (hpl _).mono ?_); rintro e w3 ⟨rfl, hb3⟩))
  have hBB3 : Bs w3 (some ⟨g, 0, none⟩) 256 bs := by
    have := Row.bs (e := 5) (w := w2) (g := g) (cur := bs) hR2 hbr (by rw [h256]; decide)
    rw [h256] at this
    exact this.stays hb3
  have hbW : Below w.heap.size w w3 := below_then (below_then hb1 hb2) hb3
  have hgn : w.heap.size ≤ g ∧ g < w3.heap.size := ⟨by have := hb1.size; omega, by have := Blk.lt (e := 5) hR2; have := hb3.size; omega⟩
  have hnF : ¬ F g := fun hf => by have := hF g hf; omega
  have hw1 : Calls Tryd.prog 49 #[.pointer (some ⟨p, 0, none⟩), .int .i64 (q : Int), .slice (some ⟨g, 0, none⟩) 256 256] w3 fun e w' => e = .returned (.int .i64 e1) ∧ Then F w3 w' p S1 := by
    have := dk_write (h.stays hbW) (q : Int) (some ⟨g, 0, none⟩) 256 bs hBB3 (fun x hx => by cases hx; exact hnF) (by omega)
    rw [h256, HW.out] at this
    exact this
  have hw2 : ∀ w4, Then F w3 w4 p S1 → Calls Tryd.prog 49 #[.pointer (some ⟨p, 0, none⟩), .int .i64 (q1 : Int), .slice (some ⟨g, 0, none⟩) 256 256] w4 fun e w' => e = .returned (.int .i64 e2) ∧ Then F w w' p S2 := fun w4 ht => by
    have hB4 : Bs w4 (some ⟨g, 0, none⟩) 256 bs := by
      refine ⟨hBB3.rng, hBB3.cap, hBB3.capm, hBB3.nul, ?_⟩
      rcases hBB3.lay with h0 | ⟨b, off, hbe, hcell⟩
      · exact .inl h0
      · refine .inr ⟨b, off, hbe, fun i hi => ?_⟩
        cases hbe
        rw [← hcell i hi]
        unfold World.cell?
        rw [ht.2.block g hnF hgn.2]
    have := dk_write ht.1 (q1 : Int) (some ⟨g, 0, none⟩) 256 bs hB4 (fun x hx => by cases hx; rintro (hf | hf); exact hnF hf; simp only at hf; omega) (by omega)
    rw [h256, HW2.out] at this
    refine this.mono ?_
    rintro e w' ⟨rfl, ht2⟩
    refine ⟨rfl, ht2.1.mono (fun k hk _ => ?_), ?_⟩
    · rcases hk with (hk | hk) | hk
      · exact .inl hk
      · exact .inr (by have := hbW.size; omega)
      · exact .inr (by have := hbW.size; have := ht.2.size; omega)
    · exact ⟨ht2.2.os.trans (ht.2.os.trans hbW.os), ht2.2.tape.trans (ht.2.tape.trans hbW.tape), ht2.2.output.trans (ht.2.output.trans hbW.output), by have := hbW.size; have := ht.2.size; have := ht2.2.size; omega,
        fun k hk hl => (ht2.2.block k (fun hh => hh.elim hk (fun h2 => by have := hbW.size; omega)) (by have := hbW.size; have := ht.2.size; omega)).trans ((ht.2.block k hk (by have := hbW.size; omega)).trans (hbW.block k hl))⟩
  have hth : ∀ w4, Then F w3 w4 p S1 → Then F w w4 p S1 := fun w4 ht => by
    refine ⟨ht.1.mono (fun k hk _ => ?_), ?_⟩
    · rcases hk with hk | hk
      · exact .inl hk
      · exact .inr (by have := hbW.size; omega)
    · exact ⟨ht.2.os.trans hbW.os, ht.2.tape.trans hbW.tape, ht.2.output.trans hbW.output, by have := hbW.size; have := ht.2.size; omega,
        fun k hk hl => (ht.2.block k hk (by have := hbW.size; omega)).trans (hbW.block k hl)⟩
  clear HW hwl hBB3 hR2 hL1 hL2 hc0 he1 henc hpl HW2
  go_loopw [21] (fun i wr => (i = .int .i64 0 ∧ wr = w3) ∨ (i = .int .i64 1 ∧ Then F w3 wr p S1 ∧ e1 = 0) ∨ (i = .int .i64 2 ∧ e1 = 0 ∧ Then F w wr p S2 ∧ e2 = 0)) (fun i _ => 2 - (intOf i).toNat)
  case atStart => exact .inl ⟨rfl, rfl⟩
  case round =>
    rename_i hrel
    rcases hrel with ⟨rfl, rfl⟩ | ⟨rfl, ht, he⟩ | ⟨rfl, he, ht, he'⟩
    · by_cases h0 : e1 = 0
      · have hn0 : (e1 != 0) = false := by rw [h0]; rfl
        have HE : Hid (e1 = 0) := h0
        clear h0
        go_wp2_with (first
          | (go_at_call 49; go_must (refine hw1.mono ?_); rintro e w4 ⟨rfl, ht4⟩))
        exact ⟨.inr (.inl ⟨rfl, ht4, HE.out⟩), by decide⟩
      · have hn0 : (e1 != 0) = true := by simpa using h0
        have HNE : Hid (¬ e1 = 0) := h0
        clear h0
        go_wp2_with (first
          | (go_at_call 49; go_must (refine hw1.mono ?_); rintro e w4 ⟨rfl, ht4⟩))
        go_ret
        first | exact ⟨rfl, hth _ ht4⟩ | (rw [if_neg HNE.out]; exact ⟨rfl, hth _ ht4⟩)
    · have hw2' := hw2 _ ht
      have HE1 : Hid (e1 = 0) := he
      by_cases h0 : e2 = 0
      · have hn0 : (e2 != 0) = false := by rw [h0]; rfl
        have HE : Hid (e1 = 0 ∧ e2 = 0) := ⟨he, h0⟩
        clear h0 he
        go_wp2_with (first
          | (go_at_call 49; go_must (refine hw2'.mono ?_); rintro e w5 ⟨rfl, ht5⟩))
        exact ⟨.inr (.inr ⟨rfl, HE.out.1, ht5, HE.out.2⟩), by decide⟩
      · have hn0 : (e2 != 0) = true := by simpa using h0
        clear h0 he
        go_wp2_with (first
          | (go_at_call 49; go_must (refine hw2'.mono ?_); rintro e w5 ⟨rfl, ht5⟩))
        go_ret
        first | exact ⟨rfl, ht5⟩ | (rw [if_pos HE1.out]; exact ⟨rfl, ht5⟩)
    · have HE1 : Hid (e1 = 0) := he
      have HE : Hid (e2 = 0) := he'
      clear he he' hw1 hw2
      go_wp2
      go_ret
      first | exact ⟨by rw [HE.out]; rfl, ht⟩ | exact ⟨rfl, ht⟩ | (rw [if_pos HE1.out]; exact ⟨by rw [HE.out]; rfl, ht⟩)

theorem labLay_run (h : Dk w F p S) (hF : ∀ k, F k → k < w.heap.size) (l : Lb) (hl : l.ok) (a : Option Addr) (c : Nat) (hB : Bs w a c l.m) (hV : Vars w) (hlen : S.ws.length ≤ 900000) :
    Calls Tryd.prog 20 #[.pointer (some ⟨p, 0, none⟩), .agg (l.vs a c).toArray] w fun e w' => e = .returned (.int .i64 (layL S l).2) ∧ Then F w w' p (layL S l).1 := by
  cases hm : l.may
  · refine (lay_bad h l hl a c hB hV hm).mono ?_
    rintro e w' ⟨rfl, hb⟩
    unfold layL
    rw [hm, if_neg (by decide)]
    exact ⟨rfl, then_same h hb⟩
  · exact lay_ok h hF l hl a c hB hV hlen hm
end

end Go.Proofs.YthbcphalokoknaaDoor

/-
  The live question of package label's laws.
-/

namespace Go.Proofs.YthbcphalokoknaaDoor
set_option linter.unusedSimpArgs false
set_option linter.unusedVariables false
set_option maxRecDepth 100000
open Go.RowKit

theorem decL_zeros : ¬ (decL noughts).2 = 0 := by
  have hl : noughts.length = 256 := noughts_length
  have ho : okL noughts = false := by
    unfold okL
    rw [show decide (noughts.take 4 = magicL) = false by decide]
    simp
  unfold decL
  rw [if_neg (by omega), ho]
  split <;> simp

theorem stepC_skip {i : Nat} {xs : List Int} {s : Lb × Nat} (h : ¬ (decL xs).2 = 0) : stepC i xs s = s := by unfold stepC; rw [if_pos h]
theorem stepC_take {i : Nat} {xs : List Int} {s : Lb × Nat} {l : Lb} (h : decL xs = (l, 0)) (hp : plcd l.t i = true) (hs : s.2 = 0) : stepC i xs s = (l, 1) := by
  unfold stepC; rw [h, if_neg (by simp), if_neg (by simp [hp]), if_pos hs]
theorem stepC_more {i : Nat} {xs : List Int} {s : Lb × Nat} {l : Lb} (h : decL xs = (l, 0)) (hp : plcd l.t i = true) (hs : s.1.t = l.t) (h0 : s.2 ≠ 0) : stepC i xs s = (s.1, s.2 + 1) := by
  unfold stepC; rw [h, if_neg (by simp), if_neg (by simp [hp]), if_neg h0, if_neg (by simp only; omega), if_pos (by simp only; omega)]

theorem Vars.stays' {w w' : World} {B : Nat} (h : Vars w) (hb : Below B w w') (hB : 2 ≤ B) : Vars w' :=
  ⟨fun i hi => by rw [← h.steps i hi]; unfold World.cell?; rw [hb.block _ (by simp only; omega)], fun i hi => by rw [← h.firsts i hi]; unfold World.cell?; rw [hb.block _ (by simp only; omega)]⟩

def alvL : Lb := ⟨5, Pt.zero, List.replicate 64 0⟩
theorem alvL_ok : alvL.ok := ⟨by decide, Pt.zero_ok, rng_zeros 64⟩
theorem alvL_may : alvL.may = true := by unfold Lb.may alvL; simp [Pt.zero_may]

theorem new16_len : (DS.new 16).laid.length = 4096 := List.length_replicate
theorem write_on {S : DS} {i : Nat} {xs : List Int} (hoff : S.off = false) (hf : S.fused = false) (hl : S.laid.length = 4096) (hi : i < 16) (hx : xs.length = 256) :
    S.write (i : Int) xs = ({ S with ws := S.ws ++ [(i, xs)], left := S.left }, 0) := by
  have hh : S.has (i : Int) := by unfold DS.has; rw [hl]; omega
  unfold DS.write
  rw [hoff, if_neg (by decide), if_neg (by simpa using ⟨hh, hx⟩), hf]
  simp [may, DS.left', hf]

theorem layL_on {S : DS} {l : Lb} (hl' : l.ok) (hm : l.may = true) (hoff : S.off = false) (hf : S.fused = false) (hl : S.laid.length = 4096) :
    layL S l = ({ S with ws := S.ws ++ [(plc l.t, l.bytes)] ++ [(plc l.t + 1, l.bytes)], left := S.left }, 0) := by
  have hp : plc l.t ≤ 2 := by unfold plc; omega
  have hx := Lb.bytes_len hl'.p (Lb.may_parts hm).2
  unfold layL
  rw [hm, if_pos rfl, write_on hoff hf hl (by omega) hx, if_pos rfl, write_on (S := { S with ws := S.ws ++ [(plc l.t, l.bytes)], left := S.left }) hoff hf hl (by omega) hx]

theorem alive_lay : ∃ S1, layL (DS.new 16) alvL = (S1, 0) ∧ S1.ws.length ≤ 2 ∧ chooseL S1 = ((alvL, 2), 0) := by
  have h := layL_on (S := DS.new 16) alvL_ok alvL_may rfl rfl new16_len
  refine ⟨_, h, by simp [DS.new], ?_⟩
  have hd := decL_bytes alvL_ok alvL_may
  have hz : ∀ k, k < 16 → secOf (DS.new 16).laid k = noughts := fun k hk => sec_noughts hk
  have hp : plc alvL.t = 2 := rfl
  unfold chooseL
  rw [if_neg (by simp [DS.new])]
  have hs : scanC { DS.new 16 with ws := (DS.new 16).ws ++ [(plc alvL.t, alvL.bytes)] ++ [(plc alvL.t + 1, alvL.bytes)], left := (DS.new 16).left } 4 = (alvL, 2) := by
    rw [hp]
    generalize hbs : alvL.bytes = bs at *
    have r0 : readW (DS.new 16).laid ((DS.new 16).ws ++ [(2, bs)] ++ [(2 + 1, bs)]) 0 = noughts := by simp [readW, DS.new, hz]; exact hz 0 (by omega)
    have r1 : readW (DS.new 16).laid ((DS.new 16).ws ++ [(2, bs)] ++ [(2 + 1, bs)]) 1 = noughts := by simp [readW, DS.new, hz]; exact hz 1 (by omega)
    have r2 : readW (DS.new 16).laid ((DS.new 16).ws ++ [(2, bs)] ++ [(2 + 1, bs)]) 2 = bs := by simp [readW, DS.new]
    have r3 : readW (DS.new 16).laid ((DS.new 16).ws ++ [(2, bs)] ++ [(2 + 1, bs)]) 3 = bs := by simp [readW, DS.new]
    simp only [scanC, r0, r1, r2, r3]
    rw [stepC_skip (i := 0) decL_zeros, stepC_skip (i := 1) decL_zeros, stepC_take (i := 2) hd (by decide) rfl, stepC_more (i := 3) hd (by decide) rfl (by decide)]
  rw [hs]
  rfl

theorem build_alv (a : Option Addr) (c : Nat) (w : World) : (Instr.build 29 [(0, Value.int .u32 5), (2, .slice a 64 c)].toArray).run Tryd.prog w = .ok (.agg (alvL.vs a c).toArray) w := by kernel_rfl

set_option maxHeartbeats 20000000 in
theorem lalive_run (w : World) (hV : Vars w) : Calls Tryd.prog 8 #[] w fun e w' => e = .returned (.bool true) ∧ Below w.heap.size w w' := by
  obtain ⟨i0, hi, hz0, hz1, hz2⟩ := info_parts Tryd.info5
  obtain ⟨S1, hlay, hws, hch⟩ := alive_lay
  have hnew := dk_new 16 w (by omega) (by omega)
  have hzl := zero_vs_len
  obtain ⟨zs, hzs⟩ : ∃ zs, zs = Lb.zero.vs none 0 := ⟨_, rfl⟩
  have HBU : Hid (∀ w : World, (Instr.build 29 #[]).run Tryd.prog w = .ok (.agg zs.toArray) w) := by rw [hzs]; exact build_label0
  have HAL : Hid (∀ w : World, (Instr.alloc 29 true (.tuple #[])).run Tryd.prog w = .ok (.pointer (some ⟨w.heap.size, 0, none⟩)) (w.alloc (.cells zs.toArray 29))) := by rw [hzs]; exact alloc_label0
  have hbad : ∀ u, Calls Tryd.prog 9 #[.agg zs.toArray] u fun e w' => e = .returned (.tuple #[.slice none 0 0, .int .i64 1]) ∧ Below u.heap.size u w' := fun u => by
    rw [hzs]; exact lencode_bad Lb.zero Lb.zero_ok none 0 u (by decide) (by decide)
  rw [← hzs] at hzl
  have hpl : ∀ u, Calls Tryd.prog 11 #[.int .u32 5] u fun e w' => e = .returned (.agg #[.int .i64 2, .int .i64 3]) ∧ Below u.heap.size u w' := fun u => places_run 5 (by decide) u
  have heq2 : ∀ u, (Op.equalIn 10000 34 (.agg #[.int .i64 2, .int .i64 3]) (.agg #[.int .i64 2, .int .i64 3])).run Tryd.prog u = .ok true u := fun u => by kernel_rfl
  have hlayR : ∀ (u : World) (p : Nat) (F : Nat → Prop), Dk u F p (DS.new 16) → (∀ k, F k → k < u.heap.size) → Vars u → ∀ a c, Bs u a c alvL.m → Calls Tryd.prog 20 #[.pointer (some ⟨p, 0, none⟩), .agg (alvL.vs a c).toArray] u fun e w' => e = .returned (.int .i64 0) ∧ Then F u w' p S1 := fun u p F h hF hv a c hB => by
    have := labLay_run h hF alvL alvL_ok a c hB hv (by simp [DS.new])
    rw [hlay] at this
    exact this
  have hchR : ∀ (u : World) (p : Nat) (F : Nat → Prop), Dk u F p S1 → Vars u → Calls Tryd.prog 28 #[.pointer (some ⟨p, 0, none⟩)] u fun e w' => ∃ a c, e = .returned (.tuple #[.agg (alvL.vs a c).toArray, .int .i64 2, .int .i64 0]) ∧ Below u.heap.size u w' := fun u p F h hv => by
    have hoff : S1.off = false := by
      cases ho : S1.off
      · rfl
      · unfold chooseL at hch; rw [ho, if_pos rfl] at hch; cases hch
    refine (choose_on h (by omega) hoff hv).mono ?_
    rintro e w' ⟨a, c, rfl, _, hb⟩
    rw [hch]
    exact ⟨a, c, rfl, hb⟩
  have hvl : ∀ a c, (alvL.vs a c).length = 37 := fun a c => Lb.vs_len alvL_ok.p a c
  have hbl := build_alv
  have HT : Hid (∀ a c, (alvL.vs a c)[0]? = some (.int .u32 5)) := fun a c => rfl
  have HVO : Hid (∀ a c, ∀ v ∈ alvL.vs a c, v.oneCell' = true) := fun a c => Lb.vs_one _ _ _
  have hal : alvL.m = List.replicate 64 0 := rfl
  rw [hal] at hlayR
  generalize hvv : alvL.vs = av at *
  clear hzs hlay hch hws hal hvv
  have hVn : ¬ (w.heap.size ≤ 1) ∧ ¬ (w.heap.size ≤ 0) := by have := hV.size; omega
  go_enter Tryd.func8, Tryd.ntmps8
  go_wp2_with (first
    | (go_at_call 16; go_must (refine hnew.mono ?_); rintro e w1 ⟨p, rfl, hD1, hb1⟩)
    | ((with_reducible show wpList _ _ _ (Oper.mk _ (Op.makeSlice _ _ _) _ _ _ _ :: _) _ _); refine wpList_make_bytes (w0 := w1) (by rfl) (.const (.int .i64 64)) (.const (.int .i64 64)) 27 (by rfl) w1.heap.size 5 i0 Tryd.underlying27 hi hz0 hz1 hz2 .i64 .i64 64 64 64 (by rfl) (by rfl) (by rfl) (by rfl) (by decide) (Nat.le_refl _) (Below.refl _ _) ?_
       intro w2 hO2 hb2
       have hB2 : Bs w2 (some ⟨w1.heap.size, 0, none⟩) 64 (List.replicate 64 0) := Row.bs (e := 5) (w := w2) (g := w1.heap.size) (cur := List.replicate 64 0) hO2 (rng_zeros 64) (by decide))
    | ((with_reducible show wpList _ _ _ (Oper.mk _ (Op.build _ _) _ _ _ _ :: _) _ _); refine wpList_buildL (by rfl) 29 [(0, .const (.int .u32 5)), (2, .tmp 20)] (by rfl) _ (by rfl) _ (hbl _ _) ?_)
    | ((with_reducible show wpList _ _ _ (Oper.mk _ (Op.alloc _) _ _ _ _ :: _) _ _); refine wpList_alloc0 (by rfl) 29 (by rfl) (some 3) (by rfl) _ HAL.out ?_; intro w3 hL3 hb3 hs3)
    | ((with_reducible show wpList _ _ _ (Oper.mk _ (Op.store _ _ _) _ _ _ _ :: _) _ _); refine wpList_store_blk (by rfl) (.tmp 3) (.tmp 21) 29 (by rfl) _ 0 37 (by rfl) _ (by rfl) size_label hL3 (hvl _ _) (by omega) (HVO.out _ _) _ (whole_store hzl) ?_
       intro w4 hL4 hbut4 hs4
       have hb4 : Below w1.heap.size w1 w4 := (below_then hb2 hb3).trans (hbut4.below (B := w1.heap.size) hb2.size (below_then hb2 hb3).size)
       have hD4 := (hD1.mono (G := fun k => w.heap.size ≤ k ∧ k < w1.heap.size) (fun k hk hl => ⟨hk, hl⟩)).stays hb4
       have hB4 := (hB2.stays hb3).but hbut4 (fun h0 b hb => by cases hb; simp only; have := Blk.lt (e := 5) hO2; omega)
       have hV4 := hV.stays (below_then hb1 hb4)
       have hly := hlayR w4 p _ hD4 (fun k hk => by have := hb4.size; omega) hV4 _ _ hB4)
    | ((with_reducible show wpList _ _ _ (Oper.mk _ (Op.load _ _) _ _ _ _ :: _) _ _); refine wpList_load_blk (by rfl) (.tmp 3) 29 (by rfl) _ 0 37 (by rfl) agg_label size_label hL4 _ (whole_load (hvl _ _)) (hvl _ _) ?_)
    | (go_at_call 20; go_must (refine hly.mono ?_); rintro e w5 ⟨rfl, ht5⟩
       have hb5 : Below w.heap.size w4 w5 := ht5.2.below (by have := hb1.size; have := hb4.size; omega) (fun k hk => hk.1)
       have hV5 : Vars w5 := hV4.stays' hb5 hV.size
       have hcc := hchR w5 p _ ht5.1 hV5)
    | (go_at_call 28; go_must (refine hcc.mono ?_); rintro e w6 ⟨a6, c6, rfl, hb6⟩)
    | ((with_reducible show wpList _ _ _ (Oper.mk _ (Op.alloc _) _ _ _ _ :: _) _ _); refine wpList_alloc0 (by rfl) 29 (by rfl) (some 5) (by rfl) _ HAL.out ?_; intro w7 hM7 hb7 hs7)
    | ((with_reducible show wpList _ _ _ (Oper.mk _ (Op.store _ _ _) _ _ _ _ :: _) _ _); refine wpList_store_blk (by rfl) (.tmp 5) (.tmp 28) 29 (by rfl) _ 0 37 (by rfl) _ (by rfl) size_label hM7 (hvl _ _) (by omega) (HVO.out _ _) _ (whole_store hzl) ?_
       intro w8 hM8 hbut8 hs8)
    | ((with_reducible show wpList _ _ _ (Oper.mk _ (Op.build _ _) _ _ _ _ :: _) _ _); refine wpList_build0 (by rfl) 29 (by rfl) _ HBU.out ?_)
    | (go_at_call 9; go_must (refine (hbad _).mono ?_); rintro e w9 ⟨rfl, hb9⟩
       have hM9 := hM8.stays hb9
       have hc0 : w9.cell? ⟨w6.heap.size, 0, none⟩ = some (.int .u32 5) := (hM9.cell 0).trans (HT.out _ _))
    | (go_at_call 11; go_must (refine (hpl _).mono ?_); rintro e wA ⟨rfl, hbA⟩))
  go_ret
  refine ⟨rfl, ?_⟩
  have h4 := (below_then hb1 hb4)
  have h5 := h4.trans hb5
  have h7 := below_then (below_then h5 hb6) hb7
  exact below_then (below_then (h7.trans (hbut8.below (B := w.heap.size) (by have := (below_then h5 hb6).size; omega) h7.size)) hb9) hbA

end Go.Proofs.YthbcphalokoknaaDoor

/-
  The walk of the law LabelDecode.
-/

namespace Go.Proofs.YthbcphalokoknaaDoor
set_option linter.unusedSimpArgs false
set_option linter.unusedVariables false
set_option maxRecDepth 100000
open Go.RowKit

theorem Out.blk {base n c : Nat} {w : World} {a : Option Addr} {xs : List Int} (h : Out base w (.slice a n c) xs) (h0 : 0 < n) : ∃ g vs, a = some ⟨g, 0, none⟩ ∧ base ≤ g ∧ Blk 5 w g vs ∧ n ≤ vs.length ∧ n ≤ c := by
  unfold Out at h
  rcases h.2 with ⟨h1, h2⟩ | ⟨g, cap, cur, h1, h2, h3, h4, h5, h6, h7⟩
  · cases h1; omega
  · injection h1 with h8 h9 h10
    refine ⟨g, cur.toList, h8, h2, by unfold Blk; simpa using h3, by simp only [Array.length_toList]; omega, by omega⟩

theorem index_sl7 {P : Program} {t e : TypeId} {g n c j : Nat} (ht : P.underlying t = some (.slice e)) (hs : (P.info? e).map (·.size) = some 1) (hj : j < n) (w : World) :
    (Instr.indexAt t (.slice (some ⟨g, 0, none⟩) n c) (.int .i64 (j : Int))).run P w = .ok (.pointer (some ⟨g, j, none⟩)) w := by
  have hz := sizeOf_run hs w
  have hb : (0 : Int) ≤ (j : Int) ∧ (j : Int) < (n : Int) := by omega
  have hadd : (⟨g, 0, none⟩ : Addr).add j = ⟨g, j, none⟩ := by unfold Addr.add; split <;> simp_all
  simp [Instr.indexAt, asIntOf, run_underlying ht, hz, hb, hadd, Sem.run_bind, Instr.sureAddr]
  try omega

set_option maxHeartbeats 40000000 in
theorem dec_walk (a : Option Addr) (c : Nat) (xs : List Int) (w : World) (hB : Bs w a c xs) (hV : Vars w) :
    Calls Tryd.prog 4 #[.slice a xs.length c] w fun e w' => e = .returned (.bool true) ∧ Below w.heap.size w w' := by
  obtain ⟨i0, hi, hz0, hz1, hz2⟩ := info_parts Tryd.info5
  obtain ⟨n, hn⟩ : ∃ n, n = xs.length := ⟨_, rfl⟩
  rw [← hn]
  have HN : Hid (n = xs.length) := hn
  have hnl : n ≤ 9223372036854775807 := by have h1 := hB.cap; have h2 := hB.capm; unfold maxLen at h2; omega
  clear hn
  by_cases hbig : 300 < n
  · have hd : decide ((300 : Int) < (n : Int)) = true := by simp; omega
    have hal := lalive_run w hV
    go_enter Tryd.func4, Tryd.ntmps4
    go_wp2_with (first
      | (go_at_call 8; go_must (refine hal.mono ?_); rintro e w1 ⟨rfl, hb1⟩))
    go_ret
    exact ⟨rfl, hb1⟩
  · have hd : decide ((300 : Int) < (n : Int)) = false := by simp; omega
    have hDok := decL_ok hB.rng
    obtain ⟨D, hD⟩ : ∃ D, D = (decL xs).1 := ⟨_, rfl⟩
    obtain ⟨E, hE⟩ : ∃ E, E = (decL xs).2 := ⟨_, rfl⟩
    rw [← hD] at hDok
    have hdec : ∀ (u : World) (a : Option Addr) (c : Nat), Bs u a c xs → Vars u → Calls Tryd.prog 13 #[.slice a n c] u fun e w' => ∃ a' c', e = .returned (.tuple #[.agg (D.vs a' c').toArray, .int .i64 (E : Int)]) ∧ Out u.heap.size w' (.slice a' D.m.length c') D.m ∧ Below u.heap.size u w' := fun u a c hb hv => by
      rw [hD, hE]; exact ldecode_run a c n xs u HN.out hb hv
    have hrdec : ∀ (u : World), Bs u a c xs → Calls Tryd.prog 14 #[.slice a n c] u fun e w' => ∃ a' c', e = .returned (.tuple #[.agg (D.vs a' c').toArray, .int .i64 (E : Int)]) ∧ Bs w' a' c' D.m ∧ Below u.heap.size u w' := fun u hb => by
      rw [hD, hE]; exact lrdecode_run a c n xs u HN.out hb
    have hvl : ∀ a c, (D.vs a c).length = 37 := fun a c => Lb.vs_len hDok.p a c
    have HVO : Hid (∀ a c, ∀ v ∈ D.vs a c, v.oneCell' = true) := fun a c => Lb.vs_one _ _ _
    have HMP : Hid (∀ a c, (D.vs a c)[36]? = some (.slice a D.m.length c)) := fun a c => Lb.vs_map hDok.p a c
    have hsame : ∀ (u : World) (a a' : Option Addr) (c c' : Nat), Bs u a c D.m → Bs u a' c' D.m → Calls Tryd.prog 15 #[.agg (D.vs a c).toArray, .agg (D.vs a' c').toArray] u fun e w' => e = .returned (.bool true) ∧ Below u.heap.size u w' := fun u a a' c c' h1 h2 => by
      have := same_run D D hDok hDok a a' c c' u h1 h2
      rwa [Lb.same_self] at this
    have hzl := zero_vs_len
    obtain ⟨zs, hzs⟩ : ∃ zs, zs = Lb.zero.vs none 0 := ⟨_, rfl⟩
    have HAL : Hid (∀ w : World, (Instr.alloc 29 true (.tuple #[])).run Tryd.prog w = .ok (.pointer (some ⟨w.heap.size, 0, none⟩)) (w.alloc (.cells zs.toArray 29))) := by rw [hzs]; exact alloc_label0
    rw [← hzs] at hzl
    clear hzs
    obtain ⟨M, hM⟩ : ∃ M, M = D.m.length := ⟨_, rfl⟩
    have hMl : M ≤ 256 := by
      rw [hM, hD]
      unfold decL
      split
      · simp [Lb.zero]
      · split
        · simp [Lb.zero]
        · split
          · rw [lbOf_len (by omega)]; omega
          · simp [Lb.zero]
    rw [← hM] at hdec HMP
    have HM : Hid (M = D.m.length) := hM
    have HLEN : Hid (¬ 300 < n) := hbig
    clear hD hE hM hbig
    go_enter Tryd.func4, Tryd.ntmps4
    go_wp2_with (first
      | (at_builtin; (refine wpList_append_bytes (w0 := w) (by rfl) (.tmp 14) (.tmp 15) 27 (by rfl) w.heap.size 5 i0 Tryd.underlying27 hi hz0 hz1 hz2 _ [] (by rfl) (World.ownsRow_made w #[] 0 (Nat.le_refl _) (by decide) rfl) a n c xs (by rfl) HN.out (hB.stays ((Below.refl _ _).alloc (Nat.le_refl _) _)) (by have := HN.out; have := HLEN.out; simp only [List.length_nil]; omega) (by simp) ((Below.refl _ _).alloc (Nat.le_refl _) _) ?_)
         rw [List.nil_append]
         intro v1 w1 hown1 hb1
         obtain ⟨ao, co, rfl, hBo1⟩ := Bs.of_owns hown1 hB.rng
         rw [← HN.out]
         have hao : ∀ x, ao = some x → w.heap.size ≤ x.block ∧ x.block < w1.heap.size := fun x hx => World.ownsRow.lt hown1 x.block (by rw [hx]; rfl)
         have hd1 := hdec w1 ao co hBo1 (hV.stays hb1))
      | (go_at_call 13; go_must (refine hd1.mono ?_); rintro e w2 ⟨a2, c2, rfl, hO2, hb2⟩
         have hB2 := (Out.bs hO2 hDok.m).2.1
         have hBo2 := hBo1.stays hb2)
      | ((with_reducible show wpList _ _ _ (Oper.mk _ (Op.alloc _) _ _ _ _ :: _) _ _); refine wpList_alloc0 (by rfl) 29 (by rfl) (some 4) (by rfl) _ HAL.out ?_; intro w3 hL3 hb3 hs3)
      | ((with_reducible show wpList _ _ _ (Oper.mk _ (Op.store _ _ _) _ _ _ _ :: _) _ _); refine wpList_store_blk (by rfl) (.tmp 4) (.tmp 20) 29 (by rfl) _ 0 37 (by rfl) (D.vs a2 c2) (by rfl) size_label hL3 (hvl _ _) (by omega) (HVO.out _ _) _ (whole_store hzl) ?_
         intro w4 hL4 hbut4 hs4
         have hb4 : Below w2.heap.size w2 w4 := hb3.trans (hbut4.below (Nat.le_refl _) hb3.size)
         have hb4' := below_then (below_then hb1 hb2) hb4
         have hrd4 := hrdec w4 (hB.stays hb4'))
      | (go_at_call 14; go_must (refine hrd4.mono ?_); rintro e w5 ⟨a5, c5, rfl, hB5, hb5⟩
         have hL5 := hL4.stays hb5)
      | ((with_reducible show wpList _ _ _ (Oper.mk _ (Op.alloc _) _ _ _ _ :: _) _ _); refine wpList_alloc0 (by rfl) 29 (by rfl) (some 6) (by rfl) _ HAL.out ?_; intro w6 hK6 hb6 hs6)
      | ((with_reducible show wpList _ _ _ (Oper.mk _ (Op.store _ _ _) _ _ _ _ :: _) _ _); refine wpList_store_blk (by rfl) (.tmp 6) (.tmp 25) 29 (by rfl) _ 0 37 (by rfl) (D.vs a5 c5) (by rfl) size_label hK6 (hvl _ _) (by omega) (HVO.out _ _) _ (whole_store hzl) ?_
         intro w7 hK7 hbut7 hs7
         have hb7 : Below w5.heap.size w5 w7 := hb6.trans (hbut7.below (Nat.le_refl _) hb6.size)
         have hL7 := hL5.stays hb7
         have hb27 := below_then (below_then hb4 hb5) hb7
         have hsm := hsame w7 a2 a5 c2 c5 (hB2.stays hb27) (hB5.stays hb7))
      | ((with_reducible show wpList _ _ _ (Oper.mk _ (Op.load _ _) _ _ _ _ :: _) _ _); refine wpList_load_blk (by rfl) (.tmp 4) 29 (by rfl) _ 0 37 (by rfl) agg_label size_label hL7 _ (whole_load (hvl _ _)) (hvl _ _) ?_)
      | ((with_reducible show wpList _ _ _ (Oper.mk _ (Op.load _ _) _ _ _ _ :: _) _ _); refine wpList_load_blk (by rfl) (.tmp 6) 29 (by rfl) _ 0 37 (by rfl) agg_label size_label hK7 _ (whole_load (hvl _ _)) (hvl _ _) ?_)
      | (go_at_call 15; go_must (refine hsm.mono ?_); rintro e w8 ⟨rfl, hb8⟩
         have hL8 := hL7.stays hb8))
    have hb28 := below_then hb27 hb8
    have hb8' := below_then (below_then hb1 hb2) hb28
    have hBo8 := hBo2.stays hb28
    have hcM8 : w8.cell? ⟨w2.heap.size, 36, none⟩ = some (.slice a2 M c2) := (hL8.cell 36).trans (HMP.out _ _)
    by_cases hM0 : M = 0
    · go_loopw [9] (fun i wr => i = .int .i64 0 ∧ wr = w8) (fun _ _ => 0)
      case atStart => exact ⟨rfl, rfl⟩
      case round =>
      rename_i hrel
      obtain ⟨rfl, rfl⟩ := hrel
      subst hM0
      have hal := lalive_run _ (hV.stays hb8')
      go_wp2_with (first
        | (go_at_call 8; go_must (refine hal.mono ?_); rintro e wE ⟨rfl, hbE⟩
           have hbE' := below_then hb8' hbE
           have hBoE := hBo8.stays hbE
           have hcv1 : (convert 27 9 (.slice ao n co)).run Tryd.prog wE = .ok (.string (strOfNums xs)) wE := hBoE.conv (P := Tryd.prog) n HN.out 27 5 Tryd.underlying27 Tryd.underlying5 9 Tryd.underlying9
           have hcv2 : (convert 27 9 (.slice a n c)).run Tryd.prog wE = .ok (.string (strOfNums xs)) wE := (hB.stays hbE').conv (P := Tryd.prog) n HN.out 27 5 Tryd.underlying27 Tryd.underlying5 9 Tryd.underlying9))
      go_ret
      exact ⟨by simp, hbE'⟩
    · obtain ⟨g2, vs2, rfl, hg2, hG2, hvs2, hM2⟩ := Out.blk hO2 (by omega : 0 < M)
      have hG8 := hG2.stays hb28
      have hg2n : g2 < w2.heap.size := hG2.lt
      clear hL3 hL4 hL5 hL7 hK6 hK7 hO2 hd1 hrd4 hsm hM0
      go_loopw [9] (fun i wr => ∃ k : Nat, ∃ vs, k ≤ M ∧ i = .int .i64 k ∧ Blk 5 wr g2 vs ∧ M ≤ vs.length ∧ Blk 29 wr w2.heap.size (D.vs (some ⟨g2, 0, none⟩) c2) ∧ Bs wr ao co xs ∧ Below w.heap.size w wr) (fun i _ => M - (intOf i).toNat)
      case atStart => exact ⟨0, vs2, by omega, rfl, hG8, hvs2, hL8, hBo8, hb8'⟩
      case round =>
      rename_i hrel
      obtain ⟨k, vs, hk, rfl, hGr, hvr, hLr, hBor, hbr⟩ := hrel
      have hcMr : wr.cell? ⟨w2.heap.size, 36, none⟩ = some (.slice (some ⟨g2, 0, none⟩) M c2) := (hLr.cell 36).trans (HMP.out _ _)
      clear hcM8 hG8 hL8 hBo8
      by_cases hlt : k < M
      · have hdl : decide ((k : Int) < (M : Int)) = true := by simp; omega
        have hix : ∀ u : World, (Instr.indexAt 27 (.slice (some ⟨g2, 0, none⟩) M c2) (.int .i64 (k : Int))).run Tryd.prog u = .ok (.pointer (some ⟨g2, k, none⟩)) u := fun u => by
          have := index_sl7 (P := Tryd.prog) (t := 27) (e := 5) (g := g2) (n := M) (c := c2) (j := k) Tryd.underlying27 sizes5 hlt u
          exact this
        go_wp2_with (first
          | ((with_reducible show wpList _ _ _ (Oper.mk _ (Op.store _ _ _) _ _ _ _ :: _) _ _); refine wpList_store_int (by rfl) (.tmp 45) (.const (.int .u8 9)) 5 (by rfl) g2 k (by rfl) .u8 9 (by rfl) size_u8 hGr (by omega) ?_
             intro wS hGS hbutS hsS))
        refine ⟨⟨k + 1, _, by omega, by go_num, hGS, by simp; omega, hLr.but hbutS (by omega), hBor.but hbutS (fun h0 b hb => ?_), hbr.trans (hbutS.below (by have := hb1.size; omega) hbr.size)⟩, by simp [intOf]; omega⟩
        have := hao b hb
        omega
      · have hdl : decide ((k : Int) < (M : Int)) = false := by simp; omega
        have hal := lalive_run _ (hV.stays hbr)
        go_wp2_with (first
          | (go_at_call 8; go_must (refine hal.mono ?_); rintro e wE ⟨rfl, hbE⟩
             have hbE' := below_then hbr hbE
             have hBoE := hBor.stays hbE
             have hcv1 : (convert 27 9 (.slice ao n co)).run Tryd.prog wE = .ok (.string (strOfNums xs)) wE := hBoE.conv (P := Tryd.prog) n HN.out 27 5 Tryd.underlying27 Tryd.underlying5 9 Tryd.underlying9
             have hcv2 : (convert 27 9 (.slice a n c)).run Tryd.prog wE = .ok (.string (strOfNums xs)) wE := (hB.stays hbE').conv (P := Tryd.prog) n HN.out 27 5 Tryd.underlying27 Tryd.underlying5 9 Tryd.underlying9))
        go_ret
        exact ⟨by simp, hbE'⟩

end Go.Proofs.YthbcphalokoknaaDoor
