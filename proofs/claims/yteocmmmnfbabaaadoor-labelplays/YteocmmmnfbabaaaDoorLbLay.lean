/-
  The walks over label.Lay and the document's.
-/
import Derived.Test.YteocmmmnfbabaaaDoorLbChoose
namespace Go.Proofs.YteocmmmnfbabaaaDoor
set_option linter.unusedSimpArgs false
set_option linter.unusedVariables false
set_option maxRecDepth 100000
open Go.RowKit

/-- Lay's answer: what the disk holds then, and the error. -/
def layL (S : DS) (l : Lb) : DS × Int :=
  if l.may then (if (S.write (plc l.t : Int) l.bytes).2 = 0 then (S.write (plc l.t : Int) l.bytes).1.write ((plc l.t + 1 : Nat) : Int) l.bytes else S.write (plc l.t : Int) l.bytes) else (S, 1)

theorem write_code (S : DS) (i : Int) (xs : List Int) : 0 ≤ (S.write i xs).2 ∧ (S.write i xs).2 ≤ 8 := by
  unfold DS.write
  repeat' split
  all_goals simp only
  all_goals omega

section
variable {w : World} {F : Nat → Prop} {p : Nat} {S : DS}

set_option maxHeartbeats 8000000 in
theorem lay_bad (h : Dk w F p S) (l : Lb) (hl : l.ok) (a : Option Addr) (c : Nat) (hB : Bs w a c l.m) (hV : Vars w) (hm : l.may = false) :
    Calls Tryd.prog 20 #[.pointer (some ⟨p, 0, none⟩), .agg (l.vs a c).toArray] w fun e w' => e = .returned (.int .i64 1) ∧ Below w.heap.size w w' := by
  have hvl := Lb.vs_len hl.p a c
  have henc : ∀ u, Below w.heap.size w u → Calls Tryd.prog 9 #[.agg (l.vs a c).toArray] u fun e w' => e = .returned (.tuple #[.slice none 0 0, .int .i64 1]) ∧ Below u.heap.size u w' := fun u hu => lencode_bad l hl a c u (by have h1 := hB.cap; have h2 := hB.capm; unfold maxLen at h2; omega) hm
  obtain ⟨vs, hvs⟩ : ∃ vs, vs = l.vs a c := ⟨_, rfl⟩
  rw [← hvs] at hvl henc ⊢
  clear hvs
  go_enter Tryd.func20, Tryd.ntmps20
  go_wp2_with (first
    | ((with_reducible show wpList _ _ _ (Oper.mk _ (Op.box _ _) _ _ _ _ :: _) _ _); refine wpList_box0 (by rfl) 29 (.tmp 1) (by rfl) vs (by rfl) ?_; intro w1 hL1 hb1 hs1
       have he1 := henc w1 hb1)
    | ((with_reducible show wpList _ _ _ (Oper.mk _ (Op.load _ _) _ _ _ _ :: _) _ _); refine wpList_load_blk (by rfl) (.tmp 3) 29 (by rfl) _ 0 37 (by rfl) agg_label size_label hL1 _ (whole_load hvl) hvl ?_)
    | (go_at_call 9; go_must (refine he1.mono ?_); rintro e w2 ⟨rfl, hb2⟩))
  go_ret
  exact ⟨rfl, below_then hb1 hb2⟩

set_option maxHeartbeats 20000000 in
theorem lay_ok (h : Dk w F p S) (hF : ∀ k, F k → k < w.heap.size) (l : Lb) (hl : l.ok) (a : Option Addr) (c : Nat) (hB : Bs w a c l.m) (hV : Vars w) (hlen : S.ws.length ≤ 900000) (hm : l.may = true) :
    Calls Tryd.prog 20 #[.pointer (some ⟨p, 0, none⟩), .agg (l.vs a c).toArray] w fun e w' => e = .returned (.int .i64 (layL S l).2) ∧ Then F w w' p (layL S l).1 := by
  have hvl := Lb.vs_len hl.p a c
  have henc : ∀ u, Below w.heap.size w u → Calls Tryd.prog 9 #[.agg (l.vs a c).toArray] u fun e w' => ∃ g, e = .returned (.tuple #[.slice (some ⟨g, 0, none⟩) 256 256, .int .i64 0]) ∧ u.heap.size ≤ g ∧ Row 5 w' g l.bytes ∧ Below u.heap.size u w' := fun u hu => lencode_ok l hl a c u (hB.stays hu) (hV.stays hu) hm
  have h256 := Lb.bytes_len hl.p (Lb.may_parts hm).2
  have hbr := Lb.bytes_rng hl
  have hpl := places_run l.t hl.t
  have HT : Hid ((l.vs a c)[0]? = some (.int .u32 (l.t : Int))) := Lb.vs_txg l a c
  obtain ⟨vs, hvs⟩ : ∃ vs, vs = l.vs a c := ⟨_, rfl⟩
  rw [← hvs] at hvl henc HT ⊢
  unfold layL
  rw [hm, if_pos rfl]
  obtain ⟨bs, hbs⟩ : ∃ bs, bs = l.bytes := ⟨_, rfl⟩
  rw [← hbs] at h256 hbr henc ⊢
  obtain ⟨q, hq⟩ : ∃ q, q = plc l.t := ⟨_, rfl⟩
  obtain ⟨q1, hq1⟩ : ∃ q1 : Nat, q1 = q + 1 := ⟨_, rfl⟩
  unfold placesV at hpl
  rw [← hq, ← hq1] at hpl
  rw [← hq, ← hq1]
  have hwl : (S.write (q : Int) bs).1.ws.length ≤ 1000000 := by have := write_len S (q : Int) bs; omega
  clear hvs hbs hq hq1 hm
  have hix0 : ∀ u : World, (Instr.index 34 (.agg #[.int .i64 (q : Int), .int .i64 (q1 : Int)]) (.int .i64 0)).run Tryd.prog u = .ok (.int .i64 (q : Int)) u := fun u => index_agg (j := 0) Tryd.underlying34 Tryd.underlying3 (by kernel_rfl) (by omega) rfl .i64 u
  have hix1 : ∀ u : World, (Instr.index 34 (.agg #[.int .i64 (q : Int), .int .i64 (q1 : Int)]) (.int .i64 1)).run Tryd.prog u = .ok (.int .i64 (q1 : Int)) u := fun u => index_agg (j := 1) Tryd.underlying34 Tryd.underlying3 (by kernel_rfl) (by omega) rfl .i64 u
  obtain ⟨S1, hS1⟩ : ∃ S1, S1 = (S.write (q : Int) bs).1 := ⟨_, rfl⟩
  obtain ⟨e1, he1'⟩ : ∃ e1, e1 = (S.write (q : Int) bs).2 := ⟨_, rfl⟩
  have HW : Hid (S.write (q : Int) bs = (S1, e1)) := by show _ = _; rw [hS1, he1']
  rw [HW.out]
  rw [← hS1] at hwl
  clear hS1 he1'
  obtain ⟨S2, hS2⟩ : ∃ S2, S2 = (S1.write (q1 : Int) bs).1 := ⟨_, rfl⟩
  obtain ⟨e2, he2⟩ : ∃ e2, e2 = (S1.write (q1 : Int) bs).2 := ⟨_, rfl⟩
  have HW2 : Hid (S1.write (q1 : Int) bs = (S2, e2)) := by show _ = _; rw [hS2, he2]
  rw [HW2.out]
  clear hS2 he2
  go_enter Tryd.func20, Tryd.ntmps20
  go_wp2_with (first
    | ((with_reducible show wpList _ _ _ (Oper.mk _ (Op.box _ _) _ _ _ _ :: _) _ _); refine wpList_box0 (by rfl) 29 (.tmp 1) (by rfl) vs (by rfl) ?_; intro w1 hL1 hb1 hs1
       have he1 := henc w1 hb1)
    | ((with_reducible show wpList _ _ _ (Oper.mk _ (Op.load _ _) _ _ _ _ :: _) _ _); refine wpList_load_blk (by rfl) (.tmp 3) 29 (by rfl) _ 0 37 (by rfl) agg_label size_label hL1 _ (whole_load hvl) hvl ?_)
    | (go_at_call 9; go_must (refine he1.mono ?_); rintro e w2 ⟨g, rfl, hg, hR2, hb2⟩
       have hL2 := hL1.stays hb2
       have hc0 : w2.cell? ⟨w.heap.size, 0, none⟩ = some (.int .u32 (l.t : Int)) := (hL2.cell 0).trans HT.out)
    | (go_at_call 11; go_must (refine (hpl _).mono ?_); rintro e w3 ⟨rfl, hb3⟩))
  have hBB3 : Bs w3 (some ⟨g, 0, none⟩) 256 bs := by
    have := Row.bs (e := 5) (w := w2) (g := g) (cur := bs) hR2 hbr (by rw [h256]; decide)
    rw [h256] at this
    exact this.stays hb3
  have hbW : Below w.heap.size w w3 := below_then (below_then hb1 hb2) hb3
  have hgn : w.heap.size ≤ g ∧ g < w3.heap.size := ⟨by have := hb1.size; omega, by have := Blk.lt (e := 5) hR2; have := hb3.size; omega⟩
  have hnF : ¬ F g := fun hf => by have := hF g hf; omega
  have hw1 : Calls Tryd.prog 49 #[.pointer (some ⟨p, 0, none⟩), .int .i64 (q : Int), .slice (some ⟨g, 0, none⟩) 256 256] w3 fun e w' => e = .returned (.int .i64 e1) ∧ Then F w3 w' p S1 := by
    have := dk_write (h.stays hbW) (q : Int) (some ⟨g, 0, none⟩) 256 bs hBB3 (fun x hx => by cases hx; exact hnF) (by omega)
    rw [h256, HW.out] at this
    exact this
  have hw2 : ∀ w4, Then F w3 w4 p S1 → Calls Tryd.prog 49 #[.pointer (some ⟨p, 0, none⟩), .int .i64 (q1 : Int), .slice (some ⟨g, 0, none⟩) 256 256] w4 fun e w' => e = .returned (.int .i64 e2) ∧ Then F w w' p S2 := fun w4 ht => by
    have hB4 : Bs w4 (some ⟨g, 0, none⟩) 256 bs := by
      refine ⟨hBB3.rng, hBB3.cap, hBB3.capm, hBB3.nul, ?_⟩
      rcases hBB3.lay with h0 | ⟨b, off, hbe, hcell⟩
      · exact .inl h0
      · refine .inr ⟨b, off, hbe, fun i hi => ?_⟩
        cases hbe
        rw [← hcell i hi]
        unfold World.cell?
        rw [ht.2.block g hnF hgn.2]
    have := dk_write ht.1 (q1 : Int) (some ⟨g, 0, none⟩) 256 bs hB4 (fun x hx => by cases hx; rintro (hf | hf); exact hnF hf; simp only at hf; omega) (by omega)
    rw [h256, HW2.out] at this
    refine this.mono ?_
    rintro e w' ⟨rfl, ht2⟩
    refine ⟨rfl, ht2.1.mono (fun k hk _ => ?_), ?_⟩
    · rcases hk with (hk | hk) | hk
      · exact .inl hk
      · exact .inr (by have := hbW.size; omega)
      · exact .inr (by have := hbW.size; have := ht.2.size; omega)
    · exact ⟨ht2.2.os.trans (ht.2.os.trans hbW.os), ht2.2.tape.trans (ht.2.tape.trans hbW.tape), ht2.2.output.trans (ht.2.output.trans hbW.output), by have := hbW.size; have := ht.2.size; have := ht2.2.size; omega,
        fun k hk hl => (ht2.2.block k (fun hh => hh.elim hk (fun h2 => by have := hbW.size; omega)) (by have := hbW.size; have := ht.2.size; omega)).trans ((ht.2.block k hk (by have := hbW.size; omega)).trans (hbW.block k hl))⟩
  have hth : ∀ w4, Then F w3 w4 p S1 → Then F w w4 p S1 := fun w4 ht => by
    refine ⟨ht.1.mono (fun k hk _ => ?_), ?_⟩
    · rcases hk with hk | hk
      · exact .inl hk
      · exact .inr (by have := hbW.size; omega)
    · exact ⟨ht.2.os.trans hbW.os, ht.2.tape.trans hbW.tape, ht.2.output.trans hbW.output, by have := hbW.size; have := ht.2.size; omega,
        fun k hk hl => (ht.2.block k hk (by have := hbW.size; omega)).trans (hbW.block k hl)⟩
  clear HW hwl hBB3 hR2 hL1 hL2 hc0 he1 henc hpl HW2
  go_loopw [21] (fun i wr => (i = .int .i64 0 ∧ wr = w3) ∨ (i = .int .i64 1 ∧ Then F w3 wr p S1 ∧ e1 = 0) ∨ (i = .int .i64 2 ∧ e1 = 0 ∧ Then F w wr p S2 ∧ e2 = 0)) (fun i _ => 2 - (intOf i).toNat)
  case atStart => exact .inl ⟨rfl, rfl⟩
  case round =>
    rename_i hrel
    rcases hrel with ⟨rfl, rfl⟩ | ⟨rfl, ht, he⟩ | ⟨rfl, he, ht, he'⟩
    · by_cases h0 : e1 = 0
      · have hn0 : (e1 != 0) = false := by rw [h0]; rfl
        have HE : Hid (e1 = 0) := h0
        clear h0
        go_wp2_with (first
          | (go_at_call 49; go_must (refine hw1.mono ?_); rintro e w4 ⟨rfl, ht4⟩))
        exact ⟨.inr (.inl ⟨rfl, ht4, HE.out⟩), by decide⟩
      · have hn0 : (e1 != 0) = true := by simpa using h0
        have HNE : Hid (¬ e1 = 0) := h0
        clear h0
        go_wp2_with (first
          | (go_at_call 49; go_must (refine hw1.mono ?_); rintro e w4 ⟨rfl, ht4⟩))
        go_ret
        first | exact ⟨rfl, hth _ ht4⟩ | (rw [if_neg HNE.out]; exact ⟨rfl, hth _ ht4⟩)
    · have hw2' := hw2 _ ht
      have HE1 : Hid (e1 = 0) := he
      by_cases h0 : e2 = 0
      · have hn0 : (e2 != 0) = false := by rw [h0]; rfl
        have HE : Hid (e1 = 0 ∧ e2 = 0) := ⟨he, h0⟩
        clear h0 he
        go_wp2_with (first
          | (go_at_call 49; go_must (refine hw2'.mono ?_); rintro e w5 ⟨rfl, ht5⟩))
        exact ⟨.inr (.inr ⟨rfl, HE.out.1, ht5, HE.out.2⟩), by decide⟩
      · have hn0 : (e2 != 0) = true := by simpa using h0
        clear h0 he
        go_wp2_with (first
          | (go_at_call 49; go_must (refine hw2'.mono ?_); rintro e w5 ⟨rfl, ht5⟩))
        go_ret
        first | exact ⟨rfl, ht5⟩ | (rw [if_pos HE1.out]; exact ⟨rfl, ht5⟩)
    · have HE1 : Hid (e1 = 0) := he
      have HE : Hid (e2 = 0) := he'
      clear he he' hw1 hw2
      go_wp2
      go_ret
      first | exact ⟨by rw [HE.out]; rfl, ht⟩ | exact ⟨rfl, ht⟩ | (rw [if_pos HE1.out]; exact ⟨by rw [HE.out]; rfl, ht⟩)

theorem labLay_run (h : Dk w F p S) (hF : ∀ k, F k → k < w.heap.size) (l : Lb) (hl : l.ok) (a : Option Addr) (c : Nat) (hB : Bs w a c l.m) (hV : Vars w) (hlen : S.ws.length ≤ 900000) :
    Calls Tryd.prog 20 #[.pointer (some ⟨p, 0, none⟩), .agg (l.vs a c).toArray] w fun e w' => e = .returned (.int .i64 (layL S l).2) ∧ Then F w w' p (layL S l).1 := by
  cases hm : l.may
  · refine (lay_bad h l hl a c hB hV hm).mono ?_
    rintro e w' ⟨rfl, hb⟩
    unfold layL
    rw [hm, if_neg (by decide)]
    exact ⟨rfl, then_same h hb⟩
  · exact lay_ok h hF l hl a c hB hV hlen hm
end

end Go.Proofs.YteocmmmnfbabaaaDoor
