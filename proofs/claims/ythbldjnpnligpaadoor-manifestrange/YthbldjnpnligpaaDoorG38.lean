/-
  The laws' helpers: whole, fresh.
-/
import Derived.Test.YthbldjnpnligpaaDoorG37
import Derived.Test.YthbldjnpnligpaaDoorG27
import Derived.Test.YthbldjnpnligpaaDoorG26
import Derived.Test.YthbldjnpnligpaaDoorG14
import Derived.Test.YthbldjnpnligpaaDoorG32
import Derived.Test.YthbldjnpnligpaaDoorG33
namespace Go.Proofs.YthbldjnpnligpaaDoor
set_option linter.unusedSimpArgs false
set_option linter.unusedVariables false
set_option maxRecDepth 100000
open Go.RowKit

set_option maxHeartbeats 4000000 in
theorem whole9_run (ba : Option Addr) (bc : Nat) (bs : List Int) (w : World) (hB : Bs w ba bc bs) (hl : bs.length ≤ 300) :
    Calls Tryd.prog 71 #[.slice ba bs.length bc] w fun e w' => ∃ a c, e = .returned (.slice a (wholeL bs).length c) ∧ NewB w.heap.size w' a c (wholeL bs) ∧ Below w.heap.size w w' := by
  have hi : (Tryd.prog.info? 5).map (fun i => (i.zero, i.size, i.bytes)) = some (some (.int .u8 0), 1, 1) := by kernel_rfl
  obtain ⟨i0, hi0, hz0, hz1, hz2⟩ := info_parts hi
  obtain ⟨nz, hnz⟩ : ∃ nz, nz = 256 - bs.length := ⟨_, rfl⟩
  have hpr := wholeL_rng hB.rng
  obtain ⟨C, hC⟩ : ∃ C, C = (bs.length : Int) % 256 := ⟨_, rfl⟩
  have hCr : 0 ≤ C ∧ C ≤ 255 := by omega
  rw [← hC] at hpr
  obtain ⟨R, hR⟩ : ∃ R, R = wholeL bs := ⟨_, rfl⟩
  have HR : Hid (R = bs ++ List.replicate nz C) := by show _ = _; rw [hR, hnz, hC]; rfl
  rw [← hR]
  obtain ⟨L, hL⟩ : ∃ L, L = bs.length := ⟨_, rfl⟩
  have HL : Hid (L = bs.length) := hL
  rw [← hL] at hnz hl hC
  have hwrap : IntKind.u8.wrap (L : Int) = C := by rw [hC]; simp [IntKind.wrap, IntKind.bits, IntKind.signed]
  rw [← hL]
  clear hR hC hL
  have hown0 : (w.alloc (.cells #[] 5)).ownsRow w.heap.size 5 1 (.slice (some ⟨w.heap.size, 0, none⟩) 0 0) ([] : List Int).length (([] : List Int).map (Value.int .u8)) :=
    World.ownsRow_made w #[] 0 (Nat.le_refl _) (by decide) rfl
  have hbA : Below w.heap.size w (w.alloc (.cells #[] 5)) := (Below.refl _ _).alloc (Nat.le_refl _) _
  go_enter Tryd.func71, Tryd.ntmps71
  go_wp2_with (at_builtin; go_must (refine wpList_append_bytes (w0 := w) (by rfl) (.tmp 4) (.tmp 5) 43 (by rfl) w.heap.size 5 i0 Tryd.underlying43 hi0 hz0 hz1 hz2 _ [] (by rfl) hown0 ba L bc bs (by rfl) HL.out (hB.stays ((Below.refl _ _).alloc (Nat.le_refl _) _)) (by have := HL.out; simp; omega) (by simp) hbA ?_); rw [List.nil_append]; intro v1 w1 hown1 hb1)
  clear hbA hown0
  go_loopw [3] (fun v wr => ∃ k : Nat, k ≤ nz ∧ wr.ownsRow w.heap.size 5 1 v (bs ++ List.replicate k C).length ((bs ++ List.replicate k C).map (Value.int .u8)) ∧ Below w.heap.size w wr) (fun v _ => L + nz - lenV8 v)
  case atStart => exact ⟨0, by omega, by simpa using hown1, hb1⟩
  case round =>
    clear hown1 hb1
    rename_i hrel
    obtain ⟨k, hk, hown, hbel⟩ := hrel
    obtain ⟨Z, hZ⟩ : ∃ Z, Z = bs ++ List.replicate k C := ⟨_, rfl⟩
    have hZr := hpr k
    have hZl : Z.length = L + k := by rw [hZ, HL.out]; simp
    rw [← hZ] at hown hZr
    obtain ⟨a3, c3, rfl, hB3⟩ := Bs.of_owns hown hZr
    obtain ⟨M, hM⟩ : ∃ M, M = Z.length := ⟨_, rfl⟩
    have HM : Hid (M = Z.length) := hM
    rw [← hM] at hZl ⊢
    have hsr := hbel.size
    by_cases hend : k = nz
    · have hfin : NewB w.heap.size wr a3 c3 R ∧ R.length = M := by
        have hZR : Z = R := by rw [HR.out, hZ, hend]
        rw [← hZR]
        exact ⟨⟨hB3, fun x hx => by subst hx; exact (World.ownsRow.lt hown x.block rfl).1⟩, hM.symm⟩
      have hge : ¬ ((M : Int) < 256) := by omega
      have hge' : decide ((M : Int) < 256) = false := by simp; omega
      clear hend hZ hZl hnz hM hown
      go_wp2
      go_ret
      exact ⟨a3, c3, rfl, hfin.1, hbel⟩
    · have HZ : Hid (bs ++ List.replicate (k + 1) C = Z ++ [C]) := by unfold Hid; rw [hZ, List.replicate_succ', List.append_assoc]
      have hlt : (M : Int) < 256 := by omega
      have hlt' : decide ((M : Int) < 256) = true := by simp; omega
      have hBC : ∀ u : World, Bs (u.alloc (.cells #[.int .u8 C] 5)) (some ⟨u.heap.size, 0, none⟩) 1 [C] := fun u => Bs.one u C hCr _
      have hkn : k < nz := by omega
      have HZl : Hid (M = L + k) := hZl
      have hown' : wr.ownsRow w.heap.size 5 1 (.slice a3 M c3) Z.length (Z.map (Value.int .u8)) := by rw [hM]; exact hown
      clear hown hZ hZl hnz hM hB3 hend
      go_wp2_with (at_builtin; go_must (refine wpList_append_bytes (w0 := w) (by rfl) (.tmp 10) (.tmp 14) 43 (by rfl) w.heap.size 5 i0 Tryd.underlying43 hi0 hz0 hz1 hz2 _ Z (by rfl) (hown'.alloc _) (some ⟨wr.heap.size, 0, none⟩) 1 1 [C] (by rfl) (by rfl) (hBC _) (by have := HM.out; simp; omega) (by simp; omega) (hbel.alloc (by omega) _) ?_); intro v4 w4 hown4 hb4)
      go_roundw
      case rel => exact ⟨k + 1, by omega, by rw [HZ.out]; exact hown4, hb4⟩
      case measure =>
        obtain ⟨a4, c4, rfl, _⟩ := Bs.of_owns hown4 (HZ.out ▸ hpr (k + 1))
        have := HZl.out
        have := HM.out
        simp [lenV8]
        omega

/-- A fact that has a footprint goes on beside. -/
def With (I : (Nat → Prop) → World → Prop) (F : Nat → Prop) (R : World → Prop) (N : Nat → Prop) (w : World) : Prop := I (fun j => N j ∨ F j) w ∧ R w ∧ (∀ j, F j → j < w.heap.size) ∧ ∀ j, F j → ¬ N j
theorem With.frame {B : Nat} {I : (Nat → Prop) → World → Prop} {F : Nat → Prop} {R : World → Prop} (hF : Frame B I) (hR : ∀ w w', R w → (∀ j, F j → j < w.heap.size → w'.heap[j]? = w.heap[j]?) → w.heap.size ≤ w'.heap.size → R w') : Frame B (With I F R) where
  size h := hF.size h.1
  new h hb hN := ⟨hF.new h.1 hb (fun j hj => by rcases hj with hj | hj; exact (hN j hj).imp .inl id; exact .inl (.inr hj)), hR _ _ h.2.1 (fun j hj hl => hb.block j hl) hb.size, fun j hj => Nat.lt_of_lt_of_le (h.2.2.1 j hj) hb.size, fun j hj hn => by
    rcases hN j hn with h1 | h1
    · exact h.2.2.2 j hj h1
    · have := h.2.2.1 j hj; omega⟩
  set {_ w w'} {m} h hb hm hB := ⟨hF.set h.1 hb (.inl hm) hB, hR _ _ h.2.1 (fun j hj hl => hb.block j (fun e => h.2.2.2 j hj (e ▸ hm)) hl) hb.size, fun j hj => Nat.lt_of_lt_of_le (h.2.2.1 j hj) hb.size, h.2.2.2⟩
  grown {_ _ w w'} row h hg hM hN := ⟨hF.grown h.1 hg (fun j hj => ⟨.inl (hM j hj).1, (hM j hj).2⟩) (fun j hj => by rcases hj with hj | hj; exact (hN j hj).imp .inl id; exact .inl (.inr hj)),
    hR _ _ h.2.1 (fun j hj hl => hg.block j hl (fun e => h.2.2.2 j hj (hM j e.symm).1)) hg.size, fun j hj => Nat.lt_of_lt_of_le (h.2.2.1 j hj) hg.size, fun j hj hn => by
    rcases hN j hn with h1 | h1
    · exact h.2.2.2 j hj h1
    · have := h.2.2.1 j hj; omega⟩
/-- A fact that is new is held beside. -/
theorem Sep.hold {B : Nat} {I : (Nat → Prop) → World → Prop} {w w' : World} {L : List Ent} {T : List Sli} (h : Sep B I w L T) (hb : Below w.heap.size w w') {F : Nat → Prop} {R : World → Prop} (hF : ∀ j, F j → w.heap.size ≤ j ∧ j < w'.heap.size) (hw : R w')
    (hR : ∀ w w', R w → (∀ j, F j → j < w.heap.size → w'.heap[j]? = w.heap[j]?) → w.heap.size ≤ w'.heap.size → R w') : Sep B (With I F R) w' L T := by
  have hs := h.stays hb
  have hlt : ∀ j, mine L T j → j < w.heap.size := fun j hj => by
    rcases hj with ⟨e', he, rfl⟩ | ⟨s', hs', y, hy, rfl⟩
    · exact (h.blk e' he).1.lt
    · exact ((h.sl s' hs').2 y hy).2.1
  exact ⟨With.frame h.fr hR, ⟨h.fr.new h.inv hb (fun j hj => by rcases hj with hj | hj; exact .inl hj; exact .inr (hF j hj)), hw, fun j hj => (hF j hj).2, fun j hj hn => by have := (hF j hj).1; have := hlt j hn; omega⟩, hs.blk, hs.nd, hs.sl⟩
section
variable {B : Nat} {I : (Nat → Prop) → World → Prop} {w w' : World} {L : List Ent} {T : List Sli} {P : Program} {g off n m : Nat} {t e : TypeId} {vs us : List Value} {v : Value}
/-- What a load behind tells. -/
theorem Sep.ld (h : Sep B I w L T) (hb : Below w.heap.size w w') (hT : Ty P t n) (hm : (⟨g, e, n, vs⟩ : Ent) ∈ L) : (Instr.loadAt t (.pointer (some ⟨g, 0, none⟩))).run P w' = .ok (.agg vs.toArray) w' :=
  run_load_blk hT.1 hT.2 ((h.blk _ hm).1.stays hb) (whole_load (h.vals hm).1) (h.vals hm).1
theorem Sep.ldp (h : Sep B I w L T) (hb : Below w.heap.size w w') (hT : Ty P t n) (hm : (⟨g, e, m, vs⟩ : Ent) ∈ L) (hu : us = (vs.drop off).take n) (hl : us.length = n) : (Instr.loadAt t (.pointer (some ⟨g, off, none⟩))).run P w' = .ok (.agg us.toArray) w' :=
  run_load_blk hT.1 hT.2 ((h.blk _ hm).1.stays hb) hu hl
theorem Sep.ld1 (h : Sep B I w L T) (hb : Below w.heap.size w w') (hT : Ty1 P t) (hm : (⟨g, e, m, vs⟩ : Ent) ∈ L) (hv : vs[off]? = some v) : (Instr.loadAt t (.pointer (some ⟨g, off, none⟩))).run P w' = .ok v w' := by
  have hc := ((h.blk _ hm).1.stays hb).cell off
  simp only [hv] at hc
  simp [Instr.loadAt, Instr.sureAddr, loadVar, hT.1, Sem.run_bind, hc]
theorem sep_ret_ttc {a : Act} {fn : Func} {R : Ending → World → Prop} {p q r : Tmp} {v' : Value} (h : Sep B I w L T) (hf : fn.results = #[.tmp q, .tmp r, .cell p t]) (hd : a.defers = []) (hp : a.tmps.getD p undef = .pointer (some ⟨g, 0, none⟩)) (hq : a.tmps.getD q undef = v) (hq' : a.tmps.getD r undef = v') (hT : Ty P t n) (hm : (⟨g, e, n, us⟩ : Ent) ∈ L)
    (hR : R (.returned (.tuple #[v, v', .agg us.toArray])) w) : bodyPost P fn R .ret a w := by
  refine bodyPost_ret_by (v := .tuple #[v, v', .agg us.toArray]) ?_ hd hR
  have hr := sep_load_run h hT hm
  rw [Array.getD_eq_getD_getElem?] at hp hq hq'
  simp [results, hf, hp, hq, hq', asAddr, Sem.run_bind, hr]
end

theorem agg_rbank9 (w : World) : (isAgg 36).run Tryd.prog w = .ok true w := isAgg_struct (show Tryd.prog.underlying 36 = some (.struct (Tryd.prog.fieldsOf 36)) by kernel_rfl) w
theorem ty_rbank : Ty Tryd.prog 36 7 := ⟨agg_rbank9, fun w => sizeOf_run (by kernel_rfl) w⟩
theorem ty_rdisk : Ty Tryd.prog 30 5 := ⟨fun w => isAgg_struct (show Tryd.prog.underlying 30 = some (.struct (Tryd.prog.fieldsOf 30)) by kernel_rfl) w, fun w => sizeOf_run (by kernel_rfl) w⟩
theorem ty_rmap : Ty Tryd.prog 33 1 := ⟨agg_rmap, size_rmap⟩
theorem al_rbank : ∃ zs, (∀ w, (Instr.alloc 36 true (.tuple #[])).run Tryd.prog w = .ok (.pointer (some ⟨w.heap.size, 0, none⟩)) (w.alloc (.cells zs.toArray 36))) ∧ Vals 7 zs :=
  ⟨[Value.slice none 0 0, .slice none 0 0, .bool false, .int .i64 0, .bool false, .slice none 0 0, .int .u32 0], fun w => by kernel_rfl, rfl, by simp [Value.oneCell']⟩
theorem al_rdisk : ∃ zs, (∀ w, (Instr.alloc 30 true (.tuple #[])).run Tryd.prog w = .ok (.pointer (some ⟨w.heap.size, 0, none⟩)) (w.alloc (.cells zs.toArray 30))) ∧ Vals 5 zs :=
  ⟨[Value.slice none 0 0, .slice none 0 0, .bool false, .int .i64 0, .bool false], fun w => by kernel_rfl, rfl, by simp [Value.oneCell']⟩
theorem al_rmap : ∃ zs, (∀ w, (Instr.alloc 33 true (.tuple #[])).run Tryd.prog w = .ok (.pointer (some ⟨w.heap.size, 0, none⟩)) (w.alloc (.cells zs.toArray 33))) ∧ Vals 1 zs :=
  ⟨[Value.slice none 0 0], fun w => by kernel_rfl, rfl, by simp [Value.oneCell']⟩
theorem rf_cells9 {w : World} {G : Nat → Prop} {cs : List Value} {S : DS} (h : Rf w G cs S) : ∃ sa sn sc wa wn wc fu lf of, cs = [Value.slice sa sn sc, .slice wa wn wc, .bool fu, .int .i64 lf, .bool of] := by
  obtain ⟨n, sa, sc, wa, wc, hok, rfl, hs, hw⟩ := h
  exact ⟨_, _, _, _, _, _, _, _, _, rfl⟩
theorem build_rbank9 (sa : Option Addr) (sn sc : Nat) (wa : Option Addr) (wn wc : Nat) (fu : Bool) (lf : Int) (of : Bool) (q n c : Nat) (w : World) : (Instr.build 36 [(0, Value.agg [Value.slice sa sn sc, .slice wa wn wc, .bool fu, .int .i64 lf, .bool of].toArray), (1, .agg #[.slice (some ⟨q, 0, none⟩) n c]), (2, .int .u32 7)].toArray).run Tryd.prog w = .ok (.agg [Value.slice sa sn sc, .slice wa wn wc, .bool fu, .int .i64 lf, .bool of, .slice (some ⟨q, 0, none⟩) n c, .int .u32 7].toArray) w := by kernel_rfl

set_option maxHeartbeats 8000000 in
theorem fresh9_run (n : Nat) (h16 : 16 ≤ n) (h512 : n ≤ 512) (w : World) : Calls Tryd.prog 22 #[.int .i64 (n : Int)] w fun e w' => ∃ k p g bv, e = .returned (.tuple #[.pointer (some ⟨k, 0, none⟩), .pointer (some ⟨p, 0, none⟩), .agg bv]) ∧ (∃ vs, bv = vs.toArray ∧ Vals 7 vs) ∧ BS w w' (fun _ => False) k p g (DS.new n) (lab n 4) 7 := by
  have hnd : ∀ u, Below w.heap.size w u → Calls Tryd.prog 45 #[.int .i64 (n : Int)] u fun e w' => ∃ p b, e = .returned (.tuple #[.pointer (some ⟨p, 0, none⟩), .int .i64 0]) ∧ w.heap.size ≤ b ∧ u.heap.size ≤ b ∧ Dk w' (fun j => b ≤ j) p (DS.new n) ∧ Below u.heap.size u w' := fun u hu => by
    refine (dk_new n u h16 h512).mono ?_
    rintro e w' ⟨p, rfl, hD, hb⟩
    exact ⟨p, _, rfl, hu.size, Nat.le_refl _, hD, hb⟩
  have hnm : ∀ u, Below w.heap.size w u → Calls Tryd.prog 46 #[.int .i64 (n : Int)] u fun e w' => ∃ mg, e = .returned (.tuple #[.pointer (some ⟨mg, 0, none⟩), .int .i64 0]) ∧ w.heap.size ≤ mg ∧ u.heap.size ≤ mg ∧ Mp w' mg (lab n 4) ∧ Below u.heap.size u w' := fun u hu => by
    refine (snew_run n h16 h512 u).mono ?_
    rintro e w' ⟨rfl, hM, hb⟩
    exact ⟨_, rfl, hu.size, Nat.le_refl _, hM, hb⟩
  have hrd := fun u => rnew_run n u h16 h512
  have hrm := fun u => srnew_run n h16 h512 u
  have hov : ∀ (b p g : Nat) (u : World), b ≤ u.heap.size → Calls Tryd.prog 47 #[.pointer (some ⟨p, 0, none⟩), .pointer (some ⟨g, 0, none⟩), .int .u32 7] u fun e w' => ∃ v, e = .returned v ∧ Below u.heap.size u w' ∧ blkT 133 b (bankV p g 7) v w' := fun b p g u hu =>
    (over_run p g 7 u).mono fun e w' hh => ⟨_, hh.1, hh.2.2, _, rfl, hu, hh.2.1⟩
  obtain ⟨zb, hab, hzb⟩ := al_rbank
  obtain ⟨zd, had, hzd⟩ := al_rdisk
  obtain ⟨zm, ham, hzm⟩ := al_rmap
  have HSZ : Hid ((lab n 4).length = (DS.new n).laid.length / 256 ∧ Lab (lab n 4)) := ⟨by rw [lab_len]; unfold DS.new; simp, Lab.lab (by omega)⟩
  obtain ⟨S, hS⟩ : ∃ S, S = DS.new n := ⟨_, rfl⟩
  obtain ⟨ml, hml⟩ : ∃ ml, ml = lab n 4 := ⟨_, rfl⟩
  rw [← hS] at hnd HSZ ⊢
  rw [← hml] at hnm HSZ ⊢
  have hs := PI.start w
  clear hS hml
  go_enter Tryd.func22, Tryd.ntmps22
  go_wp2_with (first
    | (refine sep_alloc hs rfl rfl (by first | exact ⟨hab, hzb⟩ | exact ⟨had, hzd⟩ | exact ⟨ham, hzm⟩) ?_; clear hs; intro w1 g1 hs)
    | (go_at_call 45; go_must (refine (hnd _ hs.below).mono ?_); rintro e w1 ⟨p, b, rfl, hb0, hbu, hD, hb1⟩; obtain ⟨z, hz⟩ : ∃ z, z = w1.heap.size := ⟨_, rfl⟩; replace hs := hs.hold hb1 (F := fun j => b ≤ j ∧ j < z) (R := fun u => Dk u (fun j => b ≤ j ∧ j < z) p S) (fun j hj => ⟨Nat.le_trans hbu hj.1, hz ▸ hj.2⟩) (hD.mono (fun j hj hl => ⟨hj, hz ▸ hl⟩)) (fun u u' hR hk _ => hR.keep hk); clear hb1 hD hz hbu)
    | (go_at_call 46; go_must (refine (hnm _ hs.inv.1.1).mono ?_); rintro e w1 ⟨mg, rfl, hm0, hmu, hM, hb1⟩; have HML := hM.blk.lt; replace hs := hs.hold hb1 (F := fun j => j = mg) (R := fun u => Mp u mg ml) (fun j hj => by rw [hj]; exact ⟨hmu, HML⟩) hM (fun u u' hR hk _ => ⟨by have := hR.blk; unfold Blk at *; rw [hk _ rfl (by have := hR.blk.lt; exact this)]; exact this, hR.lo, hR.hi⟩); clear hb1 hM HML hmu)
    | (go_at_call 48; go_must (refine (hrd _).mono ?_); rintro e w1 ⟨dc, rfl, hrf, hb1⟩; replace hs := hs.stays hb1; obtain ⟨sa, sn, sc, wa, wn, wc, fu, lf, of, rfl⟩ := rf_cells9 hrf; have hdv : Vals 5 [Value.slice sa sn sc, .slice wa wn wc, .bool fu, .int .i64 lf, .bool of] := ⟨rfl, by simp [Value.oneCell']⟩; clear hb1 hrf)
    | (go_at_call 49; go_must (refine (hrm _).mono ?_); rintro e w1 ⟨q, cq, rfl, hT, hq, hb1⟩; replace hs := hs.stays hb1; have hmv : Vals 1 [Value.slice (some ⟨q, 0, none⟩) n cq] := ⟨rfl, by simp [Value.oneCell']⟩; clear hb1 hT hq)
    | (refine sep_storew hs rfl rfl (by rfl) (by rfl) (by repeat (first | exact Upd.head | apply Upd.tail)) (by first | exact ty_rdisk | exact ty_rmap) (by first | exact hdv | exact hmv) ?_; clear hs; intro w1 hs))
  have hbv : Vals 7 [Value.slice sa sn sc, .slice wa wn wc, .bool fu, .int .i64 lf, .bool of, .slice (some ⟨q, 0, none⟩) n cq, .int .u32 7] := ⟨rfl, by simp [Value.oneCell']⟩
  have HBB : Hid _ := build_rbank9 sa sn sc wa wn wc fu lf of q n cq
  clear hnd hnm hrd hrm hab had ham
  refine UpT.wp_region_tail 9 (UpT.tell [(2, blkT 133 w1.heap.size (bankV p mg 7))]) (fun _ => false) (by kernel_rfl) (by kernel_rfl) (UpT.tell_steady _ (by
    intro p hp
    simp only [List.mem_cons, List.not_mem_nil, or_false] at hp
    rcases hp with rfl <;> first | exact isV_steady _ | exact slB_steady _ _ | exact blkT_steady _ _ _)) ?_
  simp only [List.take_succ_cons, List.take_zero]
  iterate 2 (apply UpT.wpUp_pure; (case hw => rfl); (case hψ => rfl); (case hv => (intro wz hp; clear hp; go_simp; try (with_reducible rfl))); simp only [Act.put, List.setIfInBounds_toArray, List.set_cons_zero, List.set_cons_succ])
  refine UpT.wpUp_call _ 47 #[.pointer (some ⟨p, 0, none⟩), .pointer (some ⟨mg, 0, none⟩), .int .u32 7] (by rfl) (by rfl) (by rfl) (fun wz => by go_simp) (fun wz hp => hov _ p mg wz hp.1.size) ?_
  rintro v ⟨u, _, hf⟩
  obtain ⟨k, rfl, hk1, hk2⟩ := hf.of 2 v _ rfl rfl
  clear hf hk1 hk2
  simp only [Act.put, List.setIfInBounds_toArray, List.set_cons_zero, List.set_cons_succ]
  iterate 1 (apply UpT.wpUp_pure; (case hw => rfl); (case hψ => rfl); (case hv => (intro wz hp; clear hp; go_simp; try (with_reducible rfl))); simp only [Act.put, List.setIfInBounds_toArray, List.set_cons_zero, List.set_cons_succ])
  refine UpT.wpUp_pure (.agg [Value.slice sa sn sc, .slice wa wn wc, .bool fu, .int .i64 lf, .bool of].toArray) (by rfl) (by rfl) (fun wz hp => exec_load (by rfl) (by rfl) (hs.ld hp.1 ty_rdisk (by repeat (first | exact List.Mem.head _ | apply List.Mem.tail)))) ?_
  simp only [Act.put, List.setIfInBounds_toArray, List.set_cons_zero, List.set_cons_succ]
  refine UpT.wpUp_pure (.agg [Value.slice (some ⟨q, 0, none⟩) n cq].toArray) (by rfl) (by rfl) (fun wz hp => exec_load (by rfl) (by rfl) (hs.ld hp.1 ty_rmap (by repeat (first | exact List.Mem.head _ | apply List.Mem.tail)))) ?_
  simp only [Act.put, List.setIfInBounds_toArray, List.set_cons_zero, List.set_cons_succ]
  refine UpT.wpUp_pure (.agg [Value.slice sa sn sc, .slice wa wn wc, .bool fu, .int .i64 lf, .bool of, .slice (some ⟨q, 0, none⟩) n cq, .int .u32 7].toArray) (by rfl) (by rfl) (fun wz hp => exec_buildL [(0, .tmp 52), (1, .tmp 53), (2, .const (.int .u32 7))] (by rfl) [(0, .agg [Value.slice sa sn sc, .slice wa wn wc, .bool fu, .int .i64 lf, .bool of].toArray), (1, .agg #[.slice (some ⟨q, 0, none⟩) n cq]), (2, .int .u32 7)] (by rfl) (HBB.out wz)) ?_
  simp only [Act.put, List.setIfInBounds_toArray, List.set_cons_zero, List.set_cons_succ]
  iterate 2 (apply UpT.wpUp_pure; (case hw => rfl); (case hψ => rfl); (case hv => (intro wz hp; clear hp; go_simp; try (with_reducible rfl))); simp only [Act.put, List.setIfInBounds_toArray, List.set_cons_zero, List.set_cons_succ])
  refine UpT.wpUp_end ?_
  intro w2 hb2 hf
  simp only [List.drop_succ_cons, List.drop_zero]
  obtain ⟨k2, he, hk1, hk2⟩ := hf.of 2 _ _ rfl rfl
  obtain rfl : k = k2 := by simpa using he
  have HKL := hk2.lt
  have hk0 : w.heap.size ≤ k := Nat.le_trans (hs.fr.size hs.inv) hk1
  have HF : ∀ j, j = k → w1.heap.size ≤ j ∧ j < w2.heap.size := fun j hj => by rw [hj]; exact ⟨hk1, HKL⟩
  have HR : ∀ u u' : World, Blk 133 u k (bankV p mg 7) → (∀ j, j = k → j < u.heap.size → u'.heap[j]? = u.heap[j]?) → u.heap.size ≤ u'.heap.size → Blk 133 u' k (bankV p mg 7) := fun u u' hR hk _ => by
    have h1 := hR.lt
    unfold Blk at *
    rw [hk _ rfl h1]; exact hR
  replace hs := hs.hold hb2 HF hk2 HR
  clear hf he hk1 hk2 HKL hb2 HF HR
  go_wp2_with (refine sep_storew hs rfl rfl (by rfl) (by rfl) (by repeat (first | exact Upd.head | apply Upd.tail)) ty_rbank hbv ?_; clear hs; intro w1 hs)
  refine sep_ret_ttc hs rfl rfl (by rfl) (by rfl) (by rfl) ty_rbank (by repeat (first | exact List.Mem.head _ | apply List.Mem.tail)) ⟨k, p, mg, _, rfl, ⟨_, rfl, hbv⟩, ?_⟩
  obtain ⟨⟨⟨⟨hb, hlt⟩, hD, hDl, hDn⟩, hM, hMl, hMn⟩, hK, hKl, hKn⟩ := hs.inv
  refine ⟨_, ⟨hD, hM, hK, fun j hj => ⟨Nat.le_trans hb0 hj.1, hDl j hj⟩, fun h1 => hDn _ h1 (.inr rfl), fun h1 => hDn _ h1 (.inl (.inr rfl)), hm0, hk0, HSZ.out.1, HSZ.out.2, by omega⟩, hb, fun j hj => hj.elim⟩

end Go.Proofs.YthbldjnpnligpaaDoor

/-
  tree.both: two nodes beside each other.
-/

namespace Go.Proofs.YthbldjnpnligpaaDoor
set_option linter.unusedSimpArgs false
set_option linter.unusedVariables false
set_option maxRecDepth 100000
open Go.RowKit

section
variable {w0 w : World} {M : Nat → Prop} {k p g : Nat} {S : DS} {l : List Bool} {n kk : Nat}

/-- What both nodes read, where the same pointer is not read. -/
def bothL (q r : Pt) (ns ms : List Pt) : List Pt × List Pt := if q.same r = true then (zeros4, zeros4) else (ns, ms)

set_option maxHeartbeats 8000000 in
theorem both_run9 (h : BS w0 w M k p g S l 7) (hV : Vars w0) (hg : Good n kk S) {q r : Pt} {ns ms : List Pt} (hn : Node S kk q ns) (hm : Node S kk r ms) :
    Calls Tryd.prog 72 #[.pointer (some ⟨k, 0, none⟩), .agg q.vs.toArray, .agg r.vs.toArray] w fun e w' => e = .returned (.tuple #[.agg (fourV (bothL q r ns ms).1).toArray, .agg (fourV (bothL q r ns ms).2).toArray, .int .i64 0]) ∧ Below w.heap.size w w' := by
  have hqo := hn.ok hg.klt
  have hro := hm.ok hg.klt
  have hqv := vals_ptr hqo
  have hrv := vals_ptr hro
  have hn1 := node_later h hV hg hn
  have hn2 := node_later h hV hg hm
  have hnv := vals_four hn.four
  have hmv := vals_four hm.four
  have hzv := vals_four Four.zeros
  have heq : ∀ u, (Op.equalIn 10000 42 (.agg q.vs.toArray) (.agg r.vs.toArray)).run Tryd.prog u = .ok (q.same r) u := fun u => equal_ptr hqo hro 9997 u
  have hs := PI.start w
  have hal := al_four
  unfold bothL
  cases hqr : q.same r
  · rw [hqr] at heq
    simp only [if_neg (show ¬ (false = true) by decide)]
    obtain ⟨vs, hvs⟩ : ∃ vs, vs = q.vs := ⟨_, rfl⟩
    rw [← hvs] at hqv hn1 heq ⊢
    obtain ⟨us, hus⟩ : ∃ us, us = r.vs := ⟨_, rfl⟩
    rw [← hus] at hrv hn2 heq ⊢
    obtain ⟨fn, hfn⟩ : ∃ fn, fn = fourV ns := ⟨_, rfl⟩
    rw [← hfn] at hn1 hnv ⊢
    obtain ⟨fm, hfm⟩ : ∃ fm, fm = fourV ms := ⟨_, rfl⟩
    rw [← hfm] at hn2 hmv ⊢
    obtain ⟨zf, hzf⟩ : ∃ zf, zf = fourV zeros4 := ⟨_, rfl⟩
    rw [← hzf] at hal hzv
    clear hvs hus hfn hfm h hV hg hn hm hqr hqo hro hzf
    go_enter Tryd.func72, Tryd.ntmps72
    go_wp2_with (first
      | (refine sep_box hs rfl rfl (by rfl) hqv ?_; clear hs; intro w1 g1 hs)
      | (refine sep_box hs rfl rfl (by rfl) hrv ?_; clear hs; intro w1 g1 hs)
      | (refine sep_alloc hs rfl rfl hal ?_; clear hs; intro w1 g1 hs)
      | (refine sep_loadw hs rfl rfl (by rfl) (by repeat (first | exact List.Mem.head _ | apply List.Mem.tail)) (by first | exact ty_ptr | exact ty_four) ?_)
      | (refine sep_storew hs rfl rfl (by rfl) (by rfl) (by repeat (first | exact Upd.head | apply Upd.tail)) ty_four (by assumption) ?_; clear hs; intro w1 hs)
      | (go_at_call_of 123 (Value.agg vs.toArray); refine (hn1 _ hs.below).mono ?_; rintro e w1 ⟨rfl, hb1⟩; replace hs := hs.stays hb1; clear hb1)
      | (go_at_call_of 123 (Value.agg us.toArray); refine (hn2 _ hs.below).mono ?_; rintro e w1 ⟨rfl, hb1⟩; replace hs := hs.stays hb1; clear hb1))
    clear hn1 hn2 heq hal hqv hrv
    refine wp_region_any (by kernel_rfl) ?_
    change wpAny _ _ _ _ _ _ _ (World.drew _)
    replace hs := hs.stays (Below.refl _ _).drew
    refine any_take 2 rfl (some 33) rfl (.int .i64 0) (by kernel_rfl) (by kernel_rfl) (by kernel_rfl) (fun _ _ _ h => h) (Or.inl ⟨by rfl, fun w => by go_simp⟩) ?_
    simp only [Act.put, List.setIfInBounds_toArray, List.set_cons_succ, List.set_cons_zero]
    refine sep_any2 0 1 (by kernel_rfl) rfl rfl (fun K hK => sep_step_loadw hs rfl rfl (by rfl) (by repeat (first | exact List.Mem.head _ | apply List.Mem.tail)) ty_four (hK _ _ ?_)) (fun K hK => sep_step_loadw hs rfl rfl (by rfl) (by repeat (first | exact List.Mem.head _ | apply List.Mem.tail)) ty_four (hK _ _ ?_))
    · simp only [Act.put, List.setIfInBounds_toArray, List.set_cons_succ, List.set_cons_zero]
      refine sep_any2 1 3 (by kernel_rfl) rfl rfl (fun K hK => sep_step_loadw hs rfl rfl (by rfl) (by repeat (first | exact List.Mem.head _ | apply List.Mem.tail)) ty_four (hK _ _ ?_)) (fun K hK => sep_step_storew hs rfl rfl (by rfl) (by rfl) (by repeat (first | exact Upd.head | apply Upd.tail)) ty_four (by assumption) (fun w1 hs => hK _ _ ?_))
      · simp only [Act.put, List.setIfInBounds_toArray, List.set_cons_succ, List.set_cons_zero]
        refine sep_any1 3 (by kernel_rfl) rfl (fun K hK => sep_step_storew hs rfl rfl (by rfl) (by rfl) (by repeat (first | exact Upd.head | apply Upd.tail)) ty_four (by assumption) (fun w1 hs => hK _ _ ?_))
        simp only [Act.put, List.setIfInBounds_toArray, List.set_cons_succ, List.set_cons_zero]
        refine any_seq 4 (by rfl) (by kernel_rfl) ?_
        simp only [List.drop_succ_cons, List.drop_zero]
        go_wp2_with (refine sep_storew hs rfl rfl (by rfl) (by rfl) (by repeat (first | exact Upd.head | apply Upd.tail)) ty_four (by assumption) ?_; clear hs; intro w1 hs)
        exact sep_ret_cct hs rfl rfl (by rfl) (by rfl) (by rfl) ty_four (by repeat (first | exact List.Mem.head _ | apply List.Mem.tail)) (by repeat (first | exact List.Mem.head _ | apply List.Mem.tail)) ⟨rfl, hs.below⟩
      · simp only [Act.put, List.setIfInBounds_toArray, List.set_cons_succ, List.set_cons_zero]
        refine sep_any1 1 (by kernel_rfl) rfl (fun K hK => sep_step_loadw hs rfl rfl (by rfl) (by repeat (first | exact List.Mem.head _ | apply List.Mem.tail)) ty_four (hK _ _ ?_))
        simp only [Act.put, List.setIfInBounds_toArray, List.set_cons_succ, List.set_cons_zero]
        refine any_seq 4 (by rfl) (by kernel_rfl) ?_
        simp only [List.drop_succ_cons, List.drop_zero]
        go_wp2_with (refine sep_storew hs rfl rfl (by rfl) (by rfl) (by repeat (first | exact Upd.head | apply Upd.tail)) ty_four (by assumption) ?_; clear hs; intro w1 hs)
        exact sep_ret_cct hs rfl rfl (by rfl) (by rfl) (by rfl) ty_four (by repeat (first | exact List.Mem.head _ | apply List.Mem.tail)) (by repeat (first | exact List.Mem.head _ | apply List.Mem.tail)) ⟨rfl, hs.below⟩
    · simp only [Act.put, List.setIfInBounds_toArray, List.set_cons_succ, List.set_cons_zero]
      refine sep_any1 0 (by kernel_rfl) rfl (fun K hK => sep_step_loadw hs rfl rfl (by rfl) (by repeat (first | exact List.Mem.head _ | apply List.Mem.tail)) ty_four (hK _ _ ?_))
      simp only [Act.put, List.setIfInBounds_toArray, List.set_cons_succ, List.set_cons_zero]
      refine sep_any1 3 (by kernel_rfl) rfl (fun K hK => sep_step_storew hs rfl rfl (by rfl) (by rfl) (by repeat (first | exact Upd.head | apply Upd.tail)) ty_four (by assumption) (fun w1 hs => hK _ _ ?_))
      simp only [Act.put, List.setIfInBounds_toArray, List.set_cons_succ, List.set_cons_zero]
      refine any_seq 4 (by rfl) (by kernel_rfl) ?_
      simp only [List.drop_succ_cons, List.drop_zero]
      go_wp2_with (refine sep_storew hs rfl rfl (by rfl) (by rfl) (by repeat (first | exact Upd.head | apply Upd.tail)) ty_four (by assumption) ?_; clear hs; intro w1 hs)
      exact sep_ret_cct hs rfl rfl (by rfl) (by rfl) (by rfl) ty_four (by repeat (first | exact List.Mem.head _ | apply List.Mem.tail)) (by repeat (first | exact List.Mem.head _ | apply List.Mem.tail)) ⟨rfl, hs.below⟩
  · rw [hqr] at heq
    simp only [if_true]
    obtain ⟨vs, hvs⟩ : ∃ vs, vs = q.vs := ⟨_, rfl⟩
    rw [← hvs] at hqv hn1 heq ⊢
    obtain ⟨us, hus⟩ : ∃ us, us = r.vs := ⟨_, rfl⟩
    rw [← hus] at hrv hn2 heq ⊢
    obtain ⟨zf, hzf⟩ : ∃ zf, zf = fourV zeros4 := ⟨_, rfl⟩
    rw [← hzf] at hal hzv ⊢
    clear hvs hus h hV hg hn hm hqr hqo hro hn1 hn2 hzf
    go_enter Tryd.func72, Tryd.ntmps72
    go_wp2_with (first
      | (refine sep_box hs rfl rfl (by rfl) hqv ?_; clear hs; intro w1 g1 hs)
      | (refine sep_box hs rfl rfl (by rfl) hrv ?_; clear hs; intro w1 g1 hs)
      | (refine sep_alloc hs rfl rfl hal ?_; clear hs; intro w1 g1 hs)
      | (refine sep_loadw hs rfl rfl (by rfl) (by repeat (first | exact List.Mem.head _ | apply List.Mem.tail)) (by first | exact ty_ptr | exact ty_four) ?_)
      | (refine sep_storew hs rfl rfl (by rfl) (by rfl) (by repeat (first | exact Upd.head | apply Upd.tail)) ty_four (by assumption) ?_; clear hs; intro w1 hs))
    clear heq hal hqv hrv hnv hmv
    refine wp_region_any (by kernel_rfl) ?_
    change wpAny _ _ _ _ _ _ _ (World.drew _)
    replace hs := hs.stays (Below.refl _ _).drew
    refine sep_any2 0 1 (by kernel_rfl) rfl rfl (fun K hK => sep_step_loadw hs rfl rfl (by rfl) (by repeat (first | exact List.Mem.head _ | apply List.Mem.tail)) ty_four (hK _ _ ?_)) (fun K hK => sep_step_loadw hs rfl rfl (by rfl) (by repeat (first | exact List.Mem.head _ | apply List.Mem.tail)) ty_four (hK _ _ ?_))
    · simp only [Act.put, List.setIfInBounds_toArray, List.set_cons_succ, List.set_cons_zero]
      refine sep_any2 1 2 (by kernel_rfl) rfl rfl (fun K hK => sep_step_loadw hs rfl rfl (by rfl) (by repeat (first | exact List.Mem.head _ | apply List.Mem.tail)) ty_four (hK _ _ ?_)) (fun K hK => sep_step_storew hs rfl rfl (by rfl) (by rfl) (by repeat (first | exact Upd.head | apply Upd.tail)) ty_four (by assumption) (fun w1 hs => hK _ _ ?_))
      · simp only [Act.put, List.setIfInBounds_toArray, List.set_cons_succ, List.set_cons_zero]
        refine sep_any1 2 (by kernel_rfl) rfl (fun K hK => sep_step_storew hs rfl rfl (by rfl) (by rfl) (by repeat (first | exact Upd.head | apply Upd.tail)) ty_four (by assumption) (fun w1 hs => hK _ _ ?_))
        simp only [Act.put, List.setIfInBounds_toArray, List.set_cons_succ, List.set_cons_zero]
        refine any_seq 3 (by rfl) (by kernel_rfl) ?_
        simp only [List.drop_succ_cons, List.drop_zero]
        go_wp2_with (refine sep_storew hs rfl rfl (by rfl) (by rfl) (by repeat (first | exact Upd.head | apply Upd.tail)) ty_four (by assumption) ?_; clear hs; intro w1 hs)
        exact sep_ret_cct hs rfl rfl (by rfl) (by rfl) (by rfl) ty_four (by repeat (first | exact List.Mem.head _ | apply List.Mem.tail)) (by repeat (first | exact List.Mem.head _ | apply List.Mem.tail)) ⟨rfl, hs.below⟩
      · simp only [Act.put, List.setIfInBounds_toArray, List.set_cons_succ, List.set_cons_zero]
        refine sep_any1 1 (by kernel_rfl) rfl (fun K hK => sep_step_loadw hs rfl rfl (by rfl) (by repeat (first | exact List.Mem.head _ | apply List.Mem.tail)) ty_four (hK _ _ ?_))
        simp only [Act.put, List.setIfInBounds_toArray, List.set_cons_succ, List.set_cons_zero]
        refine any_seq 3 (by rfl) (by kernel_rfl) ?_
        simp only [List.drop_succ_cons, List.drop_zero]
        go_wp2_with (refine sep_storew hs rfl rfl (by rfl) (by rfl) (by repeat (first | exact Upd.head | apply Upd.tail)) ty_four (by assumption) ?_; clear hs; intro w1 hs)
        exact sep_ret_cct hs rfl rfl (by rfl) (by rfl) (by rfl) ty_four (by repeat (first | exact List.Mem.head _ | apply List.Mem.tail)) (by repeat (first | exact List.Mem.head _ | apply List.Mem.tail)) ⟨rfl, hs.below⟩
    · simp only [Act.put, List.setIfInBounds_toArray, List.set_cons_succ, List.set_cons_zero]
      refine sep_any1 0 (by kernel_rfl) rfl (fun K hK => sep_step_loadw hs rfl rfl (by rfl) (by repeat (first | exact List.Mem.head _ | apply List.Mem.tail)) ty_four (hK _ _ ?_))
      simp only [Act.put, List.setIfInBounds_toArray, List.set_cons_succ, List.set_cons_zero]
      refine sep_any1 2 (by kernel_rfl) rfl (fun K hK => sep_step_storew hs rfl rfl (by rfl) (by rfl) (by repeat (first | exact Upd.head | apply Upd.tail)) ty_four (by assumption) (fun w1 hs => hK _ _ ?_))
      simp only [Act.put, List.setIfInBounds_toArray, List.set_cons_succ, List.set_cons_zero]
      refine any_seq 3 (by rfl) (by kernel_rfl) ?_
      simp only [List.drop_succ_cons, List.drop_zero]
      go_wp2_with (refine sep_storew hs rfl rfl (by rfl) (by rfl) (by repeat (first | exact Upd.head | apply Upd.tail)) ty_four (by assumption) ?_; clear hs; intro w1 hs)
      exact sep_ret_cct hs rfl rfl (by rfl) (by rfl) (by rfl) ty_four (by repeat (first | exact List.Mem.head _ | apply List.Mem.tail)) (by repeat (first | exact List.Mem.head _ | apply List.Mem.tail)) ⟨rfl, hs.below⟩
end

end Go.Proofs.YthbldjnpnligpaaDoor

/-
  As UpT, where the first operations, in any order, are followed by the other ones in a given order; of these, moves, extracts and assignments may come up earlier.
-/

namespace Go.Proofs.YthbldjnpnligpaaDoor.UpT
set_option linter.unusedSimpArgs false
set_option linter.unusedVariables false
set_option maxRecDepth 100000
open Go

section
variable {P : Program} {ops : Array Oper} {md : Region.Mode} {R : World → World → Prop} {w0 : World} {Ψ : Nat → Option (Value → World → Prop)} {S : Nat → Bool} {Qf : Act → Env → Prop}

def headT (md : Region.Mode) (ops : Array Oper) (T : Array Bool → Bool) : Nat → Nat → Array Bool → Bool
  | 0, _, listed => T listed
  | f + 1, k, listed => (Region.ready md ops listed).contains k && Region.free md ops listed k && headT md ops T f (k + 1) (listed.setIfInBounds k true)

theorem lexS {n : Nat} {T : Array Bool → Bool} (hT : ∀ listed, T listed = true → ∀ j ∈ Region.ready md ops listed, n ≤ j) (ht : ∀ u v w, R u v → R v w → R u w) (hst : ∀ k ψ, Ψ k = some ψ → ∀ v w w', R w w' → ψ v w → ψ v w') (hR : ∀ w w', R w w' → w.heap.size ≤ w'.heap.size) (hs : Region.noSelect ops = true)
    (hsk : Region.sinkB md ops n = true) (hch : Chain md ops n) (hn : n < ops.size) :
    ∀ (l : List Oper) (k : Nat) (listed : Array Bool) (a : Act) (E : Env), (∀ j, j < l.length → l[j]? = ops[k + j]?) → k + l.length = n → HeadInv md ops n listed → headT md ops T l.length k listed = true → (∀ k, listed.getD k true = false → E k = none) →
      wpUp P ops md R w0 Ψ S Qf l k a E → anyL P ops md R w0 Ψ S n (fun listed' a' E' => T listed' = true ∧ Qf a' E') l.length listed a E
  | [], k, _, _, _, _, hk, _, hB, _, h => by
    have : k = n := by simpa using hk
    subst this
    exact fun _ => ⟨by simpa [headT] using hB, h⟩
  | o :: l, k, listed, a, E, hl, hk, inv, hB, hE, h => by
    have h0 : ops[k]? = some o := by simpa using (hl 0 (by simp)).symm
    simp only [List.length_cons, headT, Bool.and_eq_true] at hB
    obtain ⟨⟨hr, hf⟩, hB'⟩ := hB
    have hkn : k < n := by simp only [List.length_cons] at hk; omega
    have hk' : k + 1 + l.length = n := by simp only [List.length_cons] at hk; omega
    have hr' : k ∈ Region.ready md ops listed := by simpa using hr
    have hl' : ∀ j, j < l.length → l[j]? = ops[k + 1 + j]? := fun j hj => by have := hl (j + 1) (by simp; omega); simpa [Nat.add_assoc, Nat.add_comm 1 j] using this
    have hd : ∀ listed' (a' : Act) (E' : Env), (T listed' = true ∧ Qf a' E') → ∀ j ∈ Region.ready md ops listed', n ≤ j := fun listed' a' E' hL => hT _ hL.1
    unfold wpUp at h
    by_cases hw : Region.wanted o (yielded ops a.tmps) = true
    · simp only [hw, if_true] at h
      cases hψ : Ψ k with
      | none =>
        simp only [hψ] at h
        obtain ⟨v, hv, hn'⟩ := h
        exact firstP2 h0 (Region.noSelect_spec hs) hsk hch hn hkn hd l.length listed a E inv (Region.free_spec h0 hf) hr' hE (.inl ⟨hw, hψ, hv⟩) (lexS hT ht hst hR hs hsk hch hn l (k + 1) _ _ E hl' hk' (inv.set hr' hkn) hB' (unlisted hE (.inl rfl)) hn')
      | some ψ =>
        simp only [hψ] at h
        obtain ⟨hm, hn'⟩ := h
        exact firstM2 ht hst hR h0 (Region.noSelect_spec hs) hsk hch hn hkn hd l.length listed a E inv (Region.free_spec h0 hf) hr' hE ⟨hw, hψ, hm⟩ (fun v hv => lexS hT ht hst hR hs hsk hch hn l (k + 1) _ _ _ hl' hk' (inv.set hr' hkn) hB' (unlisted hE (.inr ⟨v, rfl⟩)) (hn' v hv))
    · simp only [hw] at h
      exact firstP2 h0 (Region.noSelect_spec hs) hsk hch hn hkn hd l.length listed a E inv (Region.free_spec h0 hf) hr' hE (.inr ⟨by simpa using hw, rfl⟩) (lexS hT ht hst hR hs hsk hch hn l (k + 1) _ _ E hl' hk' (inv.set hr' hkn) hB' (unlisted hE (.inl rfl)) h)

/-- Moves, extracts, assignments. -/
def light (o : Oper) : Bool := match o.op with
  | .move _ => true
  | .extract _ _ => true
  | .assign _ => true
  | _ => false
/-- The order is a right one. -/
def seqF (md : Region.Mode) (ops : Array Oper) : List Nat → Array Bool → Bool
  | [], listed => (Region.ready md ops listed).isEmpty
  | i :: is, listed => (decide (Region.ready md ops listed = [i]) || ((Region.ready md ops listed).contains i && Region.free md ops listed i && ((ops[i]?).map light).getD false)) && seqF md ops is (listed.setIfInBounds i true)
def opsAt (ops : Array Oper) (is : List Nat) : List Oper := is.filterMap fun i => ops[i]?

theorem light_yields {o : Oper} (hl : light o = true) {a : Act} {w : World} {K : Act → World → Prop} {Mid : Act → World → Prop} (h : if Region.wanted o (yielded ops a.tmps) = true then o.wp P a w K (midQ Mid) ∨ (o.asks P a w ∧ LetsOut (midQ Mid)) else K (a.put o.dst undef) w) :
    ∃ v, Yields P ops o v a ∧ K (a.put o.dst v) w := by
  have hout : ¬ LetsOut (midQ Mid) := fun ⟨_, _, h⟩ => h
  by_cases hw : Region.wanted o (yielded ops a.tmps) = true
  · rw [if_pos hw] at h
    rcases h with h | h
    · have hdet : (∃ v, ∀ u, (execOp a.eval o).run P u = .ok (.value v) u) ∨ (∀ v u, (execOp a.eval o).run P w ≠ .ok v u) := by
        obtain ⟨dst, op, ty, pos, aft, gd⟩ := o
        cases op <;> simp only [light, Bool.false_eq_true] at hl
        case move x => exact .inl ⟨a.eval x, fun u => by simp [execOp, Sem.run_pure]⟩
        case assign x => exact .inl ⟨a.eval x, fun u => by simp [execOp, Sem.run_pure]⟩
        case extract x i =>
          by_cases hx : ∃ vs, a.eval x = .tuple vs
          · obtain ⟨vs, hx⟩ := hx
            cases hv : vs[i]? with
            | some v => exact .inl ⟨v, fun u => by simp [execOp, Instr.extract, hx, hv, Sem.run_pure, Sem.run_bind]⟩
            | none => exact .inr (fun v u => by simp [execOp, Instr.extract, hx, hv, Sem.run_pure, Sem.run_bind])
          · exact .inr (fun v u => by
              cases hy : a.eval x <;> first | (simp [execOp, Instr.extract, hy, Sem.run_pure, Sem.run_bind]; done) | exact (hx ⟨_, hy⟩).elim)
      rcases hdet with ⟨v, hv⟩ | hno
      · refine ⟨v, .inl ⟨hw, hv⟩, ?_⟩
        unfold Oper.wp at h
        rw [hv w] at h
        exact h
      · exfalso
        unfold Oper.wp at h
        generalize (execOp a.eval o).run P w = r at h hno
        cases r with
        | ok v u => exact hno v u rfl
        | halt x u => cases x <;> simp only [Oper.upon] at h <;> exact h.elim
    · exact (hout h.2).elim
  · rw [if_neg hw] at h
    exact ⟨undef, .inr ⟨by simpa using hw, rfl⟩, h⟩

theorem wpAny_of_seqF {Mid : Act → World → Prop} (hs : Region.noSelect ops = true) : ∀ (is : List Nat) (listed : Array Bool) (a : Act) (w : World), (∀ i ∈ is, i < ops.size) →
    seqF md ops is listed = true → wpList P ops (midQ Mid) (opsAt ops is) a w → wpAny P md ops (midQ Mid) is.length listed a w
  | [], listed, a, w, _, hB, h => ⟨by simpa [seqF] using hB, h⟩
  | i :: is, listed, a, w, hi, hB, h => by
    have hlt : i < ops.size := hi i List.mem_cons_self
    have h0 : ops[i]? = some ops[i] := Array.getElem?_eq_getElem hlt
    simp only [seqF, Bool.and_eq_true, Bool.or_eq_true, decide_eq_true_eq] at hB
    obtain ⟨hB1, hB2⟩ := hB
    have hl : opsAt ops (i :: is) = ops[i] :: opsAt ops is := by unfold opsAt; rw [List.filterMap_cons, h0]
    rw [hl] at h
    have ih := fun a w => wpAny_of_seqF (Mid := Mid) hs is (listed.setIfInBounds i true) a w (fun j hj => hi j (List.mem_cons_of_mem _ hj)) hB2
    rcases hB1 with hB1 | ⟨⟨hr, hf⟩, hlight⟩
    · refine ⟨fun h1 => (by rw [h1] at hB1; cases hB1), fun j hj => ?_⟩
      rw [hB1] at hj
      obtain rfl : j = i := by simpa using hj
      have hw : wpOp P ops (midQ Mid) j (wpList P ops (midQ Mid) (opsAt ops is)) a w := by unfold wpOp; simp only [h0]; exact h
      exact wpOp_mono (fun a' w' h' => ih a' w' h') hw
    · rw [h0] at hlight
      simp only [Option.map_some, Option.getD_some] at hlight
      obtain ⟨v, hy, hK⟩ := light_yields (ops := ops) hlight h
      exact wpAny_take h0 hs hf hr (fun c a w h => h.elim) hy (ih _ _ hK)
end

def seqAll (md : Region.Mode) (ops : Array Oper) (n : Nat) (ord : List Nat) : Bool :=
  Region.noSelect ops && decide (n < ops.size) && Region.sinkB md ops n && chainM md ops n && decide (ord.length = ops.size - n) && ord.all (fun i => decide (n ≤ i) && decide (i < ops.size)) && headT md ops (seqF md ops ord) n 0 (Array.replicate ops.size false)

open Go.RowKit in
theorem wp_region_seq {P : Program} {id : Nat} {Q : Exit → Act → World → Prop} {a : Act} {w : World} {l : List Oper} (n : Nat) (ord : List Nat) (Ψ : Nat → Option (Value → World → Prop)) (S : Nat → Bool) (hm : P.follows .mixedOrders = true) (hB : seqAll .any l.toArray n ord = true)
    (hst : ∀ k ψ, Ψ k = some ψ → ∀ v w w', Below w.heap.size w w' → ψ v w → ψ v w')
    (h : Held (wpUp P l.toArray .any (fun w w' => Below w.heap.size w w') w Ψ S (fun a' E => ∀ w', Below w.heap.size w w' → Facts Ψ S E w' → wpList P l.toArray (midQ fun a2 w2 => Q .normal a2 w2) (opsAt l.toArray ord) a' w') (l.take n) 0 a (fun _ => none))) : (Code.region id l.toArray true).wp P Q a w := by
  have ht : ∀ u v w : World, Below u.heap.size u v → Below v.heap.size v w → Below u.heap.size u w := fun u v w h1 h2 => h1.trans (h2.mono h1.size)
  have hR : ∀ u v : World, Below u.heap.size u v → u.heap.size ≤ v.heap.size := fun u v h => h.size
  simp only [seqAll, Bool.and_eq_true, decide_eq_true_eq] at hB
  obtain ⟨⟨⟨⟨⟨⟨hsel, hn⟩, hs⟩, hc⟩, hol⟩, hoi⟩, hlex⟩ := hB
  have hn' : n < l.length := by simpa using hn
  have htl : (l.take n).length = n := by simp; omega
  have hoi2 : ∀ i ∈ ord, n ≤ i ∧ i < l.toArray.size := fun i hi => by
    have := List.all_eq_true.1 hoi i hi
    simpa using this
  have hTT : ∀ listed, seqF .any l.toArray ord listed = true → ∀ j ∈ Region.ready .any l.toArray listed, n ≤ j := by
    intro listed
    have key : ∀ (is : List Nat) (listed : Array Bool), (∀ i ∈ is, n ≤ i) → seqF .any l.toArray is listed = true → ∀ j ∈ Region.ready .any l.toArray listed, n ≤ j := by
      intro is
      induction is with
      | nil =>
        intro listed _ hB j hj
        simp only [seqF, List.isEmpty_iff] at hB
        rw [hB] at hj; cases hj
      | cons i is ih =>
        intro listed hi hB j hj
        simp only [seqF, Bool.and_eq_true, Bool.or_eq_true, decide_eq_true_eq] at hB
        by_cases hji : j = i
        · rw [hji]; exact hi i List.mem_cons_self
        · exact ih _ (fun k hk => hi k (List.mem_cons_of_mem _ hk)) hB.2 j (ready_mono hj hji)
    exact key ord listed (fun i hi => (hoi2 i hi).1)
  have inv0 : HeadInv .any l.toArray n (Array.replicate l.toArray.size false) :=
    ⟨by simp, fun j oj _ hl => (by rw [getD_replicate_false] at hl; cases hl), fun t _ ht => getD_in (by simpa using ht) (getD_replicate_false _ _)⟩
  have H := lexS (md := .any) hTT ht hst hR hsel hs hc hn (l.take n) 0 _ a (fun _ => none) (fun j hj => by
    have hj' : j < n := by rw [htl] at hj; exact hj
    simp [hj']) (by simpa using htl) inv0 (by rw [htl]; exact hlex) (fun _ _ => rfl) h.out
  refine wp_mid (fun _ a2 w2 => Q .normal a2 w2) ?_ (fun _ _ h => h)
  refine wp_region_any hm ?_
  have := soundL (Q := midQ fun a2 w2 => Q .normal a2 w2) (g := l.toArray.size - n) ht hst hR (fun listed a' E w' h1 h2 hL => by
    have h3 := wpAny_of_seqF hsel ord listed a' w' (fun i hi => (hoi2 i hi).2) hL.1 (hL.2 w' h1 h2)
    rwa [hol] at h3) _ _ _ _ { w with drawn := w.drawn + 1 } (Below.refl _ _).drew ⟨fun k v ψ hk _ => (by cases hk), fun k g _ hk => (by cases hk), fun k j g g' _ _ _ hk _ => (by cases hk)⟩ H
  rw [htl, show n + (l.toArray.size - n) = l.toArray.size by omega] at this
  exact this
end Go.Proofs.YthbldjnpnligpaaDoor.UpT
