/-
 The document's bank: over, by Sep.
-/
import Derived.Test.YthbldjnpnligpaaDoorB06
import Derived.Test.YthbldjnpnligpaaDoorB36
import Derived.Test.YthbldjnpnligpaaDoorB39
import Derived.Test.YthbldjnpnligpaaDoorB37
import Derived.Test.YthbldjnpnligpaaDoorB29
import Derived.Test.YthbldjnpnligpaaDoorB21
import Derived.Test.YthbldjnpnligpaaDoorB04
import Derived.Deep.CutRange
namespace Go.Proofs.YthbldjnpnligpaaDoor
set_option linter.unusedSimpArgs false
set_option linter.unusedVariables false
set_option maxRecDepth 100000
open Go.RowKit
section
variable {w w' : World} {G G' : Nat → Prop} {cs cs' : List Value} {S S' : DS} {l l' : List Bool} {t : Nat}
def xOf (q : Pt) (i : Nat) : Nat := if i = 0 then q.x else q.y
def preO (S : DS) (q : Pt) (b : List Int) (i : Nat) (s : DS × Nat) : Prop := (i = 0 ∧ s = (S, 0)) ∨ (i = 1 ∧ stepO b q.h S q.x (S, 0) = (s, 0)) ∨ (i = 2 ∧ overK S q b = (s, 0))
theorem preO_next {q : Pt} {b : List Int} {i : Nat} {s s' : DS × Nat} (hi : i < 2) (h : preO S q b i s) (h1 : stepO b q.h S (xOf q i) s = (s', 0)) : preO S q b (i + 1) s' := by
 rcases h with ⟨rfl, rfl⟩ | ⟨rfl, h2⟩ | ⟨rfl, _⟩
 · exact .inr (.inl ⟨rfl, h1⟩)
 · exact .inr (.inr ⟨rfl, by rw [over_next h2]; exact h1⟩)
 · omega
theorem preO_stop {q : Pt} {b : List Int} {i : Nat} {s s' : DS × Nat} {E : Int} (hi : i < 2) (h : preO S q b i s) (h1 : stepO b q.h S (xOf q i) s = (s', E)) (h0 : E ≠ 0) : overK S q b = (s', E) := by
 rcases h with ⟨rfl, rfl⟩ | ⟨rfl, h2⟩ | ⟨rfl, _⟩
 · exact over_first h1 h0
 · rw [over_next h2]; exact h1
 · omega
set_option maxHeartbeats 40000000 in
theorem rover_run (h : RB w G cs S l t) (hln : S.ws.length ≤ 800000) (q : Pt) (hq : q.ok) (hoff : S.off = false) (hm : q.may = true) (a : Option Addr) (c : Nat) (b : List Int) (hB : Bs w a c b) :
 Calls Tryd.prog 115 #[.agg cs.toArray, .agg q.vs.toArray, .slice a b.length c] w fun e w' => ∃ cs', e = .returned (.tuple #[.agg cs'.toArray, .int .i64 ((overK S q b).1.2 : Int), .int .i64 (overK S q b).2]) ∧ RBThen G w w' cs' (overK S q b).1.1 l t := by
 have hcv := Vals.bank h
 have hlk0 := fun u (hu : Below w.heap.size w u) => rlk_run (h.stays hu) (by omega) q hq
 have hlk1 : lookK S q = ((rightL S q.x q.h, rightL S q.y q.h), 0) := by unfold lookK okK; rw [hoff, hm]; rfl
 rw [hlk1] at hlk0
 have hvv : Vals 35 q.vs := ⟨Pt.vs_len hq, Pt.vs_one _⟩
 have HXC : Hid (∀ i, i < 2 → q.vs[33 + i]? = some (.int .u32 (xOf q i : Int)) ∧ xOf q i < 4294967296 ∧ (twoB (rightL S q.x q.h) (rightL S q.y q.h))[i]? = some (.bool (rightL S (xOf q i) q.h))) := fun i hi => by
  rcases (show i = 0 ∨ i = 1 by omega) with rfl | rfl
  · exact ⟨Pt.vs_x hq, hq.x, rfl⟩
  · exact ⟨Pt.vs_y hq, hq.y, rfl⟩
 have HSZ : Hid (l.length = S.laid.length / 256 ∧ l.length ≤ 512) := ⟨h.sz, h.mlen.2⟩
 have HBB : Hid (Bs w a c b) := hB
 obtain ⟨nb, hnb⟩ : ∃ nb, nb = b.length := ⟨_, rfl⟩
 have HNB : Hid (nb = b.length) := hnb
 have hs := h.sep
 have HPR : Hid (S.ws.length ≤ 800000 + 0 ∧ Vals 7 cs) := ⟨hln, hcv⟩
 have htv : Vals 2 (twoB (rightL S q.x q.h) (rightL S q.y q.h)) := ⟨rfl, twoB_one _ _⟩
 obtain ⟨tv, hte⟩ : ∃ tv, tv = twoB (rightL S q.x q.h) (rightL S q.y q.h) := ⟨_, rfl⟩
 obtain ⟨pv, hpe⟩ : ∃ pv, pv = q.vs := ⟨_, rfl⟩
 obtain ⟨zb, hze⟩ : ∃ zb, zb = [Value.slice none 0 0, .slice none 0 0, .bool false, .int .i64 0, .bool false, .slice none 0 0, .int .u32 0] := ⟨_, rfl⟩
 have hal := al_rbank1
 obtain ⟨zd, hzd⟩ : ∃ zd, zd = [Value.slice none 0 0, .slice none 0 0, .bool false, .int .i64 0, .bool false] := ⟨_, rfl⟩
 have hald := al_rdisk1
 rw [← hze] at hal
 rw [← hzd] at hald
 rw [← hte] at hlk0 htv
 rw [← hpe] at hlk0 hvv HXC
 rw [← hte] at HXC
 rw [← hnb, ← hpe]
 obtain ⟨R, hR⟩ : ∃ R, R = overK S q b := ⟨_, rfl⟩
 have HR : Hid (R = overK S q b) := hR
 rw [← hR]
 clear hlk1 hoff hm hq hte hpe hze hzd hnb hB hln h hR
 go_enter Tryd.func115, Tryd.ntmps115
 go_wp2_with (first
  | ((with_reducible show wpList _ _ _ (Oper.mk (some 3) (Op.box _ _) _ _ _ _ :: _) _ _); refine sep_box hs rfl rfl (by rfl) hcv ?_; clear hs; intro w1 gK hs)
  | (refine sep_box hs rfl rfl (by rfl) hvv ?_; clear hs; intro w1 gP hs)
  | ((with_reducible show wpList _ _ _ (Oper.mk (some 6) (Op.alloc _) _ _ _ _ :: _) _ _); refine sep_alloc hs rfl rfl hal ?_; clear hs; intro w1 gR hs)
  | (refine sep_alloc hs rfl rfl al_two1 ?_; clear hs; intro w1 gT hs)
  | (refine sep_loadw hs rfl rfl (by rfl) (by repeat (first | exact List.Mem.head _ | apply List.Mem.tail)) (by first | exact ty_rbank | exact ty_ptrz) ?_)
  | (go_at_call 60; go_must (refine (hlk0 _ hs.rbel).mono ?_); rintro e w1 ⟨rfl, hb1⟩; replace hs := hs.stays hb1; clear hb1)
  | (refine sep_storew hs rfl rfl (by rfl) (by rfl) (by repeat (first | exact Upd.head | apply Upd.tail)) ty_two htv ?_; clear hs; intro w1 hs))
 go_loopw [9, 12] (fun n x wr => ∃ (i k : Nat) (cs2 : List Value) (S2 : DS), n = .int .i64 (k : Int) ∧ x = .int .i64 (i : Int) ∧ i ≤ 2 ∧ Sep w.heap.size (RI w G [] cs2 S2 l t) wr (⟨gT, 46, 2, tv⟩ :: ⟨gR, 36, 7, zb⟩ :: ⟨gP, 42, 35, pv⟩ :: ⟨gK, 36, 7, cs2⟩ :: []) [] ∧ Hid (preO S q b i (S2, k) ∧ S2.ws.length ≤ 800000 + i ∧ Vals 7 cs2 ∧ k ≤ i ∧ S2.laid.length = S.laid.length)) (fun _ x _ => 2 - (intOf x).toNat)
 case atStart => exact ⟨0, 0, cs, S, rfl, rfl, by omega, hs, ⟨.inl ⟨rfl, rfl⟩, HPR.out.1, HPR.out.2, Nat.le_refl _, rfl⟩⟩
 case round =>
  clear hs HPR hcv hlk0 htv
  rename_i wr hrel
  obtain ⟨i, k, cs2, S2, rfl, rfl, hi, hs, hI⟩ := hrel
  by_cases hlt : i < 2
  · have hlm : (i : Int) < 2 := by omega
    obtain ⟨hxc, hx32, htx⟩ := HXC.out i hlt
    obtain ⟨sa, sc, hsec⟩ : ∃ sa sc, cs2[0]? = some (.slice sa l.length sc) := by obtain ⟨H, h1⟩ := hs.rb; exact h1.secsL
    obtain ⟨nl, hnl⟩ : ∃ nl, nl = l.length := ⟨_, rfl⟩
    have HNL : Hid (nl = l.length) := hnl
    rw [← hnl] at hsec
    have HSEC : Hid _ := hsec
    obtain ⟨x, hx⟩ : ∃ x, x = xOf q i := ⟨_, rfl⟩
    obtain ⟨g, hg⟩ : ∃ g, g = rightL S (xOf q i) q.h := ⟨_, rfl⟩
    have HG : Hid (g = rightL S x q.h ∧ x = xOf q i) := ⟨by rw [hx]; exact hg, hx⟩
    rw [← hg] at htx
    rw [← hx] at hxc hx32
    have HTX : Hid _ := htx
    have HXX : Hid _ := hxc
    have hib : ∀ u, (Instr.indexAt 46 (.pointer (some ⟨gT, 0, none⟩)) (.int .i64 (i : Int))).run Tryd.prog u = .ok (.pointer (some ⟨gT, i, none⟩)) u := fun u => by
        have := index_ptr (P := Tryd.prog) (t := 46) (e := 4) (n := 2) (m := 1) (g := gT) (off := 0) (K := .i64) (j := i) Tryd.underlying46 (by kernel_rfl) hlt u
        rw [this, Nat.mul_one, Nat.zero_add]
    have hixa : ∀ u, (Instr.indexAt 40 (.pointer (some ⟨gP, 33, none⟩)) (.int .i64 (i : Int))).run Tryd.prog u = .ok (.pointer (some ⟨gP, 33 + i, none⟩)) u := fun u => by
        have := index_ptr (P := Tryd.prog) (t := 40) (e := 34) (n := 2) (m := 1) (g := gP) (off := 33) (K := .i64) (j := i) Tryd.underlying40 (by kernel_rfl) hlt u
        rw [this, Nat.mul_one]
    have hwr : IntKind.u64.wrap (x : Int) = (x : Int) := by rw [IntKind.wrap_u64]; omega
    have hwi : IntKind.i64.wrap (x : Int) = (x : Int) := by rw [IntKind.wrap_i64]; omega
    have hwn : IntKind.u64.wrap (nl : Int) = (nl : Int) := by have := HSZ.out.2; rw [IntKind.wrap_u64]; omega
    obtain ⟨sk, hsk⟩ : ∃ sk : Bool, sk = decide (g = true ∨ x = 0 ∨ ¬ x < nl) := ⟨_, rfl⟩
    have HSK : Hid (sk = decide (g = true ∨ x = 0 ∨ ¬ x < nl)) := hsk
    clear hsec hnl hx hg htx hxc hsk
    go_upto_region 6 with fail
    go_cut [47] from 21 to 67 (fun c wx => c = .bool sk ∧ Sep w.heap.size (RI w G [] cs2 S2 l t) wx (⟨gT, 46, 2, tv⟩ :: ⟨gR, 36, 7, zb⟩ :: ⟨gP, 42, 35, pv⟩ :: ⟨gK, 36, 7, cs2⟩ :: []) [])
    case first =>
        have hways : (g = true) ∨ (g = false ∧ x = 0) ∨ (g = false ∧ x ≠ 0 ∧ nl ≤ x) ∨ (g = false ∧ x ≠ 0 ∧ x < nl) := by cases g <;> simp <;> omega
        rcases hways with hg | ⟨hg, h0⟩ | ⟨hg, h0, h1⟩ | ⟨hg, h0, h1⟩
        · subst hg
          have HK : Hid (sk = true) := by show _ = _; rw [HSK.out]; simp
          refine UpT.wp_region_tail 22 (UpT.tell []) (fun _ => false) (by kernel_rfl) (by kernel_rfl) (UpT.tell_steady _ (fun p hp => by cases hp)) ?_
          simp only [List.take_succ_cons, List.take_zero]
          iterate 2 (refine UpT.wpUp_pu ?_; simp only [Act.put, sTA, sT0, sT1])
          refine UpT.wpUp_pure (.bool true) (by rfl) (by rfl) (fun wz hp => exec_load (by rfl) (by rfl) (hs.ld1 hp.1 ty1_boolz (by repeat (first | exact List.Mem.head _ | apply List.Mem.tail)) HTX.out)) ?_
          simp only [Act.put, sTA, sT0, sT1]
          iterate 1 (refine UpT.wpUp_pu ?_; simp only [Act.put, sTA, sT0, sT1])
          iterate 5 (refine UpT.wpUp_pass (by rfl) ?_; simp only [Act.put, sTA, sT0, sT1])
          iterate 2 (refine UpT.wpUp_pu ?_; simp only [Act.put, sTA, sT0, sT1])
          iterate 11 (refine UpT.wpUp_pass (by rfl) ?_; simp only [Act.put, sTA, sT0, sT1])
          refine UpT.wpUp_end ?_
          intro w2 hb2 hf
          simp only [List.drop_succ_cons, List.drop_zero]
          replace hs := hs.stays hb2
          clear hf hb2
          go_wp2
          go_meet
          case rel => exact ⟨by rw [HK.out], hs⟩
        · subst hg h0
          have HK : Hid (sk = true) := by show _ = _; rw [HSK.out]; simp
          refine UpT.wp_region_tail 22 (UpT.tell []) (fun _ => false) (by kernel_rfl) (by kernel_rfl) (UpT.tell_steady _ (fun p hp => by cases hp)) ?_
          simp only [List.take_succ_cons, List.take_zero]
          iterate 2 (refine UpT.wpUp_pu ?_; simp only [Act.put, sTA, sT0, sT1])
          refine UpT.wpUp_pure (.bool false) (by rfl) (by rfl) (fun wz hp => exec_load (by rfl) (by rfl) (hs.ld1 hp.1 ty1_boolz (by repeat (first | exact List.Mem.head _ | apply List.Mem.tail)) HTX.out)) ?_
          simp only [Act.put, sTA, sT0, sT1]
          iterate 1 (refine UpT.wpUp_pu ?_; simp only [Act.put, sTA, sT0, sT1])
          iterate 3 (refine UpT.wpUp_pu ?_; simp only [Act.put, sTA, sT0, sT1])
          refine UpT.wpUp_pure (.int .u32 0) (by rfl) (by rfl) (fun wz hp => exec_load (by rfl) (by rfl) (hs.ld1 hp.1 ty1_u32z (by repeat (first | exact List.Mem.head _ | apply List.Mem.tail)) HXX.out)) ?_
          simp only [Act.put, sTA, sT0, sT1]
          iterate 3 (refine UpT.wpUp_pu ?_; simp only [Act.put, sTA, sT0, sT1])
          iterate 11 (refine UpT.wpUp_pass (by rfl) ?_; simp only [Act.put, sTA, sT0, sT1])
          refine UpT.wpUp_end ?_
          intro w2 hb2 hf
          simp only [List.drop_succ_cons, List.drop_zero]
          replace hs := hs.stays hb2
          clear hf hb2
          go_wp2
          go_meet
          case rel => exact ⟨by rw [HK.out], hs⟩
        · subst hg
          have HK : Hid (sk = true) := by show _ = _; rw [HSK.out]; simp; omega
          have h0n : ¬ (x : Int) = 0 := by omega
          have hbe : ((x : Int) == 0) = false := by simpa using h0
          have hd1 : decide ((nl : Int) ≤ (x : Int)) = true := by simp; omega
          have hd2 : decide ((x : Int) ≥ (nl : Int)) = true := by simp; omega
          refine UpT.wp_region_tail 22 (UpT.tell []) (fun _ => false) (by kernel_rfl) (by kernel_rfl) (UpT.tell_steady _ (fun p hp => by cases hp)) ?_
          simp only [List.take_succ_cons, List.take_zero]
          iterate 2 (refine UpT.wpUp_pu ?_; simp only [Act.put, sTA, sT0, sT1])
          refine UpT.wpUp_pure (.bool false) (by rfl) (by rfl) (fun wz hp => exec_load (by rfl) (by rfl) (hs.ld1 hp.1 ty1_boolz (by repeat (first | exact List.Mem.head _ | apply List.Mem.tail)) HTX.out)) ?_
          simp only [Act.put, sTA, sT0, sT1]
          iterate 1 (refine UpT.wpUp_pu ?_; simp only [Act.put, sTA, sT0, sT1])
          iterate 3 (refine UpT.wpUp_pu ?_; simp only [Act.put, sTA, sT0, sT1])
          refine UpT.wpUp_pure (.int .u32 (x : Int)) (by rfl) (by rfl) (fun wz hp => exec_load (by rfl) (by rfl) (hs.ld1 hp.1 ty1_u32z (by repeat (first | exact List.Mem.head _ | apply List.Mem.tail)) HXX.out)) ?_
          simp only [Act.put, sTA, sT0, sT1]
          iterate 3 (refine UpT.wpUp_pu ?_; simp only [Act.put, sTA, sT0, sT1])
          iterate 3 (refine UpT.wpUp_pu ?_; simp only [Act.put, sTA, sT0, sT1])
          refine UpT.wpUp_pure (.int .u32 (x : Int)) (by rfl) (by rfl) (fun wz hp => exec_load (by rfl) (by rfl) (hs.ld1 hp.1 ty1_u32z (by repeat (first | exact List.Mem.head _ | apply List.Mem.tail)) HXX.out)) ?_
          simp only [Act.put, sTA, sT0, sT1]
          iterate 3 (refine UpT.wpUp_pu ?_; simp only [Act.put, sTA, sT0, sT1])
          refine UpT.wpUp_pure (.slice sa nl sc) (by rfl) (by rfl) (fun wz hp => exec_load (by rfl) (by rfl) (hs.ld1 hp.1 ty1_strsz (by repeat (first | exact List.Mem.head _ | apply List.Mem.tail)) HSEC.out)) ?_
          simp only [Act.put, sTA, sT0, sT1]
          iterate 3 (refine UpT.wpUp_pu ?_; simp only [Act.put, sTA, sT0, sT1])
          refine UpT.wpUp_end ?_
          intro w2 hb2 hf
          simp only [List.drop_succ_cons, List.drop_zero]
          replace hs := hs.stays hb2
          clear hf hb2
          go_wp2
          go_meet
          case rel => exact ⟨by rw [HK.out], hs⟩
        · subst hg
          have HK : Hid (sk = false) := by show _ = _; rw [HSK.out]; simp; omega
          have h0n : ¬ (x : Int) = 0 := by omega
          have hbe : ((x : Int) == 0) = false := by simpa using h0
          have hd0 : ¬ nl ≤ x := by omega
          have hd1 : decide ((nl : Int) ≤ (x : Int)) = false := by simp; omega
          have hd2 : decide ((x : Int) ≥ (nl : Int)) = false := by simp; omega
          refine UpT.wp_region_tail 22 (UpT.tell []) (fun _ => false) (by kernel_rfl) (by kernel_rfl) (UpT.tell_steady _ (fun p hp => by cases hp)) ?_
          simp only [List.take_succ_cons, List.take_zero]
          iterate 2 (refine UpT.wpUp_pu ?_; simp only [Act.put, sTA, sT0, sT1])
          refine UpT.wpUp_pure (.bool false) (by rfl) (by rfl) (fun wz hp => exec_load (by rfl) (by rfl) (hs.ld1 hp.1 ty1_boolz (by repeat (first | exact List.Mem.head _ | apply List.Mem.tail)) HTX.out)) ?_
          simp only [Act.put, sTA, sT0, sT1]
          iterate 1 (refine UpT.wpUp_pu ?_; simp only [Act.put, sTA, sT0, sT1])
          iterate 3 (refine UpT.wpUp_pu ?_; simp only [Act.put, sTA, sT0, sT1])
          refine UpT.wpUp_pure (.int .u32 (x : Int)) (by rfl) (by rfl) (fun wz hp => exec_load (by rfl) (by rfl) (hs.ld1 hp.1 ty1_u32z (by repeat (first | exact List.Mem.head _ | apply List.Mem.tail)) HXX.out)) ?_
          simp only [Act.put, sTA, sT0, sT1]
          iterate 3 (refine UpT.wpUp_pu ?_; simp only [Act.put, sTA, sT0, sT1])
          iterate 3 (refine UpT.wpUp_pu ?_; simp only [Act.put, sTA, sT0, sT1])
          refine UpT.wpUp_pure (.int .u32 (x : Int)) (by rfl) (by rfl) (fun wz hp => exec_load (by rfl) (by rfl) (hs.ld1 hp.1 ty1_u32z (by repeat (first | exact List.Mem.head _ | apply List.Mem.tail)) HXX.out)) ?_
          simp only [Act.put, sTA, sT0, sT1]
          iterate 3 (refine UpT.wpUp_pu ?_; simp only [Act.put, sTA, sT0, sT1])
          refine UpT.wpUp_pure (.slice sa nl sc) (by rfl) (by rfl) (fun wz hp => exec_load (by rfl) (by rfl) (hs.ld1 hp.1 ty1_strsz (by repeat (first | exact List.Mem.head _ | apply List.Mem.tail)) HSEC.out)) ?_
          simp only [Act.put, sTA, sT0, sT1]
          iterate 3 (refine UpT.wpUp_pu ?_; simp only [Act.put, sTA, sT0, sT1])
          refine UpT.wpUp_end ?_
          intro w2 hb2 hf
          simp only [List.drop_succ_cons, List.drop_zero]
          replace hs := hs.stays hb2
          clear hf hb2
          go_wp2
          go_meet
          case rel => exact ⟨by rw [HK.out], hs⟩
    case rest =>
        clear hs hib
        obtain ⟨rfl, hs⟩ := hcut
        cases sk
        · have HGO : Hid (g = false ∧ x ≠ 0 ∧ x < nl) := by
           have := HSK.out
           simp at this
           exact ⟨this.1, this.2.1, by omega⟩
          obtain ⟨S1, hS1⟩ : ∃ S1, S1 = (S2.write (x : Int) b).1 := ⟨_, rfl⟩
          obtain ⟨E, hE⟩ : ∃ E, E = (S2.write (x : Int) b).2 := ⟨_, rfl⟩
          have HW : Hid ((S2.write (x : Int) b).1 = S1 ∧ (S2.write (x : Int) b).2 = E ∧ S1.ws.length ≤ S2.ws.length + 1 ∧ S1.laid.length = S2.laid.length) := ⟨hS1.symm, hE.symm, by rw [hS1]; exact write_len8 _ _ _, by rw [hS1, write_laid]⟩
          obtain ⟨dv, hdv, hdl⟩ : ∃ dv, dv = (cs2.drop 0).take 5 ∧ dv.length = 5 := ⟨_, rfl, by simp [hI.out.2.2.1.1]⟩
          have HDV : Hid (dv = (cs2.drop 0).take 5) := hdv
          have hwt : ∀ u N, RS w u G N [] cs2 S2 l t → Below w.heap.size w u → Calls Tryd.prog 111 #[.agg dv.toArray, .int .i64 (x : Int), .slice a nb c] u fun e w' => ∃ v, e = .returned v ∧ Below u.heap.size u w' ∧ wrT w G N [] cs2 S1 l t E v w' := fun u N h1 h2 => h1.write_run (by have := hI.out.2.1; omega) (x : Int) a c b (HBB.out.stays h2) HNB.out hdv hS1.symm hE.symm
          have HVN : Hid (∀ ds : List Value, Vals 5 ds → Vals 7 (cs2.take 0 ++ ds ++ cs2.drop (0 + 5))) := fun ds hd => Vals.setDisk hI.out.2.2.1 hd
          clear hS1 hE hdv
          go_upto_region 7 with fail
          go_cut [13, 14] from 21 to 67 (fun p e wx => ∃ (gD : Nat) (ds cn : List Value), p = .pointer (some ⟨gD, 0, none⟩) ∧ e = .int .i64 E ∧ Vals 5 ds ∧ Hid (cn = cs2.take 0 ++ ds ++ cs2.drop (0 + 5)) ∧ Vals 7 cn ∧ Sep w.heap.size (RI w G [] cn S1 l t) wx (⟨gD, 30, 5, ds⟩ :: ⟨gT, 46, 2, tv⟩ :: ⟨gR, 36, 7, zb⟩ :: ⟨gP, 42, 35, pv⟩ :: ⟨gK, 36, 7, cs2⟩ :: []) [])
          case first =>
           refine UpT.wp_region_opt 8 12 [9, 10, 11, 12, 13, 14] [9, 10, 11, 13, 14] (by rfl) (UpT.tell [(12, blkT 30 wc.heap.size zd)]) (fun i => i == 12) (by kernel_rfl) (by kernel_rfl) (UpT.tell_steady _ (by
            intro p hp
            simp only [List.mem_cons, List.not_mem_nil, or_false] at hp
            rcases hp with rfl <;> first | exact isV_steady _ | exact slB_steady _ _ | exact blkT_steady _ _ _)) ?_
           simp only [List.take_succ_cons, List.take_zero]
           iterate 1 (refine UpT.wpUp_pu ?_; simp only [Act.put, sTA, sT0, sT1])
           refine UpT.wpUp_pure (.agg dv.toArray) (by rfl) (by rfl) (fun wz hp => exec_load (by rfl) (by rfl) (hs.ldp hp.1 ty_rdisk (by repeat (first | exact List.Mem.head _ | apply List.Mem.tail)) HDV.out hdl)) ?_
           simp only [Act.put, sTA, sT0, sT1]
           iterate 3 (refine UpT.wpUp_pu ?_; simp only [Act.put, sTA, sT0, sT1])
           refine UpT.wpUp_pure (.int .u32 (x : Int)) (by rfl) (by rfl) (fun wz hp => exec_load (by rfl) (by rfl) (hs.ld1 hp.1 ty1_u32z (by repeat (first | exact List.Mem.head _ | apply List.Mem.tail)) HXX.out)) ?_
           simp only [Act.put, sTA, sT0, sT1]
           iterate 2 (refine UpT.wpUp_pu ?_; simp only [Act.put, sTA, sT0, sT1])
           refine UpT.wpUp_end ?_
           refine ⟨?_, ?_⟩
           · intro w4 hb4 hf
             replace hs := hs.stays hb4
             clear hf hb4
             simp only [UpT.opsAt, List.filterMap_cons, List.filterMap_nil, List.getElem?_toArray, List.getElem?_cons_zero, List.getElem?_cons_succ]
             go_wp2_with (first
              | (go_at_call 111; go_must (refine (hwt _ _ hs.rs hs.rbel).mono ?_); rintro e w5 ⟨v, rfl, hb5, ds, rfl, hdv2, hR⟩; replace hs := hs.rturn hb5 hR; have hdsv : Vals 5 ds := hdv2; clear hb5 hR hdv2; dsimp only []; apply_assumption; refine wp_move1 rfl rfl (by rfl) ?_; simp only [Act.put, sTA, sT0, sT1]; refine wp_extract1 rfl rfl (by rfl) (by rfl) ?_; simp only [Act.put, sTA, sT0, sT1]; refine wp_extract1 rfl rfl (by rfl) (by rfl) ?_; simp only [Act.put, sTA, sT0, sT1]; refine sep_alloc hs rfl rfl hald ?_; clear hs; intro w6 gD hs; simp only [Act.put, sTA, sT0, sT1]; refine sep_storew hs rfl rfl (by rfl) (by rfl) (by repeat (first | exact Upd.head | apply Upd.tail)) ty_rdisk hdsv ?_; clear hs; intro w7 hs; go_wp2))
             dsimp only [midQ]
             try go_wp2
             go_meet
             case rel => exact ⟨gD, ds, _, rfl, rfl, hdsv, rfl, HVN.out ds hdsv, hs⟩
           · refine (UpT.wpUp_make (blkT 30 wc.heap.size zd) (by rfl) (by rfl) (fun wz hp => ⟨.pointer (some ⟨wz.heap.size, 0, none⟩), wz.alloc (.cells zd.toArray 30), exec_alloc0 (by rfl) (hald.1 wz), (Below.refl _ _).alloc (Nat.le_refl _) _, ⟨_, rfl, hp.1.size, Blk.newAt rfl rfl⟩, fun _ => ⟨_, rfl, Nat.le_refl _, by simp⟩⟩) ?_).out
             rintro v ⟨u, _, hf⟩
             obtain ⟨gD, rfl, _, _⟩ := hf.of 12 v _ rfl rfl
             clear hf
             simp only [Act.put, sTA, sT0, sT1]
             refine UpT.wpUp_end ?_
             intro w4 hb4 hf
             obtain ⟨gE, hgE, hgl, hA⟩ := hf.of 12 _ _ rfl rfl
             cases hgE
             replace hs := hs.addAt hb4 hA hgl hald.2
             clear hf hb4 hA hgl
             simp only [UpT.opsAt, List.filterMap_cons, List.filterMap_nil, List.getElem?_toArray, List.getElem?_cons_zero, List.getElem?_cons_succ]
             go_wp2_with (first
              | (go_at_call 111; go_must (refine (hwt _ _ hs.rs hs.rbel).mono ?_); rintro e w5 ⟨v, rfl, hb5, ds, rfl, hdv2, hR⟩; replace hs := hs.rturn hb5 hR; have hdsv : Vals 5 ds := hdv2; clear hb5 hR hdv2; dsimp only []; apply_assumption; refine wp_move1 rfl rfl (by rfl) ?_; simp only [Act.put, sTA, sT0, sT1]; refine wp_extract1 rfl rfl (by rfl) (by rfl) ?_; simp only [Act.put, sTA, sT0, sT1]; refine wp_extract1 rfl rfl (by rfl) (by rfl) ?_; simp only [Act.put, sTA, sT0, sT1]; refine sep_storew hs rfl rfl (by rfl) (by rfl) (by repeat (first | exact Upd.head | apply Upd.tail)) ty_rdisk hdsv ?_; clear hs; intro w7 hs; go_wp2))
             dsimp only [midQ]
             try go_wp2
             go_meet
             case rel => exact ⟨gD, ds, _, rfl, rfl, hdsv, rfl, HVN.out ds hdsv, hs⟩
          case rest =>
           clear hs hwt
           obtain ⟨gD, ds, cn, rfl, rfl, hdsv, HCN, hcn, hs⟩ := hcut
           have HRT : Hid (rightL S x q.h = false ∧ x ≠ 0 ∧ x < S.laid.length / 256) := ⟨by rw [← HG.out.1]; exact HGO.out.1, HGO.out.2.1, by have := HGO.out.2.2; have := HSZ.out.1; have := HNL.out; omega⟩
           by_cases hE0 : E = 0
           · subst hE0
             have hwk : IntKind.i64.wrap ((k : Int) + 1) = (k : Int) + 1 := by have := hI.out.2.2.2.1; rw [IntKind.wrap_i64]; omega
             go_wp2_with (first
              | (refine sep_loadw hs rfl rfl (by rfl) (by repeat (first | exact List.Mem.head _ | apply List.Mem.tail)) ty_rdisk ?_)
              | (refine sep_store hs rfl rfl (by rfl) (by rfl) (off := 0) (n := 5) (us := ds) (ws := cn) (by repeat (first | exact Upd.head | apply Upd.tail)) ty_rdisk hdsv HCN.out (by omega) ?_; clear hs; intro w5 hs))
             go_roundw
             case rel => exact ⟨i + 1, k + 1, cn, S1, by go_num, by go_num, by omega, hs.drop, preO_next hlt hI.out.1 (by rw [← HG.out.2]; exact stepO_done (n := 0) HRT.out.1 HRT.out.2.1 HRT.out.2.2 HW.out.1 HW.out.2.1), by have := HW.out.2.2.1; have := hI.out.2.1; omega, hcn, by have := hI.out.2.2.2.1; omega, HW.out.2.2.2.trans hI.out.2.2.2.2⟩
             case measure => simp [intOf]; omega
           · have hres := preO_stop hlt hI.out.1 (by rw [← HG.out.2]; exact stepO_err (n := 0) HRT.out.1 HRT.out.2.1 HRT.out.2.2 HW.out.1 HW.out.2.1 hE0) hE0
             rw [← HR.out] at hres
             subst hres
             have hEn : ¬ E = 0 := hE0
             go_wp2_with (first
              | (refine sep_loadw hs rfl rfl (by rfl) (by repeat (first | exact List.Mem.head _ | apply List.Mem.tail)) (by first | exact ty_rdisk | exact ty_rbank) ?_)
              | (refine sep_store hs rfl rfl (by rfl) (by rfl) (off := 0) (n := 5) (us := ds) (ws := cn) (by repeat (first | exact Upd.head | apply Upd.tail)) ty_rdisk hdsv HCN.out (by omega) ?_; clear hs; intro w5 hs)
              | (refine sep_storew hs rfl rfl (by rfl) (by rfl) (by repeat (first | exact Upd.head | apply Upd.tail)) ty_rbank hcn ?_; clear hs; intro w5 hs))
             exact sep_ret3 hs rfl rfl (by rfl) (v := .int .i64 0) (v' := .int .i64 E) (by rfl) (by rfl) ty_rbank (by repeat (first | exact List.Mem.head _ | apply List.Mem.tail)) ⟨cn, rfl, hs.rdone⟩
        · have HSKP : Hid (g = true ∨ x = 0 ∨ ¬ x < nl) := (of_decide_eq_true HSK.out.symm : g = true ∨ x = 0 ∨ ¬ x < nl)
          go_wp2
          go_roundw
          case rel => exact ⟨i + 1, k, cs2, S2, rfl, by go_num, by omega, hs, preO_next hlt hI.out.1 (by rw [← HG.out.2]; exact stepO_skip (by have h1 := HSKP.out; rw [HG.out.1, HNL.out, HSZ.out.1] at h1; exact h1)), by have := hI.out.2.1; omega, hI.out.2.2.1, by have := hI.out.2.2.2.1; omega, hI.out.2.2.2.2⟩
          case measure => simp [intOf]; omega
  · obtain rfl : i = 2 := by omega
    have hres : overK S q b = ((S2, k), 0) := by
        rcases hI.out.1 with ⟨h1, _⟩ | ⟨h1, _⟩ | ⟨_, h1⟩
        · omega
        · omega
        · exact h1
    rw [← HR.out] at hres
    subst hres
    have hcv := hI.out.2.2.1
    go_wp2_with (first
        | (refine sep_loadw hs rfl rfl (by rfl) (by repeat (first | exact List.Mem.head _ | apply List.Mem.tail)) ty_rbank ?_)
        | (refine sep_storew hs rfl rfl (by rfl) (by rfl) (by repeat (first | exact Upd.head | apply Upd.tail)) ty_rbank hcv ?_; clear hs; intro w5 hs))
    exact sep_ret3 hs rfl rfl (by rfl) (v := .int .i64 (k : Int)) (v' := .int .i64 0) (by rfl) (by rfl) ty_rbank (by repeat (first | exact List.Mem.head _ | apply List.Mem.tail)) ⟨cs2, rfl, hs.rdone⟩
end
end Go.Proofs.YthbldjnpnligpaaDoor

/-
 The document's bank: Heal and Fix, by Sep.
-/

namespace Go.Proofs.YthbldjnpnligpaaDoor
set_option linter.unusedSimpArgs false
set_option linter.unusedVariables false
set_option maxRecDepth 100000
open Go.RowKit
section
variable {w w' : World} {G G' : Nat → Prop} {cs cs' : List Value} {S S' : DS} {l l' : List Bool} {t : Nat}
theorem rs_then {w0 : World} {H N : Nat → Prop} {ds : List Value} {S1 : DS} {l1 : List Bool} (h2 : ∀ j, H j → (G j ∨ w0.heap.size ≤ j) ∧ j < w.heap.size) (h3 : ∀ j, N j → ¬ H j ∧ w0.heap.size ≤ j ∧ j < w.heap.size) (h5 : Below w0.heap.size w0 w) (hR : RB w' (fun j => H j ∨ w.heap.size ≤ j) ds S1 l1 t) (hb : Below w.heap.size w w') : RS w0 w' G N [] ds S1 l1 t := by
 refine ⟨fun j => (H j ∨ w.heap.size ≤ j) ∧ j < w'.heap.size, hR.keep (fun j hg hl => ⟨rfl, hg, hl⟩), fun j hj => ⟨?_, hj.2⟩, fun j hj => ⟨?_, (h3 j hj).2.1, Nat.lt_of_lt_of_le (h3 j hj).2.2 hb.size⟩, fun m hm => (by cases hm), below_then h5 hb⟩
 · rcases hj.1 with h6 | h6
   · exact (h2 j h6).1
   · exact .inr (Nat.le_trans h5.size h6)
 · rintro ⟨h6 | h6, _⟩
   · exact (h3 j hj).1 h6
   · have := (h3 j hj).2.2; omega
theorem over_rs {w0 : World} {N : Nat → Prop} (h : RS w0 w G N [] cs S l t) (hln : S.ws.length ≤ 800000) (q : Pt) (hq : q.ok) (hoff : S.off = false) (hm : q.may = true) (a : Option Addr) (c : Nat) (b : List Int) (hB : Bs w a c b) {S1 : DS} {n : Nat} {E : Int} (hres : overK S q b = ((S1, n), E)) :
 Calls Tryd.prog 115 #[.agg cs.toArray, .agg q.vs.toArray, .slice a b.length c] w fun e w' => ∃ ds, e = .returned (.tuple #[.agg ds.toArray, .int .i64 (n : Int), .int .i64 E]) ∧ (ds.length = 7 ∧ ∀ v ∈ ds, v.oneCell' = true) ∧ Below w.heap.size w w' ∧ RS w0 w' G N [] ds S1 l t := by
 obtain ⟨H, h1, h2, h3, h4, h5⟩ := h
 have k := rover_run h1 hln q hq hoff hm a c b hB
 rw [hres] at k
 refine k.mono ?_
 rintro e w' ⟨ds, rfl, hR, hb⟩
 exact ⟨ds, rfl, hR.len, hb, rs_then h2 h3 h5 hR hb⟩
theorem heal_hole {S : DS} {q : Pt} (b : List Int) (h : q.hole = true) : restK S q b = ((S, 0), 0) := by
 have e : q = Pt.zero := Pt.same_iff.1 h
 subst e
 unfold restK stepR
 simp [Pt.zero]
theorem sep_loadwg {B : Nat} {I : (Nat → Prop) → World → Prop} {L : List Ent} {T : List Sli} {P : Program} {ops : Array Oper} {rest : List Oper} {o : Oper} {a : Act} {Q : Exit → Act → World → Prop} {g n : Nat} {t e : TypeId} {vs : List Value} {x : Operand} (h : Sep B I w L T) (hw : Region.wanted o (yielded ops a.tmps) = true) (ho : o.op = Op.load t x) (hx : a.eval x = .pointer (some ⟨g, 0, none⟩)) (hm : (⟨g, e, n, vs⟩ : Ent) ∈ L) (hT : Ty P t n)
 (hk : wpList P ops Q rest (a.put o.dst (.agg vs.toArray)) w) : wpList P ops Q (o :: rest) a w :=
 wpList_load_blk_guard hw x t ho g 0 n hx hT.1 hT.2 (h.blk _ hm).1 vs (whole_load (h.vals hm).1) (h.vals hm).1 hk
set_option maxHeartbeats 8000000 in
theorem rhl_no (h : RB w G cs S l t) (hln : S.ws.length ≤ 800000) (q : Pt) (hq : q.ok) (E : Int) (R : List Int) (hr : readK S q = (R, E)) (h0 : E ≠ 0 ∨ (E = 0 ∧ q.hole = true)) : Calls Tryd.prog 61 #[.agg cs.toArray, .agg q.vs.toArray] w fun e w' => ∃ cs', e = .returned (.tuple #[.agg cs'.toArray, .int .i64 0, .int .i64 E]) ∧ RBThen G w w' cs' S l t := by
 have hcv := Vals.bank h
 have hvv : Vals 35 q.vs := ⟨Pt.vs_len hq, Pt.vs_one _⟩
 have hhl := fun u => risHole_run q hq u
 have hs := h.sep
 obtain ⟨zb, hze⟩ : ∃ zb, zb = [Value.slice none 0 0, .slice none 0 0, .bool false, .int .i64 0, .bool false, .slice none 0 0, .int .u32 0] := ⟨_, rfl⟩
 have hal := al_rbank1
 rw [← hze] at hal
 have hrd : ∀ u, Below w.heap.size w u → Calls Tryd.prog 59 #[.agg cs.toArray, .agg q.vs.toArray] u fun e w' => ∃ v, e = .returned (.tuple #[v, .int .i64 E]) ∧ Below u.heap.size u w' := fun u hu => by
  have := rrd_run (h.stays hu) (by omega) q hq
  rw [hr] at this
  exact this.mono fun e w' ⟨a, c, h1, h2, h3⟩ => ⟨.slice a R.length c, h1, h3⟩
 obtain ⟨pv, hpe⟩ : ∃ pv, pv = q.vs := ⟨_, rfl⟩
 obtain ⟨ho, hoe⟩ : ∃ ho, ho = q.hole := ⟨_, rfl⟩
 rw [← hpe] at hvv hhl hrd ⊢
 rw [← hoe] at hhl h0
 clear hpe hoe hze hr hln hq h
 rcases h0 with h0 | ⟨rfl, rfl⟩
 all_goals
  go_enter Tryd.func61, Tryd.ntmps61
  go_wp2_with (first
   | ((with_reducible show wpList _ _ _ (Oper.mk (some 2) (Op.box _ _) _ _ _ _ :: _) _ _); refine sep_box hs rfl rfl (by rfl) hcv ?_; clear hs; intro w1 gK hs)
   | (refine sep_box hs rfl rfl (by rfl) hvv ?_; clear hs; intro w1 gP hs)
   | (refine sep_alloc hs rfl rfl hal ?_; clear hs; intro w1 gR hs)
   | (refine sep_loadw hs rfl rfl (by rfl) (by repeat (first | exact List.Mem.head _ | apply List.Mem.tail)) (by first | exact ty_rbank | exact ty_ptrz) ?_)
   | (refine sep_loadwg hs (by rfl) rfl (by rfl) (by repeat (first | exact List.Mem.head _ | apply List.Mem.tail)) (by first | exact ty_rbank | exact ty_ptrz) ?_)
   | (go_at_call 113; go_must (refine (hhl _).mono ?_); rintro e w1 ⟨rfl, hb1⟩; replace hs := hs.stays hb1; clear hb1)
   | (go_at_call 59; go_must (refine (hrd _ hs.rbel).mono ?_); rintro e w1 ⟨rv, rfl, hb1⟩; replace hs := hs.stays hb1; clear hb1)
   | (refine sep_storew hs rfl rfl (by rfl) (by rfl) (by repeat (first | exact Upd.head | apply Upd.tail)) ty_rbank hcv ?_; clear hs; intro w1 hs))
  exact sep_ret3 hs rfl rfl (by rfl) (v := .int .i64 0) (v' := .int .i64 _) (by rfl) (by rfl) ty_rbank (by repeat (first | exact List.Mem.head _ | apply List.Mem.tail)) ⟨cs, rfl, hs.rdone⟩
set_option maxHeartbeats 8000000 in
theorem rhl_go (h : RB w G cs S l t) (hln : S.ws.length ≤ 800000) (q : Pt) (hq : q.ok) (R : List Int) (hr : readK S q = (R, 0)) (hh : q.hole = false) (hoff : S.off = false) (hm : q.may = true) (hR0 : R ≠ []) (S1 : DS) (k : Nat) (E : Int) (hres : overK S q R = ((S1, k), E)) : Calls Tryd.prog 61 #[.agg cs.toArray, .agg q.vs.toArray] w fun e w' => ∃ cs', e = .returned (.tuple #[.agg cs'.toArray, .int .i64 (k : Int), .int .i64 E]) ∧ RBThen G w w' cs' S1 l t := by
 have hcv := Vals.bank h
 have hvv : Vals 35 q.vs := ⟨Pt.vs_len hq, Pt.vs_one _⟩
 have hhl := fun u => risHole_run q hq u
 have hs := h.sep
 obtain ⟨zb, hze⟩ : ∃ zb, zb = [Value.slice none 0 0, .slice none 0 0, .bool false, .int .i64 0, .bool false, .slice none 0 0, .int .u32 0] := ⟨_, rfl⟩
 have hal := al_rbank1
 rw [← hze] at hal
 have hrd : ∀ u, Below w.heap.size w u → Calls Tryd.prog 59 #[.agg cs.toArray, .agg q.vs.toArray] u fun e w' => ∃ a c, e = .returned (.tuple #[.slice a R.length c, .int .i64 0]) ∧ NewB u.heap.size w' a c R ∧ Below u.heap.size u w' := fun u hu => by
  have := rrd_run (h.stays hu) (by omega) q hq
  rw [hr] at this
  exact this
 have hov : ∀ u N a c, RS w u G N [] cs S l t → Bs u a c R → Calls Tryd.prog 115 #[.agg cs.toArray, .agg q.vs.toArray, .slice a R.length c] u fun e w' => ∃ ds, e = .returned (.tuple #[.agg ds.toArray, .int .i64 (k : Int), .int .i64 E]) ∧ Vals 7 ds ∧ Below u.heap.size u w' ∧ RS w w' G N [] ds S1 l t := fun u N a c h1 h2 => over_rs h1 hln q hq hoff hm a c R h2 hres
 rw [hh] at hhl
 have HR0 : Hid (R ≠ []) := hR0
 obtain ⟨pv, hpe⟩ : ∃ pv, pv = q.vs := ⟨_, rfl⟩
 obtain ⟨n, hne⟩ : ∃ n, n = R.length := ⟨_, rfl⟩
 rw [← hpe] at hvv hhl hrd hov ⊢
 rw [← hne] at hrd hov
 clear hpe hne hze hr hln hq h hres hoff hm hh hR0
 go_enter Tryd.func61, Tryd.ntmps61
 go_wp2_with (first
  | ((with_reducible show wpList _ _ _ (Oper.mk (some 2) (Op.box _ _) _ _ _ _ :: _) _ _); refine sep_box hs rfl rfl (by rfl) hcv ?_; clear hs; intro w1 gK hs)
  | (refine sep_box hs rfl rfl (by rfl) hvv ?_; clear hs; intro w1 gP hs)
  | (refine sep_alloc hs rfl rfl hal ?_; clear hs; intro w1 gR hs)
  | (refine sep_loadw hs rfl rfl (by rfl) (by repeat (first | exact List.Mem.head _ | apply List.Mem.tail)) (by first | exact ty_rbank | exact ty_ptrz) ?_)
  | (refine sep_loadwg hs (by rfl) rfl (by rfl) (by repeat (first | exact List.Mem.head _ | apply List.Mem.tail)) (by first | exact ty_rbank | exact ty_ptrz) ?_)
  | (go_at_call 113; go_must (refine (hhl _).mono ?_); rintro e w1 ⟨rfl, hb1⟩; replace hs := hs.stays hb1; clear hb1)
  | (go_at_call 59; go_must (refine (hrd _ hs.rbel).mono ?_); rintro e w1 ⟨ra, rc, rfl, hN, hb1⟩; replace hs := hs.slice hb1 hN.1 hN.2 HR0.out; clear hN hb1)
  | (go_at_call 115; go_must (refine (hov _ _ _ _ hs.rs (hs.bs List.mem_cons_self)).mono ?_); rintro e w1 ⟨ds, rfl, hdv, hb1, hR⟩; replace hs := hs.rturn hb1 hR; clear hb1 hR)
  | (refine sep_storew hs rfl rfl (by rfl) (by rfl) (by repeat (first | exact Upd.head | apply Upd.tail)) ty_rbank hdv ?_; clear hs; intro w1 hs))
 exact sep_ret3 hs rfl rfl (by rfl) (v := .int .i64 (k : Int)) (v' := .int .i64 E) (by rfl) (by rfl) ty_rbank (by repeat (first | exact List.Mem.head _ | apply List.Mem.tail)) ⟨ds, rfl, hs.rdone⟩
theorem rheal_run (h : RB w G cs S l t) (hln : S.ws.length ≤ 800000) (q : Pt) (hq : q.ok) : Calls Tryd.prog 61 #[.agg cs.toArray, .agg q.vs.toArray] w fun e w' => ∃ cs', e = .returned (.tuple #[.agg cs'.toArray, .int .i64 ((healK S q).1.2 : Int), .int .i64 (healK S q).2]) ∧ RBThen G w w' cs' (healK S q).1.1 l t := by
 by_cases h0 : (readK S q).2 = 0
 · cases hh : q.hole
   · obtain ⟨n, hok⟩ := h.ok
     have hr : readK S q = ((readK S q).1, 0) := by rw [← h0]
     have ho : okK S q = 0 := by
        rcases Classical.em (okK S q = 0) with e | e
        · exact e
        · exfalso
          unfold readK at hr
          rw [if_pos e] at hr
          exact e (Prod.mk.inj hr).2
     obtain ⟨hoff, hmay⟩ := okK_zero ho
     have hRl : (readK S q).1.length = 256 := by
        have := readK_len hok q
        rw [hr] at this
        simpa using this
     have e : healK S q = overK S q (readK S q).1 := by
        rw [over_rest hok hoff hRl hmay]
        unfold healK
        rw [if_neg (by omega)]
     rw [e]
     exact rhl_go h hln q hq (readK S q).1 hr hh hoff hmay (fun e => by rw [e] at hRl; simp at hRl) _ _ _ rfl
   · have e := rhl_no h hln q hq 0 (readK S q).1 (by rw [← h0]) (.inr ⟨rfl, hh⟩)
     have k : healK S q = ((S, 0), 0) := by unfold healK; rw [if_neg (by omega)]; exact heal_hole _ hh
     rw [k]
     exact e
 · have e := rhl_no h hln q hq (readK S q).2 (readK S q).1 rfl (.inl h0)
   have k : healK S q = ((S, 0), (readK S q).2) := if_pos h0
   rw [k]
   exact e
def fixNo (S : DS) (q : Pt) (b : List Int) (E : Int) : Prop := (S.off = true ∧ E = 8) ∨ (S.off = false ∧ q.may = false ∧ E = 1) ∨ (S.off = false ∧ q.may = true ∧ q.hole = true ∧ E = 1) ∨ (S.off = false ∧ q.may = true ∧ q.hole = false ∧ b.length ≠ 256 ∧ E = 1) ∨ (S.off = false ∧ q.may = true ∧ q.hole = false ∧ b.length = 256 ∧ shaOf b ≠ q.h ∧ E = 14)
set_option maxHeartbeats 16000000 in
theorem rfx_no (h : RB w G cs S l t) (q : Pt) (hq : q.ok) (a : Option Addr) (c : Nat) (b : List Int) (hB : Bs w a c b) (E : Int) (hE : fixNo S q b E) : Calls Tryd.prog 62 #[.agg cs.toArray, .agg q.vs.toArray, .slice a b.length c] w fun e w' => ∃ cs', e = .returned (.tuple #[.agg cs'.toArray, .int .i64 0, .int .i64 E]) ∧ RBThen G w w' cs' S l t := by
 have hcv := Vals.bank h
 have hvv : Vals 35 q.vs := ⟨Pt.vs_len hq, Pt.vs_one _⟩
 have hhl := fun u => risHole_run q hq u
 have hs := h.sep
 obtain ⟨zb, hze⟩ : ∃ zb, zb = [Value.slice none 0 0, .slice none 0 0, .bool false, .int .i64 0, .bool false, .slice none 0 0, .int .u32 0] := ⟨_, rfl⟩
 have hal := al_rbank1
 rw [← hze] at hal
 have hmy := fun u => rmay_run q hq u
 have HO : Hid (cs[4]? = some (.bool S.off)) := h.off
 have HHS : Hid (q.h.map (Value.int .u8) = (q.vs.drop 0).take 32) := Pt.vs_hash hq
 have hhl32 : (q.h.map (Value.int .u8)).length = 32 := by rw [List.length_map]; exact hq.len
 have hsm : ∀ u, Below w.heap.size w u → b.length = 256 → Calls Tryd.prog 110 #[.slice a b.length c] u fun e w' => e = .returned (.agg ((shaOf b).map (Value.int .u8)).toArray) ∧ Below u.heap.size u w' := fun u hu hl => rsum_run a c b u (hB.stays hu) (by omega)
 have heq := fun u => equal_ints (P := Tryd.prog) Tryd.underlying39 Tryd.underlying5 (by kernel_rfl) 9998 (shaOf b) q.h (shaOf_length _) hq.len u
 obtain ⟨sv, hse⟩ : ∃ sv, sv = (shaOf b).map (Value.int .u8) := ⟨_, rfl⟩
 obtain ⟨hv, hhe⟩ : ∃ hv, hv = q.h.map (Value.int .u8) := ⟨_, rfl⟩
 obtain ⟨eb, hee⟩ : ∃ eb, eb = (shaOf b == q.h) := ⟨_, rfl⟩
 rw [← hse, ← hhe, ← hee] at heq
 rw [← hse] at hsm
 rw [← hhe] at HHS hhl32
 obtain ⟨pv, hpe⟩ : ∃ pv, pv = q.vs := ⟨_, rfl⟩
 obtain ⟨ho, hoe⟩ : ∃ ho, ho = q.hole := ⟨_, rfl⟩
 obtain ⟨my, hmye⟩ : ∃ my, my = q.may := ⟨_, rfl⟩
 obtain ⟨of, hof⟩ : ∃ of, of = S.off := ⟨_, rfl⟩
 obtain ⟨n, hne⟩ : ∃ n, n = b.length := ⟨_, rfl⟩
 rw [← hpe] at hvv hhl hmy HHS
 rw [← hoe] at hhl
 rw [← hmye] at hmy
 rw [← hof] at HO
 rw [← hne] at hsm
 rw [← hpe, ← hne]
 have HSM : Hid _ := hsm
 have HEQ : Hid _ := heq
 have hE2 : (of = true ∧ E = 8) ∨ (of = false ∧ my = false ∧ E = 1) ∨ (of = false ∧ my = true ∧ ho = true ∧ E = 1) ∨ (of = false ∧ my = true ∧ ho = false ∧ n ≠ 256 ∧ E = 1) ∨ (of = false ∧ my = true ∧ ho = false ∧ n = 256 ∧ eb = false ∧ E = 14) := by
  rw [hof, hmye, hoe, hne, hee]
  refine hE.imp id fun h => h.imp id fun h => h.imp id fun h => h.imp id fun ⟨h1, h2, h3, h4, h5, h6⟩ => ⟨h1, h2, h3, h4, by simpa using h5, h6⟩
 clear hpe hoe hmye hof hne hse hhe hee hze hB hq h hE hsm heq
 rcases hE2 with ⟨rfl, rfl⟩ | ⟨rfl, rfl, rfl⟩ | ⟨rfl, rfl, rfl, rfl⟩ | ⟨rfl, rfl, rfl, hn, rfl⟩ | ⟨rfl, rfl, rfl, rfl, rfl, rfl⟩
 · go_enter Tryd.func62, Tryd.ntmps62
   go_wp2_with (first
    | ((with_reducible show wpList _ _ _ (Oper.mk (some 3) (Op.box _ _) _ _ _ _ :: _) _ _); refine sep_box hs rfl rfl (by rfl) hcv ?_; clear hs; intro w1 gK hs)
    | (refine sep_box hs rfl rfl (by rfl) hvv ?_; clear hs; intro w1 gP hs)
    | (refine sep_alloc hs rfl rfl hal ?_; clear hs; intro w1 gR hs)
    | (refine sep_loadw hs rfl rfl (by rfl) (by repeat (first | exact List.Mem.head _ | apply List.Mem.tail)) (by first | exact ty_rbank | exact ty_ptrz) ?_)
    | (refine sep_loadwg hs (by rfl) rfl (by rfl) (by repeat (first | exact List.Mem.head _ | apply List.Mem.tail)) (by first | exact ty_rbank | exact ty_ptrz) ?_)
    | (go_at_call 113; go_must (refine (hhl _).mono ?_); rintro e w1 ⟨rfl, hb1⟩; replace hs := hs.stays hb1; clear hb1)
    | (refine sep_load1 hs rfl rfl (by rfl) (by repeat (first | exact List.Mem.head _ | apply List.Mem.tail)) ty1_boolz HO.out ?_)
    | (go_at_call 112; go_must (refine (hmy _).mono ?_); rintro e w1 ⟨rfl, hb1⟩; replace hs := hs.stays hb1; clear hb1)
    | (refine sep_storew hs rfl rfl (by rfl) (by rfl) (by repeat (first | exact Upd.head | apply Upd.tail)) ty_rbank hcv ?_; clear hs; intro w1 hs))
   exact sep_ret3 hs rfl rfl (by rfl) (v := .int .i64 0) (v' := .int .i64 _) (by rfl) (by rfl) ty_rbank (by repeat (first | exact List.Mem.head _ | apply List.Mem.tail)) ⟨cs, rfl, hs.rdone⟩
 · go_enter Tryd.func62, Tryd.ntmps62
   go_wp2_with (first
    | ((with_reducible show wpList _ _ _ (Oper.mk (some 3) (Op.box _ _) _ _ _ _ :: _) _ _); refine sep_box hs rfl rfl (by rfl) hcv ?_; clear hs; intro w1 gK hs)
    | (refine sep_box hs rfl rfl (by rfl) hvv ?_; clear hs; intro w1 gP hs)
    | (refine sep_alloc hs rfl rfl hal ?_; clear hs; intro w1 gR hs)
    | (refine sep_loadw hs rfl rfl (by rfl) (by repeat (first | exact List.Mem.head _ | apply List.Mem.tail)) (by first | exact ty_rbank | exact ty_ptrz) ?_)
    | (refine sep_loadwg hs (by rfl) rfl (by rfl) (by repeat (first | exact List.Mem.head _ | apply List.Mem.tail)) (by first | exact ty_rbank | exact ty_ptrz) ?_)
    | (go_at_call 113; go_must (refine (hhl _).mono ?_); rintro e w1 ⟨rfl, hb1⟩; replace hs := hs.stays hb1; clear hb1)
    | (refine sep_load1 hs rfl rfl (by rfl) (by repeat (first | exact List.Mem.head _ | apply List.Mem.tail)) ty1_boolz HO.out ?_)
    | (go_at_call 112; go_must (refine (hmy _).mono ?_); rintro e w1 ⟨rfl, hb1⟩; replace hs := hs.stays hb1; clear hb1)
    | (refine sep_storew hs rfl rfl (by rfl) (by rfl) (by repeat (first | exact Upd.head | apply Upd.tail)) ty_rbank hcv ?_; clear hs; intro w1 hs))
   exact sep_ret3 hs rfl rfl (by rfl) (v := .int .i64 0) (v' := .int .i64 _) (by rfl) (by rfl) ty_rbank (by repeat (first | exact List.Mem.head _ | apply List.Mem.tail)) ⟨cs, rfl, hs.rdone⟩
 · go_enter Tryd.func62, Tryd.ntmps62
   go_wp2_with (first
    | ((with_reducible show wpList _ _ _ (Oper.mk (some 3) (Op.box _ _) _ _ _ _ :: _) _ _); refine sep_box hs rfl rfl (by rfl) hcv ?_; clear hs; intro w1 gK hs)
    | (refine sep_box hs rfl rfl (by rfl) hvv ?_; clear hs; intro w1 gP hs)
    | (refine sep_alloc hs rfl rfl hal ?_; clear hs; intro w1 gR hs)
    | (refine sep_loadw hs rfl rfl (by rfl) (by repeat (first | exact List.Mem.head _ | apply List.Mem.tail)) (by first | exact ty_rbank | exact ty_ptrz) ?_)
    | (refine sep_loadwg hs (by rfl) rfl (by rfl) (by repeat (first | exact List.Mem.head _ | apply List.Mem.tail)) (by first | exact ty_rbank | exact ty_ptrz) ?_)
    | (go_at_call 113; go_must (refine (hhl _).mono ?_); rintro e w1 ⟨rfl, hb1⟩; replace hs := hs.stays hb1; clear hb1)
    | (refine sep_load1 hs rfl rfl (by rfl) (by repeat (first | exact List.Mem.head _ | apply List.Mem.tail)) ty1_boolz HO.out ?_)
    | (go_at_call 112; go_must (refine (hmy _).mono ?_); rintro e w1 ⟨rfl, hb1⟩; replace hs := hs.stays hb1; clear hb1)
    | (refine sep_storew hs rfl rfl (by rfl) (by rfl) (by repeat (first | exact Upd.head | apply Upd.tail)) ty_rbank hcv ?_; clear hs; intro w1 hs))
   exact sep_ret3 hs rfl rfl (by rfl) (v := .int .i64 0) (v' := .int .i64 _) (by rfl) (by rfl) ty_rbank (by repeat (first | exact List.Mem.head _ | apply List.Mem.tail)) ⟨cs, rfl, hs.rdone⟩
 · have hn1 : ¬ (n : Int) = 256 := by omega
   go_enter Tryd.func62, Tryd.ntmps62
   go_wp2_with (first
    | ((with_reducible show wpList _ _ _ (Oper.mk (some 3) (Op.box _ _) _ _ _ _ :: _) _ _); refine sep_box hs rfl rfl (by rfl) hcv ?_; clear hs; intro w1 gK hs)
    | (refine sep_box hs rfl rfl (by rfl) hvv ?_; clear hs; intro w1 gP hs)
    | (refine sep_alloc hs rfl rfl hal ?_; clear hs; intro w1 gR hs)
    | (refine sep_loadw hs rfl rfl (by rfl) (by repeat (first | exact List.Mem.head _ | apply List.Mem.tail)) (by first | exact ty_rbank | exact ty_ptrz) ?_)
    | (refine sep_loadwg hs (by rfl) rfl (by rfl) (by repeat (first | exact List.Mem.head _ | apply List.Mem.tail)) (by first | exact ty_rbank | exact ty_ptrz) ?_)
    | (go_at_call 113; go_must (refine (hhl _).mono ?_); rintro e w1 ⟨rfl, hb1⟩; replace hs := hs.stays hb1; clear hb1)
    | (refine sep_load1 hs rfl rfl (by rfl) (by repeat (first | exact List.Mem.head _ | apply List.Mem.tail)) ty1_boolz HO.out ?_)
    | (go_at_call 112; go_must (refine (hmy _).mono ?_); rintro e w1 ⟨rfl, hb1⟩; replace hs := hs.stays hb1; clear hb1)
    | (refine sep_storew hs rfl rfl (by rfl) (by rfl) (by repeat (first | exact Upd.head | apply Upd.tail)) ty_rbank hcv ?_; clear hs; intro w1 hs))
   exact sep_ret3 hs rfl rfl (by rfl) (v := .int .i64 0) (v' := .int .i64 _) (by rfl) (by rfl) ty_rbank (by repeat (first | exact List.Mem.head _ | apply List.Mem.tail)) ⟨cs, rfl, hs.rdone⟩
 · go_enter Tryd.func62, Tryd.ntmps62
   go_wp2_with (first
    | ((with_reducible show wpList _ _ _ (Oper.mk (some 3) (Op.box _ _) _ _ _ _ :: _) _ _); refine sep_box hs rfl rfl (by rfl) hcv ?_; clear hs; intro w1 gK hs)
    | (refine sep_box hs rfl rfl (by rfl) hvv ?_; clear hs; intro w1 gP hs)
    | (refine sep_alloc hs rfl rfl hal ?_; clear hs; intro w1 gR hs)
    | (refine sep_loadw hs rfl rfl (by rfl) (by repeat (first | exact List.Mem.head _ | apply List.Mem.tail)) (by first | exact ty_rbank | exact ty_ptrz) ?_)
    | (refine sep_loadwg hs (by rfl) rfl (by rfl) (by repeat (first | exact List.Mem.head _ | apply List.Mem.tail)) (by first | exact ty_rbank | exact ty_ptrz) ?_)
    | (go_at_call 113; go_must (refine (hhl _).mono ?_); rintro e w1 ⟨rfl, hb1⟩; replace hs := hs.stays hb1; clear hb1)
    | (refine sep_load1 hs rfl rfl (by rfl) (by repeat (first | exact List.Mem.head _ | apply List.Mem.tail)) ty1_boolz HO.out ?_)
    | (go_at_call 112; go_must (refine (hmy _).mono ?_); rintro e w1 ⟨rfl, hb1⟩; replace hs := hs.stays hb1; clear hb1))
   refine UpT.wp_region_tail 4 (UpT.tell [(1, isV (.agg sv.toArray))]) (fun _ => false) (by kernel_rfl) (by kernel_rfl) (UpT.tell_steady _ (by
    intro p hp
    simp only [List.mem_cons, List.not_mem_nil, or_false] at hp
    rcases hp with rfl <;> first | exact isV_steady _ | exact slB_steady _ _)) ?_
   simp only [List.take_succ_cons, List.take_zero]
   iterate 1 (refine UpT.wpUp_pu ?_; simp only [Act.put, sTA, sT0, sT1])
   refine UpT.wpUp_call _ 110 #[.slice a 256 c] (by rfl) (by rfl) (by rfl) (fun wz => by go_simp) (fun wz hp => calls_isV (HSM.out wz (below_then hs.rbel hp.1) (by trivial))) ?_
   rintro v ⟨u, _, hf⟩
   obtain rfl := hf.of 1 v _ rfl rfl
   clear hf
   simp only [Act.put, sTA, sT0, sT1]
   iterate 1 (refine UpT.wpUp_pu ?_; simp only [Act.put, sTA, sT0, sT1])
   refine UpT.wpUp_pure (.agg hv.toArray) (by rfl) (by rfl) (fun wz hp => exec_load (by rfl) (by rfl) (hs.ldp hp.1 ⟨agg_hsh, size_hash⟩ (by repeat (first | exact List.Mem.head _ | apply List.Mem.tail)) HHS.out hhl32)) ?_
   simp only [Act.put, sTA, sT0, sT1]
   refine UpT.wpUp_end ?_
   intro w2 hb2 hf
   simp only [List.drop_succ_cons, List.drop_zero]
   replace hs := hs.stays hb2
   clear hf hb2
   have heq := HEQ.out
   go_wp2_with (first
    | (refine sep_loadw hs rfl rfl (by rfl) (by repeat (first | exact List.Mem.head _ | apply List.Mem.tail)) (by first | exact ty_rbank | exact ty_ptrz) ?_)
    | (refine sep_storew hs rfl rfl (by rfl) (by rfl) (by repeat (first | exact Upd.head | apply Upd.tail)) ty_rbank hcv ?_; clear hs; intro w1 hs))
   exact sep_ret3 hs rfl rfl (by rfl) (v := .int .i64 0) (v' := .int .i64 _) (by rfl) (by rfl) ty_rbank (by repeat (first | exact List.Mem.head _ | apply List.Mem.tail)) ⟨cs, rfl, hs.rdone⟩
set_option maxHeartbeats 16000000 in
theorem rfx_go (h : RB w G cs S l t) (hln : S.ws.length ≤ 800000) (q : Pt) (hq : q.ok) (a : Option Addr) (c : Nat) (b : List Int) (hB : Bs w a c b) (hoff : S.off = false) (hm : q.may = true) (hh : q.hole = false) (hl : b.length = 256) (hs0 : shaOf b = q.h) (S1 : DS) (k : Nat) (E : Int) (hres : overK S q b = ((S1, k), E)) : Calls Tryd.prog 62 #[.agg cs.toArray, .agg q.vs.toArray, .slice a b.length c] w fun e w' => ∃ cs', e = .returned (.tuple #[.agg cs'.toArray, .int .i64 (k : Int), .int .i64 E]) ∧ RBThen G w w' cs' S1 l t := by
 have hcv := Vals.bank h
 have hvv : Vals 35 q.vs := ⟨Pt.vs_len hq, Pt.vs_one _⟩
 have hhl := fun u => risHole_run q hq u
 have hs := h.sep
 obtain ⟨zb, hze⟩ : ∃ zb, zb = [Value.slice none 0 0, .slice none 0 0, .bool false, .int .i64 0, .bool false, .slice none 0 0, .int .u32 0] := ⟨_, rfl⟩
 have hal := al_rbank1
 rw [← hze] at hal
 have hmy := fun u => rmay_run q hq u
 have HO : Hid (cs[4]? = some (.bool S.off)) := h.off
 have HHS : Hid (q.h.map (Value.int .u8) = (q.vs.drop 0).take 32) := Pt.vs_hash hq
 have hhl32 : (q.h.map (Value.int .u8)).length = 32 := by rw [List.length_map]; exact hq.len
 have hsm : ∀ u, Below w.heap.size w u → b.length = 256 → Calls Tryd.prog 110 #[.slice a b.length c] u fun e w' => e = .returned (.agg ((shaOf b).map (Value.int .u8)).toArray) ∧ Below u.heap.size u w' := fun u hu hl => rsum_run a c b u (hB.stays hu) (by omega)
 have heq := fun u => equal_ints (P := Tryd.prog) Tryd.underlying39 Tryd.underlying5 (by kernel_rfl) 9998 (shaOf b) q.h (shaOf_length _) hq.len u
 obtain ⟨sv, hse⟩ : ∃ sv, sv = (shaOf b).map (Value.int .u8) := ⟨_, rfl⟩
 obtain ⟨hv, hhe⟩ : ∃ hv, hv = q.h.map (Value.int .u8) := ⟨_, rfl⟩
 obtain ⟨eb, hee⟩ : ∃ eb, eb = (shaOf b == q.h) := ⟨_, rfl⟩
 rw [← hse, ← hhe, ← hee] at heq
 rw [← hse] at hsm
 rw [← hhe] at HHS hhl32
 have hov : ∀ u N, RS w u G N [] cs S l t → Below w.heap.size w u → Calls Tryd.prog 115 #[.agg cs.toArray, .agg q.vs.toArray, .slice a b.length c] u fun e w' => ∃ ds, e = .returned (.tuple #[.agg ds.toArray, .int .i64 (k : Int), .int .i64 E]) ∧ Vals 7 ds ∧ Below u.heap.size u w' ∧ RS w w' G N [] ds S1 l t := fun u N h1 h2 => over_rs h1 hln q hq hoff hm a c b (hB.stays h2) hres
 obtain ⟨pv, hpe⟩ : ∃ pv, pv = q.vs := ⟨_, rfl⟩
 obtain ⟨ho, hoe⟩ : ∃ ho, ho = q.hole := ⟨_, rfl⟩
 obtain ⟨my, hmye⟩ : ∃ my, my = q.may := ⟨_, rfl⟩
 obtain ⟨of, hof⟩ : ∃ of, of = S.off := ⟨_, rfl⟩
 obtain ⟨n, hne⟩ : ∃ n, n = b.length := ⟨_, rfl⟩
 rw [← hpe] at hvv hhl hmy HHS
 rw [← hoe] at hhl
 rw [← hmye] at hmy
 rw [← hof] at HO
 rw [← hne] at hsm hov
 rw [← hpe] at hov
 rw [← hpe, ← hne]
 have HSM : Hid _ := hsm
 have HEQ : Hid _ := heq
 obtain rfl : of = false := hof.trans hoff
 obtain rfl : my = true := hmye.trans hm
 obtain rfl : ho = false := hoe.trans hh
 obtain rfl : eb = true := by rw [hee, hs0]; simp
 obtain rfl : n = 256 := hne.trans hl
 clear hpe hoe hmye hof hne hse hhe hee hze hB hq h hsm heq hoff hm hh hl hs0 hres hln
 go_enter Tryd.func62, Tryd.ntmps62
 go_wp2_with (first
  | ((with_reducible show wpList _ _ _ (Oper.mk (some 3) (Op.box _ _) _ _ _ _ :: _) _ _); refine sep_box hs rfl rfl (by rfl) hcv ?_; clear hs; intro w1 gK hs)
  | (refine sep_box hs rfl rfl (by rfl) hvv ?_; clear hs; intro w1 gP hs)
  | (refine sep_alloc hs rfl rfl hal ?_; clear hs; intro w1 gR hs)
  | (refine sep_loadw hs rfl rfl (by rfl) (by repeat (first | exact List.Mem.head _ | apply List.Mem.tail)) (by first | exact ty_rbank | exact ty_ptrz) ?_)
  | (refine sep_loadwg hs (by rfl) rfl (by rfl) (by repeat (first | exact List.Mem.head _ | apply List.Mem.tail)) (by first | exact ty_rbank | exact ty_ptrz) ?_)
  | (go_at_call 113; go_must (refine (hhl _).mono ?_); rintro e w1 ⟨rfl, hb1⟩; replace hs := hs.stays hb1; clear hb1)
  | (refine sep_load1 hs rfl rfl (by rfl) (by repeat (first | exact List.Mem.head _ | apply List.Mem.tail)) ty1_boolz HO.out ?_)
  | (go_at_call 112; go_must (refine (hmy _).mono ?_); rintro e w1 ⟨rfl, hb1⟩; replace hs := hs.stays hb1; clear hb1))
 refine UpT.wp_region_tail 4 (UpT.tell [(1, isV (.agg sv.toArray))]) (fun _ => false) (by kernel_rfl) (by kernel_rfl) (UpT.tell_steady _ (by
  intro p hp
  simp only [List.mem_cons, List.not_mem_nil, or_false] at hp
  rcases hp with rfl <;> first | exact isV_steady _ | exact slB_steady _ _)) ?_
 simp only [List.take_succ_cons, List.take_zero]
 iterate 1 (refine UpT.wpUp_pu ?_; simp only [Act.put, sTA, sT0, sT1])
 refine UpT.wpUp_call _ 110 #[.slice a 256 c] (by rfl) (by rfl) (by rfl) (fun wz => by go_simp) (fun wz hp => calls_isV (HSM.out wz (below_then hs.rbel hp.1) (by trivial))) ?_
 rintro v ⟨u, _, hf⟩
 obtain rfl := hf.of 1 v _ rfl rfl
 clear hf
 simp only [Act.put, sTA, sT0, sT1]
 iterate 1 (refine UpT.wpUp_pu ?_; simp only [Act.put, sTA, sT0, sT1])
 refine UpT.wpUp_pure (.agg hv.toArray) (by rfl) (by rfl) (fun wz hp => exec_load (by rfl) (by rfl) (hs.ldp hp.1 ⟨agg_hsh, size_hash⟩ (by repeat (first | exact List.Mem.head _ | apply List.Mem.tail)) HHS.out hhl32)) ?_
 simp only [Act.put, sTA, sT0, sT1]
 refine UpT.wpUp_end ?_
 intro w2 hb2 hf
 simp only [List.drop_succ_cons, List.drop_zero]
 replace hs := hs.stays hb2
 clear hf hb2
 have heq := HEQ.out
 go_wp2_with (first
  | (refine sep_loadw hs rfl rfl (by rfl) (by repeat (first | exact List.Mem.head _ | apply List.Mem.tail)) (by first | exact ty_rbank | exact ty_ptrz) ?_)
  | (go_at_call 115; go_must (refine (hov _ _ hs.rs hs.rbel).mono ?_); rintro e w1 ⟨ds, rfl, hdv, hb1, hR⟩; replace hs := hs.rturn hb1 hR; clear hb1 hR)
  | (refine sep_storew hs rfl rfl (by rfl) (by rfl) (by repeat (first | exact Upd.head | apply Upd.tail)) ty_rbank hdv ?_; clear hs; intro w1 hs))
 exact sep_ret3 hs rfl rfl (by rfl) (v := .int .i64 (k : Int)) (v' := .int .i64 E) (by rfl) (by rfl) ty_rbank (by repeat (first | exact List.Mem.head _ | apply List.Mem.tail)) ⟨ds, rfl, hs.rdone⟩
theorem rfix_run (h : RB w G cs S l t) (hln : S.ws.length ≤ 800000) (q : Pt) (hq : q.ok) (a : Option Addr) (c : Nat) (b : List Int) (hB : Bs w a c b) : Calls Tryd.prog 62 #[.agg cs.toArray, .agg q.vs.toArray, .slice a b.length c] w fun e w' => ∃ cs', e = .returned (.tuple #[.agg cs'.toArray, .int .i64 ((fixK S q b).1.2 : Int), .int .i64 (fixK S q b).2]) ∧ RBThen G w w' cs' (fixK S q b).1.1 l t := by
 have no : ∀ E, fixNo S q b E → fixK S q b = ((S, 0), E) → Calls Tryd.prog 62 #[.agg cs.toArray, .agg q.vs.toArray, .slice a b.length c] w fun e w' => ∃ cs', e = .returned (.tuple #[.agg cs'.toArray, .int .i64 ((fixK S q b).1.2 : Int), .int .i64 (fixK S q b).2]) ∧ RBThen G w w' cs' (fixK S q b).1.1 l t := fun E h1 h2 => by
  rw [h2]
  exact rfx_no h q hq a c b hB E h1
 have ok0 : S.off = false → q.may = true → okK S q = 0 := fun h1 h2 => by unfold okK; rw [h1, h2]; rfl
 by_cases h0 : S.off = true
 · exact no 8 (.inl ⟨h0, rfl⟩) (by unfold fixK okK; rw [h0]; rfl)
 have h0' : S.off = false := by simpa using h0
 by_cases h1 : q.may = false
 · exact no 1 (.inr (.inl ⟨h0', h1, rfl⟩)) (by unfold fixK okK; rw [h0', h1]; rfl)
 have h1' : q.may = true := by simpa using h1
 have hk := ok0 h0' h1'
 by_cases h2 : q.hole = true
 · exact no 1 (.inr (.inr (.inl ⟨h0', h1', h2, rfl⟩))) (by unfold fixK; rw [if_neg (by omega), if_pos (.inl h2)])
 have h2' : q.hole = false := by simpa using h2
 by_cases h3 : b.length = 256
 · by_cases h4 : shaOf b = q.h
   · obtain ⟨n, hok⟩ := h.ok
     have e : fixK S q b = overK S q b := by unfold fixK; rw [if_neg (by omega), if_neg (by simp [h2', h3]), if_neg (by simp [h4]), over_rest hok h0' h3 h1']
     rw [e]
     exact rfx_go h hln q hq a c b hB h0' h1' h2' h3 h4 _ _ _ rfl
   · exact no 14 (.inr (.inr (.inr (.inr ⟨h0', h1', h2', h3, h4, rfl⟩)))) (by unfold fixK; rw [if_neg (by omega), if_neg (by simp [h2', h3]), if_pos h4])
 · exact no 1 (.inr (.inr (.inr (.inl ⟨h0', h1', h2', h3, rfl⟩)))) (by unfold fixK; rw [if_neg (by omega), if_pos (.inr h3)])
end
end Go.Proofs.YthbldjnpnligpaaDoor
