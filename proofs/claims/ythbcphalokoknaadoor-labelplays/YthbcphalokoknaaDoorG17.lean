/-
  Labels and scripts that came in.
-/
import Derived.Test.YthbcphalokoknaaDoorG14
import Derived.Test.YthbcphalokoknaaDoorG16
import Derived.Test.YthbcphalokoknaaDoorG13
import Derived.Deep.Slices
namespace Go.Proofs.YthbcphalokoknaaDoor
set_option linter.unusedSimpArgs false
set_option linter.unusedVariables false
set_option maxRecDepth 100000
open Go.RowKit Go.ChangeShapes Go.WideShapes

/-- An act of LabelPlays: a label (its map behind a slice), flush, at, mask, crash, keep. -/
structure ActL where
  l : Lb
  la : Option Addr
  lc : Nat
  fl : Bool
  at' : Int
  ma : Option Addr
  mc : Nat
  ms : List Int
  cr : Bool
  ka : Option Addr
  kc : Nat
  ks : List Int
instance : Inhabited ActL := ⟨⟨⟨0, ⟨[], 0, 0, 0⟩, []⟩, none, 0, false, 0, none, 0, [], false, none, 0, []⟩⟩

def ActL.tail (x : ActL) : List Value := [.bool x.fl, .int .i64 x.at', .slice x.ma x.ms.length x.mc, .bool x.cr, .slice x.ka x.ks.length x.kc]
def ActL.cells (x : ActL) : List Value := x.l.vs x.la x.lc ++ x.tail

structure ActLOk (W : World) (x : ActL) : Prop where
  l : x.l.ok
  lm : Bs W x.la x.lc x.l.m
  at' : -9223372036854775808 ≤ x.at' ∧ x.at' ≤ 9223372036854775807
  ms : Bs W x.ma x.mc x.ms
  ks : Is W x.ka x.ks
  kl : x.ks.length ≤ 9223372036854775807

structure ActsL (W : World) (a : Option Addr) (xs : List ActL) : Prop where
  lay : xs = [] ∨ ∃ b off, a = some ⟨b, off, none⟩ ∧ ∀ i, i < xs.length → ∀ j, j < 42 → W.cell? ⟨b, off + 42 * i + j, none⟩ = (xs.getD i default).cells[j]?
  ok : ∀ x ∈ xs, ActLOk W x

section
variable {H : Type} {enc : TypeId × Value → H} {W : World} {base : Nat}

theorem open_label_cs {fuel : Nat} {held : Bool} {cs : List Value} {x : DataW H × List MemPlace} (h : DataW.trod enc Tryd.prog W base (fun _ => true) held fuel 29 cs = some x) : ∃ (l : Lb) (a : Option Addr) (c : Nat), cs = l.vs a c ∧ l.ok ∧ Bs W a c l.m := by
  have hU : Tryd.prog.cellsOf 22 = 1 := by kernel_rfl
  have hP : Tryd.prog.cellsOf 26 = 35 := by kernel_rfl
  have hS : Tryd.prog.cellsOf 27 = 1 := by kernel_rfl
  have hL : Tryd.prog.cellsOf 29 = 37 := by kernel_rfl
  cases fuel with
  | zero => simp [DataW.trod] at h
  | succ fuel =>
    simp only [DataW.trod, Tryd.underlying29, hL] at h
    split at h
    · rename_i hl
      obtain ⟨xs, hm, hx⟩ := Option.map_eq_some_iff.1 h
      obtain ⟨_, _, h0⟩ := Lib.mapM_at hm 0 _ rfl
      obtain ⟨_, _, h1⟩ := Lib.mapM_at hm 1 _ rfl
      obtain ⟨_, _, h2⟩ := Lib.mapM_at hm 2 _ rfl
      simp only [hU, hP, hS] at h0 h1 h2
      obtain ⟨n0, e0, _, w0⟩ := DataW.trod_int Tryd.underlying22 h0
      obtain ⟨p, e1, ok1⟩ := open_ptr_cs h1
      obtain ⟨a2, c2, x2, e2, b2⟩ := open_bs h2
      obtain ⟨t, rfl, ht⟩ := wf_u32 w0
      refine ⟨⟨t, p, x2⟩, a2, c2, ?_, ⟨ht, ok1, b2.rng⟩, b2⟩
      unfold Lb.vs
      simp only
      have c1 : cs = cs.take 1 ++ cs.drop 1 := (List.take_append_drop _ _).symm
      have c2' : cs.drop 1 = (cs.drop 1).take 35 ++ cs.drop 36 := by rw [show 36 = 1 + 35 from rfl, ← List.drop_drop]; exact (List.take_append_drop _ _).symm
      have c3 : (cs.drop 36).take 1 = cs.drop 36 := List.take_of_length_le (by simp; omega)
      rw [List.drop_zero] at e0
      rw [c1, c2', ← c3, e0, e1, e2]
      rfl
    · cases h

theorem open_label {r : Reach} {b0 : Nat} {v : Value} {d : DataW H} {p : List MemPlace} {held : Bool} (hv : Value.okWide Tryd.prog W r b0 29 v) (h : DataW.Trod enc Tryd.prog W base (fun _ => true) held 29 v d p) :
    ∃ (l : Lb) (a : Option Addr) (c : Nat), v = .agg (l.vs a c).toArray ∧ l.ok ∧ Bs W a c l.m := by
  have hagg : ∃ cs, v = .agg cs := by
    simp only [Value.okWide, Tryd.underlying29] at hv
    obtain ⟨cs, h1, _⟩ := hv
    exact ⟨cs, h1⟩
  obtain ⟨cs, rfl⟩ := hagg
  obtain ⟨fuel, hf⟩ := h
  obtain ⟨l, a, c, h1, h2, h3⟩ := open_label_cs hf
  refine ⟨l, a, c, ?_, h2, h3⟩
  simp only [Value.cells] at h1
  rw [← h1]

theorem open_actL {fuel : Nat} {held : Bool} {cs : List Value} {x : DataW H × List MemPlace} (h : DataW.trod enc Tryd.prog W base (fun _ => true) held fuel 55 cs = some x) :
    ∃ y : ActL, cs = y.cells ∧ ActLOk W y := by
  have hI : Tryd.prog.cellsOf 3 = 1 := by kernel_rfl
  have hS : Tryd.prog.cellsOf 27 = 1 := by kernel_rfl
  have hB : Tryd.prog.cellsOf 4 = 1 := by kernel_rfl
  have hK : Tryd.prog.cellsOf 53 = 1 := by kernel_rfl
  have hL : Tryd.prog.cellsOf 29 = 37 := by kernel_rfl
  have hA : Tryd.prog.cellsOf 55 = 42 := by kernel_rfl
  cases fuel with
  | zero => simp [DataW.trod] at h
  | succ fuel =>
    simp only [DataW.trod, Tryd.underlying55, hA] at h
    split at h
    · rename_i hl
      obtain ⟨xs, hm, hx⟩ := Option.map_eq_some_iff.1 h
      obtain ⟨_, _, h0⟩ := Lib.mapM_at hm 0 _ rfl
      obtain ⟨_, _, h1⟩ := Lib.mapM_at hm 1 _ rfl
      obtain ⟨_, _, h2⟩ := Lib.mapM_at hm 2 _ rfl
      obtain ⟨_, _, h3⟩ := Lib.mapM_at hm 3 _ rfl
      obtain ⟨_, _, h4⟩ := Lib.mapM_at hm 4 _ rfl
      obtain ⟨_, _, h5⟩ := Lib.mapM_at hm 5 _ rfl
      simp only [hI, hS, hB, hK, hL] at h0 h1 h2 h3 h4 h5
      obtain ⟨l, la, lc, e0, lok, lB⟩ := open_label_cs h0
      obtain ⟨n1, e1, _⟩ := DataW.trod_bool Tryd.underlying4 h1
      obtain ⟨n2, e2, _, w2⟩ := DataW.trod_int Tryd.underlying3 h2
      obtain ⟨a3, c3, x3, e3, b3⟩ := open_bs h3
      obtain ⟨n4, e4, _⟩ := DataW.trod_bool Tryd.underlying4 h4
      obtain ⟨a5, c5, x5, e5, b5, l5⟩ := open_is h5
      refine ⟨⟨l, la, lc, n1, n2, a3, c3, x3, n4, a5, c5, x5⟩, ?_, lok, lB, wf_i64 w2, b3, b5, l5⟩
      have g1 := take1 e1
      have g2 := take1 e2
      have g3 := take1 e3
      have g4 := take1 e4
      have g5 := take1 e5
      rw [List.drop_zero] at e0
      unfold ActL.cells ActL.tail
      simp only
      have c1 : cs = cs.take 37 ++ cs.drop 37 := (List.take_append_drop _ _).symm
      rw [c1, e0]
      congr 1
      have hd : (cs.drop 37).length = 5 := by simp; omega
      have k1 : (cs.drop 37)[0]? = some (.bool n1) := by rw [List.getElem?_drop]; exact g1
      have k2 : (cs.drop 37)[1]? = some (.int .i64 n2) := by rw [List.getElem?_drop]; exact g2
      have k3 : (cs.drop 37)[2]? = some (.slice a3 x3.length c3) := by rw [List.getElem?_drop]; exact g3
      have k4 : (cs.drop 37)[3]? = some (.bool n4) := by rw [List.getElem?_drop]; exact g4
      have k5 : (cs.drop 37)[4]? = some (.slice a5 x5.length c5) := by rw [List.getElem?_drop]; exact g5
      generalize cs.drop 37 = ds at *
      match ds, hd, k1, k2, k3, k4, k5 with
      | [_, _, _, _, _], _, k1, k2, k3, k4, k5 =>
        simp at k1 k2 k3 k4 k5
        subst k1 k2 k3 k4 k5
        rfl
    · cases h

theorem open_actsL {r : Reach} {b0 : Nat} {v : Value} {d : DataW H} {p : List MemPlace} {held : Bool} (hv : Value.okWide Tryd.prog W r b0 41 v) (h : DataW.Trod enc Tryd.prog W base (fun _ => true) held 41 v d p) :
    ∃ a c xs, v = .slice a (List.length xs) c ∧ ActsL W a xs ∧ xs.length ≤ 9223372036854775807 := by
  obtain ⟨a, len, cap, rfl⟩ := okWide_slice Tryd.underlying41 hv
  obtain ⟨fuel, hf⟩ := h
  have hA : Tryd.prog.cellsOf 55 = 42 := by kernel_rfl
  rcases Go.Deep.open_slice Tryd.underlying41 hf with ⟨hcs, _⟩ | ⟨x, l, c, m, n, D, Pl, hcs, _, hl, hmx, hm, _, hel⟩
  · simp [Value.cells] at hcs
    obtain ⟨rfl, rfl, rfl⟩ := hcs
    exact ⟨none, 0, [], rfl, ⟨.inl rfl, fun x hx => by cases hx⟩, by simp⟩
  · simp [Value.cells] at hcs
    obtain ⟨rfl, rfl, rfl⟩ := hcs
    simp only [if_true] at hm
    subst hm
    rw [hA] at hel
    obtain ⟨Y, hY⟩ := Go.Deep.choose_lt (n := len) (p := fun i (y : ActL) => W.cells? base (x.add (i * 42)) 42 = some y.cells ∧ ActLOk W y) (fun i hi => by
      obtain ⟨cs', h1, h2⟩ := hel i (by omega)
      obtain ⟨y, rfl, hy⟩ := open_actL h2
      exact ⟨y, h1, hy⟩)
    unfold maxLen at hmx
    refine ⟨some x, m, (List.range len).map Y, by simp, ⟨?_, ?_⟩, by simp; omega⟩
    · by_cases h0 : len = 0
      · exact .inl (by simp [h0])
      · right
        have hcell : ∀ i, i < len → ∀ j, j < 42 → W.cell? ((x.add (i * 42)).add j) = (Y i).cells[j]? := fun i hi j hj => by
          have h1 := (hY i hi).1
          unfold World.cells? at h1
          split at h1
          · obtain ⟨b, hb, hc⟩ := Lib.mapM_at h1 j j (by simp [hj])
            rw [hb]; exact hc
          · cases h1
        obtain ⟨b, off, spot⟩ := x
        have hspot : spot = none := by
          have h1 := hcell 0 (by omega) 0 (by omega)
          rw [show (Y 0).cells[0]? = some (.int .u32 ((Y 0).l.t : Int)) from rfl] at h1
          simpa [Addr.add] using World.cell?_spot h1
        subst hspot
        refine ⟨b, off, rfl, fun i hi j hj => ?_⟩
        simp at hi
        have h1 := hcell i hi j hj
        have hpl : ((⟨b, off, none⟩ : Addr).add (i * 42)).add j = ⟨b, off + 42 * i + j, none⟩ := by
          rw [Go.Deep.add_add]
          unfold Addr.add
          split <;> simp_all
          omega
        rw [hpl] at h1
        rw [h1]
        simp [List.getD, hi]
    · intro y hy
      obtain ⟨i, hi, rfl⟩ := List.mem_map.1 hy
      exact (hY i (by simpa using hi)).2

end
end Go.Proofs.YthbcphalokoknaaDoor

/-
  The walk over label.Encode.
-/

namespace Go.Proofs.YthbcphalokoknaaDoor
set_option linter.unusedSimpArgs false
set_option linter.unusedVariables false
set_option maxRecDepth 100000
open Go.RowKit

set_option maxHeartbeats 4000000 in
theorem lencode_bad (l : Lb) (hl : l.ok) (a : Option Addr) (c : Nat) (w : World) (hlen : l.m.length ≤ 9223372036854775807) (hm : l.may = false) :
    Calls Tryd.prog 9 #[.agg (l.vs a c).toArray] w fun e w' => e = .returned (.tuple #[.slice none 0 0, .int .i64 1]) ∧ Below w.heap.size w w' := by
  obtain ⟨vs, hvs⟩ : ∃ vs, vs = l.vs a c := ⟨_, rfl⟩
  have hvl : vs.length = 37 := by rw [hvs]; exact Lb.vs_len hl.p a c
  have HR : Hid (l.p.vs = (vs.drop 1).take 35) := by show _ = _; rw [hvs]; exact Lb.vs_root hl.p a c
  have HM : Hid (vs[36]? = some (.slice a l.m.length c)) := by show _ = _; rw [hvs]; exact Lb.vs_map hl.p a c
  have hpl := Pt.vs_len hl.p
  have hmay := may_run l.p hl.p
  obtain ⟨n, hn⟩ : ∃ n, n = l.m.length := ⟨_, rfl⟩
  obtain ⟨b, hb⟩ : ∃ b, b = l.p.may := ⟨_, rfl⟩
  have hor : b = false ∨ b = true ∧ ((n : Int) == 64) = false := by
    rw [hb, hn]
    unfold Lb.may at hm
    cases h : l.p.may
    · exact .inl rfl
    · right; refine ⟨rfl, ?_⟩; rw [h] at hm; simp at hm; simp; omega
  rw [← hvs]
  rw [← hb] at hmay
  rw [← hn] at HM hlen
  clear hvs hb hn hm
  go_enter Tryd.func9, Tryd.ntmps9
  rcases hor with rfl | ⟨rfl, h64⟩
  · go_wp2_with (first
      | (refine wpList_box0 (by rfl) 29 (.tmp 0) (by rfl) vs (by rfl) ?_; intro w1 hL1 hb1 hs1
         have hc36 : w1.cell? ⟨w.heap.size, 36, none⟩ = some (.slice a n c) := (hL1.cell 36).trans HM.out)
      | (refine wpList_load_blk (by rfl) (.tmp 7) 26 (by rfl) _ 1 35 (by rfl) agg_ptr size_ptr hL1 _ HR.out hpl ?_)
      | (go_at_call 33; go_must (refine (hmay _).mono ?_); rintro e w2 ⟨rfl, hb2⟩))
    go_ret2
    exact ⟨rfl, below_then hb1 hb2⟩
  · go_wp2_with (first
      | (refine wpList_box0 (by rfl) 29 (.tmp 0) (by rfl) vs (by rfl) ?_; intro w1 hL1 hb1 hs1
         have hc36 : w1.cell? ⟨w.heap.size, 36, none⟩ = some (.slice a n c) := (hL1.cell 36).trans HM.out)
      | (refine wpList_load_blk (by rfl) (.tmp 7) 26 (by rfl) _ 1 35 (by rfl) agg_ptr size_ptr hL1 _ HR.out hpl ?_)
      | (go_at_call 33; go_must (refine (hmay _).mono ?_); rintro e w2 ⟨rfl, hb2⟩
         have hc36' : w2.cell? ⟨w.heap.size, 36, none⟩ = some (.slice a n c) := ((hL1.stays hb2).cell 36).trans HM.out))
    go_ret2
    exact ⟨rfl, below_then hb1 hb2⟩

theorem alloc_32z (w : World) : (Instr.alloc 23 true (.tuple #[])).run Tryd.prog w = .ok (.pointer (some ⟨w.heap.size, 0, none⟩)) (w.alloc (.cells ((List.replicate 32 (0 : Int)).map (Value.int .u8)).toArray 23)) := by kernel_rfl

theorem magic_cs : (((⟨#[67, 65, 85, 84]⟩ : ByteArray).extract 0 (magicL.map (Value.int .u8)).length).data.map fun b => Value.int .u8 b.toNat).toList = magicL.map (Value.int .u8) := by kernel_rfl
theorem magic_n : (magicL.map (Value.int .u8)).length = Nat.min (⟨#[67, 65, 85, 84]⟩ : ByteArray).size 256 := by kernel_rfl
theorem magic_fit : 0 + (magicL.map (Value.int .u8)).length ≤ ((List.replicate 256 (0 : Int)).map (Value.int .u8)).length := by simp [magicL]

set_option maxHeartbeats 20000000 in
theorem lencode_ok (l : Lb) (hl : l.ok) (a : Option Addr) (c : Nat) (w : World) (hB : Bs w a c l.m) (hV : Vars w) (hm : l.may = true) :
    Calls Tryd.prog 9 #[.agg (l.vs a c).toArray] w fun e w' => ∃ g, e = .returned (.tuple #[.slice (some ⟨g, 0, none⟩) 256 256, .int .i64 0]) ∧ w.heap.size ≤ g ∧ Row 5 w' g l.bytes ∧ Below w.heap.size w w' := by
  obtain ⟨i0, hi, hz0, hz1, hz2⟩ := info_parts Tryd.info5
  obtain ⟨hpm, hm64⟩ := Lb.may_parts hm
  obtain ⟨vs, hvs⟩ : ∃ vs, vs = l.vs a c := ⟨_, rfl⟩
  have hvl : vs.length = 37 := by rw [hvs]; exact Lb.vs_len hl.p a c
  have HR : Hid (l.p.vs = (vs.drop 1).take 35) := by show _ = _; rw [hvs]; exact Lb.vs_root hl.p a c
  have HM : Hid (vs[36]? = some (.slice a 64 c)) := by show _ = _; rw [hvs, ← hm64]; exact Lb.vs_map hl.p a c
  have HT : Hid (vs[0]? = some (.int .u32 (l.t : Int))) := by show _ = _; rw [hvs]; exact Lb.vs_txg l a c
  have hpl := Pt.vs_len hl.p
  have hmay := may_run l.p hl.p
  rw [hpm] at hmay
  have henc := encode_run l.p hl.p
  obtain ⟨es, hes⟩ : ∃ es, es = l.p.enc.map (Value.int .u8) := ⟨_, rfl⟩
  have hel : es.length = 44 := by rw [hes, List.length_map, Pt.enc_len hl.p]
  have heo : ∀ v ∈ es, v.oneCell' = true := by rw [hes]; exact int_oneCell _ _
  have HES : Hid (es = l.p.enc.map (Value.int .u8)) := hes
  rw [← hvs]
  rw [← hes] at henc
  clear hvs hes hpm
  have hal : ((List.replicate 44 (0 : Int)).map (Value.int .u8)).length = 44 := rfl
  go_enter Tryd.func9, Tryd.ntmps9
  go_wp2_with (first
      | (refine wpList_box0 (by rfl) 29 (.tmp 0) (by rfl) vs (by rfl) ?_; intro w1 hL1 hb1 hs1
         have hc36 : w1.cell? ⟨w.heap.size, 36, none⟩ = some (.slice a 64 c) := (hL1.cell 36).trans HM.out)
      | (refine wpList_load_blk (by rfl) (.tmp 7) 26 (by rfl) _ 1 35 (by rfl) agg_ptr size_ptr hL1 _ HR.out hpl ?_)
      | (go_at_call 33; go_must (refine (hmay _).mono ?_); rintro e w2 ⟨rfl, hb2⟩
         have hL2 := hL1.stays hb2
         have hc36' : w2.cell? ⟨w.heap.size, 36, none⟩ = some (.slice a 64 c) := (hL2.cell 36).trans HM.out)
      | (refine wpList_make_bytes (w0 := w2) (by rfl) (.const (.int .i64 256)) (.const (.int .i64 256)) 27 (by rfl) w2.heap.size 5 i0 Tryd.underlying27 hi hz0 hz1 hz2 .i64 .i64 256 256 256 (by rfl) (by rfl) (by rfl) (by rfl) (by decide) (Nat.le_refl _) (Below.refl _ _) ?_
         intro w3 hO3 hb3
         have hL3 := hL2.stays hb3)
      | (refine wpList_load_blk (by rfl) (.tmp 18) 26 (by rfl) _ 1 35 (by rfl) agg_ptr size_ptr hL3 _ HR.out hpl ?_)
      | (go_at_call 34; go_must (refine (henc _).mono ?_); rintro e w4 ⟨rfl, hb4⟩
         have hL4 := hL3.stays hb4
         have hO4 : Blk 5 w4 w2.heap.size ((List.replicate 256 (0 : Int)).map (Value.int .u8)) := Blk.stays (w := w3) hO3 hb4)
      | (refine wpList_alloc0 (by rfl) 74 (by rfl) (some 5) (by rfl) _ alloc_44 ?_; intro w5 hE5 hb5 hs5
         have hL5 := hL4.stays hb5
         have hO5 := hO4.stays hb5)
      | (refine wpList_store_blk (by rfl) (.tmp 5) (.tmp 20) 74 (by rfl) _ 0 44 (by rfl) es (by rfl) (sizeOf_run (by kernel_rfl)) hE5 hel (by rw [hal]; omega) heo es (whole_store hal) ?_
         intro w6 hE6 hbut6 hs6
         have hO6 := hO5.but hbut6 (Nat.ne_of_lt hO4.lt)
         have hL6 := hL5.but hbut6 (Nat.ne_of_lt hL4.lt))
      | (refine wpList_copy_str (by rfl) (.tmp 21) (.const (.string ⟨#[67, 65, 85, 84]⟩)) 27 9 (by rfl) 5 Tryd.underlying27 sizes5 w2.heap.size 0 256 256 _ (by rfl) (by rfl) hO6 (magicL.map (Value.int .u8)) magic_n magic_cs magic_fit (int_oneCell _ _) ?_
         intro w7 hO7 hbut7 hs7
         have hE7 := hE6.but hbut7 (Ne.symm (Nat.ne_of_lt hO4.lt))
         have hL7 := hL6.but hbut7 (Nat.ne_of_lt hL2.lt)))
  have hO7' : Blk 5 w7 w2.heap.size ((magicL ++ List.replicate 252 0).map (Value.int .u8)) := by
    have := splice_zeros [] magicL 0 256 rfl 252 rfl
    simp only [List.nil_append] at this
    rw [this] at hO7; exact hO7
  clear hO7
  have hel' : l.p.enc.length = 44 := Pt.enc_len hl.p
  have hb7 : Below w.heap.size w w7 := by
    have h5 := below_then (below_then (below_then (below_then hb1 hb2) hb3) hb4) hb5
    have h6 := h5.trans (hbut6.below (B := w.heap.size) (by have := hb1.size; have := hb2.size; have := hb3.size; have := hb4.size; omega) h5.size)
    exact h6.trans (hbut7.below (by have := hb1.size; have := hb2.size; omega) h6.size)
  have hlt24 := hO4.lt
  have HT7 : Hid (∀ u, Below w7.heap.size w7 u → u.cell? ⟨w.heap.size, 0, none⟩ = some (.int .u32 (l.t : Int))) := fun u hu => ((hL7.stays hu).cell 0).trans HT.out
  clear hc36 hc36' hL1 hL2 hL3 hL4 hL5 hL6 hO3 hO4 hO5 hO6 hE5 hE6
  refine UpT.wp_region_tail 5 (UpT.tell [(4, slB 4 (b32 l.t))]) (fun _ => false) (by kernel_rfl) (by kernel_rfl) (UpT.tell_steady _ (by
    intro p hp
    simp only [List.mem_cons, List.not_mem_nil, or_false] at hp
    rcases hp with rfl <;> first | exact isV_steady _ | exact slB_steady _ _)) ?_
  simp only [List.take_succ_cons, List.take_zero]
  apply UpT.wpUp_pure
  case hw => rfl
  case hψ => rfl
  case hv => (intro wz hp; clear hp; go_simp; try (with_reducible rfl))
  simp only [Act.put, List.setIfInBounds_toArray, List.set_cons_zero, List.set_cons_succ]
  apply UpT.wpUp_pure
  case hw => rfl
  case hψ => rfl
  case hv => (intro wz hp; clear hp; go_simp; try (with_reducible rfl))
  simp only [Act.put, List.setIfInBounds_toArray, List.set_cons_zero, List.set_cons_succ]
  apply UpT.wpUp_pure
  case hw => rfl
  case hψ => rfl
  case hv => (intro wz hp; clear hp; go_simp; try (with_reducible rfl))
  simp only [Act.put, List.setIfInBounds_toArray, List.set_cons_zero, List.set_cons_succ]
  apply UpT.wpUp_pure
  case hw => rfl
  case hψ => rfl
  case hv => (intro wz hp; have hcc := HT7.out wz hp.1; clear hp; go_simp; try (with_reducible rfl))
  simp only [Act.put, List.setIfInBounds_toArray, List.set_cons_zero, List.set_cons_succ]
  refine UpT.wpUp_call _ 35 #[.slice none 0 0, .int .u32 (l.t : Int)] (by rfl) (by rfl) (by rfl) (fun wz => by go_simp) (fun wz hp => calls_slB (put32_nil l.t hl.t wz)) ?_
  rintro v ⟨u, _, hf⟩
  obtain ⟨a7, c7, rfl, _⟩ := hf.of 4 v _ rfl rfl
  clear hf
  simp only [Act.put, List.setIfInBounds_toArray, List.set_cons_zero, List.set_cons_succ]
  refine UpT.wpUp_end ?_
  intro w8 hb8 hf
  obtain ⟨a7', c7', h7e, hB7⟩ := hf.of 4 _ _ rfl rfl
  cases h7e
  clear hf
  simp only [List.drop_succ_cons, List.drop_zero]
  refine wpList_copy_blk (by rfl) (.tmp 24) (.tmp 27) 27 27 (by rfl) 5 Tryd.underlying27 sizes5 w2.heap.size 4 252 252 a7 4 c7 (by rfl) (by rfl) (hO7'.stays hb8) (b32 l.t) 4 hB7 (by decide) (by rfl) (by first | omega | simp [b32_len]) (by simp [magicL, b32_len, hel']) ?_
  intro w9 hO9 hbut9 hs9
  rw [List.take_of_length_le (by simp [b32_len]), splice_zeros magicL (b32 l.t) 4 252 rfl 248 (by simp [b32_len])] at hO9
  have hL9 := (hL7.stays hb8).but hbut9 (by have := hb1.size; have := hb2.size; omega)
  have hE9 := (hE7.stays hb8).but hbut9 (by omega)
  have hb9 : Below w.heap.size w w9 := (below_then hb7 hb8).trans (hbut9.below (by have := hb1.size; have := hb2.size; omega) (below_then hb7 hb8).size)
  have hEB : ∀ u, Below w9.heap.size w9 u → Bs u (some ⟨w4.heap.size, 0, none⟩) 44 l.p.enc := fun u hu => by
    have h1 := hE9.stays hu
    rw [HES.out] at h1
    have := Row.bs (e := 74) (w := u) (g := w4.heap.size) (cur := l.p.enc) h1 (Pt.enc_rng hl.p) (by rw [hel']; decide)
    rwa [hel'] at this
  simp only [Act.put, List.setIfInBounds_toArray, List.set_cons_zero, List.set_cons_succ]
  clear hO7' hL7 hE7 hB7 hbut9 hs9 HT7 hb7
  go_wp2
  refine UpT.wp_region_tail 3 (UpT.tell []) (fun _ => false) (by kernel_rfl) (by kernel_rfl) (UpT.tell_steady _ (fun p hp => by cases hp)) ?_
  simp only [List.take_succ_cons, List.take_zero]
  apply UpT.wpUp_pure
  case hw => rfl
  case hψ => rfl
  case hv => (intro wz hp; clear hp; go_simp; try (with_reducible rfl))
  simp only [Act.put, List.setIfInBounds_toArray, List.set_cons_zero, List.set_cons_succ]
  apply UpT.wpUp_pure
  case hw => rfl
  case hψ => rfl
  case hv => (intro wz hp; clear hp; go_simp; try (with_reducible rfl))
  simp only [Act.put, List.setIfInBounds_toArray, List.set_cons_zero, List.set_cons_succ]
  apply UpT.wpUp_pure
  case hw => rfl
  case hψ => rfl
  case hv => (intro wz hp; clear hp; go_simp; try (with_reducible rfl))
  simp only [Act.put, List.setIfInBounds_toArray, List.set_cons_zero, List.set_cons_succ]
  refine UpT.wpUp_end ?_
  intro wA hbA hf
  clear hf
  simp only [List.drop_succ_cons, List.drop_zero]
  refine wpList_copy_blk (by rfl) (.tmp 30) (.tmp 31) 27 27 (by rfl) 5 Tryd.underlying27 sizes5 w2.heap.size 8 248 248 (some ⟨w4.heap.size, 0, none⟩) 44 44 (by rfl) (by rfl) (hO9.stays hbA) (l.p.enc) 44 (hEB _ hbA) (by decide) (by rfl) (by first | omega | simp [b32_len]) (by simp [magicL, b32_len, hel']) ?_
  intro wB hOB hbutB hsB
  rw [List.take_of_length_le (by omega), splice_zeros (magicL ++ b32 l.t) l.p.enc 8 248 rfl 204 (by omega)] at hOB
  have hLB := (hL9.stays hbA).but hbutB (by have := hb1.size; have := hb2.size; omega)
  have hbB : Below w.heap.size w wB := (below_then hb9 hbA).trans (hbutB.below (by have := hb1.size; have := hb2.size; omega) (below_then hb9 hbA).size)
  have HMB : Hid (∀ u, Below wB.heap.size wB u → u.cell? ⟨w.heap.size, 36, none⟩ = some (.slice a 64 c)) := fun u hu => ((hLB.stays hu).cell 36).trans HM.out
  simp only [Act.put, List.setIfInBounds_toArray, List.set_cons_zero, List.set_cons_succ]
  clear hO9 hL9 hE9 hEB hbutB hsB hb9
  go_wp2
  refine UpT.wp_region_tail 4 (UpT.tell []) (fun _ => false) (by kernel_rfl) (by kernel_rfl) (UpT.tell_steady _ (fun p hp => by cases hp)) ?_
  simp only [List.take_succ_cons, List.take_zero]
  apply UpT.wpUp_pure
  case hw => rfl
  case hψ => rfl
  case hv => (intro wz hp; clear hp; go_simp; try (with_reducible rfl))
  simp only [Act.put, List.setIfInBounds_toArray, List.set_cons_zero, List.set_cons_succ]
  apply UpT.wpUp_pure
  case hw => rfl
  case hψ => rfl
  case hv => (intro wz hp; clear hp; go_simp; try (with_reducible rfl))
  simp only [Act.put, List.setIfInBounds_toArray, List.set_cons_zero, List.set_cons_succ]
  apply UpT.wpUp_pure
  case hw => rfl
  case hψ => rfl
  case hv => (intro wz hp; clear hp; go_simp; try (with_reducible rfl))
  simp only [Act.put, List.setIfInBounds_toArray, List.set_cons_zero, List.set_cons_succ]
  apply UpT.wpUp_pure
  case hw => rfl
  case hψ => rfl
  case hv => (intro wz hp; have hcc := HMB.out wz hp.1; clear hp; go_simp; try (with_reducible rfl))
  simp only [Act.put, List.setIfInBounds_toArray, List.set_cons_zero, List.set_cons_succ]
  refine UpT.wpUp_end ?_
  intro wC hbC hf
  clear hf
  simp only [List.drop_succ_cons, List.drop_zero]
  have hBC : Bs wC a c l.m := hB.stays (below_then hbB hbC)
  refine wpList_copy_blk (by rfl) (.tmp 34) (.tmp 36) 27 27 (by rfl) 5 Tryd.underlying27 sizes5 w2.heap.size 52 204 204 a 64 c (by rfl) (by rfl) (hOB.stays hbC) (l.m) 64 hBC (by decide) (by rfl) (by first | omega | simp [b32_len]) (by simp [magicL, b32_len, hel']) ?_
  intro wD hOD hbutD hsD
  rw [List.take_of_length_le (by omega), splice_zeros ((magicL ++ b32 l.t) ++ l.p.enc) l.m 52 204 (by simp [magicL, b32_len, hel']) 140 (by omega)] at hOD
  have hbD : Below w.heap.size w wD := (below_then hbB hbC).trans (hbutD.below (by have := hb1.size; have := hb2.size; omega) (below_then hbB hbC).size)
  have hbody := Lb.body_len hl.p hm64
  have hsplit : (((magicL ++ b32 l.t) ++ l.p.enc) ++ l.m) ++ List.replicate 140 0 = l.body ++ List.replicate 32 0 := by
    unfold Lb.body
    rw [show List.replicate 140 (0 : Int) = List.replicate 108 0 ++ List.replicate 32 0 by rw [List.replicate_append_replicate]]
    simp only [List.append_assoc]
  rw [hsplit] at hOD
  have hBD : Bs wD (some ⟨w2.heap.size, 0, none⟩) 256 l.body := by
    have h1 := Row.bs (e := 5) (w := wD) (g := w2.heap.size) (cur := l.body ++ List.replicate 32 0) hOD (rng_app (Lb.body_rng hl) (rng_zeros _)) (by rw [List.length_append, hbody]; decide)
    have h2 := (h1.upto (P := Tryd.prog) 27 5 Tryd.underlying27 sizes5 Tryd.elem27 224 (by rw [List.length_append, hbody]; omega)).2
    rw [List.take_left' hbody] at h2
    have h3 : (l.body ++ List.replicate 32 (0 : Int)).length = 256 := by rw [List.length_append, hbody]; rfl
    rwa [h3] at h2
  have hsum := sum_run _ _ _ wD hBD (hV.stays hbD) (by omega)
  rw [hbody] at hsum
  obtain ⟨us, hus⟩ : ∃ us, us = (shaOf l.body).map (Value.int .u8) := ⟨_, rfl⟩
  have hul : us.length = 32 := by rw [hus, List.length_map, shaOf_length]
  have huo : ∀ v ∈ us, v.oneCell' = true := by rw [hus]; exact int_oneCell _ _
  have HUS : Hid (us = (shaOf l.body).map (Value.int .u8)) := hus
  rw [← hus] at hsum
  have hzl : ((List.replicate 32 (0 : Int)).map (Value.int .u8)).length = 32 := rfl
  simp only [Act.put, List.setIfInBounds_toArray, List.set_cons_zero, List.set_cons_succ]
  clear hus hsplit hOB hLB HMB hBC hbutD hsD hBD hbB hmay henc
  go_wp2_with (first
    | (go_at_call 36; go_must (refine hsum.mono ?_); rintro e wE ⟨rfl, hbE⟩
       have hOE := hOD.stays hbE)
    | (refine wpList_alloc0 (by rfl) 23 (by rfl) (some 6) (by rfl) _ alloc_32z ?_; intro wF hSF hbF hsF
       have hOF := hOE.stays hbF)
    | (refine wpList_store_blk (by rfl) (.tmp 6) (.tmp 40) 23 (by rfl) _ 0 32 (by rfl) us (by rfl) size_32 hSF hul (by rw [hzl]; omega) huo us (whole_store hzl) ?_
       intro wG hSG hbutG hsG
       have hOG := hOF.but hbutG (Nat.ne_of_lt hOE.lt)))
  have hbG : Below w.heap.size w wG := by
    have h1 := below_then (below_then hbD hbE) hbF
    exact h1.trans (hbutG.below (B := w.heap.size) (by have := hbD.size; have := hbE.size; omega) h1.size)
  have hSB : ∀ u, Below wG.heap.size wG u → Bs u (some ⟨wE.heap.size, 0, none⟩) 32 (shaOf l.body) := fun u hu => by
    have h1 := hSG.stays hu
    rw [HUS.out] at h1
    exact Row.bs (e := 23) (w := u) (g := wE.heap.size) (cur := shaOf l.body) h1 (shaOf_rng _) (by rw [shaOf_length]; decide)
  clear hOD hOE hOF hSF hbutG
  refine UpT.wp_region_tail 3 (UpT.tell []) (fun _ => false) (by kernel_rfl) (by kernel_rfl) (UpT.tell_steady _ (fun p hp => by cases hp)) ?_
  simp only [List.take_succ_cons, List.take_zero]
  apply UpT.wpUp_pure
  case hw => rfl
  case hψ => rfl
  case hv => (intro wz hp; clear hp; go_simp; try (with_reducible rfl))
  simp only [Act.put, List.setIfInBounds_toArray, List.set_cons_zero, List.set_cons_succ]
  apply UpT.wpUp_pure
  case hw => rfl
  case hψ => rfl
  case hv => (intro wz hp; clear hp; go_simp; try (with_reducible rfl))
  simp only [Act.put, List.setIfInBounds_toArray, List.set_cons_zero, List.set_cons_succ]
  apply UpT.wpUp_pure
  case hw => rfl
  case hψ => rfl
  case hv => (intro wz hp; clear hp; go_simp; try (with_reducible rfl))
  simp only [Act.put, List.setIfInBounds_toArray, List.set_cons_zero, List.set_cons_succ]
  refine UpT.wpUp_end ?_
  intro wH hbH hf
  clear hf
  simp only [List.drop_succ_cons, List.drop_zero]
  refine wpList_copy_blk (by rfl) (.tmp 42) (.tmp 43) 27 27 (by rfl) 5 Tryd.underlying27 sizes5 w2.heap.size 224 32 32 (some ⟨wE.heap.size, 0, none⟩) 32 32 (by rfl) (by rfl) (hOG.stays hbH) (shaOf l.body) 32 (hSB _ hbH) (by decide) (by rfl) (by rw [shaOf_length]; omega) (by rw [List.length_map, List.length_append, hbody]; decide) ?_
  intro wI hOI hbutI hsI
  rw [List.take_of_length_le (by rw [shaOf_length]; omega), splice_zeros l.body (shaOf l.body) 224 32 hbody.symm 0 (by rw [shaOf_length])] at hOI
  have hbI : Below w.heap.size w wI := (below_then hbG hbH).trans (hbutI.below (by have := hb1.size; have := hb2.size; omega) (below_then hbG hbH).size)
  simp only [Act.put, List.setIfInBounds_toArray, List.set_cons_zero, List.set_cons_succ]
  clear hOG hSB hSG hbutI hsI
  go_wp2
  go_ret2
  refine ⟨_, rfl, by have := hb1.size; have := hb2.size; omega, ?_, hbI⟩
  rw [List.replicate_zero, List.append_nil] at hOI
  exact hOI

end Go.Proofs.YthbcphalokoknaaDoor

/-
  Package disk: Read.
-/

namespace Go.Proofs.YthbcphalokoknaaDoor
set_option linter.unusedSimpArgs false
set_option linter.unusedVariables false
open Go.RowKit
attribute [local go_sem] Oper.semAt_some wide_fn wide_depth round_fn round_depth

theorem results_cells2 {fn : Func} {p q : Tmp} {t u : TypeId} (h : fn.results = #[.cell p t, .cell q u]) (tmps : Array Value) (P : Program) (w : World) {a b : Addr} {x y : Value}
    (hp : tmps.getD p undef = .pointer (some a)) (hq : tmps.getD q undef = .pointer (some b)) (hx : (loadVar t a).run P w = .ok x w) (hy : (loadVar u b).run P w = .ok y w) :
    (results fn tmps).run P w = .ok (.tuple #[x, y]) w := by
  rw [Array.getD_eq_getD_getElem?] at hp hq
  simp [results, h, hp, hq, asAddr, Sem.run_bind, hx, hy]

/-- What is on the disk of a sector. -/
def secOf (laid : List Int) (s : Nat) : List Int := (laid.drop (256 * s)).take 256

/-- A sector as it is read: when the last i writes are looked through and none is of it, what the others say. -/
def readOf (laid : List Int) (bufs : List Buf) (s : Nat) : List Int := ((bufs.reverse.find? fun f => f.at' == s).map (·.xs)).getD (secOf laid s)

theorem secOf_length {laid : List Int} {s : Nat} (h : 256 * s + 256 ≤ laid.length) : (secOf laid s).length = 256 := by unfold secOf; simp; omega

section
variable {p bl : Nat} {v : Value} {bufs : List Buf} {laid : List Int} {off fused : Bool} {left : Nat}

theorem owns_aside {w w' : World} {B base : Nat} {e : TypeId} {s : Nat} {v : Value} {n : Nat} {xs : List Value} (h : w.ownsRow base e s v n xs) (hA : Aside B w w') : w'.ownsRow base e s v n xs :=
  owns_keep h (fun k e => by obtain ⟨cs, hc⟩ := own_type h e; exact hA.block k (Array.getElem?_eq_some_iff.1 hc).1 (.inr ⟨_, hc, rfl⟩))

theorem below_aside {a b c : World} {B : Nat} (h : Below a.heap.size a b) (hA : Aside B b c) (hB : a.heap.size ≤ B) : Below a.heap.size a c :=
  ⟨hA.os.trans h.os, hA.tape.trans h.tape, hA.output.trans h.output, Nat.le_trans h.size hA.size, fun i hl => (hA.block i (Nat.lt_of_lt_of_le hl h.size) (.inl (by omega))).trans (h.block i hl)⟩

/-- The bytes of a sector on the disk. -/
theorem sector_bs {w : World} (h : DkAt w p bl v bufs laid off fused left) {s : Nat} (hs : 256 * s + 256 ≤ laid.length) : Bs w (some ⟨bl, 256 * s, none⟩) (laid.length - 256 * s) (secOf laid s) := by
  obtain ⟨n, hn, hn1, hn2⟩ := h.siz
  refine ⟨fun x hx => h.rng x (List.mem_of_mem_drop (List.mem_of_mem_take hx)), by rw [secOf_length hs]; omega, by unfold maxLen; omega, by simp, .inr ⟨bl, 256 * s, rfl, fun i hi => ?_⟩⟩
  rw [secOf_length hs] at hi
  rw [h.row.cell (256 * s + i) (by omega)]
  simp [secOf, List.getD, List.getElem?_take, hi, List.getElem?_drop]

theorem load_slice {w : World} {a : Addr} {x : Value} (h : w.cell? a = some x) : (loadVar 27 a).run Tryd.prog w = .ok x w := by
  go_simp
theorem load_errno {w : World} {a : Addr} {x : Value} (h : w.cell? a = some x) : (loadVar 31 a).run Tryd.prog w = .ok x w := by
  go_simp

theorem Blk.aside {e : TypeId} {w w' : World} {g B : Nat} {vs : List Value} (h : Blk e w g vs) (hA : Aside B w w') : Blk e w' g vs := by
  have := h.lt
  unfold Blk at *
  rw [hA.block g this (.inr ⟨_, h, rfl⟩)]; exact h

set_option maxRecDepth 100000 in
set_option maxHeartbeats 4000000 in
theorem read_off (i : Int) (w : World) (hD : DkAt w p bl v bufs laid true fused left) :
    Calls Tryd.prog 32 #[.pointer (some ⟨p, 0, none⟩), .int .i64 i] w fun e w' => e = .returned (.tuple #[.slice none 0 0, .int .i64 8]) ∧ Below w.heap.size w w' := by
  refine (callsIn_wide (n := 0)).1 (callsIn_of_wp_marks Tryd.func32 rfl trivial ?_ rfl)
  simp only [Tryd.ntmps32, List.size_toArray, List.length_cons, List.length_nil, Nat.reduceAdd, Nat.reduceSub, Array.replicate_succ, Array.replicate_zero, List.push_toArray, List.append_toArray, List.nil_append, List.cons_append]
  have hb1 : Below w.heap.size w (((w.alloc (.cells #[.int .i64 i] 3)).alloc (.cells #[.slice none 0 0] 27)).alloc (.cells #[.int .i64 0] 31)) := (((Below.refl _ _).alloc (Nat.le_refl _) _).alloc (by simp) _).alloc (by simp; omega) _
  have hD1 := hD.stays hb1
  gi_wp2_with (first
    | (gi_at_call 51; refine (callsIn_wide.2 (down_run _ hD1)).mono ?_; rintro e w' ⟨rfl, rfl⟩))
  have c1 : (((w.alloc (.cells #[.int .i64 i] 3)).alloc (.cells #[.slice none 0 0] 27)).alloc (.cells #[.int .i64 8] 31)).cell? ⟨w.heap.size + 1, 0, none⟩ = some (.slice none 0 0) := (Blk.alloc (Blk.newAt (vs := [.slice none 0 0]) (by simp) rfl) _).cell 0
  have c2 : (((w.alloc (.cells #[.int .i64 i] 3)).alloc (.cells #[.slice none 0 0] 27)).alloc (.cells #[.int .i64 8] 31)).cell? ⟨w.heap.size + 1 + 1, 0, none⟩ = some (.int .i64 8) := (Blk.newAt (vs := [.int .i64 8]) (by simp) rfl).cell 0
  exact ⟨_, results_cells2 rfl _ _ _ rfl rfl (load_slice c1) (load_errno c2), rfl, (((Below.refl _ _).alloc (Nat.le_refl _) _).alloc (by simp) _).alloc (by simp; omega) _⟩

set_option maxRecDepth 100000 in
set_option maxHeartbeats 4000000 in
theorem read_arg (i : Int) (w : World) (hD : DkAt w p bl v bufs laid false fused left) (hi : ¬ (0 ≤ i ∧ i < ((laid.length / 256 : Nat) : Int))) :
    Calls Tryd.prog 32 #[.pointer (some ⟨p, 0, none⟩), .int .i64 i] w fun e w' => e = .returned (.tuple #[.slice none 0 0, .int .i64 1]) ∧ Below w.heap.size w w' := by
  refine (callsIn_wide (n := 0)).1 (callsIn_of_wp_marks Tryd.func32 rfl trivial ?_ rfl)
  simp only [Tryd.ntmps32, List.size_toArray, List.length_cons, List.length_nil, Nat.reduceAdd, Nat.reduceSub, Array.replicate_succ, Array.replicate_zero, List.push_toArray, List.append_toArray, List.nil_append, List.cons_append]
  have hb1 : Below w.heap.size w (((w.alloc (.cells #[.int .i64 i] 3)).alloc (.cells #[.slice none 0 0] 27)).alloc (.cells #[.int .i64 0] 31)) := (((Below.refl _ _).alloc (Nat.le_refl _) _).alloc (by simp) _).alloc (by simp; omega) _
  have hD1 := hD.stays hb1
  have hcall := has_run i _ hD1
  rw [decide_eq_false hi] at hcall
  clear hi
  gi_wp2_with (first
    | (gi_at_call 51; refine (callsIn_wide.2 (down_run _ hD1)).mono ?_; rintro e w' ⟨rfl, rfl⟩)
    | (gi_at_call 56; refine (callsIn_wide.2 hcall).mono ?_; rintro e w' ⟨rfl, rfl⟩))
  have c1 : (((w.alloc (.cells #[.int .i64 i] 3)).alloc (.cells #[.slice none 0 0] 27)).alloc (.cells #[.int .i64 1] 31)).cell? ⟨w.heap.size + 1, 0, none⟩ = some (.slice none 0 0) := (Blk.alloc (Blk.newAt (vs := [.slice none 0 0]) (by simp) rfl) _).cell 0
  have c2 : (((w.alloc (.cells #[.int .i64 i] 3)).alloc (.cells #[.slice none 0 0] 27)).alloc (.cells #[.int .i64 1] 31)).cell? ⟨w.heap.size + 1 + 1, 0, none⟩ = some (.int .i64 1) := (Blk.newAt (vs := [.int .i64 1]) (by simp) rfl).cell 0
  exact ⟨_, results_cells2 rfl _ _ _ rfl rfl (load_slice c1) (load_errno c2), rfl, (((Below.refl _ _).alloc (Nat.le_refl _) _).alloc (by simp) _).alloc (by simp; omega) _⟩

theorem read_step {s k : Nat} (hk : k < bufs.length) (hno : ∀ f ∈ bufs.drop (k + 1), f.at' ≠ s) (hat : (bufs.getD k noBuf).at' = s) : readOf laid bufs s = (bufs.getD k noBuf).xs := by
  have e : bufs = bufs.take k ++ bufs.getD k noBuf :: bufs.drop (k + 1) := by
    rw [List.getD_eq_getElem?_getD, List.getElem?_eq_getElem hk, Option.getD_some, ← List.drop_eq_getElem_cons hk, List.take_append_drop]
  unfold readOf
  generalize bufs.getD k noBuf = f at *
  have h0 : bufs.reverse = (bufs.drop (k + 1)).reverse ++ ([f] ++ (bufs.take k).reverse) := by
    conv => lhs; rw [e]
    simp
  rw [h0, List.find?_append]
  have h1 : (bufs.drop (k + 1)).reverse.find? (fun f => f.at' == s) = none := by
    rw [List.find?_eq_none]
    intro f hf
    simpa using hno f (by simpa using hf)
  rw [h1]
  simp only [Option.none_or, List.singleton_append, List.find?_cons]
  rw [hat]
  simp

theorem read_none {s : Nat} (hno : ∀ f ∈ bufs, f.at' ≠ s) : readOf laid bufs s = secOf laid s := by
  unfold readOf
  have h1 : bufs.reverse.find? (fun f => f.at' == s) = none := by
    rw [List.find?_eq_none]
    intro f hf
    simpa using hno f (by simpa using hf)
  rw [h1]; rfl

theorem owns_mono {w : World} {base base' : Nat} {e : TypeId} {s : Nat} {v : Value} {n : Nat} {xs : List Value} (h : w.ownsRow base e s v n xs) (hb : base' ≤ base) : w.ownsRow base' e s v n xs := by
  obtain ⟨h1, h2⟩ := h
  refine ⟨h1, ?_⟩
  rcases h2 with h2 | ⟨g, cap, cur, rfl, hg, rest⟩
  · exact .inl h2
  · exact .inr ⟨g, cap, cur, rfl, by omega, rest⟩

/-- The two results laid into their cells. -/
theorem two_cells {w w3 w4 : World} {g cap n B : Nat} {xs : List Value} (hb3 : Below w.heap.size w w3) (hb4 : Below w3.heap.size w3 w4) (hs3 : w.heap.size + 3 ≤ w3.heap.size) (hown : w4.ownsRow w3.heap.size 5 1 (.slice (some ⟨g, 0, none⟩) n cap) n xs)
    {y z : Value} (hy : Blk 27 w3 (w.heap.size + 1) [y]) (hz : Blk 31 w3 (w.heap.size + 2) [z]) (x1 x2 : Value) {W : World} (hW : W = (w4.setCell ⟨w.heap.size + 1, 0, none⟩ x1).setCell ⟨w.heap.size + 1 + 1, 0, none⟩ x2) :
    KeepsFrom B w3 W ∧ W.ownsRow w.heap.size 5 1 (.slice (some ⟨g, 0, none⟩) n cap) n xs ∧ Below w.heap.size w W ∧ Blk 27 W (w.heap.size + 1) [x1] ∧ Blk 31 W (w.heap.size + 2) [x2] := by
  subst hW
  have hg := (hown.lt g rfl).1
  have hb : Below w.heap.size w w4 := hb3.trans (hb4.mono hb3.size)
  refine ⟨?_, ?_, ?_, ?_, ?_⟩
  · exact (KeepsFrom.trans ⟨hb4.size, fun k o _ hk _ => (hb4.block k (Array.getElem?_eq_some_iff.1 hk).1).trans hk⟩ ((KeepsOthers.setCell _ _ _).from _)).trans ((KeepsOthers.setCell _ _ _).from _)
  · refine owns_keep (owns_mono hown (by omega)) (fun k e => ?_)
    simp [Value.ownBlock] at e
    subst e
    rw [Below.heap_setCell _ _ _ _ (by simp; omega), Below.heap_setCell _ _ _ _ (by simp; omega)]
  · exact (hb.setCell (p := ⟨w.heap.size + 1, 0, none⟩) (by simp) _).setCell (p := ⟨w.heap.size + 1 + 1, 0, none⟩) (by simp; omega) _
  · have := (hy.stays hb4).set 0 x1
    unfold Blk at *
    rw [Below.heap_setCell _ _ _ _ (by simp)]
    exact this
  · have h1 : Blk 31 (w4.setCell ⟨w.heap.size + 1, 0, none⟩ x1) (w.heap.size + 2) [z] := by
      have := hz.stays hb4
      unfold Blk at *
      rw [Below.heap_setCell _ _ _ _ (by simp)]
      exact this
    exact h1.set 0 x2

set_option maxRecDepth 100000 in
set_option maxHeartbeats 4000000 in
theorem read_done (s : Nat) (w : World) (hD : DkAt w p bl v bufs laid false fused left) (hlen : bufs.length ≤ 1000000) (hs : 256 * s + 256 ≤ laid.length) :
    Calls Tryd.prog 32 #[.pointer (some ⟨p, 0, none⟩), .int .i64 (s : Int)] w fun e w' => ∃ g cap, e = .returned (.tuple #[.slice (some ⟨g, 0, none⟩) 256 cap, .int .i64 0]) ∧
      w'.ownsRow w.heap.size 5 1 (.slice (some ⟨g, 0, none⟩) 256 cap) 256 ((readOf laid bufs s).map (Value.int .u8)) ∧ Below w.heap.size w w' := by
  refine (callsIn_wide (n := 0)).1 (callsIn_of_wp_marks Tryd.func32 rfl trivial ?_ rfl)
  simp only [Tryd.ntmps32, List.size_toArray, List.length_cons, List.length_nil, Nat.reduceAdd, Nat.reduceSub, Array.replicate_succ, Array.replicate_zero, List.push_toArray, List.append_toArray, List.nil_append, List.cons_append]
  obtain ⟨w1, hw1⟩ : ∃ w1, w1 = ((w.alloc (.cells #[.int .i64 (s : Int)] 3)).alloc (.cells #[.slice none 0 0] 27)).alloc (.cells #[.int .i64 0] 31) := ⟨_, rfl⟩
  have hb1 : Below w.heap.size w w1 := by rw [hw1]; exact (((Below.refl _ _).alloc (Nat.le_refl _) _).alloc (by simp) _).alloc (by simp; omega) _
  have hx1 : Blk 3 w1 w.heap.size [.int .i64 (s : Int)] := by rw [hw1]; exact ((Blk.newAt rfl rfl).alloc _).alloc _
  have hy1 : Blk 27 w1 (w.heap.size + 1) [.slice none 0 0] := by rw [hw1]; exact (Blk.newAt (by simp) rfl).alloc _
  have hz1 : Blk 31 w1 (w.heap.size + 2) [.int .i64 0] := by rw [hw1]; exact Blk.newAt (by simp) rfl
  have hs1 : w.heap.size + 3 ≤ w1.heap.size := by rw [hw1]; simp
  have hD1 := hD.stays hb1
  have hcx1 : w1.cell? ⟨w.heap.size, 0, none⟩ = some (.int .i64 (s : Int)) := hx1.cell 0
  have hcall := has_run (s : Int) _ hD1
  rw [decide_eq_true (by omega)] at hcall
  have HW1 : Hid (w1 = _) := hw1
  clear hw1
  gi_wp2_with (first
    | (gi_at_call 51; rw [← HW1.out]; refine (callsIn_wide.2 (down_run _ hD1)).mono ?_; rintro e w' ⟨rfl, rfl⟩)
    | (gi_at_call 56; refine (callsIn_wide.2 hcall).mono ?_; rintro e w' ⟨rfl, rfl⟩))
  refine wpIn_range_bound 61 (.pointer (some ⟨p, 0, none⟩)) rfl (enters_of Tryd.func61 (by kernel_rfl) rfl) bufs.length (fun i => #[(bufs.getD (bufs.length - 1 - i) noBuf).agg]) (Nd p v bufs) (fun W h => newest_iter p v bufs hlen W h) (fun _ => rfl)
    (fun i W => (∀ f ∈ bufs.drop (bufs.length - i), f.at' ≠ s) ∧ DkAt W p bl v bufs laid false fused left ∧ Below w.heap.size w W ∧ Blk 3 W w.heap.size [.int .i64 (s : Int)] ∧ Blk 27 W (w.heap.size + 1) [.slice none 0 0] ∧ Blk 31 W (w.heap.size + 2) [.int .i64 0])
    (fun c W => c = .ret ∧ ∃ g cap, W.ownsRow w.heap.size 5 1 (.slice (some ⟨g, 0, none⟩) 256 cap) 256 ((readOf laid bufs s).map (Value.int .u8)) ∧ Below w.heap.size w W ∧ Blk 27 W (w.heap.size + 1) [.slice (some ⟨g, 0, none⟩) 256 cap] ∧ Blk 31 W (w.heap.size + 2) [.int .i64 0])
    (fun i W h => h.2.1.nd) (fun i W W' h hA => ⟨h.1, h.2.1.aside hA, below_aside h.2.2.1 hA (by omega), h.2.2.2.1.aside hA, h.2.2.2.2.1.aside hA, h.2.2.2.2.2.aside hA⟩)
    (fun c W W' h hA => by obtain ⟨hc, g, cap, h1, h2, h3, h4⟩ := h; exact ⟨hc, g, cap, owns_aside h1 hA, below_aside h2 hA (by omega), h3.aside hA, h4.aside hA⟩)
    ⟨by simp, hD1, hb1, hx1, hy1, hz1⟩ ?round ?done ?stop
  case round =>
    rintro l i W K hi ⟨hno, hDi, hbi, hxi, hyi, hzi⟩ hR
    obtain ⟨k, hk⟩ : ∃ k, k = bufs.length - 1 - i := ⟨_, rfl⟩
    have hkl : k < bufs.length := by omega
    obtain ⟨f, hfe⟩ : ∃ f, f = bufs.getD k noBuf := ⟨_, rfl⟩
    have hfm : f ∈ bufs := hfe ▸ getD_mem hkl
    have hf := hDi.buf f hfm
    have hfl := hf.1.len
    have hk1 : bufs.length - i = k + 1 := by omega
    have hk2 : bufs.length - (i + 1) = k := by omega
    rw [hk1] at hno
    rw [hk2] at hR
    dsimp only
    rw [← hk, ← hfe]
    unfold Buf.agg Buf.slice
    rw [hfl]
    have HFE : Hid (f = bufs.getD k noBuf) := hfe
    clear hfe hk hk1 hk2
    gi_wp2
    refine hR _ _ ((KeepsOthers.alloc _ _).from _) (fun w₃ hA => ?_)
    have hba : Below W.heap.size W (W.alloc (.cells #[.int .i64 (f.at' : Int), .slice (some ⟨f.blk, 0, none⟩) 256 f.cap] 91)) := (Below.refl _ _).alloc (Nat.le_refl _) _
    have hD3 := (hDi.stays hba).aside hA
    have hd0 : w₃.cell? ⟨W.heap.size, 0, none⟩ = some (.int .i64 (f.at' : Int)) := hA.cell (by simp)
    have hd1 : w₃.cell? ⟨W.heap.size, 1, none⟩ = some (.slice (some ⟨f.blk, 0, none⟩) 256 f.cap) := hA.cell (by simp)
    have hx3 := (hxi.stays hba).aside hA
    have hy3 := (hyi.stays hba).aside hA
    have hz3 := (hzi.stays hba).aside hA
    have hb3 : Below w.heap.size w w₃ := below_aside (hbi.trans (hba.mono hbi.size)) hA (by omega)
    have hcx3 : w₃.cell? ⟨w.heap.size, 0, none⟩ = some (.int .i64 (s : Int)) := hx3.cell 0
    clear hR
    by_cases hat : f.at' = s
    · have hieq : ((f.at' : Int) = (s : Int)) = True := eq_true (by omega)
      have hcall := clone_run ⟨f.blk, 0, none⟩ f.cap f.xs w₃ (hD3.buf f hfm).1.bs (by omega) (by omega)
      rw [hfl] at hcall
      gi_wp2_with (gi_at_call 45; refine (CallsIn.inRound l (callsIn_wide.2 hcall)).mono ?_; rintro e w4 ⟨g, cap, rfl, hown, hb4⟩; have hy4 := hy3.stays hb4; have hz4 := hz3.stays hb4; have hcy4 := hy4.cell 0; have hfy4 := hy4.free 0; have hcz4 := hz4.cell 0; have hfz4 := hz4.free 0)
      have hrd := read_step (laid := laid) hkl hno (HFE.out ▸ hat)
      rw [← HFE.out] at hrd
      obtain ⟨k1, k2, k3, k4, k5⟩ := two_cells (B := w'.heap.size) hb3 hb4 (by have := hA.size; have := hba.size; have := hzi.lt; omega) hown hy3 hz3 (.slice (some ⟨g, 0, none⟩) 256 cap) (.int .i64 0) rfl
      exact ⟨k1, rfl, g, cap, by rw [hrd]; exact k2, k3, k4, k5⟩
    · have hieq : ((f.at' : Int) = (s : Int)) = False := eq_false (by omega)
      gi_wp2
      refine ⟨KeepsFrom.refl _ _, fun f' hf' => ?_, hD3, hb3, hx3, hy3, hz3⟩
      have e : bufs.drop k = f :: bufs.drop (k + 1) := by rw [HFE.out, List.getD_eq_getElem?_getD, List.getElem?_eq_getElem hkl, Option.getD_some, ← List.drop_eq_getElem_cons hkl]
      rw [e] at hf'
      rcases List.mem_cons.1 hf' with rfl | hf'
      · exact hat
      · exact hno f' hf'
  case done =>
    rintro W ⟨hno, hDW, hbW, hxW, hyW, hzW⟩ hK
    rw [Nat.sub_self, List.drop_zero] at hno
    have hsec := sector_run s W hDW hs
    have hcl := clone_run ⟨bl, 256 * s, none⟩ _ _ W (sector_bs hDW hs) (by rw [secOf_length hs]; omega) (by rw [secOf_length hs]; omega)
    rw [secOf_length hs] at hcl
    have hcxW : W.cell? ⟨w.heap.size, 0, none⟩ = some (.int .i64 (s : Int)) := hxW.cell 0
    gi_wp2_with (first
      | (gi_at_call 57; refine (callsIn_wide.2 hsec).mono ?_; rintro e w2 ⟨rfl, rfl⟩)
      | (gi_at_call 45; refine (callsIn_wide.2 hcl).mono ?_; rintro e w4 ⟨g, cap, rfl, hown, hb4⟩; have hy4 := hyW.stays hb4; have hz4 := hzW.stays hb4; have hcy4 := hy4.cell 0; have hfy4 := hy4.free 0; have hcz4 := hz4.cell 0; have hfz4 := hz4.free 0))
    obtain ⟨k1, k2, k3, k4, k5⟩ := two_cells (B := w'.heap.size) hbW hb4 (by have := hzW.lt; omega) hown hyW hzW (.slice (some ⟨g, 0, none⟩) 256 cap) (.int .i64 0) rfl
    have hK2 := k1.same _ _ (Nat.le_refl _) hK rfl
    have hA := Aside.put (B := w'.heap.size) (.deferred none) hK2 (Nat.le_refl _) rfl
    have c1 := (k4.aside hA).cell 0
    have c2 := (k5.aside hA).cell 0
    refine ⟨by simp, .inl ⟨_, _, rfl, run_takeDeferred hK2, ?_⟩⟩
    exact ⟨_, results_cells2 rfl _ _ _ rfl rfl (load_slice c1) (load_errno c2), g, cap, rfl, by rw [read_none hno]; exact owns_aside k2 hA, below_aside k3 hA (by omega)⟩
  case stop =>
    rintro c W ⟨rfl, g, cap, hown, hbW, hyW, hzW⟩ hK
    gi_wp2
    have hA := Aside.put (B := w'.heap.size) (.deferred none) hK (Nat.le_refl _) rfl
    have c1 := (hyW.aside hA).cell 0
    have c2 := (hzW.aside hA).cell 0
    refine ⟨by simp, .inl ⟨_, _, rfl, run_takeDeferred hK, ?_⟩⟩
    exact ⟨_, results_cells2 rfl _ _ _ rfl rfl (load_slice c1) (load_errno c2), g, cap, rfl, owns_aside hown hA, below_aside hbW hA (by omega)⟩

end

end Go.Proofs.YthbcphalokoknaaDoor
