/-
  Labels and scripts that came in.
-/
import Derived.Test.YteocmmmnfbabaaaDoorLbBase
import Derived.Test.YteocmmmnfbabaaaDoorDkOpen
import Derived.Test.YteocmmmnfbabaaaDoorPOpens
import Derived.Deep.Slices
namespace Go.Proofs.YteocmmmnfbabaaaDoor
set_option linter.unusedSimpArgs false
set_option linter.unusedVariables false
set_option maxRecDepth 100000
open Go.RowKit Go.ChangeShapes Go.WideShapes

/-- An act of LabelPlays: a label (its map behind a slice), flush, at, mask, crash, keep. -/
structure ActL where
  l : Lb
  la : Option Addr
  lc : Nat
  fl : Bool
  at' : Int
  ma : Option Addr
  mc : Nat
  ms : List Int
  cr : Bool
  ka : Option Addr
  kc : Nat
  ks : List Int
instance : Inhabited ActL := ⟨⟨⟨0, ⟨[], 0, 0, 0⟩, []⟩, none, 0, false, 0, none, 0, [], false, none, 0, []⟩⟩

def ActL.tail (x : ActL) : List Value := [.bool x.fl, .int .i64 x.at', .slice x.ma x.ms.length x.mc, .bool x.cr, .slice x.ka x.ks.length x.kc]
def ActL.cells (x : ActL) : List Value := x.l.vs x.la x.lc ++ x.tail

structure ActLOk (W : World) (x : ActL) : Prop where
  l : x.l.ok
  lm : Bs W x.la x.lc x.l.m
  at' : -9223372036854775808 ≤ x.at' ∧ x.at' ≤ 9223372036854775807
  ms : Bs W x.ma x.mc x.ms
  ks : Is W x.ka x.ks
  kl : x.ks.length ≤ 9223372036854775807

structure ActsL (W : World) (a : Option Addr) (xs : List ActL) : Prop where
  lay : xs = [] ∨ ∃ b off, a = some ⟨b, off, none⟩ ∧ ∀ i, i < xs.length → ∀ j, j < 42 → W.cell? ⟨b, off + 42 * i + j, none⟩ = (xs.getD i default).cells[j]?
  ok : ∀ x ∈ xs, ActLOk W x

section
variable {H : Type} {enc : TypeId × Value → H} {W : World} {base : Nat}

theorem open_label_cs {fuel : Nat} {held : Bool} {cs : List Value} {x : DataW H × List MemPlace} (h : DataW.trod enc Tryd.prog W base (fun _ => true) held fuel 29 cs = some x) : ∃ (l : Lb) (a : Option Addr) (c : Nat), cs = l.vs a c ∧ l.ok ∧ Bs W a c l.m := by
  have hU : Tryd.prog.cellsOf 22 = 1 := by kernel_rfl
  have hP : Tryd.prog.cellsOf 26 = 35 := by kernel_rfl
  have hS : Tryd.prog.cellsOf 27 = 1 := by kernel_rfl
  have hL : Tryd.prog.cellsOf 29 = 37 := by kernel_rfl
  cases fuel with
  | zero => simp [DataW.trod] at h
  | succ fuel =>
    simp only [DataW.trod, Tryd.underlying29, hL] at h
    split at h
    · rename_i hl
      obtain ⟨xs, hm, hx⟩ := Option.map_eq_some_iff.1 h
      obtain ⟨_, _, h0⟩ := Lib.mapM_at hm 0 _ rfl
      obtain ⟨_, _, h1⟩ := Lib.mapM_at hm 1 _ rfl
      obtain ⟨_, _, h2⟩ := Lib.mapM_at hm 2 _ rfl
      simp only [hU, hP, hS] at h0 h1 h2
      obtain ⟨n0, e0, _, w0⟩ := DataW.trod_int Tryd.underlying22 h0
      obtain ⟨p, e1, ok1⟩ := open_ptr_cs h1
      obtain ⟨a2, c2, x2, e2, b2⟩ := open_bs h2
      obtain ⟨t, rfl, ht⟩ := wf_u32 w0
      refine ⟨⟨t, p, x2⟩, a2, c2, ?_, ⟨ht, ok1, b2.rng⟩, b2⟩
      unfold Lb.vs
      simp only
      have c1 : cs = cs.take 1 ++ cs.drop 1 := (List.take_append_drop _ _).symm
      have c2' : cs.drop 1 = (cs.drop 1).take 35 ++ cs.drop 36 := by rw [show 36 = 1 + 35 from rfl, ← List.drop_drop]; exact (List.take_append_drop _ _).symm
      have c3 : (cs.drop 36).take 1 = cs.drop 36 := List.take_of_length_le (by simp; omega)
      rw [List.drop_zero] at e0
      rw [c1, c2', ← c3, e0, e1, e2]
      rfl
    · cases h

theorem open_label {r : Reach} {b0 : Nat} {v : Value} {d : DataW H} {p : List MemPlace} {held : Bool} (hv : Value.okWide Tryd.prog W r b0 29 v) (h : DataW.Trod enc Tryd.prog W base (fun _ => true) held 29 v d p) :
    ∃ (l : Lb) (a : Option Addr) (c : Nat), v = .agg (l.vs a c).toArray ∧ l.ok ∧ Bs W a c l.m := by
  have hagg : ∃ cs, v = .agg cs := by
    simp only [Value.okWide, Tryd.underlying29] at hv
    obtain ⟨cs, h1, _⟩ := hv
    exact ⟨cs, h1⟩
  obtain ⟨cs, rfl⟩ := hagg
  obtain ⟨fuel, hf⟩ := h
  obtain ⟨l, a, c, h1, h2, h3⟩ := open_label_cs hf
  refine ⟨l, a, c, ?_, h2, h3⟩
  simp only [Value.cells] at h1
  rw [← h1]

theorem open_actL {fuel : Nat} {held : Bool} {cs : List Value} {x : DataW H × List MemPlace} (h : DataW.trod enc Tryd.prog W base (fun _ => true) held fuel 55 cs = some x) :
    ∃ y : ActL, cs = y.cells ∧ ActLOk W y := by
  have hI : Tryd.prog.cellsOf 3 = 1 := by kernel_rfl
  have hS : Tryd.prog.cellsOf 27 = 1 := by kernel_rfl
  have hB : Tryd.prog.cellsOf 4 = 1 := by kernel_rfl
  have hK : Tryd.prog.cellsOf 53 = 1 := by kernel_rfl
  have hL : Tryd.prog.cellsOf 29 = 37 := by kernel_rfl
  have hA : Tryd.prog.cellsOf 55 = 42 := by kernel_rfl
  cases fuel with
  | zero => simp [DataW.trod] at h
  | succ fuel =>
    simp only [DataW.trod, Tryd.underlying55, hA] at h
    split at h
    · rename_i hl
      obtain ⟨xs, hm, hx⟩ := Option.map_eq_some_iff.1 h
      obtain ⟨_, _, h0⟩ := Lib.mapM_at hm 0 _ rfl
      obtain ⟨_, _, h1⟩ := Lib.mapM_at hm 1 _ rfl
      obtain ⟨_, _, h2⟩ := Lib.mapM_at hm 2 _ rfl
      obtain ⟨_, _, h3⟩ := Lib.mapM_at hm 3 _ rfl
      obtain ⟨_, _, h4⟩ := Lib.mapM_at hm 4 _ rfl
      obtain ⟨_, _, h5⟩ := Lib.mapM_at hm 5 _ rfl
      simp only [hI, hS, hB, hK, hL] at h0 h1 h2 h3 h4 h5
      obtain ⟨l, la, lc, e0, lok, lB⟩ := open_label_cs h0
      obtain ⟨n1, e1, _⟩ := DataW.trod_bool Tryd.underlying4 h1
      obtain ⟨n2, e2, _, w2⟩ := DataW.trod_int Tryd.underlying3 h2
      obtain ⟨a3, c3, x3, e3, b3⟩ := open_bs h3
      obtain ⟨n4, e4, _⟩ := DataW.trod_bool Tryd.underlying4 h4
      obtain ⟨a5, c5, x5, e5, b5, l5⟩ := open_is h5
      refine ⟨⟨l, la, lc, n1, n2, a3, c3, x3, n4, a5, c5, x5⟩, ?_, lok, lB, wf_i64 w2, b3, b5, l5⟩
      have g1 := take1 e1
      have g2 := take1 e2
      have g3 := take1 e3
      have g4 := take1 e4
      have g5 := take1 e5
      rw [List.drop_zero] at e0
      unfold ActL.cells ActL.tail
      simp only
      have c1 : cs = cs.take 37 ++ cs.drop 37 := (List.take_append_drop _ _).symm
      rw [c1, e0]
      congr 1
      have hd : (cs.drop 37).length = 5 := by simp; omega
      have k1 : (cs.drop 37)[0]? = some (.bool n1) := by rw [List.getElem?_drop]; exact g1
      have k2 : (cs.drop 37)[1]? = some (.int .i64 n2) := by rw [List.getElem?_drop]; exact g2
      have k3 : (cs.drop 37)[2]? = some (.slice a3 x3.length c3) := by rw [List.getElem?_drop]; exact g3
      have k4 : (cs.drop 37)[3]? = some (.bool n4) := by rw [List.getElem?_drop]; exact g4
      have k5 : (cs.drop 37)[4]? = some (.slice a5 x5.length c5) := by rw [List.getElem?_drop]; exact g5
      generalize cs.drop 37 = ds at *
      match ds, hd, k1, k2, k3, k4, k5 with
      | [_, _, _, _, _], _, k1, k2, k3, k4, k5 =>
        simp at k1 k2 k3 k4 k5
        subst k1 k2 k3 k4 k5
        rfl
    · cases h

theorem open_actsL {r : Reach} {b0 : Nat} {v : Value} {d : DataW H} {p : List MemPlace} {held : Bool} (hv : Value.okWide Tryd.prog W r b0 41 v) (h : DataW.Trod enc Tryd.prog W base (fun _ => true) held 41 v d p) :
    ∃ a c xs, v = .slice a (List.length xs) c ∧ ActsL W a xs ∧ xs.length ≤ 9223372036854775807 := by
  obtain ⟨a, len, cap, rfl⟩ := okWide_slice Tryd.underlying41 hv
  obtain ⟨fuel, hf⟩ := h
  have hA : Tryd.prog.cellsOf 55 = 42 := by kernel_rfl
  rcases Go.Deep.open_slice Tryd.underlying41 hf with ⟨hcs, _⟩ | ⟨x, l, c, m, n, D, Pl, hcs, _, hl, hmx, hm, _, hel⟩
  · simp [Value.cells] at hcs
    obtain ⟨rfl, rfl, rfl⟩ := hcs
    exact ⟨none, 0, [], rfl, ⟨.inl rfl, fun x hx => by cases hx⟩, by simp⟩
  · simp [Value.cells] at hcs
    obtain ⟨rfl, rfl, rfl⟩ := hcs
    simp only [if_true] at hm
    subst hm
    rw [hA] at hel
    obtain ⟨Y, hY⟩ := Go.Deep.choose_lt (n := len) (p := fun i (y : ActL) => W.cells? base (x.add (i * 42)) 42 = some y.cells ∧ ActLOk W y) (fun i hi => by
      obtain ⟨cs', h1, h2⟩ := hel i (by omega)
      obtain ⟨y, rfl, hy⟩ := open_actL h2
      exact ⟨y, h1, hy⟩)
    unfold maxLen at hmx
    refine ⟨some x, m, (List.range len).map Y, by simp, ⟨?_, ?_⟩, by simp; omega⟩
    · by_cases h0 : len = 0
      · exact .inl (by simp [h0])
      · right
        have hcell : ∀ i, i < len → ∀ j, j < 42 → W.cell? ((x.add (i * 42)).add j) = (Y i).cells[j]? := fun i hi j hj => by
          have h1 := (hY i hi).1
          unfold World.cells? at h1
          split at h1
          · obtain ⟨b, hb, hc⟩ := Lib.mapM_at h1 j j (by simp [hj])
            rw [hb]; exact hc
          · cases h1
        obtain ⟨b, off, spot⟩ := x
        have hspot : spot = none := by
          have h1 := hcell 0 (by omega) 0 (by omega)
          rw [show (Y 0).cells[0]? = some (.int .u32 ((Y 0).l.t : Int)) from rfl] at h1
          simpa [Addr.add] using World.cell?_spot h1
        subst hspot
        refine ⟨b, off, rfl, fun i hi j hj => ?_⟩
        simp at hi
        have h1 := hcell i hi j hj
        have hpl : ((⟨b, off, none⟩ : Addr).add (i * 42)).add j = ⟨b, off + 42 * i + j, none⟩ := by
          rw [Go.Deep.add_add]
          unfold Addr.add
          split <;> simp_all
          omega
        rw [hpl] at h1
        rw [h1]
        simp [List.getD, hi]
    · intro y hy
      obtain ⟨i, hi, rfl⟩ := List.mem_map.1 hy
      exact (hY i (by simpa using hi)).2

end
end Go.Proofs.YteocmmmnfbabaaaDoor
