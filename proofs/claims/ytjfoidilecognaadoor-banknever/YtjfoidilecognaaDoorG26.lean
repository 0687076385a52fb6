/-
  What came in for package bank's laws: masks, acts, scripts.
-/
import Derived.Test.YtjfoidilecognaaDoorG25
import Derived.Test.YtjfoidilecognaaDoorG22
import Derived.Test.YtjfoidilecognaaDoorG04
import Derived.Test.YtjfoidilecognaaDoorG18
import Derived.Deep.Slices
import Derived.Lib.LaidTab
import Derived.LaidHandle
import Derived.LaidLaws
import Derived.Stop.LaidErr
namespace Go.Proofs.YtjfoidilecognaaDoor
set_option linter.unusedSimpArgs false
set_option linter.unusedVariables false
set_option maxRecDepth 100000
open Go.RowKit Go.ChangeShapes Go.WideShapes

/-- An act of the laws: kind, copies, which, at; a pointer; bytes behind a slice. -/
structure ActK where
  kind : Int
  copies : Int
  which : Int
  at' : Int
  p : Pt
  ba : Option Addr
  bc : Nat
  bs : List Int
instance : Inhabited ActK := ⟨⟨0, 0, 0, 0, Pt.zero, none, 0, []⟩⟩
def ActK.cells (x : ActK) : List Value := [.int .i64 x.kind, .int .i64 x.copies, .int .i64 x.which, .int .i64 x.at'] ++ x.p.vs ++ [.slice x.ba x.bs.length x.bc]
structure ActKOk (W : World) (x : ActK) : Prop where
  kind : -9223372036854775808 ≤ x.kind ∧ x.kind ≤ 9223372036854775807
  copies : -9223372036854775808 ≤ x.copies ∧ x.copies ≤ 9223372036854775807
  which : -9223372036854775808 ≤ x.which ∧ x.which ≤ 9223372036854775807
  at' : -9223372036854775808 ≤ x.at' ∧ x.at' ≤ 9223372036854775807
  p : x.p.ok
  bs : Bs W x.ba x.bc x.bs
structure ActsK (W : World) (a : Option Addr) (xs : List ActK) : Prop where
  lay : xs = [] ∨ ∃ b off, a = some ⟨b, off, none⟩ ∧ ∀ i, i < xs.length → ∀ j, j < 40 → W.cell? ⟨b, off + 40 * i + j, none⟩ = (xs.getD i default).cells[j]?
  ok : ∀ x ∈ xs, ActKOk W x

section
variable {H : Type} {enc : TypeId × Value → H} {W : World} {base : Nat}

theorem open_actK {fuel : Nat} {held : Bool} {cs : List Value} {x : DataW H × List MemPlace} (h : DataW.trod enc Tryd.prog W base (fun _ => true) held fuel 45 cs = some x) :
    ∃ y : ActK, cs = y.cells ∧ ActKOk W y := by
  have hI : Tryd.prog.cellsOf 3 = 1 := by kernel_rfl
  have hS : Tryd.prog.cellsOf 43 = 1 := by kernel_rfl
  have hP : Tryd.prog.cellsOf 42 = 35 := by kernel_rfl
  have hA : Tryd.prog.cellsOf 45 = 40 := by kernel_rfl
  cases fuel with
  | zero => simp [DataW.trod] at h
  | succ fuel =>
    simp only [DataW.trod, Tryd.underlying45, hA] at h
    split at h
    · rename_i hl
      obtain ⟨xs, hm, hx⟩ := Option.map_eq_some_iff.1 h
      obtain ⟨_, _, h0⟩ := Lib.mapM_at hm 0 _ rfl
      obtain ⟨_, _, h1⟩ := Lib.mapM_at hm 1 _ rfl
      obtain ⟨_, _, h2⟩ := Lib.mapM_at hm 2 _ rfl
      obtain ⟨_, _, h3⟩ := Lib.mapM_at hm 3 _ rfl
      obtain ⟨_, _, h4⟩ := Lib.mapM_at hm 4 _ rfl
      obtain ⟨_, _, h5⟩ := Lib.mapM_at hm 5 _ rfl
      simp only [hI, hS, hP] at h0 h1 h2 h3 h4 h5
      obtain ⟨n0, e0, _, w0⟩ := DataW.trod_int Tryd.underlying3 h0
      obtain ⟨n1, e1, _, w1⟩ := DataW.trod_int Tryd.underlying3 h1
      obtain ⟨n2, e2, _, w2⟩ := DataW.trod_int Tryd.underlying3 h2
      obtain ⟨n3, e3, _, w3⟩ := DataW.trod_int Tryd.underlying3 h3
      obtain ⟨p, e4, ok4⟩ := open_ptr_cs h4
      obtain ⟨a5, c5, x5, e5, b5⟩ := open_bs h5
      refine ⟨⟨n0, n1, n2, n3, p, a5, c5, x5⟩, ?_, wf_i64 w0, wf_i64 w1, wf_i64 w2, wf_i64 w3, ok4, b5⟩
      have g0 := take1 e0
      have g1 := take1 e1
      have g2 := take1 e2
      have g3 := take1 e3
      unfold ActK.cells
      simp only
      have c1 : cs = cs.take 4 ++ cs.drop 4 := (List.take_append_drop _ _).symm
      have c2 : cs.drop 4 = (cs.drop 4).take 35 ++ cs.drop 39 := by rw [show 39 = 4 + 35 from rfl, ← List.drop_drop]; exact (List.take_append_drop _ _).symm
      have c3 : (cs.drop 39).take 1 = cs.drop 39 := List.take_of_length_le (by simp; omega)
      have c0 : cs.take 4 = [.int .i64 n0, .int .i64 n1, .int .i64 n2, .int .i64 n3] := by
        match cs, hl, g0, g1, g2, g3 with
        | x0 :: x1 :: x2 :: x3 :: rest, _, g0, g1, g2, g3 =>
          simp at g0 g1 g2 g3
          subst g0 g1 g2 g3
          rfl
      rw [c1, c2, ← c3, c0, e4, e5, List.append_assoc]
    · cases h

theorem open_actsK {r : Reach} {b0 : Nat} {v : Value} {d : DataW H} {p : List MemPlace} {held : Bool} (hv : Value.okWide Tryd.prog W r b0 22 v) (h : DataW.Trod enc Tryd.prog W base (fun _ => true) held 22 v d p) :
    ∃ a c xs, v = .slice a (List.length xs) c ∧ ActsK W a xs ∧ xs.length ≤ 9223372036854775807 := by
  obtain ⟨a, len, cap, rfl⟩ := okWide_slice Tryd.underlying22 hv
  obtain ⟨fuel, hf⟩ := h
  have hA : Tryd.prog.cellsOf 45 = 40 := by kernel_rfl
  rcases Go.Deep.open_slice Tryd.underlying22 hf with ⟨hcs, _⟩ | ⟨x, l, c, m, n, D, Pl, hcs, _, hl, hmx, hm, _, hel⟩
  · simp [Value.cells] at hcs
    obtain ⟨rfl, rfl, rfl⟩ := hcs
    exact ⟨none, 0, [], rfl, ⟨.inl rfl, fun x hx => by cases hx⟩, by simp⟩
  · simp [Value.cells] at hcs
    obtain ⟨rfl, rfl, rfl⟩ := hcs
    simp only [if_true] at hm
    subst hm
    rw [hA] at hel
    obtain ⟨Y, hY⟩ := Go.Deep.choose_lt (n := len) (p := fun i (y : ActK) => W.cells? base (x.add (i * 40)) 40 = some y.cells ∧ ActKOk W y) (fun i hi => by
      obtain ⟨cs', h1, h2⟩ := hel i (by omega)
      obtain ⟨y, rfl, hy⟩ := open_actK h2
      exact ⟨y, h1, hy⟩)
    unfold maxLen at hmx
    refine ⟨some x, m, (List.range len).map Y, by simp, ⟨?_, ?_⟩, by simp; omega⟩
    · by_cases h0 : len = 0
      · exact .inl (by simp [h0])
      · right
        have hcell : ∀ i, i < len → ∀ j, j < 40 → W.cell? ((x.add (i * 40)).add j) = (Y i).cells[j]? := fun i hi j hj => by
          have h1 := (hY i hi).1
          unfold World.cells? at h1
          split at h1
          · obtain ⟨b, hb, hc⟩ := Lib.mapM_at h1 j j (by simp [hj])
            rw [hb]; exact hc
          · cases h1
        obtain ⟨b, off, spot⟩ := x
        have hspot : spot = none := by
          have h1 := hcell 0 (by omega) 0 (by omega)
          rw [show (Y 0).cells[0]? = some (.int .i64 (Y 0).kind) from rfl] at h1
          simpa [Addr.add] using World.cell?_spot h1
        subst hspot
        refine ⟨b, off, rfl, fun i hi j hj => ?_⟩
        simp at hi
        have h1 := hcell i hi j hj
        have hpl : ((⟨b, off, none⟩ : Addr).add (i * 40)).add j = ⟨b, off + 40 * i + j, none⟩ := by
          rw [Go.Deep.add_add]
          unfold Addr.add
          split <;> simp_all
          omega
        rw [hpl] at h1
        rw [h1]
        simp [List.getD, hi]
    · intro y hy
      obtain ⟨i, hi, rfl⟩ := List.mem_map.1 hy
      exact (hY i (by simpa using hi)).2

theorem ActK.cells_at {x : ActK} (h : x.p.ok) : x.cells[0]? = some (.int .i64 x.kind) ∧ x.cells[1]? = some (.int .i64 x.copies) ∧ x.cells[2]? = some (.int .i64 x.which) ∧ x.cells[3]? = some (.int .i64 x.at') ∧ x.cells[39]? = some (.slice x.ba x.bs.length x.bc) := by
  have hl := Pt.vs_len h
  refine ⟨rfl, rfl, rfl, rfl, ?_⟩
  unfold ActK.cells
  rw [List.getElem?_append_right (by simp [hl])]
  simp [hl]
theorem ActK.cells_ptr {x : ActK} (h : x.p.ok) : x.p.vs = (x.cells.drop 4).take 35 := by
  have hl := Pt.vs_len h
  unfold ActK.cells
  simp [hl]
theorem ActK.cells_len {x : ActK} (h : x.p.ok) : x.cells.length = 40 := by
  have hl := Pt.vs_len h
  unfold ActK.cells
  simp [hl]
theorem ActK.cells_one (x : ActK) : ∀ v ∈ x.cells, v.oneCell' = true := by
  intro v hv
  unfold ActK.cells at hv
  simp only [List.mem_append, List.mem_cons, List.not_mem_nil, or_false] at hv
  rcases hv with ((rfl | rfl | rfl | rfl) | hv) | rfl
  all_goals first | rfl | exact Pt.vs_one _ v hv
theorem ActsK.stays {W W' : World} {a : Option Addr} {xs : List ActK} (h : ActsK W a xs) (hb : Below W.heap.size W W') : ActsK W' a xs := by
  refine ⟨?_, fun x hx => ⟨(h.ok x hx).kind, (h.ok x hx).copies, (h.ok x hx).which, (h.ok x hx).at', (h.ok x hx).p, (h.ok x hx).bs.stays hb⟩⟩
  rcases h.lay with h0 | ⟨b, off, rfl, hc⟩
  · exact .inl h0
  · refine .inr ⟨b, off, rfl, fun i hi j hj => ?_⟩
    have h1 := hc i hi j hj
    have hx : (xs.getD i default) ∈ xs := by simp [List.getD, hi]
    have hlen := ActK.cells_len (h.ok _ hx).p
    have h2 : ∃ v, (xs.getD i default).cells[j]? = some v := ⟨_, List.getElem?_eq_getElem (by omega)⟩
    obtain ⟨v, hv⟩ := h2
    rw [hv] at h1 ⊢
    rw [hb.cell (World.block_lt_of_cell? W _ h1)]
    exact h1
theorem ActsK.at {W : World} {a : Option Addr} {xs : List ActK} (h : ActsK W a xs) {i : Nat} (hi : i < xs.length) :
    ∃ b off, a = some ⟨b, off, none⟩ ∧ (∀ j, j < 40 → W.cell? ⟨b, off + i * 40 + j, none⟩ = (xs.getD i default).cells[j]?) ∧ ActKOk W (xs.getD i default) := by
  have hx : (xs.getD i default) ∈ xs := by simp [List.getD, hi]
  rcases h.lay with h0 | ⟨b, off, h1, h2⟩
  · rw [h0] at hi; simp at hi
  · exact ⟨b, off, h1, fun j hj => by rw [Nat.mul_comm i 40]; exact h2 i hi j hj, h.ok _ hx⟩

end
end Go.Proofs.YtjfoidilecognaaDoor

/-
  From what a row lists to what the walks ask: the two tables of package sha; a world that has them.
-/

namespace Go.Proofs.YtjfoidilecognaaDoor
set_option linter.unusedSimpArgs false
set_option linter.unusedVariables false
set_option maxRecDepth 100000
open Go.RowKit

theorem stepsData : (Rows.laid_cautery_sha_steps : DataW Unit) = Lib.tabData .u32 (ints stepNums) := rfl
theorem firstsData : (Rows.laid_cautery_sha_firsts : DataW Unit) = Lib.tabData .u32 (ints firsts8.list) := rfl
theorem stepsAt : Tryd.prog.globalNamed "cautery/sha.steps" = some 1 := by kernel_rfl
theorem firstsAt : Tryd.prog.globalNamed "cautery/sha.firsts" = some 0 := by kernel_rfl
theorem stepsType : (Tryd.prog.globals[1]?).map (·.type) = some 160 := by kernel_rfl
theorem firstsType : (Tryd.prog.globals[0]?).map (·.type) = some 146 := by kernel_rfl

theorem vars_of_laid {W : World} (h : laidMet Tryd.prog [("cautery/sha.steps", Rows.laid_cautery_sha_steps), ("cautery/sha.firsts", Rows.laid_cautery_sha_firsts)] W) : Vars W := by
  rw [stepsData, firstsData] at h
  have h1 := Lib.tabIs_of_head stepsAt stepsType Tryd.underlying160 Tryd.underlying34 (by kernel_rfl) (by kernel_rfl) h
  have h2 := Lib.tabIs_of_head firstsAt firstsType Tryd.underlying146 Tryd.underlying34 (by kernel_rfl) (by kernel_rfl) h.tail
  exact ⟨fun i hi => h1.cell stepsAt i hi, fun i hi => h2.cell firstsAt i hi⟩

noncomputable def laidWorld (os : Os) : World :=
  let w0 := World.holding Tryd.prog os ⟨#[], #[], []⟩
  { w0 with heap := (w0.heap.modify 1 fun
      | .cells _ t frozen => .cells ((ints stepNums).map (Value.int .u32)).toArray t frozen
      | o => o).modify 0 fun
      | .cells _ t frozen => .cells ((ints firsts8.list).map (Value.int .u32)).toArray t frozen
      | o => o }

theorem laid_met (os : Os) (args : Array Value) : laidMet Tryd.prog [("cautery/sha.steps", Rows.laid_cautery_sha_steps), ("cautery/sha.firsts", Rows.laid_cautery_sha_firsts)] ((laidWorld os).forCall (fun _ _ => 0) ⟨#[], args, []⟩).memory :=
  laidMet_of_run' 8 (by kernel_rfl) (by kernel_rfl)
end Go.Proofs.YtjfoidilecognaaDoor

/-
  What a bank's calls tell, as plain data; no function here.
-/

namespace Go.Proofs.YtjfoidilecognaaDoor
set_option linter.unusedSimpArgs false
set_option linter.unusedVariables false
set_option maxRecDepth 100000
open Go.RowKit

/-- Is the copy at a sector right? -/
def rightL (S : DS) (x : Nat) (h : List Int) : Bool := !(x == 0) && (decide (x < S.laid.length / 256) && decide (shaOf (readW S.laid S.ws x) = h))
/-- What keeps a pointer from being followed. -/
def okK (S : DS) (p : Pt) : Int := if S.off then 8 else if p.may then 0 else 1
def zeros256 : List Int := List.replicate 256 0
def readK (S : DS) (p : Pt) : List Int × Int :=
  if okK S p ≠ 0 then ([], okK S p) else if p.hole = true then (zeros256, 0)
  else if rightL S p.x p.h = true then (readW S.laid S.ws p.x, 0) else if rightL S p.y p.h = true then (readW S.laid S.ws p.y, 0) else ([], 9)
def lookK (S : DS) (p : Pt) : (Bool × Bool) × Int := if okK S p ≠ 0 then ((false, false), okK S p) else ((rightL S p.x p.h, rightL S p.y p.h), 0)
/-- One copy written over. -/
def stepR (b h : List Int) (x : Nat) (s : DS × Nat) : (DS × Nat) × Int :=
  if rightL s.1 x h = true ∨ x = 0 then (s, 0)
  else if (s.1.write (x : Int) b).2 = 0 then (((s.1.write (x : Int) b).1, s.2 + 1), 0)
  else if (s.1.write (x : Int) b).2 = 1 then (((s.1.write (x : Int) b).1, s.2), 0)
  else (((s.1.write (x : Int) b).1, 0), (s.1.write (x : Int) b).2)
def restK (S : DS) (p : Pt) (b : List Int) : (DS × Nat) × Int :=
  if (stepR b p.h p.x (S, 0)).2 ≠ 0 then stepR b p.h p.x (S, 0) else stepR b p.h p.y (stepR b p.h p.x (S, 0)).1
def healK (S : DS) (p : Pt) : (DS × Nat) × Int := if (readK S p).2 ≠ 0 then ((S, 0), (readK S p).2) else restK S p (readK S p).1
def fixK (S : DS) (p : Pt) (b : List Int) : (DS × Nat) × Int :=
  if okK S p ≠ 0 then ((S, 0), okK S p) else if p.hole = true ∨ b.length ≠ 256 then ((S, 0), 1) else if shaOf b ≠ p.h then ((S, 0), 14) else restK S p b
/-- Writes in order, to the first that fails. -/
def wrK (b : List Int) : DS → List Nat → DS × Int
  | S, [] => (S, 0)
  | S, x :: xs => if (S.write (x : Int) b).2 = 0 then wrK b (S.write (x : Int) b).1 xs else S.write (x : Int) b
def putK (S : DS) (l : List Bool) (t : Nat) (b : List Int) (c : Int) : (DS × List Bool) × Pt × Int :=
  if S.off then ((S, l), Pt.zero, 8)
  else if b.length ≠ 256 ∨ c < 1 ∨ 2 < c then ((S, l), Pt.zero, 1)
  else if (takeL l c).2.2 ≠ 0 then ((S, l), Pt.zero, ((takeL l c).2.2 : Int))
  else if (wrK b S (takeL l c).2.1).2 ≠ 0 then (((wrK b S (takeL l c).2.1).1, l), Pt.zero, (wrK b S (takeL l c).2.1).2)
  else (((wrK b S (takeL l c).2.1).1, (takeL l c).1), ⟨shaOf b, t, (takeL l c).2.1.getD 0 0, (takeL l c).2.1.getD 1 0⟩, 0)

theorem write_code (S : DS) (i : Int) (xs : List Int) : (S.write i xs).2 = 0 ∨ (S.write i xs).2 = 1 ∨ (S.write i xs).2 = 8 := by
  unfold DS.write
  repeat' split
  all_goals simp
theorem write_laid (S : DS) (i : Int) (xs : List Int) : (S.write i xs).1.laid = S.laid := by
  unfold DS.write
  repeat' split
  all_goals rfl
theorem write_len8 (S : DS) (i : Int) (xs : List Int) : (S.write i xs).1.ws.length ≤ S.ws.length + 1 := by
  unfold DS.write
  repeat' split
  all_goals simp [DS.dead]
theorem write_on {S : DS} {i : Int} {xs : List Int} (h : (S.write i xs).2 ≠ 8) : (S.write i xs).1.off = false ∧ S.off = false := by
  unfold DS.write at *
  by_cases h1 : S.off = true
  · rw [if_pos h1] at h; simp at h
  · rw [if_neg h1] at h ⊢
    have h1' : S.off = false := by simpa using h1
    by_cases h2 : S.has i ∧ xs.length = 256
    · rw [if_neg (by simpa using h2)] at h ⊢
      by_cases h3 : may S.fused S.left = true
      · rw [if_pos h3]; exact ⟨h1', h1'⟩
      · rw [if_neg h3] at h; simp at h
    · rw [if_pos (by simpa using h2)]; exact ⟨h1', h1'⟩
/-- A write that is done. -/
theorem write_done_ws {S : DS} {i : Int} {xs : List Int} (h : (S.write i xs).2 = 0) : S.has i ∧ xs.length = 256 ∧ (S.write i xs).1.ws = S.ws ++ [(i.toNat, xs)] := by
  unfold DS.write at *
  by_cases h1 : S.off = true
  · rw [if_pos h1] at h; simp at h
  · rw [if_neg h1] at h ⊢
    by_cases h2 : S.has i ∧ xs.length = 256
    · rw [if_neg (by simpa using h2)] at h ⊢
      by_cases h3 : may S.fused S.left = true
      · rw [if_pos h3]; exact ⟨h2.1, h2.2, rfl⟩
      · rw [if_neg h3] at h; simp at h
    · rw [if_pos (by simpa using h2)] at h; simp at h
theorem write_arg_same {S : DS} {i : Int} {xs : List Int} (h : (S.write i xs).2 = 1) : (S.write i xs).1 = S ∧ ¬ (S.has i ∧ xs.length = 256) := by
  unfold DS.write at *
  by_cases h1 : S.off = true
  · rw [if_pos h1] at h; simp at h
  · rw [if_neg h1] at h ⊢
    by_cases h2 : S.has i ∧ xs.length = 256
    · rw [if_neg (by simpa using h2)] at h
      by_cases h3 : may S.fused S.left = true
      · rw [if_pos h3] at h; simp at h
      · rw [if_neg h3] at h; simp at h
    · rw [if_pos (by simpa using h2)]; exact ⟨rfl, h2⟩
theorem write_off_ws {S : DS} {i : Int} {xs : List Int} (h : (S.write i xs).2 ≠ 0) : (S.write i xs).1.ws = S.ws := by
  unfold DS.write at *
  repeat' split
  all_goals first | rfl | (exfalso; apply h; simp_all)
theorem readW_write {S : DS} {x : Nat} {xs : List Int} (h : (S.write (x : Int) xs).2 = 0) (y : Nat) : readW (S.write (x : Int) xs).1.laid (S.write (x : Int) xs).1.ws y = if x = y then xs else readW S.laid S.ws y := by
  obtain ⟨_, _, h3⟩ := write_done_ws h
  rw [write_laid, h3, readW_upto]
  simp
theorem readW_write_ne (S : DS) {x y : Nat} (xs : List Int) (hne : x ≠ y) : readW (S.write (x : Int) xs).1.laid (S.write (x : Int) xs).1.ws y = readW S.laid S.ws y := by
  by_cases h : (S.write (x : Int) xs).2 = 0
  · rw [readW_write h, if_neg hne]
  · rw [write_laid, write_off_ws h]
/-- A write elsewhere leaves a copy as it is. -/
theorem rightL_write (S : DS) {x y : Nat} (xs h : List Int) (hne : x ≠ y) : rightL (S.write (x : Int) xs).1 y h = rightL S y h := by
  unfold rightL
  rw [readW_write_ne S xs hne, write_laid]
theorem rightL_write_same {S : DS} {x : Nat} {xs h : List Int} (hw : (S.write (x : Int) xs).2 = 0) (hx : x ≠ 0) (hh : shaOf xs = h) : rightL (S.write (x : Int) xs).1 x h = true := by
  obtain ⟨⟨h1, h2⟩, _, _⟩ := write_done_ws hw
  unfold rightL
  rw [readW_write hw, if_pos rfl, write_laid]
  simp [hh]
  omega
theorem DS.has_nat {S : DS} {n x : Nat} (h : S.Ok n) : S.has (x : Int) ↔ x < n := by
  unfold DS.has
  rw [h.len, Nat.mul_div_cancel_left _ (by omega)]
  omega
theorem DS.Ok.secs {S : DS} {n : Nat} (h : S.Ok n) : S.laid.length / 256 = n := by rw [h.len, Nat.mul_div_cancel_left _ (by omega)]
theorem DS.read_at8 {S : DS} {n k : Nat} (h : S.Ok n) (hoff : S.off = false) (hk : k < n) : S.read (k : Int) = (readW S.laid S.ws k, 0) := by
  have hh : S.has (k : Int) := (DS.has_nat h).2 hk
  unfold DS.read
  rw [hoff, if_neg (by decide), if_neg (by simpa using hh)]
  simp
theorem DS.read_no8 {S : DS} {i : Int} (hoff : S.off = false) (hk : ¬ S.has i) : S.read i = ([], 1) := by
  unfold DS.read
  rw [hoff, if_neg (by decide), if_pos hk]
theorem DS.read_off8 {S : DS} {i : Int} (hoff : S.off = true) : S.read i = ([], 8) := by
  unfold DS.read
  rw [if_pos hoff]

theorem stepR_len (b h : List Int) (x : Nat) (s : DS × Nat) : (stepR b h x s).1.1.ws.length ≤ s.1.ws.length + 1 := by
  have := write_len8 s.1 (x : Int) b
  unfold stepR
  repeat' split
  all_goals (simp only; omega)
theorem stepR_laid (b h : List Int) (x : Nat) (s : DS × Nat) : (stepR b h x s).1.1.laid = s.1.laid := by
  have := write_laid s.1 (x : Int) b
  unfold stepR
  repeat' split
  all_goals first | rfl | exact this
theorem restK_len (S : DS) (p : Pt) (b : List Int) : (restK S p b).1.1.ws.length ≤ S.ws.length + 2 := by
  have h1 := stepR_len b p.h p.x (S, 0)
  have h2 := stepR_len b p.h p.y (stepR b p.h p.x (S, 0)).1
  unfold restK
  simp only at h1
  split <;> omega
theorem restK_laid (S : DS) (p : Pt) (b : List Int) : (restK S p b).1.1.laid = S.laid := by
  have h1 := stepR_laid b p.h p.x (S, 0)
  have h2 := stepR_laid b p.h p.y (stepR b p.h p.x (S, 0)).1
  unfold restK
  split
  · exact h1
  · exact h2.trans h1
theorem healK_len (S : DS) (p : Pt) : (healK S p).1.1.ws.length ≤ S.ws.length + 2 := by
  unfold healK
  split
  · simp only; omega
  · exact restK_len _ _ _
theorem healK_laid (S : DS) (p : Pt) : (healK S p).1.1.laid = S.laid := by
  unfold healK
  split
  · rfl
  · exact restK_laid _ _ _
theorem fixK_len (S : DS) (p : Pt) (b : List Int) : (fixK S p b).1.1.ws.length ≤ S.ws.length + 2 := by
  unfold fixK
  repeat' split
  all_goals first | exact restK_len _ _ _ | (simp only; omega)
theorem fixK_laid (S : DS) (p : Pt) (b : List Int) : (fixK S p b).1.1.laid = S.laid := by
  unfold fixK
  repeat' split
  all_goals first | rfl | exact restK_laid _ _ _
theorem wrK_len (b : List Int) : ∀ (xs : List Nat) (S : DS), (wrK b S xs).1.ws.length ≤ S.ws.length + xs.length
  | [], S => by simp [wrK]
  | x :: xs, S => by
    have h1 := write_len8 S (x : Int) b
    have h2 := wrK_len b xs (S.write (x : Int) b).1
    unfold wrK
    split
    · simp only [List.length_cons]; omega
    · simp only [List.length_cons]; omega
theorem wrK_laid (b : List Int) : ∀ (xs : List Nat) (S : DS), (wrK b S xs).1.laid = S.laid
  | [], S => by simp [wrK]
  | x :: xs, S => by
    have h1 := write_laid S (x : Int) b
    have h2 := wrK_laid b xs (S.write (x : Int) b).1
    unfold wrK
    split
    · exact h2.trans h1
    · exact h1
theorem putK_len (S : DS) (l : List Bool) (t : Nat) (b : List Int) (c : Int) : (putK S l t b c).1.1.ws.length ≤ S.ws.length + 8 := by
  have h1 := wrK_len b (takeL l c).2.1 S
  have h2 := takeL_few l c
  unfold putK
  repeat' split
  all_goals (simp only; omega)
theorem putK_laid (S : DS) (l : List Bool) (t : Nat) (b : List Int) (c : Int) : (putK S l t b c).1.1.laid = S.laid := by
  have h1 := wrK_laid b (takeL l c).2.1 S
  unfold putK
  repeat' split
  all_goals first | rfl | exact h1
theorem putK_maplen (S : DS) (l : List Bool) (t : Nat) (b : List Int) (c : Int) : (putK S l t b c).1.2.length = l.length := by
  have h1 := takeL_len l c
  unfold putK
  repeat' split
  all_goals first | rfl | exact h1
theorem zeros256_len : zeros256.length = 256 := List.length_replicate
theorem zeros256_rng : ∀ x ∈ zeros256, 0 ≤ x ∧ x ≤ 255 := rng_zeros 256
theorem readK_rng {S : DS} {n : Nat} (hok : S.Ok n) (p : Pt) : ∀ x ∈ (readK S p).1, 0 ≤ x ∧ x ≤ 255 := by
  unfold readK
  repeat' split
  · simp
  · exact zeros256_rng
  · rename_i h
    unfold rightL at h
    simp only [Bool.and_eq_true, decide_eq_true_eq, hok.secs] at h
    exact (readW_ok hok h.2.1).2
  · rename_i h
    unfold rightL at h
    simp only [Bool.and_eq_true, decide_eq_true_eq, hok.secs] at h
    exact (readW_ok hok h.2.1).2
  · simp
theorem rightL_lt {S : DS} {n x : Nat} {h : List Int} (hok : S.Ok n) (hr : rightL S x h = true) : x < n ∧ x ≠ 0 ∧ shaOf (readW S.laid S.ws x) = h := by
  unfold rightL at hr
  simp only [Bool.and_eq_true, decide_eq_true_eq, hok.secs] at hr
  exact ⟨hr.2.1, by simpa using hr.1, hr.2.2⟩
theorem readK_len {S : DS} {n : Nat} (hok : S.Ok n) (p : Pt) : ((readK S p).2 = 0 ∧ (readK S p).1.length = 256) ∨ ((readK S p).2 ≠ 0 ∧ (readK S p).1 = []) := by
  unfold readK
  split
  · rename_i h; exact .inr ⟨h, rfl⟩
  · split
    · exact .inl ⟨rfl, zeros256_len⟩
    · split
      · rename_i h; exact .inl ⟨rfl, (readW_ok hok (rightL_lt hok h).1).1⟩
      · split
        · rename_i h; exact .inl ⟨rfl, (readW_ok hok (rightL_lt hok h).1).1⟩
        · exact .inr ⟨by simp, rfl⟩
/-- Never wrong. -/
theorem readK_hash {S : DS} {n : Nat} (hok : S.Ok n) (p : Pt) (h0 : (readK S p).2 = 0) : p.hole = true ∨ shaOf (readK S p).1 = p.h := by
  unfold readK at *
  by_cases h1 : okK S p ≠ 0
  · rw [if_pos h1] at h0; exact absurd h0 h1
  rw [if_neg h1] at h0 ⊢
  by_cases h2 : p.hole = true
  · exact .inl h2
  rw [if_neg h2] at h0 ⊢
  by_cases h3 : rightL S p.x p.h = true
  · rw [if_pos h3]; exact .inr (rightL_lt hok h3).2.2
  rw [if_neg h3] at h0 ⊢
  by_cases h4 : rightL S p.y p.h = true
  · rw [if_pos h4]; exact .inr (rightL_lt hok h4).2.2
  rw [if_neg h4] at h0
  simp at h0
theorem okK_cases (S : DS) (p : Pt) : okK S p = 0 ∨ okK S p = 1 ∨ okK S p = 8 := by
  unfold okK
  repeat' split
  all_goals simp
theorem okK_zero {S : DS} {p : Pt} (h : okK S p = 0) : S.off = false ∧ p.may = true := by
  unfold okK at h
  split at h
  · simp at h
  · split at h
    · rename_i h1 h2; exact ⟨by simpa using h1, h2⟩
    · simp at h

end Go.Proofs.YtjfoidilecognaaDoor
