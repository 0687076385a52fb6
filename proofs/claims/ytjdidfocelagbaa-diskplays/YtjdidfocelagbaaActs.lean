/-
  Scripts that came in: acts of package disk's laws.
-/
import Derived.Test.YtjdidfocelagbaaOpens
import Derived.Test.YtjdidfocelagbaaCrash
import Derived.Deep.Slices
namespace Go.Proofs.Ytjdidfocelagbaa
set_option linter.unusedSimpArgs false
set_option linter.unusedVariables false
open Go.RowKit Go.ChangeShapes Go.WideShapes

/-- An act as it lies in memory. -/
structure ActV where
  kind : Int
  pos : Int
  ba : Option Addr
  bc : Nat
  bs : List Int
  raw : Bool
  ka : Option Addr
  kc : Nat
  ks : List Int

instance : Inhabited ActV := ⟨⟨0, 0, none, 0, [], false, none, 0, []⟩⟩

def ActV.cells (x : ActV) : List Value := [.int .i64 x.kind, .int .i64 x.pos, .slice x.ba x.bs.length x.bc, .bool x.raw, .slice x.ka x.ks.length x.kc]

structure ActOk (W : World) (x : ActV) : Prop where
  kind : -9223372036854775808 ≤ x.kind ∧ x.kind ≤ 9223372036854775807
  pos : -9223372036854775808 ≤ x.pos ∧ x.pos ≤ 9223372036854775807
  bs : Bs W x.ba x.bc x.bs
  ks : Is W x.ka x.ks
  kl : x.ks.length ≤ 9223372036854775807

/-- Acts behind a slice. -/
structure Acts (W : World) (a : Option Addr) (xs : List ActV) : Prop where
  lay : xs = [] ∨ ∃ b off, a = some ⟨b, off, none⟩ ∧ ∀ i, i < xs.length → ∀ j, j < 5 → W.cell? ⟨b, off + 5 * i + j, none⟩ = (xs.getD i default).cells[j]?
  ok : ∀ x ∈ xs, ActOk W x

section
variable {H : Type} {enc : TypeId × Value → H} {W : World} {base : Nat}

theorem open_is {fuel : Nat} {held : Bool} {cs : List Value} {x : DataW H × List MemPlace} (h : DataW.trod enc Try.prog W base (fun _ => true) held fuel 36 cs = some x) :
    ∃ a c ks, cs = [.slice a (List.length ks) c] ∧ Is W a ks ∧ ks.length ≤ 9223372036854775807 := by
  rcases open_ints Try.underlying36 Try.underlying3 (by kernel_rfl) h with ⟨hcs, _⟩ | ⟨x, l, c, zs, hcs, _, hl, hm, hz, _, hcell, hwz⟩
  · exact ⟨none, 0, [], by simpa using hcs, .inl rfl, by simp⟩
  · simp at hz
    have hlen : (zs.take l).length = l := by simp; omega
    unfold maxLen at hm
    refine ⟨some x, c, zs.take l, by rw [hlen]; exact hcs, ?_, by omega⟩
    by_cases h0 : l = 0
    · exact .inl (by simp [h0])
    · right
      obtain ⟨b, off, spot⟩ := x
      have hc0 := hcell 0 (by omega)
      have hspot : spot = none := by simpa [Addr.add] using World.cell?_spot hc0
      subst hspot
      refine ⟨b, off, rfl, fun i hi => ?_⟩
      rw [hlen] at hi
      have hci := hcell i (by omega)
      have hpl : (⟨b, off, none⟩ : Addr).add i = ⟨b, off + i, none⟩ := by unfold Addr.add; split <;> simp_all
      rw [hpl] at hci
      rw [hci]
      simp [List.getD, List.getElem?_take, hi]

theorem open_bs {fuel : Nat} {held : Bool} {cs : List Value} {x : DataW H × List MemPlace} (h : DataW.trod enc Try.prog W base (fun _ => true) held fuel 35 cs = some x) :
    ∃ a c xs, cs = [.slice a (List.length xs) c] ∧ Bs W a c xs := by
  have hr : ∃ a len cap zs, cs = [.slice a len cap] ∧ IsRow .u8 W a len cap zs := by
    rcases open_ints Try.underlying35 Try.underlying5 (by kernel_rfl) h with ⟨hcs, _⟩ | ⟨x, l, c, zs, hcs, _, hl, hm, hz, _, hcell, hwz⟩
    · exact ⟨none, 0, 0, [], by simpa using hcs, .inl ⟨rfl, rfl, rfl, rfl⟩⟩
    · exact ⟨some x, l, c, zs, hcs, .inr ⟨_, rfl, hl, hm, by simpa using hz, hcell, hwz⟩⟩
  obtain ⟨a, len, cap, zs, hcs, hr⟩ := hr
  obtain ⟨xs, rfl, hB⟩ := came hr
  exact ⟨a, cap, xs, hcs, hB⟩

theorem take1 {α : Type} {l : List α} {i : Nat} {x : α} (h : (l.drop i).take 1 = [x]) : l[i]? = some x := by
  have := congrArg (·[0]?) h
  simpa [List.getElem?_take, List.getElem?_drop] using this

theorem open_act {fuel : Nat} {held : Bool} {cs : List Value} {x : DataW H × List MemPlace} (h : DataW.trod enc Try.prog W base (fun _ => true) held fuel 38 cs = some x) :
    ∃ y : ActV, cs = y.cells ∧ ActOk W y := by
  have hI : Try.prog.cellsOf 3 = 1 := by kernel_rfl
  have hS : Try.prog.cellsOf 35 = 1 := by kernel_rfl
  have hB : Try.prog.cellsOf 4 = 1 := by kernel_rfl
  have hK : Try.prog.cellsOf 36 = 1 := by kernel_rfl
  have hA : Try.prog.cellsOf 38 = 5 := by kernel_rfl
  cases fuel with
  | zero => simp [DataW.trod] at h
  | succ fuel =>
    simp only [DataW.trod, Try.underlying38, hA] at h
    split at h
    · rename_i hl
      obtain ⟨xs, hm, hx⟩ := Option.map_eq_some_iff.1 h
      obtain ⟨_, _, h0⟩ := Lib.mapM_at hm 0 _ rfl
      obtain ⟨_, _, h1⟩ := Lib.mapM_at hm 1 _ rfl
      obtain ⟨_, _, h2⟩ := Lib.mapM_at hm 2 _ rfl
      obtain ⟨_, _, h3⟩ := Lib.mapM_at hm 3 _ rfl
      obtain ⟨_, _, h4⟩ := Lib.mapM_at hm 4 _ rfl
      simp only [hI, hS, hB, hK] at h0 h1 h2 h3 h4
      obtain ⟨n0, e0, _, w0⟩ := DataW.trod_int Try.underlying3 h0
      obtain ⟨n1, e1, _, w1⟩ := DataW.trod_int Try.underlying3 h1
      obtain ⟨a2, c2, x2, e2, b2⟩ := open_bs h2
      obtain ⟨n3, e3, _⟩ := DataW.trod_bool Try.underlying4 h3
      obtain ⟨a4, c4, x4, e4, b4, l4⟩ := open_is h4
      refine ⟨⟨n0, n1, a2, c2, x2, n3, a4, c4, x4⟩, ?_, wf_i64 w0, wf_i64 w1, b2, b4, l4⟩
      have g0 := take1 e0
      have g1 := take1 e1
      have g2 := take1 e2
      have g3 := take1 e3
      have g4 := take1 e4
      match cs, hl, g0, g1, g2, g3, g4 with
      | [_, _, _, _, _], _, g0, g1, g2, g3, g4 =>
        simp at g0 g1 g2 g3 g4
        subst g0 g1 g2 g3 g4
        rfl
    · cases h

theorem open_acts {r : Reach} {b0 : Nat} {v : Value} {d : DataW H} {p : List MemPlace} {held : Bool} (hv : Value.okWide Try.prog W r b0 22 v) (h : DataW.Trod enc Try.prog W base (fun _ => true) held 22 v d p) :
    ∃ a c xs, v = .slice a (List.length xs) c ∧ Acts W a xs ∧ xs.length ≤ 9223372036854775807 := by
  obtain ⟨a, len, cap, rfl⟩ := okWide_slice Try.underlying22 hv
  obtain ⟨fuel, hf⟩ := h
  have hA : Try.prog.cellsOf 38 = 5 := by kernel_rfl
  rcases Go.Deep.open_slice Try.underlying22 hf with ⟨hcs, _⟩ | ⟨x, l, c, m, n, D, Pl, hcs, _, hl, hmx, hm, _, hel⟩
  · simp [Value.cells] at hcs
    obtain ⟨rfl, rfl, rfl⟩ := hcs
    exact ⟨none, 0, [], rfl, ⟨.inl rfl, fun x hx => by cases hx⟩, by simp⟩
  · simp [Value.cells] at hcs
    obtain ⟨rfl, rfl, rfl⟩ := hcs
    simp only [if_true] at hm
    subst hm
    rw [hA] at hel
    obtain ⟨Y, hY⟩ := Go.Deep.choose_lt (n := len) (p := fun i (y : ActV) => W.cells? base (x.add (i * 5)) 5 = some y.cells ∧ ActOk W y) (fun i hi => by
      obtain ⟨cs', h1, h2⟩ := hel i (by omega)
      obtain ⟨y, rfl, hy⟩ := open_act h2
      exact ⟨y, h1, hy⟩)
    unfold maxLen at hmx
    refine ⟨some x, m, (List.range len).map Y, by simp, ⟨?_, ?_⟩, by simp; omega⟩
    · by_cases h0 : len = 0
      · exact .inl (by simp [h0])
      · right
        have hcell : ∀ i, i < len → ∀ j, j < 5 → W.cell? ((x.add (i * 5)).add j) = (Y i).cells[j]? := fun i hi j hj => by
          have h1 := (hY i hi).1
          unfold World.cells? at h1
          split at h1
          · obtain ⟨b, hb, hc⟩ := Lib.mapM_at h1 j j (by simp [hj])
            rw [hb]; exact hc
          · cases h1
        obtain ⟨b, off, spot⟩ := x
        have hspot : spot = none := by
          have h1 := hcell 0 (by omega) 0 (by omega)
          rw [show (Y 0).cells[0]? = some (.int .i64 (Y 0).kind) from rfl] at h1
          simpa [Addr.add] using World.cell?_spot h1
        subst hspot
        refine ⟨b, off, rfl, fun i hi j hj => ?_⟩
        simp at hi
        have h1 := hcell i hi j hj
        have hpl : ((⟨b, off, none⟩ : Addr).add (i * 5)).add j = ⟨b, off + 5 * i + j, none⟩ := by
          rw [Go.Deep.add_add]
          unfold Addr.add
          split <;> simp_all
          omega
        rw [hpl] at h1
        rw [h1]
        simp [List.getD, hi]
    · intro y hy
      obtain ⟨i, hi, rfl⟩ := List.mem_map.1 hy
      exact (hY i (by simpa using hi)).2
end
end Go.Proofs.Ytjdidfocelagbaa
