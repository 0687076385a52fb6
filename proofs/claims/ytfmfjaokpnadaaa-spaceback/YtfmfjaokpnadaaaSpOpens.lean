/-
  Scripts that came in: acts of package space's laws.
-/
import Derived.Test.YtfmfjaokpnadaaaOpens
import Derived.Test.YtfmfjaokpnadaaaSpKeep
import Derived.Deep.Slices
namespace Go.Proofs.Ytfmfjaokpnadaaa
set_option linter.unusedSimpArgs false
set_option linter.unusedVariables false
open Go.RowKit Go.ChangeShapes Go.WideShapes

/-- An act as it lies in memory. -/
structure ActV where
  kind : Int
  num : Int
  pos : Nat
  ka : Option Addr
  kc : Nat
  ks : List Nat

instance : Inhabited ActV := ⟨⟨0, 0, 0, none, 0, []⟩⟩

def ActV.cells (x : ActV) : List Value := [.int .i64 x.kind, .int .i64 x.num, .int .u32 (x.pos : Int), .slice x.ka x.ks.length x.kc]

structure ActOk (W : World) (x : ActV) : Prop where
  kind : -9223372036854775808 ≤ x.kind ∧ x.kind ≤ 9223372036854775807
  num : -9223372036854775808 ≤ x.num ∧ x.num ≤ 9223372036854775807
  pos : x.pos < 4294967296
  ks : Us W x.ka x.ks
  kl : x.ks.length ≤ 9223372036854775807

/-- Acts behind a slice. -/
structure Acts (W : World) (a : Option Addr) (xs : List ActV) : Prop where
  lay : xs = [] ∨ ∃ b off, a = some ⟨b, off, none⟩ ∧ ∀ i, i < xs.length → ∀ j, j < 4 → W.cell? ⟨b, off + 4 * i + j, none⟩ = (xs.getD i default).cells[j]?
  ok : ∀ x ∈ xs, ActOk W x

theorem wf_u32 {n : Int} (h : (Lit.int .u32 n).wf = true) : ∃ k : Nat, n = k ∧ k < 4294967296 := by
  simp [Lit.wf, IntKind.min, IntKind.max, IntKind.bits, IntKind.signed] at h
  exact ⟨n.toNat, by omega, by omega⟩

section
variable {H : Type} {enc : TypeId × Value → H} {W : World} {base : Nat}

theorem open_us {fuel : Nat} {held : Bool} {cs : List Value} {x : DataW H × List MemPlace} (h : DataW.trod enc Try.prog W base (fun _ => true) held fuel 33 cs = some x) :
    ∃ a c ks, cs = [.slice a (List.length ks) c] ∧ Us W a ks ∧ ks.length ≤ 9223372036854775807 := by
  rcases open_ints Try.underlying33 Try.underlying32 (by kernel_rfl) h with ⟨hcs, _⟩ | ⟨x, l, c, zs, hcs, _, hl, hm, hz, _, hcell, hwz⟩
  · exact ⟨none, 0, [], by simpa using hcs, Us.none _ _, by simp⟩
  · simp at hz
    have hlen : ((zs.take l).map Int.toNat).length = l := by simp; omega
    unfold maxLen at hm
    refine ⟨some x, c, (zs.take l).map Int.toNat, by rw [hlen]; exact hcs, ⟨?_, ?_⟩, by omega⟩
    · intro k hk
      obtain ⟨z, hz1, rfl⟩ := List.mem_map.1 hk
      obtain ⟨m, rfl, hm1⟩ := wf_u32 (hwz z (List.mem_of_mem_take hz1))
      simpa using hm1
    · by_cases h0 : l = 0
      · exact .inl (by simp [h0])
      · right
        obtain ⟨b, off, spot⟩ := x
        have hc0 := hcell 0 (by omega)
        have hspot : spot = none := by simpa [Addr.add] using World.cell?_spot hc0
        subst hspot
        refine ⟨b, off, rfl, fun i hi => ?_⟩
        rw [hlen] at hi
        have hci := hcell i (by omega)
        have hpl : (⟨b, off, none⟩ : Addr).add i = ⟨b, off + i, none⟩ := by unfold Addr.add; split <;> simp_all
        rw [hpl] at hci
        rw [hci]
        have hiz : i < zs.length := by omega
        have hwi := hwz (zs.getD i 0) (by simp [List.getD, hiz])
        obtain ⟨m, hm1, _⟩ := wf_u32 hwi
        have : ((zs.take l).map Int.toNat).getD i 0 = (zs.getD i 0).toNat := by simp [List.getD, List.getElem?_take, hi, hiz]
        rw [this, hm1]
        rfl

theorem take1 {α : Type} {l : List α} {i : Nat} {x : α} (h : (l.drop i).take 1 = [x]) : l[i]? = some x := by
  have := congrArg (·[0]?) h
  simpa [List.getElem?_take, List.getElem?_drop] using this

theorem open_act {fuel : Nat} {held : Bool} {cs : List Value} {x : DataW H × List MemPlace} (h : DataW.trod enc Try.prog W base (fun _ => true) held fuel 35 cs = some x) :
    ∃ y : ActV, cs = y.cells ∧ ActOk W y := by
  have hI : Try.prog.cellsOf 3 = 1 := by kernel_rfl
  have hU : Try.prog.cellsOf 32 = 1 := by kernel_rfl
  have hK : Try.prog.cellsOf 33 = 1 := by kernel_rfl
  have hA : Try.prog.cellsOf 35 = 4 := by kernel_rfl
  cases fuel with
  | zero => simp [DataW.trod] at h
  | succ fuel =>
    simp only [DataW.trod, Try.underlying35, hA] at h
    split at h
    · rename_i hl
      obtain ⟨xs, hm, hx⟩ := Option.map_eq_some_iff.1 h
      obtain ⟨_, _, h0⟩ := Lib.mapM_at hm 0 _ rfl
      obtain ⟨_, _, h1⟩ := Lib.mapM_at hm 1 _ rfl
      obtain ⟨_, _, h2⟩ := Lib.mapM_at hm 2 _ rfl
      obtain ⟨_, _, h3⟩ := Lib.mapM_at hm 3 _ rfl
      simp only [hI, hU, hK] at h0 h1 h2 h3
      obtain ⟨n0, e0, _, w0⟩ := DataW.trod_int Try.underlying3 h0
      obtain ⟨n1, e1, _, w1⟩ := DataW.trod_int Try.underlying3 h1
      obtain ⟨n2, e2, _, w2⟩ := DataW.trod_int Try.underlying32 h2
      obtain ⟨m2, rfl, b2⟩ := wf_u32 w2
      obtain ⟨a3, c3, x3, e3, b3, l3⟩ := open_us h3
      refine ⟨⟨n0, n1, m2, a3, c3, x3⟩, ?_, wf_i64 w0, wf_i64 w1, b2, b3, l3⟩
      have g0 := take1 e0
      have g1 := take1 e1
      have g2 := take1 e2
      have g3 := take1 e3
      match cs, hl, g0, g1, g2, g3 with
      | [_, _, _, _], _, g0, g1, g2, g3 =>
        simp at g0 g1 g2 g3
        subst g0 g1 g2 g3
        rfl
    · cases h

theorem open_acts {r : Reach} {b0 : Nat} {v : Value} {d : DataW H} {p : List MemPlace} {held : Bool} (hv : Value.okWide Try.prog W r b0 22 v) (h : DataW.Trod enc Try.prog W base (fun _ => true) held 22 v d p) :
    ∃ a c xs, v = .slice a (List.length xs) c ∧ Acts W a xs ∧ xs.length ≤ 9223372036854775807 := by
  obtain ⟨a, len, cap, rfl⟩ := okWide_slice Try.underlying22 hv
  obtain ⟨fuel, hf⟩ := h
  have hA : Try.prog.cellsOf 35 = 4 := by kernel_rfl
  rcases Go.Deep.open_slice Try.underlying22 hf with ⟨hcs, _⟩ | ⟨x, l, c, m, n, D, Pl, hcs, _, hl, hmx, hm, _, hel⟩
  · simp [Value.cells] at hcs
    obtain ⟨rfl, rfl, rfl⟩ := hcs
    exact ⟨none, 0, [], rfl, ⟨.inl rfl, fun x hx => by cases hx⟩, by simp⟩
  · simp [Value.cells] at hcs
    obtain ⟨rfl, rfl, rfl⟩ := hcs
    simp only [if_true] at hm
    subst hm
    rw [hA] at hel
    obtain ⟨Y, hY⟩ := Go.Deep.choose_lt (n := len) (p := fun i (y : ActV) => W.cells? base (x.add (i * 4)) 4 = some y.cells ∧ ActOk W y) (fun i hi => by
      obtain ⟨cs', h1, h2⟩ := hel i (by omega)
      obtain ⟨y, rfl, hy⟩ := open_act h2
      exact ⟨y, h1, hy⟩)
    unfold maxLen at hmx
    refine ⟨some x, m, (List.range len).map Y, by simp, ⟨?_, ?_⟩, by simp; omega⟩
    · by_cases h0 : len = 0
      · exact .inl (by simp [h0])
      · right
        have hcell : ∀ i, i < len → ∀ j, j < 4 → W.cell? ((x.add (i * 4)).add j) = (Y i).cells[j]? := fun i hi j hj => by
          have h1 := (hY i hi).1
          unfold World.cells? at h1
          split at h1
          · obtain ⟨b, hb, hc⟩ := Lib.mapM_at h1 j j (by simp [hj])
            rw [hb]; exact hc
          · cases h1
        obtain ⟨b, off, spot⟩ := x
        have hspot : spot = none := by
          have h1 := hcell 0 (by omega) 0 (by omega)
          rw [show (Y 0).cells[0]? = some (.int .i64 (Y 0).kind) from rfl] at h1
          simpa [Addr.add] using World.cell?_spot h1
        subst hspot
        refine ⟨b, off, rfl, fun i hi j hj => ?_⟩
        simp at hi
        have h1 := hcell i hi j hj
        have hpl : ((⟨b, off, none⟩ : Addr).add (i * 4)).add j = ⟨b, off + 4 * i + j, none⟩ := by
          rw [Go.Deep.add_add]
          unfold Addr.add
          split <;> simp_all
          omega
        rw [hpl] at h1
        rw [h1]
        simp [List.getD, hi]
    · intro y hy
      obtain ⟨i, hi, rfl⟩ := List.mem_map.1 hy
      exact (hY i (by simpa using hi)).2
end

theorem Acts.at {W : World} {a : Option Addr} {xs : List ActV} (h : Acts W a xs) {i : Nat} (hi : i < xs.length) :
    ∃ b off, a = some ⟨b, off, none⟩ ∧ (∀ j, j < 4 → W.cell? ⟨b, off + 4 * i + j, none⟩ = (xs.getD i default).cells[j]?) ∧ ActOk W (xs.getD i default) := by
  rcases h.lay with rfl | ⟨b, off, rfl, hc⟩
  · simp at hi
  · exact ⟨b, off, rfl, hc i hi, h.ok _ (by simp [List.getD, hi])⟩

theorem Acts.stays {w w' : World} {a : Option Addr} {xs : List ActV} (h : Acts w a xs) (hb : Below w.heap.size w w') : Acts w' a xs := by
  refine ⟨?_, fun x hx => ?_⟩
  · rcases h.lay with h0 | ⟨b, off, rfl, hc⟩
    · exact .inl h0
    · refine .inr ⟨b, off, rfl, fun i hi j hj => ?_⟩
      have h1 := hc i hi j hj
      have h2 : ∃ v, (xs.getD i default).cells[j]? = some v := by
        have : j < (xs.getD i default).cells.length := hj
        exact ⟨_, List.getElem?_eq_getElem this⟩
      obtain ⟨v, hv⟩ := h2
      rw [hb.cell (World.block_lt_of_cell? w _ (h1.trans hv))]
      exact h1
  · have := h.ok x hx
    exact ⟨this.kind, this.num, this.pos, this.ks.stays hb, this.kl⟩

theorem act_cells {w : World} {b o : Nat} {x : ActV} (h : ∀ j, j < 4 → w.cell? ⟨b, o + j, none⟩ = x.cells[j]?) :
    w.cell? ⟨b, o, none⟩ = some (.int .i64 x.kind) ∧ w.cell? ⟨b, o + 1, none⟩ = some (.int .i64 x.num) ∧ w.cell? ⟨b, o + 2, none⟩ = some (.int .u32 (x.pos : Int)) ∧ w.cell? ⟨b, o + 3, none⟩ = some (.slice x.ka x.ks.length x.kc) :=
  ⟨h 0 (by omega), h 1 (by omega), h 2 (by omega), h 3 (by omega)⟩

theorem elemAct : Try.prog.elem 22 = 35 := by kernel_rfl
theorem sizesAct : (Try.prog.info? 35).map (·.size) = some 4 := by kernel_rfl
theorem index_act (b off n c k : Nat) (hk : k < n) (w : World) :
    (Instr.indexAt 22 (.slice (some ⟨b, off, none⟩) n c) (.int .i64 (k : Int))).run Try.prog w = .ok (.pointer (some ⟨b, off + k * 4, none⟩)) w :=
  index_slice _ _ 4 Try.underlying22 sizesAct elemAct b off n c .i64 k hk w
end Go.Proofs.Ytfmfjaokpnadaaa
