/-
  Hashes that came in; hashes that were appended.
-/
import Derived.Test.YtnkblmbpioamnaaDoorOpens
import Derived.Test.YtnkblmbpioamnaaDoorTreeWalk
import Derived.Deep.Slices
import Derived.Laws.AppendOwnNone
namespace Go.Proofs.YtnkblmbpioamnaaDoor
set_option linter.unusedSimpArgs false
set_option linter.unusedVariables false
open Go.RowKit Go.ChangeShapes Go.WideShapes

theorem open_hashes {H : Type} {enc : TypeId × Value → H} {P : Program} {W : World} {base : Nat} {t e q : TypeId} (ht : P.underlying t = some (.slice e)) (he : P.underlying e = some (.array 32 q)) (hq : P.underlying q = some (.int .u8)) (ce : P.cellsOf e = 32) (cq : P.cellsOf q = 1)
    {r : Reach} {b0 : Nat} {v : Value} {d : DataW H} {p : List MemPlace} {held : Bool} (hv : Value.okWide P W r b0 t v) (h : DataW.Trod enc P W base (fun _ => true) held t v d p) :
    ∃ (a : Option Addr) (c : Nat) (hs : List (List Int)), v = .slice a hs.length c ∧ Hs W a c hs ∧ hs.length ≤ 9223372036854775807 ∧ (a = none → c = 0) := by
  obtain ⟨a, len, cap, rfl⟩ := okWide_slice ht hv
  obtain ⟨fuel, hf⟩ := h
  rcases Go.Deep.open_slice ht hf with ⟨hcs, _⟩ | ⟨x, l, c, m, n, D, Pl, hcs, _, hl, hmx, hm, _, hel⟩
  · simp [Value.cells] at hcs
    obtain ⟨rfl, rfl, rfl⟩ := hcs
    exact ⟨none, 0, [], rfl, ⟨fun x hx => (by cases hx), by simp, by decide, .inl rfl⟩, by simp, fun _ => rfl⟩
  · simp [Value.cells] at hcs
    obtain ⟨rfl, rfl, rfl⟩ := hcs
    simp only [if_true] at hm
    subst hm
    rw [ce] at hel
    obtain ⟨Y, hY⟩ := Go.Deep.choose_lt (n := len) (p := fun i (y : List Int) => W.cells? base (x.add (i * 32)) 32 = some (y.map (Value.int .u8)) ∧ y.length = 32 ∧ ∀ z ∈ y, 0 ≤ z ∧ z ≤ 255) (fun i hi => by
      obtain ⟨cs', h1, h2⟩ := hel i (by omega)
      obtain ⟨y, rfl, hy1, hy2⟩ := open_array he hq cq ce h2
      exact ⟨y, h1, hy1, fun z hz => wf_u8 (hy2 z hz)⟩)
    have hmx' := hmx
    unfold maxLen at hmx'
    refine ⟨some x, m, (List.range len).map Y, by simp, ⟨?_, by simpa using hl, hmx, ?_⟩, by simp; omega, by simp⟩
    · intro y hy
      obtain ⟨i, hi, rfl⟩ := List.mem_map.1 hy
      exact (hY i (by simpa using hi)).2
    · by_cases h0 : len = 0
      · exact .inl (by simp [h0])
      · right
        have hcell : ∀ i, i < len → ∀ j, j < 32 → W.cell? ((x.add (i * 32)).add j) = some (.int .u8 ((Y i).getD j 0)) := fun i hi j hj => by
          have h1 := (hY i hi).1
          have hl32 := (hY i hi).2.1
          unfold World.cells? at h1
          split at h1
          · obtain ⟨b, hb, hc⟩ := Lib.mapM_at h1 j j (by simp [hj])
            have hb' : ((Y i).map (Value.int .u8))[j]? = some (.int .u8 ((Y i).getD j 0)) := by simp [List.getD, show j < (Y i).length by omega]
            rw [hc, ← hb, hb']
          · cases h1
        obtain ⟨b, off, spot⟩ := x
        have hspot : spot = none := by
          have h1 := hcell 0 (by omega) 0 (by omega)
          simpa [Addr.add] using World.cell?_spot h1
        subst hspot
        refine ⟨b, off, rfl, fun i hi j hj => ?_⟩
        simp at hi
        have h1 := hcell i hi j hj
        have hpl : ((⟨b, off, none⟩ : Addr).add (i * 32)).add j = ⟨b, off + 32 * i + j, none⟩ := by
          rw [Go.Deep.add_add]
          unfold Addr.add
          split <;> simp_all
          omega
        rw [hpl] at h1
        rw [h1]
        simp [List.getD, hi]

/-- The cells of hashes. -/
def hcells (hs : List (List Int)) : List Value := hs.flatMap (fun h => h.map (Value.int .u8))

theorem hcells_get : ∀ (hs : List (List Int)), (∀ h ∈ hs, h.length = 32) → ∀ i j, i < hs.length → j < 32 → (hcells hs)[32 * i + j]? = some (.int .u8 ((hs.getD i []).getD j 0))
  | [], _, i, j, hi, _ => by simp at hi
  | h :: hs, hl, 0, j, _, hj => by
    have h32 := hl h (by simp)
    show (h.map (Value.int .u8) ++ hcells hs)[32 * 0 + j]? = _
    rw [Nat.mul_zero, Nat.zero_add, List.getElem?_append_left (by simpa using (by omega : j < h.length))]
    simp [List.getD, show j < h.length by omega]
  | h :: hs, hl, i + 1, j, hi, hj => by
    have h32 := hl h (by simp)
    show (h.map (Value.int .u8) ++ hcells hs)[32 * (i + 1) + j]? = _
    rw [List.getElem?_append_right (by simp; omega), List.length_map, h32, show 32 * (i + 1) + j - 32 = 32 * i + j by omega, hcells_get hs (fun x hx => hl x (by simp [hx])) i j (by simpa using hi) hj]
    simp
theorem hcells_len (hs : List (List Int)) (hl : ∀ h ∈ hs, h.length = 32) : (hcells hs).length = hs.length * 32 := by
  induction hs with
  | nil => rfl
  | cons h hs ih =>
    show (h.map (Value.int .u8) ++ hcells hs).length = _
    rw [List.length_append, List.length_map, hl h (by simp), ih (fun x hx => hl x (by simp [hx])), List.length_cons]
    omega

theorem Hs.src {w : World} {b off c : Nat} {hs : List (List Int)} (h : Hs w (some ⟨b, off, none⟩) c hs) : ∀ j u, (hcells hs)[j]? = some u → w.cell? ((⟨b, off, none⟩ : Addr).add j) = some u := by
  intro j u hj
  have hl : ∀ x ∈ hs, x.length = 32 := fun x hx => (h.ok x hx).1
  have hjl : j < hs.length * 32 := by
    rcases Nat.lt_or_ge j (hs.length * 32) with h1 | h1
    · exact h1
    · rw [List.getElem?_eq_none (by rw [hcells_len hs hl]; exact h1)] at hj; cases hj
  have hd : j = 32 * (j / 32) + j % 32 := by omega
  have hg := hcells_get hs hl (j / 32) (j % 32) (by omega) (by omega)
  rw [← hd] at hg
  rw [hg] at hj
  rcases h.lay with h0 | ⟨b', off', he, hc⟩
  · rw [h0] at hjl; simp at hjl
  · simp only [Option.some.injEq, Addr.mk.injEq] at he
    obtain ⟨rfl, rfl, _⟩ := he
    have hadd : (⟨b, off, none⟩ : Addr).add j = ⟨b, off + 32 * (j / 32) + j % 32, none⟩ := by
      rw [Nat.add_assoc, ← hd]
      clear hd hg hj hc
      unfold Addr.add
      split <;> simp_all
    rw [hadd, hc (j / 32) (by omega) (j % 32) (by omega)]
    exact hj

theorem Hs.of_owns {w : World} {base : Nat} {e : TypeId} {v : Value} {hs : List (List Int)} (h : w.ownsRow base e 32 v hs.length (hcells hs)) (hok : ∀ x ∈ hs, x.length = 32 ∧ ∀ y ∈ x, 0 ≤ y ∧ y ≤ 255) :
    ∃ a c, v = .slice a hs.length c ∧ Hs w a c hs := by
  have hl : ∀ x ∈ hs, x.length = 32 := fun x hx => (hok x hx).1
  rcases h.2 with ⟨rfl, h0⟩ | ⟨g, cap, cur, rfl, hg, hh, h1, h2, h3, h4⟩
  · exact ⟨none, 0, by rw [h0], hok, by omega, by decide, .inl (List.eq_nil_of_length_eq_zero h0)⟩
  · refine ⟨_, _, rfl, hok, h1, h2, ?_⟩
    by_cases h0 : hs = []
    · exact .inl h0
    · refine .inr ⟨g, 0, rfl, fun i hi j hj => ?_⟩
      have hg2 := hcells_get hs hl i j hi hj
      rw [← h4, List.getElem?_take_of_lt (by omega)] at hg2
      simp [World.cell?, hh]
      rw [Array.getElem?_toList] at hg2
      simpa using hg2

theorem hashInfo : ∃ i z, Tryd.prog.info? 24 = some i ∧ i.zero = some z ∧ i.size = 32 ∧ i.bytes = 32 ∧ z.cells.size = 32 := ⟨_, _, rfl, rfl, rfl, rfl, rfl⟩

/-- append([][32]byte{}, l...). -/
theorem wpList_append_hashes {w : World} {ops : Array Oper} {rest : List Oper} {o : Oper} {a : Act} {Q : Exit → Act → World → Prop} (hgd : o.guard = none) (s x : Operand)
    (ho : o.op = .call { callee := .builtin .append, args := #[s, x], argTypes := #[22, 22] })
    (base : Nat) (v : Value) (hs : a.eval s = v) (hown : w.ownsRow base 24 32 v 0 [])
    (ad : Option Addr) (m c : Nat) (l : List (List Int)) (hx : a.eval x = .slice ad m c) (hm : m = l.length) (hH : Hs w ad c l) (hnul : ad = none → c = 0) (hlen : l.length ≤ 1000) (hbase : base ≤ w.heap.size)
    (h : ∀ v' w', w'.ownsRow base 24 32 v' l.length (hcells l) → Below base w w' → wpList Tryd.prog ops Q rest (a.put o.dst v') w') : wpList Tryd.prog ops Q (o :: rest) a w := by
  subst hm
  have hl : ∀ x ∈ l, x.length = 32 := fun x hx => (hH.ok x hx).1
  obtain ⟨i, z, hi, hz, hsz, hby, hzc⟩ := hashInfo
  by_cases hn : ad = none
  · subst hn
    have hc := hnul rfl
    have hy : l = [] := by
      rcases hH.lay with h | ⟨_, _, h, _⟩
      · exact h
      · simp at h
    subst hc; subst hy
    refine wpList_append_own_none hgd s x 22 ho base 24 i 32 Tryd.underlying22 hi v 0 [] hs hown hx ?_
    exact h v w hown (Below.refl _ _)
  · obtain ⟨ad', rfl⟩ := Option.ne_none_iff_exists'.1 hn
    have hcell : ∀ j u, (hcells l)[j]? = some u → w.cell? (ad'.add j) = some u := by
      rcases hH.lay with rfl | ⟨b, off, h1, hc⟩
      · simp [hcells]
      · simp at h1; subst h1; exact hH.src
    refine wpList_append_own _ hgd s x 22 ho base 24 i z 32 32 Tryd.underlying22 hi hz hsz hby hzc (by decide) v 0 [] hs hown ad' l.length c (hcells l) hx (hcells_len l hl) hcell ?_ (by unfold maxLen; omega) (by omega) hbase ?_
    · intro u hu
      simp only [hcells, List.mem_flatMap, List.mem_map] at hu
      obtain ⟨_, _, _, _, rfl⟩ := hu
      rfl
    · intro v' w' h1 h2 _
      refine h v' w' (by simpa using h1) ((Below.refl base w).grown h2 hbase (fun k hk => (World.ownsRow.lt hown k hk).1))
end Go.Proofs.YtnkblmbpioamnaaDoor
