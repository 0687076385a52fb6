/-
 What the walks over package num lean on, without the program: bytes that lie in memory, and how they stay.
-/
import Derived.WalkKit
import Derived.WalkSpells
import Derived.WalkLawsBesides
import Derived.Laws.CopyOwn
import Derived.Laws.BytesArg
import Derived.Laws.AppendOwnNone
import Derived.Maps.AppendAt
import Derived.Deep.RegionHeld3
import Derived.Deep.Matrix
import Derived.Lib.LaidTab
import Derived.WideShapes
import Derived.ChangeSlices
namespace Go.Proofs.YthbldjnpnligpaaDoor
set_option linter.unusedSimpArgs false
set_option linter.unusedVariables false
set_option maxRecDepth 100000
open Go.RowKit
structure Bs (w : World) (a : Option Addr) (c : Nat) (xs : List Int) : Prop where
 rng : ∀ x ∈ xs, 0 ≤ x ∧ x ≤ 255
 cap : xs.length ≤ c
 capm : c ≤ maxLen
 nul : a = none → c = 0
 lay : xs = [] ∨ ∃ b off, a = some ⟨b, off, none⟩ ∧ ∀ i, i < xs.length → w.cell? ⟨b, off + i, none⟩ = some (.int .u8 (xs.getD i 0))
theorem Bs.empty (w : World) : Bs w none 0 [] := ⟨by simp, Nat.le_refl _, by decide, fun _ => rfl, .inl rfl⟩
theorem Bs.stays {w w' : World} {a : Option Addr} {c : Nat} {xs : List Int} (h : Bs w a c xs) (hb : Below w.heap.size w w') : Bs w' a c xs := by
 refine ⟨h.rng, h.cap, h.capm, h.nul, ?_⟩
 rcases h.lay with h | ⟨b, off, rfl, hc⟩
 · exact .inl h
 · refine .inr ⟨b, off, rfl, fun i hi => ?_⟩
   rw [hb.cell (World.block_lt_of_cell? w _ (hc i hi))]
   exact hc i hi
theorem Bs.cell {w : World} {a : Option Addr} {c : Nat} {xs : List Int} (h : Bs w a c xs) (hp : 0 < xs.length) : ∃ b off, a = some ⟨b, off, none⟩ ∧ ∀ i, i < xs.length → w.cell? ⟨b, off + i, none⟩ = some (.int .u8 (xs.getD i 0)) := by
 rcases h.lay with h | h
 · simp [h] at hp
 · exact h
theorem Bs.conv {P : Program} {w : World} {a : Option Addr} {c : Nat} {xs : List Int} (h : Bs w a c xs) (n : Nat) (hn : n = xs.length) (src e : TypeId) (hs : P.underlying src = some (.slice e)) (he : P.underlying e = some (.int .u8)) :
 ∀ dst, P.underlying dst = some .string → (convert src dst (.slice a n c)).run P w = .ok (.string (strOfNums xs)) w := by
 subst hn
 intro dst hd
 rcases h.lay with rfl | ⟨b, off, rfl, hc⟩
 · cases a with
   | none => exact run_convert_bytes_nil w src e hs he _ c dst hd
   | some ad =>
     rw [run_convert_bytes_string w src dst e _ _ c hs he hd, run_bytesToString w _ _ c [] (by simpa using run_loadCells_list (P := P) w ad [] (by simp))]
     rfl
 · exact run_convert_bytes_arg w src e hs he b off _ c xs rfl hc dst hd
theorem Bs.of_owns {w : World} {base : Nat} {e : TypeId} {v : Value} {n : Nat} {xs : List Int} (h : w.ownsRow base e 1 v n (xs.map (Value.int .u8))) (hr : ∀ x ∈ xs, 0 ≤ x ∧ x ≤ 255) :
 ∃ a c, v = .slice a xs.length c ∧ Bs w a c xs := by
 have hl : n = xs.length := by have := h.1; simp at this; omega
 subst hl
 rcases h.2 with ⟨rfl, h0⟩ | ⟨g, cap, cur, rfl, hg, hh, h1, h2, h3, h4⟩
 · have : xs = [] := List.eq_nil_of_length_eq_zero h0
   subst this
   exact ⟨none, 0, rfl, Bs.empty _⟩
 · refine ⟨_, _, rfl, hr, h1, h2, by simp, .inr ⟨g, 0, rfl, fun i hi => ?_⟩⟩
   have := World.ownsRow.cellAt h i (by omega)
   simp [hi, List.getD] at this ⊢
   exact this
theorem Bs.one (w : World) (y : Int) (hy : 0 ≤ y ∧ y ≤ 255) (e : TypeId) : Bs (w.alloc (.cells #[.int .u8 y] e)) (some ⟨w.heap.size, 0, none⟩) 1 [y] := by
 refine ⟨by simpa using hy, by simp, by decide, by simp, .inr ⟨_, _, rfl, fun i hi => ?_⟩⟩
 have : i = 0 := by simpa using hi
 subst this
 simp
theorem Bs.srcCells {w : World} {b off : Nat} {ys : List Int} (hc : ∀ i, i < ys.length → w.cell? ⟨b, off + i, none⟩ = some (.int .u8 (ys.getD i 0))) :
 ∀ j u, (ys.map (Value.int .u8))[j]? = some u → w.cell? ((⟨b, off, none⟩ : Addr).add j) = some u := by
 intro j u hj
 have hjl : j < ys.length := by
  rcases Nat.lt_or_ge j ys.length with h | h
  · exact h
  · simp [List.getElem?_eq_none h] at hj
 have hplain : (⟨b, off, none⟩ : Addr).add j = ⟨b, off + j, none⟩ := by unfold Addr.add; split <;> simp_all
 rw [hplain, hc j hjl]
 simp [List.getElem?_eq_getElem hjl] at hj
 subst hj
 simp [List.getD, List.getElem?_eq_getElem hjl]
theorem owns_below {w w' w0 : World} {base : Nat} {e : TypeId} {size : Nat} {v : Value} {n : Nat} {xs : List Value} (h : w.ownsRow base e size v n xs) (hb : Below base w0 w) (hbase : base ≤ w.heap.size) (hg : w.grownBy w' v.ownBlock) : Below base w0 w' :=
 hb.grown hg hbase (fun k hk => (h.lt k hk).1)
theorem wpList_append_bytes {P : Program} {w w0 : World} {ops : Array Oper} {rest : List Oper} {o : Oper} {a : Act} {Q : Exit → Act → World → Prop} (hgd : o.guard = none) (s x : Operand) (t : TypeId)
 (ho : o.op = .call { callee := .builtin .append, args := #[s, x], argTypes := #[t, t] })
 (base : Nat) (e : TypeId) (i : TypeInfo) (ht : P.underlying t = some (.slice e)) (hi : P.info? e = some i) (hz : i.zero = some (.int .u8 0)) (hsize : i.size = 1) (hby : i.bytes = 1)
 (v : Value) (xs : List Int) (hs : a.eval s = v) (hown : w.ownsRow base e 1 v xs.length (xs.map (Value.int .u8)))
 (ad : Option Addr) (m c : Nat) (ys : List Int) (hx : a.eval x = .slice ad m c) (hm : m = ys.length) (hB : Bs w ad c ys)
 (hlen : xs.length + ys.length ≤ 140737488355328) (hbase : base ≤ w.heap.size) (hb : Below base w0 w)
 (h : ∀ v' w', w'.ownsRow base e 1 v' (xs ++ ys).length ((xs ++ ys).map (Value.int .u8)) → Below base w0 w' → wpList P ops Q rest (a.put o.dst v') w') : wpList P ops Q (o :: rest) a w := by
 subst hm
 by_cases hn : ad = none
 · subst hn
   have hc := hB.nul rfl
   have hy : ys = [] := by
    rcases hB.lay with h | ⟨_, _, h, _⟩
    · exact h
    · simp at h
   subst hc; subst hy
   refine wpList_append_own_none hgd s x t ho base e i 1 ht hi v xs.length (xs.map (Value.int .u8)) hs hown hx ?_
   exact h v w (by simpa using hown) hb
 · obtain ⟨ad', rfl⟩ := Option.ne_none_iff_exists'.1 hn
   have hcell : ∀ j u, (ys.map (Value.int .u8))[j]? = some u → w.cell? (ad'.add j) = some u := by
    rcases hB.lay with rfl | ⟨b, off, h, hc⟩
    · simp
    · simp at h; subst h; exact Bs.srcCells hc
   refine wpList_append_own _ hgd s x t ho base e i (.int .u8 0) 1 1 ht hi hz hsize hby rfl (by decide) v xs.length (xs.map (Value.int .u8)) hs hown ad' ys.length c (ys.map (Value.int .u8)) hx (by simp) hcell (ints_oneCell _ _) ?_ ?_ hbase ?_
   · unfold maxLen; omega
   · omega
   · intro v' w' h1 h2 _
     exact h v' w' (by simpa using h1) (owns_below hown hb hbase h2)
theorem Bs.from {P : Program} {w : World} {a : Option Addr} {c : Nat} {xs : List Int} (h : Bs w a c xs) (t e : TypeId) (ht : P.underlying t = some (.slice e)) (hs : (P.info? e).map (·.size) = some 1) (he : P.elem t = e) (k : Nat) (hk : k ≤ xs.length) :
 ∃ a' c', (∀ (w' : World) (n : Nat) (K : IntKind) (k' : Int), n = xs.length → k' = k → (Instr.slice t (.slice a n c) (some (.int K k')) none none).run P w' = .ok (.slice a' (n - k) c') w') ∧ Bs w a' c' (xs.drop k) := by
 refine ⟨if c = k then a else a.map (·.add (k * 1)), c - k, fun w' n K k' hn hk' => ?_, ?_⟩
 · subst hn hk'
   have hz : (sizeOf e).run P w' = .ok 1 w' := by
    obtain ⟨i, hi, h1⟩ := Option.map_eq_some_iff.1 hs
    simp [sizeOf, typeInfo, hi, h1, go_sem]
   rw [run_slice_l w' t a xs.length c (by rw [he]; exact ht) K k (by omega) (by omega), he, hz]
   simp [Result.andThen, sliced]
 · refine ⟨fun x hx => h.rng x (List.mem_of_mem_drop hx), by have := h.cap; simp; omega, by have := h.capm; omega, ?_, ?_⟩
   · intro hn
     by_cases hc : c = k
     · omega
     · rw [if_neg hc] at hn
       have := h.nul (by simpa using hn)
       omega
   · by_cases hd : xs.drop k = []
     · exact .inl hd
     · right
       have hlt : k < xs.length := by
        rcases Nat.lt_or_ge k xs.length with h | h
        · exact h
        · exact absurd (List.drop_eq_nil_of_le h) hd
       obtain ⟨b, off, rfl, hc⟩ := h.cell (by omega)
       have hck : ¬ c = k := by have := h.cap; omega
       refine ⟨b, off + k, ?_, fun i hi => ?_⟩
       · rw [if_neg hck]; simp [Addr.add]
       · have := hc (k + i) (by simp at hi; omega)
         simp only [List.getD, List.getElem?_drop] at this ⊢
         rw [← Nat.add_assoc] at this
         exact this
theorem Bs.fromAll {P : Program} (a : Option Addr) (c : Nat) (xs : List Int) (t e : TypeId) (ht : P.underlying t = some (.slice e)) (hs : (P.info? e).map (·.size) = some 1) (he : P.elem t = e) (k : Nat) (hk : k ≤ xs.length) :
 ∃ a' c', (∀ (w' : World) (K : IntKind), (Instr.slice t (.slice a xs.length c) (some (.int K (k : Int))) none none).run P w' = .ok (.slice a' (xs.length - k) c') w') ∧ ∀ u, Bs u a c xs → Bs u a' c' (xs.drop k) := by
 by_cases h : ∃ u, Bs u a c xs
 · obtain ⟨u0, h0⟩ := h
   refine ⟨if c = k then a else a.map (·.add (k * 1)), c - k, fun w' K => ?_, fun u hu => ?_⟩
   · have hz : (sizeOf e).run P w' = .ok 1 w' := by
        obtain ⟨i, hi, h1⟩ := Option.map_eq_some_iff.1 hs
        simp [sizeOf, typeInfo, hi, h1, go_sem]
     rw [run_slice_l w' t a xs.length c (by rw [he]; exact ht) K k (by omega) (by omega), he, hz]
     simp [Result.andThen, sliced]
   · obtain ⟨a', c', hrun, hB⟩ := hu.from (P := P) t e ht hs he k hk
     have h1 := hrun u xs.length .i64 k rfl rfl
     have hz : (sizeOf e).run P u = .ok 1 u := by
        obtain ⟨i, hi, h1⟩ := Option.map_eq_some_iff.1 hs
        simp [sizeOf, typeInfo, hi, h1, go_sem]
     rw [run_slice_l u t a xs.length c (by rw [he]; exact ht) .i64 k (by omega) (by omega), he, hz] at h1
     simp [Result.andThen, sliced] at h1
     obtain ⟨h2, h3⟩ := h1
     rw [← h2, ← h3] at hB
     simpa using hB
 · refine ⟨if c = k then a else a.map (·.add (k * 1)), c - k, fun w' K => ?_, fun u hu => absurd ⟨u, hu⟩ h⟩
   have hz : (sizeOf e).run P w' = .ok 1 w' := by
    obtain ⟨i, hi, h1⟩ := Option.map_eq_some_iff.1 hs
    simp [sizeOf, typeInfo, hi, h1, go_sem]
   rw [run_slice_l w' t a xs.length c (by rw [he]; exact ht) K k (by omega) (by omega), he, hz]
   simp [Result.andThen, sliced]
theorem Bs.upto {P : Program} {w : World} {a : Option Addr} {c : Nat} {xs : List Int} (h : Bs w a c xs) (t e : TypeId) (ht : P.underlying t = some (.slice e)) (hs : (P.info? e).map (·.size) = some 1) (he : P.elem t = e) (k : Nat) (hk : k ≤ xs.length) :
 (∀ (w' : World) (n : Nat) (K : IntKind) (k' : Int), k' = k → (Instr.slice t (.slice a n c) none (some (.int K k')) none).run P w' = .ok (.slice a k c) w') ∧ Bs w a c (xs.take k) := by
 refine ⟨fun w' n K k' hk' => ?_, ?_⟩
 · subst hk'
   have hz : (sizeOf e).run P w' = .ok 1 w' := by
    obtain ⟨i, hi, h1⟩ := Option.map_eq_some_iff.1 hs
    simp [sizeOf, typeInfo, hi, h1, go_sem]
   rw [run_slice_h w' t a n c (by rw [he]; exact ht) K k (by omega) (by have := h.cap; omega), he, hz]
   have hpl : ∀ ad : Addr, ad.add 0 = ad := fun ad => by cases ad; simp [Addr.add]
   simp [Result.andThen, sliced, hpl]
 · refine ⟨fun x hx => h.rng x (List.mem_of_mem_take hx), by have := h.cap; simp; omega, h.capm, h.nul, ?_⟩
   rcases h.lay with rfl | ⟨b, off, rfl, hc⟩
   · simp
   · refine .inr ⟨b, off, rfl, fun i hi => ?_⟩
     simp at hi
     rw [hc i (by omega)]
     simp [List.getD, List.getElem?_take, hi, show i < xs.length by omega]
def Row (e : TypeId) (w : World) (g : Nat) (cur : List Int) : Prop := w.heap[g]? = some (.cells (cur.map (Value.int .u8)).toArray e (0, 0))
theorem Row.bs {e : TypeId} {w : World} {g : Nat} {cur : List Int} (h : Row e w g cur) (hr : ∀ x ∈ cur, 0 ≤ x ∧ x ≤ 255) (hm : cur.length ≤ maxLen) : Bs w (some ⟨g, 0, none⟩) cur.length cur := by
 refine ⟨hr, Nat.le_refl _, hm, by simp, .inr ⟨g, 0, rfl, fun i hi => ?_⟩⟩
 unfold Row at h
 simp [World.cell?, h, hi, List.getD]
theorem wpList_make_bytes {P : Program} {w w0 : World} {ops : Array Oper} {rest : List Oper} {o : Oper} {a : Act} {Q : Exit → Act → World → Prop}
 (hg : o.guard = none) (l c : Operand) (t : TypeId) (hop : o.op = Op.makeSlice t l c)
 (base : Nat) (e : TypeId) (i : TypeInfo) (ht : P.underlying t = some (.slice e)) (hi : P.info? e = some i) (hz : i.zero = some (.int .u8 0)) (hsize : i.size = 1) (hby : i.bytes = 1)
 (kl kc : IntKind) (L C : Int) (n : Nat) (hl : a.eval l = .int kl L) (hc : a.eval c = .int kc C) (hL : L = (n : Int)) (hC : C = (n : Int)) (b2 : n ≤ 281474976710656) (hbase : base ≤ w.heap.size) (hb : Below base w0 w)
 (hK : ∀ w', Row e w' w.heap.size (List.replicate n 0) → Below base w0 w' → wpList P ops Q rest (a.put o.dst (.slice (some ⟨w.heap.size, 0, none⟩) n n)) w') :
 wpList P ops Q (o :: rest) a w := by
 refine wpList_make_full w hg l c t hop base e i (.int .u8 0) 1 ht hi hz hsize kl kc L C n hl hc hL hC (by rw [hby]; omega) (by unfold maxLen; omega) hbase ?_
 intro w' hown hgr
 refine hK w' ?_ (hb.grown hgr hbase (by simp))
 rcases hown.2 with ⟨h, _⟩ | ⟨g, cap, cur, hv, hg, hh, h1, h2, h3, h4⟩
 · simp at h
 · simp only [Value.slice.injEq, Option.some.injEq, Addr.mk.injEq, and_true, true_and] at hv
   obtain ⟨h5, h6⟩ := hv
   subst h5 h6
   unfold Row
   rw [hh]
   congr 2
   have : cur.toList = (List.replicate n (Value.int .u8 0)) := by
    have e1 : cur.toList.take (n * 1) = cur.toList := List.take_of_length_le (by simp [h3])
    rw [← e1, h4]
    have e2 : (Value.int .u8 0).cells = #[.int .u8 0] := rfl
    rw [e2, Nat.mul_one, toList_madeCells_one]
   rw [List.map_replicate, ← this]
theorem Row.lt {e : TypeId} {w : World} {g : Nat} {cur : List Int} (h : Row e w g cur) : g < w.heap.size := by
 unfold Row at h
 rcases Nat.lt_or_ge g w.heap.size with h1 | h1
 · exact h1
 · rw [Array.getElem?_eq_none h1] at h; cases h
theorem Row.stays {e : TypeId} {w w' : World} {g : Nat} {cur : List Int} (h : Row e w g cur) (hb : Below w.heap.size w w') : Row e w' g cur := by
 have := h.lt
 unfold Row at *
 rw [hb.block g this]; exact h
theorem Row.cell {e : TypeId} {w : World} {g : Nat} {cur : List Int} (h : Row e w g cur) (k : Nat) (hk : k < cur.length) : w.cell? ⟨g, k, none⟩ = some (.int .u8 (cur.getD k 0)) := by
 unfold Row at h
 simp [World.cell?, h, hk, List.getD]
theorem Row.free {e : TypeId} {w : World} {g : Nat} {cur : List Int} (h : Row e w g cur) (k : Nat) : w.frozen? ⟨g, k, none⟩ = false := by
 unfold Row at h
 simp [World.frozen?, h]
theorem Row.set {e : TypeId} {w : World} {g : Nat} {cur : List Int} (h : Row e w g cur) (k : Nat) (y : Int) : Row e (w.setCell ⟨g, k, none⟩ (.int .u8 y)) g (cur.set k y) := by
 have hlt := h.lt
 unfold Row at *
 simp [World.setCell, Array.getElem?_modify, h, List.map_set]
theorem Row.other {e : TypeId} {w : World} {g g' : Nat} {cur : List Int} (h : Row e w g cur) (hne : g ≠ g') (k : Nat) (v : Value) : Row e (w.setCell ⟨g', k, none⟩ v) g cur := by
 unfold Row at *
 rw [Below.heap_setCell _ _ _ _ (by simpa using hne)]; exact h
theorem index_run {P : Program} (t e : TypeId) (ht : P.underlying t = some (.slice e)) (hs : (P.info? e).map (·.size) = some 1) (he : P.elem t = e) (b off n c : Nat) (K : IntKind) (k : Nat) (hk : k < n) (w : World) :
 (Instr.indexAt t (.slice (some ⟨b, off, none⟩) n c) (.int K k)).run P w = .ok (.pointer (some ⟨b, off + k, none⟩)) w := by
 have hz : (sizeOf e).run P w = .ok 1 w := by
  obtain ⟨i, hi, h1⟩ := Option.map_eq_some_iff.1 hs
  simp [sizeOf, typeInfo, hi, h1, go_sem]
 rw [run_indexAt_slice w t _ n c K k (by rw [he]; exact ht), if_pos (by omega), he, hz]
 have hpl : (⟨b, off, none⟩ : Addr).add k = ⟨b, off + k, none⟩ := by unfold Addr.add; split <;> simp_all
 simp [Result.andThen, hpl]
end Go.Proofs.YthbldjnpnligpaaDoor

/-
 What is known of a slice of bytes that came in, as the walks take it.
-/

namespace Go.Proofs.YthbldjnpnligpaaDoor
set_option linter.unusedSimpArgs false
set_option linter.unusedVariables false
set_option maxRecDepth 100000
open Go.RowKit
def IsRow (k : IntKind) (w : World) (a : Option Addr) (len cap : Nat) (zs : List Int) : Prop :=
 (a = none ∧ len = 0 ∧ cap = 0 ∧ zs = []) ∨
 ∃ x, a = some x ∧ len ≤ cap ∧ cap ≤ maxLen ∧ zs.length = cap ∧ (∀ i, i < zs.length → w.cell? (x.add i) = some (.int k (zs.getD i 0))) ∧ ∀ n ∈ zs, (Lit.int k n).wf = true
theorem wf_u8 {n : Int} (h : (Lit.int .u8 n).wf = true) : 0 ≤ n ∧ n ≤ 255 := by
 simp [Lit.wf, IntKind.min, IntKind.max, IntKind.bits, IntKind.signed] at h
 omega
theorem came {w : World} {a : Option Addr} {len cap : Nat} {zs : List Int} (h : IsRow .u8 w a len cap zs) : ∃ xs, len = xs.length ∧ Bs w a cap xs := by
 rcases h with ⟨rfl, rfl, rfl, rfl⟩ | ⟨x, rfl, hl, hm, hz, hc, hwf⟩
 · exact ⟨[], rfl, Bs.empty _⟩
 · refine ⟨zs.take len, by simp; omega, ⟨fun y hy => wf_u8 (hwf y (List.mem_of_mem_take hy)), by simp; omega, hm, by simp, ?_⟩⟩
   by_cases h0 : len = 0
   · left; simp [h0]
   · right
     obtain ⟨b, off, spot⟩ := x
     have hc0 := hc 0 (by omega)
     have hspot : spot = none := by simpa [Addr.add] using World.cell?_spot hc0
     subst hspot
     refine ⟨b, off, rfl, fun i hi => ?_⟩
     simp at hi
     have hci := hc i (by omega)
     have hpl : (⟨b, off, none⟩ : Addr).add i = ⟨b, off + i, none⟩ := by unfold Addr.add; split <;> simp_all
     rw [hpl] at hci
     rw [hci]
     simp [List.getD, List.getElem?_take, hi, show i < zs.length by omega]
theorem wf_i64 {n : Int} (h : (Lit.int .i64 n).wf = true) : -9223372036854775808 ≤ n ∧ n ≤ 9223372036854775807 := by
 simp [Lit.wf, IntKind.min, IntKind.max, IntKind.bits, IntKind.signed] at h
 omega
end Go.Proofs.YthbldjnpnligpaaDoor

/-
 What came in, as the walks take it: bytes, slices of bytes, arrays of integers.
-/

namespace Go.Proofs.YthbldjnpnligpaaDoor
set_option linter.unusedSimpArgs false
set_option linter.unusedVariables false
set_option maxRecDepth 100000
open Go.RowKit Go.ChangeShapes Go.WideShapes
def intAt : Option Value → Int
 | some (.int _ z) => z
 | _ => 0
section
variable {H : Type} {enc : TypeId × Value → H} {P : Program} {W : World} {base : Nat}
theorem open_array {t e : TypeId} {n : Nat} {k : IntKind} (ht : P.underlying t = some (.array n e)) (he : P.underlying e = some (.int k)) (hce : P.cellsOf e = 1) (hct : P.cellsOf t = n) {fuel : Nat} {held : Bool} {cs : List Value} {x : DataW H × List MemPlace}
 (h : DataW.trod enc P W base (fun _ => true) held fuel t cs = some x) : ∃ zs : List Int, cs = zs.map (Value.int k) ∧ zs.length = n ∧ ∀ z ∈ zs, (Lit.int k z).wf = true := by
 cases fuel with
 | zero => simp [DataW.trod] at h
 | succ fuel =>
   simp only [DataW.trod, ht, hce, hct, Nat.mul_one] at h
   split at h
   · rename_i hl
     obtain ⟨xs, hm, hx⟩ := Option.map_eq_some_iff.1 h
     have each : ∀ i, i < n → ∃ z, cs[i]? = some (.int k z) ∧ (Lit.int k z).wf = true := fun i hi => by
        obtain ⟨b, hb, hf⟩ := Lib.mapM_at hm i i (by simp [hi])
        obtain ⟨z, hc, _, hw⟩ := DataW.trod_int he hf
        refine ⟨z, ?_, hw⟩
        have := congrArg (·[0]?) hc
        simpa [List.getElem?_take, List.getElem?_drop] using this
     have hlen : cs.length = n := by simpa using hl
     refine ⟨(List.range n).map (fun i => intAt cs[i]?), ?_, by simp, ?_⟩
     · apply List.ext_getElem?
       intro i
       by_cases hi : i < n
       · obtain ⟨z, hz, _⟩ := each i hi
         simp [hi, hz, intAt]
       · rw [List.getElem?_eq_none (by omega), List.getElem?_eq_none (by simp; omega)]
     · intro z hz
       obtain ⟨i, hi, rfl⟩ := List.mem_map.1 hz
       obtain ⟨y, hy, hw⟩ := each i (by simpa using hi)
       simpa [hy, intAt] using hw
   · cases h
end
end Go.Proofs.YthbldjnpnligpaaDoor
