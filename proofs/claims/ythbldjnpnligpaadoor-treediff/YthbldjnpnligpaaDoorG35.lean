/-
  Blocks that were put one behind the other on a disk that does not rot, each read as it was put; nodes, ways and volumes of them; no function here.
-/
import Derived.Test.YthbldjnpnligpaaDoorG34
import Derived.Test.YthbldjnpnligpaaDoorG33
import Derived.Test.YthbldjnpnligpaaDoorG06
namespace Go.Proofs.YthbldjnpnligpaaDoor
set_option linter.unusedSimpArgs false
set_option linter.unusedVariables false
set_option maxRecDepth 100000
open Go.RowKit

/-- The pointer of a block that lies from a sector on. -/
def ptrAt (b : List Int) (x c : Nat) : Pt := ⟨shaOf b, 7, x, if c = 2 then x + 1 else 0⟩
/-- A disk whose first k sectors are used. -/
structure Good (n k : Nat) (S : DS) : Prop where
  live : Live S n
  lo : 4 ≤ k
  hi : k ≤ n
  len : S.ws.length ≤ k
/-- A block that was put. -/
structure PutAt (S : DS) (k : Nat) (q : Pt) (b : List Int) (x c : Nat) : Prop where
  eq : q = ptrAt b x c
  one_two : c = 1 ∨ c = 2
  lo : 4 ≤ x
  hi : x + c ≤ k
  one : readW S.laid S.ws x = b
  two : c = 2 → readW S.laid S.ws (x + 1) = b
  len : b.length = 256
  rng : ∀ y ∈ b, 0 ≤ y ∧ y ≤ 255
def Stands (S : DS) (k : Nat) (q : Pt) (b : List Int) : Prop := ∃ x c, PutAt S k q b x c
/-- What stood stands. -/
def Keeps (S : DS) (k : Nat) (S' : DS) (k' : Nat) : Prop := k ≤ k' ∧ ∀ x, x < k → readW S'.laid S'.ws x = readW S.laid S.ws x

section
variable {S S' S'' : DS} {n k k' k'' : Nat} {q : Pt} {b b' : List Int}

theorem Good.new (h1 : 16 ≤ n) (h2 : n ≤ 512) : Good n 4 (DS.new n) := ⟨Live.new h1 h2, Nat.le_refl _, by omega, by simp [DS.new]⟩
theorem Good.small (h : Good n k S) : S.ws.length ≤ 800000 := by have := h.len; have := h.hi; have := h.live.ok.hi; omega
theorem Good.klt (h : Good n k S) : k ≤ 512 := by have := h.hi; have := h.live.ok.hi; omega
theorem Keeps.refl (S : DS) (k : Nat) : Keeps S k S k := ⟨Nat.le_refl _, fun _ _ => rfl⟩
theorem Keeps.trans (h : Keeps S k S' k') (g : Keeps S' k' S'' k'') : Keeps S k S'' k'' := ⟨Nat.le_trans h.1 g.1, fun x hx => (g.2 x (Nat.lt_of_lt_of_le hx h.1)).trans (h.2 x hx)⟩
theorem Stands.keep (h : Stands S k q b) (g : Keeps S k S' k') : Stands S' k' q b := by
  obtain ⟨x, c, h⟩ := h
  have := h.hi
  refine ⟨x, c, h.eq, h.one_two, h.lo, Nat.le_trans h.hi g.1, ?_, fun hc => ?_, h.len, h.rng⟩
  · rw [g.2 x (by rcases h.one_two with e | e <;> omega)]; exact h.one
  · rw [g.2 (x + 1) (by omega)]; exact h.two hc
theorem ptrAt_ok {x c : Nat} (hx : x ≤ 1000) : (ptrAt b x c).ok := by
  refine ⟨shaOf_length _, shaOf_rng _, by show (7 : Nat) < _; omega, by show x < _; omega, ?_⟩
  show (if c = 2 then x + 1 else 0) < _
  split <;> omega
theorem ptrAt_may {x c : Nat} (hx : 4 ≤ x) : (ptrAt b x c).may = true := by
  unfold Pt.may
  have e : (ptrAt b x c).x = x := rfl
  rw [e, if_neg (by omega)]
  show (!((if c = 2 then x + 1 else 0) == x)) = true
  split <;> simp <;> omega
theorem ptrAt_hole {x c : Nat} (hx : 4 ≤ x) : (ptrAt b x c).hole = false := by
  unfold Pt.hole
  refine Pt.same_not (fun e => ?_)
  have := congrArg Pt.x e
  simp only [ptrAt, Pt.zero] at this
  omega
theorem Stands.ok (h : Stands S k q b) (hk : k ≤ 512) : q.ok := by obtain ⟨x, c, h⟩ := h; rw [h.eq]; exact ptrAt_ok (by have := h.hi; omega)
theorem Stands.may (h : Stands S k q b) : q.may = true := by obtain ⟨x, c, h⟩ := h; rw [h.eq]; exact ptrAt_may h.lo
theorem Stands.hole (h : Stands S k q b) : q.hole = false := by obtain ⟨x, c, h⟩ := h; rw [h.eq]; exact ptrAt_hole h.lo
theorem Stands.birth (h : Stands S k q b) : q.b = 7 := by obtain ⟨x, c, h⟩ := h; rw [h.eq]; rfl
theorem Stands.len (h : Stands S k q b) : b.length = 256 := by obtain ⟨x, c, h⟩ := h; exact h.len
theorem Stands.ne (h : Stands S k q b) : q ≠ Pt.zero := fun e => by have := h.hole; rw [e] at this; exact absurd this (by decide)
theorem Stands.one (h : Stands S k q b) (g : Stands S k q b') : b = b' := by
  obtain ⟨x, c, h⟩ := h
  obtain ⟨x', c', g⟩ := g
  have e : x = x' := by have h1 := h.eq.symm.trans g.eq; exact congrArg Pt.x h1
  subst e
  exact h.one.symm.trans g.one
theorem Stands.read (h : Stands S k q b) (hg : Good n k S) : readK S q = (b, 0) := by
  have hm := h.may
  have hh := h.hole
  obtain ⟨x, c, h⟩ := h
  have hx : q.x = x := by rw [h.eq]; rfl
  have hlt : x < n := by have := h.hi; have := hg.hi; rcases h.one_two with e | e <;> omega
  have hr : rightL S q.x q.h = true := by
    unfold rightL
    rw [hx, hg.live.ok.secs, h.one, h.eq]
    have := h.lo
    simp [hlt, ptrAt]
    omega
  unfold readK
  rw [okK_live hg.live hm, if_neg (by simp), hh, if_neg (by simp), if_pos hr, hx, h.one]
theorem hole_read (hg : Good n k S) : readK S Pt.zero = (zeros256, 0) := by
  unfold readK
  rw [okK_live hg.live Pt.zero_may, if_neg (by simp), show Pt.zero.hole = true from Pt.same_self _, if_pos rfl]
/-- A block, put where there is room. -/
theorem good_put (hg : Good n k S) {c : Nat} (hc : c = 1 ∨ c = 2) (hk : k + c ≤ n) (hb : b.length = 256) (hr : ∀ y ∈ b, 0 ≤ y ∧ y ≤ 255) :
    ∃ S', putK S (lab n k) 7 b (c : Int) = ((S', lab n (k + c)), ptrAt b k c, 0) ∧ Good n (k + c) S' ∧ Keeps S k S' (k + c) ∧ Stands S' (k + c) (ptrAt b k c) b := by
  have ht := takeL_lab n k c hc hk
  have hoff := hg.live.off
  have hlo := hg.lo
  have hln := hg.len
  rcases hc with rfl | rfl
  · obtain ⟨a1, a2, a3⟩ := hg.live.write (x := k) (by omega) hb hr
    refine ⟨(S.write (k : Int) b).1, ?_, ⟨a2, by omega, hk, by rw [a3]; simp; omega⟩, ⟨by omega, fun x hx => readW_write_ne _ _ (by omega)⟩, k, 1, rfl, .inl rfl, hlo, Nat.le_refl _, by rw [readW_write a1, if_pos rfl], fun h => by omega, hb, hr⟩
    unfold putK
    have hw : wrK b S [k + 0] = ((S.write (k : Int) b).1, 0) := by
      simp only [wrK, Nat.add_zero]; rw [if_pos a1]
    rw [hoff, if_neg (by decide), if_neg (by omega), ht, if_neg (by simp)]
    have hse : secs k 1 = [k + 0] := rfl
    simp only [hse]
    rw [hw, if_neg (by simp)]
    unfold ptrAt
    rw [if_neg (by omega)]
    rfl
  · obtain ⟨a1, a2, a3⟩ := hg.live.write (x := k) (by omega) hb hr
    obtain ⟨b1, b2, b3⟩ := a2.write (x := k + 1) (by omega) hb hr
    refine ⟨((S.write (k : Int) b).1.write ((k + 1 : Nat) : Int) b).1, ?_, ⟨b2, by omega, hk, by rw [b3, a3]; simp; omega⟩, ⟨by omega, fun x hx => ?_⟩, k, 2, rfl, .inr rfl, hlo, Nat.le_refl _, ?_, fun _ => by rw [readW_write b1, if_pos rfl], hb, hr⟩
    · unfold putK
      have hw : wrK b S [k + 0, k + 1] = (((S.write (k : Int) b).1.write ((k + 1 : Nat) : Int) b).1, 0) := by
        simp only [wrK, Nat.add_zero]; rw [if_pos a1, if_pos b1]
      rw [hoff, if_neg (by decide), if_neg (by omega), ht, if_neg (by simp)]
      have hse : secs k 2 = [k + 0, k + 1] := rfl
      simp only [hse]
      rw [hw, if_neg (by simp)]
      unfold ptrAt
      rw [if_pos rfl]
      rfl
    · rw [readW_write_ne _ _ (by omega), readW_write_ne _ _ (by omega)]
    · rw [readW_write_ne _ _ (by omega), readW_write a1, if_pos rfl]
end

/-! Nodes. -/
theorem piece_encs {l : List Pt} (hl : ∀ p ∈ l, p.ok) (rest : List Int) {k : Nat} (hk : k < l.length) : piece (encs l ++ rest) k = (nth l k).enc := by
  have h1 : l = l.take k ++ (nth l k :: l.drop (k + 1)) := by
    unfold nth
    rw [List.getD_eq_getElem?_getD, List.getElem?_eq_getElem hk]
    simp
  have h2 := encs_take_len hl (show k ≤ l.length by omega)
  have h3 := Pt.enc_len (nth_ok hl k)
  unfold piece
  rw [show encs l = encs (l.take k) ++ ((nth l k).enc ++ encs (l.drop (k + 1))) by
    conv => lhs; rw [h1]
    rw [encs_append]; rfl]
  rw [← h2, List.append_assoc, List.drop_left, List.append_assoc, ← h3, List.take_left]
theorem pieces_node {l : List Pt} (hl : ∀ p ∈ l, p.ok) (h4 : l.length = 4) : pieces (nodeL l) = l := by
  unfold pieces nodeL
  rw [piece_encs hl _ (by omega), piece_encs hl _ (by omega), piece_encs hl _ (by omega), piece_encs hl _ (by omega)]
  rw [decP_enc (nth_ok hl 0), decP_enc (nth_ok hl 1), decP_enc (nth_ok hl 2), decP_enc (nth_ok hl 3)]
  match l, h4 with
  | [a, b, c, d], _ => rfl
theorem readL_node {l : List Pt} (hl : ∀ p ∈ l, p.ok) (h4 : l.length = 4) : readL (nodeL l) = if l.all Pt.may then (l, 0) else (zeros4, 3) := by
  unfold readL
  rw [if_pos (nodeL_len hl h4), pieces_node hl h4]
  have h : (nodeL l).drop 176 = List.replicate 80 0 := by
    unfold nodeL
    rw [show 176 = (encs l).length by rw [encs_len hl, h4], List.drop_left]
  rw [h]
  have h2 : (List.replicate 80 (0 : Int)).all (· == 0) = true := by decide
  rw [h2, Bool.and_true]

/-- Four pointers that may be. -/
structure Four (l : List Pt) : Prop where
  len : l.length = 4
  ok : ∀ p ∈ l, p.ok
  may : ∀ p ∈ l, p.may = true
theorem Four.zeros : Four zeros4 := ⟨rfl, fun p hp => by simp [zeros4] at hp; rw [hp]; exact Pt.zero_ok, fun p hp => by simp [zeros4] at hp; rw [hp]; rfl⟩
theorem Four.set {l : List Pt} (h : Four l) (i : Nat) {p : Pt} (hp : p.ok) (hm : p.may = true) : Four (l.set i p) :=
  ⟨by rw [List.length_set]; exact h.len, fun q hq => by rcases List.mem_or_eq_of_mem_set hq with h1 | h1; exact h.ok q h1; rw [h1]; exact hp,
    fun q hq => by rcases List.mem_or_eq_of_mem_set hq with h1 | h1; exact h.may q h1; rw [h1]; exact hm⟩
theorem Four.nth {l : List Pt} (h : Four l) (i : Nat) : (Go.Proofs.YthbldjnpnligpaaDoor.nth l i).ok ∧ (Go.Proofs.YthbldjnpnligpaaDoor.nth l i).may = true := by
  refine ⟨nth_ok h.ok i, ?_⟩
  unfold Go.Proofs.YthbldjnpnligpaaDoor.nth
  rw [List.getD_eq_getElem?_getD]
  by_cases hi : i < l.length
  · rw [List.getElem?_eq_getElem hi]; exact h.may _ (List.getElem_mem hi)
  · rw [List.getElem?_eq_none (by omega)]; rfl
theorem nth_set {l : List Pt} {i : Nat} (hi : i < l.length) (p : Pt) (j : Nat) : nth (l.set i p) j = if i = j then p else nth l j := by
  unfold nth
  rw [List.getD_eq_getElem?_getD, List.getD_eq_getElem?_getD, List.getElem?_set]
  by_cases e : i = j
  · subst e; rw [if_pos rfl, if_pos rfl, if_pos hi]; rfl
  · rw [if_neg e, if_neg e]
theorem readL_four {l : List Pt} (h : Four l) : readL (nodeL l) = (l, 0) := by
  rw [readL_node h.ok h.len, if_pos (List.all_eq_true.2 h.may)]
theorem nodeL_one {l m : List Pt} (h : Four l) (g : Four m) (e : nodeL l = nodeL m) : l = m := by
  have := readL_four h
  rw [e, readL_four g] at this
  exact (congrArg Prod.fst this).symm

/-- The node of a pointer. -/
structure Node (S : DS) (k : Nat) (p : Pt) (l : List Pt) : Prop where
  four : Four l
  is : (p = Pt.zero ∧ l = zeros4) ∨ (Stands S k p (nodeL l) ∧ l.all Pt.hole = false)

section
variable {S S' : DS} {n k k' : Nat} {p q : Pt} {l m : List Pt}
theorem Node.hole (S : DS) (k : Nat) : Node S k Pt.zero zeros4 := ⟨Four.zeros, .inl ⟨rfl, rfl⟩⟩
theorem Node.keep (h : Node S k p l) (g : Keeps S k S' k') : Node S' k' p l := ⟨h.four, h.is.imp id fun h1 => ⟨h1.1.keep g, h1.2⟩⟩
theorem Node.ok (h : Node S k p l) (hk : k ≤ 512) : p.ok := by
  rcases h.is with ⟨rfl, _⟩ | ⟨h1, _⟩
  · exact Pt.zero_ok
  · exact h1.ok hk
theorem Node.may (h : Node S k p l) : p.may = true := by
  rcases h.is with ⟨rfl, _⟩ | ⟨h1, _⟩
  · rfl
  · exact h1.may
theorem readL_noughts : readL zeros256 = (zeros4, 0) := by
  rw [show zeros256 = nodeL zeros4 by decide +kernel]
  exact readL_four Four.zeros
theorem Node.read (h : Node S k p l) (hg : Good n k S) : (readK S p).2 = 0 ∧ (readK S p).1.length = 256 ∧ readL (readK S p).1 = (l, 0) := by
  rcases h.is with ⟨rfl, rfl⟩ | ⟨h1, _⟩
  · rw [hole_read hg]; exact ⟨rfl, zeros256_len, readL_noughts⟩
  · rw [h1.read hg]; exact ⟨rfl, h1.len, readL_four h.four⟩
theorem Node.one (h : Node S k p l) (g : Node S k p m) : l = m := by
  rcases h.is with ⟨e, rfl⟩ | ⟨h1, _⟩
  · rcases g.is with ⟨_, rfl⟩ | ⟨g1, _⟩
    · rfl
    · exact absurd e g1.ne
  · rcases g.is with ⟨e, rfl⟩ | ⟨g1, _⟩
    · exact absurd e h1.ne
    · exact nodeL_one h.four g.four (h1.one g1)
theorem zeros4_hole : zeros4.all Pt.hole = true := by decide
theorem hole_zero (h : p.hole = true) : p = Pt.zero := Pt.same_iff.1 h
theorem all_hole (h : Four l) (ha : l.all Pt.hole = true) : l = zeros4 := by
  match l, h.len, ha with
  | [a, b, c, d], _, ha =>
    simp only [List.all_cons, List.all_nil, Bool.and_true, Bool.and_eq_true] at ha
    obtain ⟨h1, h2, h3, h4⟩ := ha
    rw [hole_zero h1, hole_zero h2, hole_zero h3, hole_zero h4]; rfl
theorem Node.holes (h : Node S k p l) : p.hole = l.all Pt.hole := by
  rcases h.is with ⟨rfl, rfl⟩ | ⟨h1, h2⟩
  · rw [zeros4_hole]; exact Pt.same_self _
  · rw [h1.hole, h2]
/-- A node, put; one of holes is a hole. -/
theorem node_put (hg : Good n k S) (hl : Four l) (hk : k + 2 ≤ n) :
    (l.all Pt.hole = true ∧ Node S k Pt.zero l) ∨
    (l.all Pt.hole = false ∧ ∃ S', putK S (lab n k) 7 (nodeL l) 2 = ((S', lab n (k + 2)), ptrAt (nodeL l) k 2, 0) ∧ Good n (k + 2) S' ∧ Keeps S k S' (k + 2) ∧ Node S' (k + 2) (ptrAt (nodeL l) k 2) l) := by
  cases ha : l.all Pt.hole
  · refine .inr ⟨rfl, ?_⟩
    obtain ⟨S', h1, h2, h3, h4⟩ := good_put hg (c := 2) (.inr rfl) hk (nodeL_len hl.ok hl.len) (nodeL_rng hl.ok)
    exact ⟨S', h1, h2, h3, hl, .inr ⟨h4, ha⟩⟩
  · exact .inl ⟨rfl, hl, .inl ⟨rfl, all_hole hl ha⟩⟩
end

/-- A cell that was laid, or none. -/
def Cell (S : DS) (k : Nat) (p : Pt) (b : List Int) : Prop := (p = Pt.zero ∧ b = []) ∨ Stands S k p b
/-- What a cell reads. -/
def cellL (b : List Int) : List Int := if b = [] then zeros256 else b
/-- A volume: its root's node, its leaves', and what its cells were laid. -/
structure Vol (S : DS) (k : Nat) (r : Pt) (ns : List Pt) (cs : Nat → List Pt) (pl : List (List Int)) : Prop where
  root : Node S k r ns
  leaf : ∀ j, j < 4 → Node S k (nth ns j) (cs j)
  len : pl.length = 16
  cell : ∀ i, i < 16 → Cell S k (nth (cs (i / 4)) (i % 4)) (pl.getD i [])

section
variable {S S' : DS} {n k k' : Nat} {p q r : Pt} {b : List Int} {ns : List Pt} {cs : Nat → List Pt} {pl : List (List Int)}
theorem Cell.keep (h : Cell S k p b) (g : Keeps S k S' k') : Cell S' k' p b := h.imp id fun h1 => h1.keep g
theorem Cell.read (h : Cell S k p b) (hg : Good n k S) : readK S p = (cellL b, 0) := by
  unfold cellL
  rcases h with ⟨rfl, rfl⟩ | h
  · rw [if_pos rfl]; exact hole_read hg
  · rw [if_neg (fun e => by have := h.len; rw [e] at this; simp at this)]; exact h.read hg
theorem Cell.hole (h : Cell S k p b) : p.hole = decide (b = []) := by
  rcases h with ⟨rfl, rfl⟩ | h
  · rfl
  · rw [h.hole, decide_eq_false (fun e => by have := h.len; rw [e] at this; simp at this)]
theorem Cell.one {c : List Int} (h : Cell S k p b) (g : Cell S k p c) : b = c := by
  rcases h with ⟨e, rfl⟩ | h
  · rcases g with ⟨_, rfl⟩ | g
    · rfl
    · exact absurd e g.ne
  · rcases g with ⟨e, rfl⟩ | g
    · exact absurd e h.ne
    · exact h.one g
theorem Vol.keep (h : Vol S k r ns cs pl) (g : Keeps S k S' k') : Vol S' k' r ns cs pl := ⟨h.root.keep g, fun j hj => (h.leaf j hj).keep g, h.len, fun i hi => (h.cell i hi).keep g⟩
theorem Vol.new (S : DS) (k : Nat) : Vol S k Pt.zero zeros4 (fun _ => zeros4) (List.replicate 16 []) := by
  have hz : ∀ j, nth zeros4 j = Pt.zero := fun j => by
    unfold nth zeros4
    match j with
    | 0 | 1 | 2 | 3 => rfl
    | j + 4 => rfl
  refine ⟨Node.hole S k, fun j _ => by rw [hz]; exact Node.hole S k, rfl, fun i hi => .inl ⟨hz _, ?_⟩⟩
  rw [List.getD_eq_getElem?_getD, List.getElem?_replicate]
  split <;> rfl
/-- A cell's pointer, laid anew. -/
theorem Vol.lay (h : Vol S k r ns cs pl) {S1 S2 : DS} {k1 k2 : Nat} (hk : Keeps S k S1 k1) {i : Nat} (hi : i < 16) (hc : Cell S1 k1 p b) {q r' : Pt} (g : Keeps S1 k1 S2 k2)
    (hq : Node S2 k2 q ((cs (i / 4)).set (i % 4) p)) (hr : Node S2 k2 r' (ns.set (i / 4) q)) :
    Vol S2 k2 r' (ns.set (i / 4) q) (fun j => if j = i / 4 then (cs (i / 4)).set (i % 4) p else cs j) (pl.set i b) := by
  have hn := h.root.four.len
  have h4 : i / 4 < 4 := by omega
  refine ⟨hr, fun j hj => ?_, by rw [List.length_set]; exact h.len, fun j hj => ?_⟩
  · rw [nth_set (by omega)]
    by_cases e : i / 4 = j
    · subst e; simp only [if_pos rfl]; exact hq
    · rw [if_neg e]; simp only [if_neg (Ne.symm e)]; exact ((h.leaf j hj).keep hk).keep g
  · have hl := (h.leaf (i / 4) h4).four.len
    rw [List.getD_eq_getElem?_getD, List.getElem?_set]
    by_cases e : i / 4 = j / 4
    · simp only [if_pos e.symm]
      rw [nth_set (by omega)]
      by_cases e2 : i = j
      · subst e2
        rw [if_pos rfl, if_pos rfl, if_pos (by rw [h.len]; exact hi)]
        exact hc.keep g
      · rw [if_neg (by omega), if_neg e2, ← List.getD_eq_getElem?_getD, e]
        exact ((h.cell j hj).keep hk).keep g
    · simp only [if_neg (Ne.symm e)]
      rw [if_neg (by intro h; omega), ← List.getD_eq_getElem?_getD]
      exact ((h.cell j hj).keep hk).keep g
end

end Go.Proofs.YthbldjnpnligpaaDoor

/-
  What a function holds of memory, as one list: blocks of its own, and slices that were made for it; each operation's law turns the list.
-/

namespace Go.Proofs.YthbldjnpnligpaaDoor
set_option linter.unusedSimpArgs false
set_option linter.unusedVariables false
set_option maxRecDepth 100000
open Go.RowKit

/-- What goes on beside the list: it stays where memory grows, and where a block of the list turns. -/
structure Frame (B : Nat) (I : (Nat → Prop) → World → Prop) : Prop where
  size : ∀ {M w}, I M w → B ≤ w.heap.size
  new : ∀ {M N w w'}, I M w → Below w.heap.size w w' → (∀ j, N j → M j ∨ (w.heap.size ≤ j ∧ j < w'.heap.size)) → I N w'
  set : ∀ {M w w'} {m : Nat}, I M w → But m w w' → M m → B ≤ m → I M w'
  grown : ∀ {M N w w'} {row : Option Nat}, I M w → w.grownBy w' row → (∀ j, row = some j → M j ∧ B ≤ j) → (∀ j, N j → M j ∨ (w.heap.size ≤ j ∧ j < w'.heap.size)) → I N w'
/-- A block: its place, its type, how many cells, its cells. -/
structure Ent where
  g : Nat
  t : TypeId
  n : Nat
  vs : List Value
structure Sli where
  a : Option Addr
  c : Nat
  xs : List Int
def Vals (n : Nat) (vs : List Value) : Prop := vs.length = n ∧ ∀ v ∈ vs, v.oneCell' = true
def mine (L : List Ent) (T : List Sli) (j : Nat) : Prop := (∃ e ∈ L, e.g = j) ∨ ∃ s ∈ T, ∃ x, s.a = some x ∧ x.block = j
structure Sep (B : Nat) (I : (Nat → Prop) → World → Prop) (w : World) (L : List Ent) (T : List Sli) : Prop where
  fr : Frame B I
  inv : I (mine L T) w
  blk : ∀ e ∈ L, Blk e.t w e.g e.vs ∧ B ≤ e.g ∧ Vals e.n e.vs
  nd : (L.map Ent.g).Nodup
  sl : ∀ s ∈ T, Bs w s.a s.c s.xs ∧ ∀ x, s.a = some x → B ≤ x.block ∧ x.block < w.heap.size ∧ ∀ e ∈ L, e.g ≠ x.block
/-- A block of the list turns. -/
def Upd (L : List Ent) (g : Nat) (t : TypeId) (n : Nat) (vs us : List Value) (L' : List Ent) : Prop := ∃ P R, L = P ++ ⟨g, t, n, vs⟩ :: R ∧ L' = P ++ ⟨g, t, n, us⟩ :: R
theorem Upd.head {L : List Ent} {g n : Nat} {t : TypeId} {vs us : List Value} : Upd (⟨g, t, n, vs⟩ :: L) g t n vs us (⟨g, t, n, us⟩ :: L) := ⟨[], L, rfl, rfl⟩
theorem Upd.tail {L L' : List Ent} {e : Ent} {g n : Nat} {t : TypeId} {vs us : List Value} (h : Upd L g t n vs us L') : Upd (e :: L) g t n vs us (e :: L') := by
  obtain ⟨P, R, rfl, rfl⟩ := h
  exact ⟨e :: P, R, rfl, rfl⟩
/-- A type whose values have n cells; one of one cell. -/
def Ty (P : Program) (t : TypeId) (n : Nat) : Prop := (∀ w, (isAgg t).run P w = .ok true w) ∧ ∀ w, (sizeOf t).run P w = .ok n w
def Ty1 (P : Program) (t : TypeId) : Prop := (∀ w, (isAgg t).run P w = .ok false w) ∧ ∀ w, (sizeOf t).run P w = .ok 1 w

section
variable {B : Nat} {I : (Nat → Prop) → World → Prop} {w w' : World} {L L' : List Ent} {T : List Sli}

theorem Sep.stays (h : Sep B I w L T) (hb : Below w.heap.size w w') : Sep B I w' L T :=
  ⟨h.fr, h.fr.new h.inv hb (fun j hj => .inl hj), fun e he => ⟨(h.blk e he).1.stays hb, (h.blk e he).2⟩, h.nd,
    fun s hs => ⟨(h.sl s hs).1.stays hb, fun x hx => ⟨((h.sl s hs).2 x hx).1, Nat.lt_of_lt_of_le ((h.sl s hs).2 x hx).2.1 hb.size, ((h.sl s hs).2 x hx).2.2⟩⟩⟩
theorem Sep.add (h : Sep B I w L T) {t : TypeId} {n : Nat} {vs : List Value} (hb : Below w.heap.size w w') (hB : Blk t w' w.heap.size vs) (hv : Vals n vs) : Sep B I w' (⟨w.heap.size, t, n, vs⟩ :: L) T := by
  have hs := h.stays hb
  refine ⟨h.fr, h.fr.new h.inv hb (fun j hj => ?_), fun e he => ?_, ?_, fun s hs' => ⟨(hs.sl s hs').1, fun x hx => ⟨((hs.sl s hs').2 x hx).1, ((hs.sl s hs').2 x hx).2.1, fun e he => ?_⟩⟩⟩
  · rcases hj with ⟨e, he, rfl⟩ | hj
    · rcases List.mem_cons.1 he with rfl | he
      · exact .inr ⟨Nat.le_refl _, hB.lt⟩
      · exact .inl (.inl ⟨e, he, rfl⟩)
    · exact .inl (.inr hj)
  · rcases List.mem_cons.1 he with rfl | he
    · exact ⟨hB, h.fr.size h.inv, hv⟩
    · exact hs.blk e he
  · rw [List.map_cons, List.nodup_cons]
    refine ⟨fun hm => ?_, h.nd⟩
    obtain ⟨e, he, h1⟩ := List.mem_map.1 hm
    have := (h.blk e he).1.lt
    simp only at h1
    omega
  · rcases List.mem_cons.1 he with rfl | he
    · have := ((h.sl s hs').2 x hx).2.1
      show w.heap.size ≠ _
      omega
    · exact ((hs.sl s hs').2 x hx).2.2 e he
theorem Sep.slice (h : Sep B I w L T) {a : Option Addr} {c : Nat} {xs : List Int} (hb : Below w.heap.size w w') (hB : Bs w' a c xs) (hn : ∀ x, a = some x → w.heap.size ≤ x.block) (hne : xs ≠ []) : Sep B I w' L (⟨a, c, xs⟩ :: T) := by
  have hs := h.stays hb
  refine ⟨h.fr, h.fr.new h.inv hb (fun j hj => ?_), hs.blk, h.nd, fun s hs' => ?_⟩
  · rcases hj with hj | ⟨s, hs', x, hx, rfl⟩
    · exact .inl (.inl hj)
    · rcases List.mem_cons.1 hs' with rfl | hs'
      · exact .inr ⟨hn x hx, hB.lt hne hx⟩
      · exact .inl (.inr ⟨s, hs', x, hx, rfl⟩)
  · rcases List.mem_cons.1 hs' with rfl | hs'
    · exact ⟨hB, fun x hx => ⟨Nat.le_trans (h.fr.size h.inv) (hn x hx), hB.lt hne hx, fun e he => by have := (h.blk e he).1.lt; have := hn x hx; omega⟩⟩
    · exact hs.sl s hs'
theorem Sep.upd (h : Sep B I w L T) {g n : Nat} {t : TypeId} {vs us : List Value} (hu : Upd L g t n vs us L') (hb : But g w w') (hB : Blk t w' g us) (hv : Vals n us) : Sep B I w' L' T := by
  obtain ⟨P, R, rfl, rfl⟩ := hu
  have hnd := h.nd
  rw [List.map_append, List.map_cons, List.nodup_append] at hnd
  obtain ⟨n1, n2, n3⟩ := hnd
  rw [List.nodup_cons] at n2
  have hme : mine (P ++ ⟨g, t, n, us⟩ :: R) T = mine (P ++ ⟨g, t, n, vs⟩ :: R) T := by
    funext j
    refine propext ⟨fun hj => ?_, fun hj => ?_⟩ <;> refine hj.imp (fun ⟨e, he, h1⟩ => ?_) id
    · rcases List.mem_append.1 he with h2 | h2
      · exact ⟨e, by simp [h2], h1⟩
      · rcases List.mem_cons.1 h2 with rfl | h2
        · exact ⟨⟨g, t, n, vs⟩, by simp, h1⟩
        · exact ⟨e, by simp [h2], h1⟩
    · rcases List.mem_append.1 he with h2 | h2
      · exact ⟨e, by simp [h2], h1⟩
      · rcases List.mem_cons.1 h2 with rfl | h2
        · exact ⟨⟨g, t, n, us⟩, by simp, h1⟩
        · exact ⟨e, by simp [h2], h1⟩
  have hg : (⟨g, t, n, vs⟩ : Ent) ∈ P ++ ⟨g, t, n, vs⟩ :: R := by simp
  have hother : ∀ e, e ∈ P ∨ e ∈ R → e.g ≠ g := fun e he hE => by
    rcases he with he | he
    · exact n3 e.g (List.mem_map.2 ⟨e, he, rfl⟩) g (by simp) hE
    · exact n2.1 (by rw [← hE]; exact List.mem_map.2 ⟨e, he, rfl⟩)
  refine ⟨h.fr, by rw [hme]; exact h.fr.set h.inv hb (.inl ⟨_, hg, rfl⟩) (h.blk _ hg).2.1, fun e he => ?_, ?_, fun s hs => ?_⟩
  · rcases List.mem_append.1 he with h1 | h1
    · exact ⟨(h.blk e (by simp [h1])).1.but hb (hother e (.inl h1)), (h.blk e (by simp [h1])).2⟩
    · rcases List.mem_cons.1 h1 with rfl | h1
      · exact ⟨hB, (h.blk _ hg).2.1, hv⟩
      · exact ⟨(h.blk e (by simp [h1])).1.but hb (hother e (.inr h1)), (h.blk e (by simp [h1])).2⟩
  · have := h.nd
    simpa using this
  · obtain ⟨q1, q2⟩ := h.sl s hs
    refine ⟨q1.but hb (fun _ x hx => ((q2 x hx).2.2 _ hg).symm), fun x hx => ⟨(q2 x hx).1, Nat.lt_of_lt_of_le (q2 x hx).2.1 hb.size, fun e he => ?_⟩⟩
    rcases List.mem_append.1 he with h1 | h1
    · exact (q2 x hx).2.2 e (by simp [h1])
    · rcases List.mem_cons.1 h1 with rfl | h1
      · exact (q2 x hx).2.2 ⟨g, t, n, vs⟩ hg
      · exact (q2 x hx).2.2 e (by simp [h1])
theorem Sep.bs (h : Sep B I w L T) {a : Option Addr} {c : Nat} {xs : List Int} (hm : (⟨a, c, xs⟩ : Sli) ∈ T) : Bs w a c xs := (h.sl _ hm).1
theorem Sep.mine_sl {a : Option Addr} {c : Nat} {xs : List Int} (hm : (⟨a, c, xs⟩ : Sli) ∈ T) {x : Addr} (hx : a = some x) : mine L T x.block := .inr ⟨_, hm, x, hx, rfl⟩
theorem Sep.vals (h : Sep B I w L T) {g n : Nat} {t : TypeId} {vs : List Value} (hm : (⟨g, t, n, vs⟩ : Ent) ∈ L) : Vals n vs := (h.blk _ hm).2.2

/-! The operations. -/
variable {P : Program} {ops : Array Oper} {rest : List Oper} {o : Oper} {a : Act} {Q : Exit → Act → World → Prop} {g off n : Nat} {t e : TypeId} {vs us ws : List Value} {v : Value} {x y : Operand}

theorem sep_alloc (h : Sep B I w L T) (hgd : o.guard = none) (ho : o.op = Op.alloc t) (hr : (∀ w, (Instr.alloc t true (.tuple #[])).run P w = .ok (.pointer (some ⟨w.heap.size, 0, none⟩)) (w.alloc (.cells vs.toArray t))) ∧ Vals n vs)
    (hk : ∀ w' g, Sep B I w' (⟨g, t, n, vs⟩ :: L) T → wpList P ops Q rest (a.put o.dst (.pointer (some ⟨g, 0, none⟩))) w') : wpList P ops Q (o :: rest) a w :=
  wpList_alloc0 hgd t ho o.dst rfl vs hr.1 fun w' hB hb _ => hk w' _ (h.add hb hB hr.2)
theorem sep_box (h : Sep B I w L T) (hgd : o.guard = none) (ho : o.op = Op.box t x) (hx : a.eval x = .agg vs.toArray) (hv : Vals n vs)
    (hk : ∀ w' g, Sep B I w' (⟨g, t, n, vs⟩ :: L) T → wpList P ops Q rest (a.put o.dst (.pointer (some ⟨g, 0, none⟩))) w') : wpList P ops Q (o :: rest) a w :=
  wpList_box0 hgd t x ho vs hx fun w' hB hb _ => hk w' _ (h.add hb hB hv)
theorem sep_box1 (h : Sep B I w L T) (hgd : o.guard = none) (ho : o.op = Op.box t x) (hx : a.eval x = v) (hv : v.cells = #[v]) (h1 : v.oneCell' = true)
    (hk : ∀ w' g, Sep B I w' (⟨g, t, 1, [v]⟩ :: L) T → wpList P ops Q rest (a.put o.dst (.pointer (some ⟨g, 0, none⟩))) w') : wpList P ops Q (o :: rest) a w := by
  refine wpList_plain hgd fun K hK => ?_
  have hr : (Instr.box t v).run P w = .ok (.pointer (some ⟨w.heap.size, 0, none⟩)) (w.alloc (.cells [v].toArray t)) := by
    unfold Instr.box newVar
    rw [hv]
    simp [go_sem]
  unfold Oper.wp execOp
  simp only [ho, hx, Sem.run_bind, Sem.run_pure, Result.andThen_ok, hr]
  exact hK _ _ (hk _ _ (h.add ((Below.refl _ _).alloc (Nat.le_refl _) _) (Blk.newAt rfl rfl) ⟨rfl, fun u hu => by simp at hu; rw [hu]; exact h1⟩))
theorem sep_load (h : Sep B I w L T) (hgd : o.guard = none) (ho : o.op = Op.load t x) (hx : a.eval x = .pointer (some ⟨g, off, none⟩)) {m : Nat} (hm : (⟨g, e, m, vs⟩ : Ent) ∈ L) (hT : Ty P t n) (hu : us = (vs.drop off).take n) (hl : us.length = n)
    (hk : wpList P ops Q rest (a.put o.dst (.agg us.toArray)) w) : wpList P ops Q (o :: rest) a w :=
  wpList_load_blk hgd x t ho g off n hx hT.1 hT.2 (h.blk _ hm).1 us hu hl hk
/-- A whole block is loaded. -/
theorem sep_loadw (h : Sep B I w L T) (hgd : o.guard = none) (ho : o.op = Op.load t x) (hx : a.eval x = .pointer (some ⟨g, 0, none⟩)) (hm : (⟨g, e, n, vs⟩ : Ent) ∈ L) (hT : Ty P t n)
    (hk : wpList P ops Q rest (a.put o.dst (.agg vs.toArray)) w) : wpList P ops Q (o :: rest) a w :=
  sep_load h hgd ho hx hm hT (whole_load (h.vals hm).1) (h.vals hm).1 hk
theorem sep_load1 (h : Sep B I w L T) (hgd : o.guard = none) (ho : o.op = Op.load t x) (hx : a.eval x = .pointer (some ⟨g, off, none⟩)) {m : Nat} (hm : (⟨g, e, m, vs⟩ : Ent) ∈ L) (hT : Ty1 P t) (hv : vs[off]? = some v)
    (hk : wpList P ops Q rest (a.put o.dst v) w) : wpList P ops Q (o :: rest) a w := by
  refine wpList_plain hgd fun K hK => ?_
  have hc := (h.blk _ hm).1.cell off
  simp only [hv] at hc
  have hr : (Instr.loadAt t (.pointer (some ⟨g, off, none⟩))).run P w = .ok v w := by
    simp [Instr.loadAt, Instr.sureAddr, loadVar, hT.1, Sem.run_bind, hc]
  unfold Oper.wp execOp
  simp only [ho, hx, Sem.run_bind, Sem.run_pure, Result.andThen_ok, hr]
  exact hK _ _ hk
theorem sep_store (h : Sep B I w L T) (hgd : o.guard = none) (ho : o.op = Op.store t x y) (hx : a.eval x = .pointer (some ⟨g, off, none⟩)) (hy : a.eval y = .agg us.toArray) {m : Nat} (hup : Upd L g e m vs ws L') (hT : Ty P t n) (hv : Vals n us)
    (hw : ws = vs.take off ++ us ++ vs.drop (off + n)) (hle : off + n ≤ m) (hk : ∀ w', Sep B I w' L' T → wpList P ops Q rest (a.put o.dst undef) w') : wpList P ops Q (o :: rest) a w := by
  obtain ⟨P', R', hL, _⟩ := id hup
  have hm : (⟨g, e, m, vs⟩ : Ent) ∈ L := by rw [hL]; simp
  obtain ⟨hB, _, hvl, hv1⟩ := h.blk _ hm
  simp only at hB hvl hv1
  refine wpList_store_blk hgd x y t ho g off n hx us hy hT.2 hB hv.1 (by omega) hv.2 ws hw fun w' hB' hb _ => hk w' (h.upd hup hb hB' ⟨?_, fun u hu => ?_⟩)
  · rw [hw]; simp [hv.1, hvl]; omega
  · rw [hw] at hu
    rcases List.mem_append.1 hu with h1 | h1
    · rcases List.mem_append.1 h1 with h1 | h1
      · exact hv1 u (List.mem_of_mem_take h1)
      · exact hv.2 u h1
    · exact hv1 u (List.mem_of_mem_drop h1)
/-- A whole block is stored. -/
theorem sep_storew (h : Sep B I w L T) (hgd : o.guard = none) (ho : o.op = Op.store t x y) (hx : a.eval x = .pointer (some ⟨g, 0, none⟩)) (hy : a.eval y = .agg us.toArray) (hup : Upd L g e n vs us L') (hT : Ty P t n) (hv : Vals n us)
    (hk : ∀ w', Sep B I w' L' T → wpList P ops Q rest (a.put o.dst undef) w') : wpList P ops Q (o :: rest) a w := by
  obtain ⟨P', R', hL, _⟩ := id hup
  have hm : (⟨g, e, n, vs⟩ : Ent) ∈ L := by rw [hL]; simp
  have hvl := (h.blk _ hm).2.2.1
  simp only at hvl
  exact sep_store h hgd ho hx hy hup hT hv (by rw [Nat.zero_add, ← hvl]; simp) (by omega) hk
theorem sep_store1 (h : Sep B I w L T) (hgd : o.guard = none) (ho : o.op = Op.store t x y) (hx : a.eval x = .pointer (some ⟨g, off, none⟩)) (hy : a.eval y = v) (hc : v.cells = #[v]) (h1 : v.oneCell' = true) {m : Nat} (hup : Upd L g e m vs ws L') (hT : ∀ w, (sizeOf t).run P w = .ok 1 w)
    (hw : ws = vs.set off v) (hle : off < m) (hk : ∀ w', Sep B I w' L' T → wpList P ops Q rest (a.put o.dst undef) w') : wpList P ops Q (o :: rest) a w := by
  obtain ⟨P', R', hL, _⟩ := id hup
  have hm : (⟨g, e, m, vs⟩ : Ent) ∈ L := by rw [hL]; simp
  obtain ⟨hB, _, hvl, hv1⟩ := h.blk _ hm
  simp only at hB hvl hv1
  refine wpList_store_one hgd x y t ho g off hx v hy hc h1 hT hB (by omega) fun w' hB' hb _ => hk w' (h.upd hup hb (by rw [hw]; exact hB') ⟨by rw [hw]; simp [hvl], fun u hu => ?_⟩)
  rw [hw] at hu
  rcases List.mem_or_eq_of_mem_set hu with h2 | h2
  · exact hv1 u h2
  · rw [h2]; exact h1

/-! The end. -/
variable {fn : Func} {R : Ending → World → Prop} {p q r : Tmp}
theorem sep_ret2 (h : Sep B I w L T) (hf : fn.results = #[.cell p t, .tmp q]) (hd : a.defers = []) (hp : a.tmps.getD p undef = .pointer (some ⟨g, 0, none⟩)) (hq : a.tmps.getD q undef = v) (hT : Ty P t n) (hm : (⟨g, e, n, us⟩ : Ent) ∈ L)
    (hR : R (.returned (.tuple #[.agg us.toArray, v])) w) : bodyPost P fn R .ret a w :=
  bodyPost_ret_blk2 hf hd hp hq hT.1 hT.2 (h.blk _ hm).1 (h.vals hm).1 hR
theorem sep_load_run (h : Sep B I w L T) (hT : Ty P t n) (hm : (⟨g, e, n, us⟩ : Ent) ∈ L) : (loadVar t ⟨g, 0, none⟩).run P w = .ok (.agg us.toArray) w := by
  have hr := run_load_blk (P := P) (w := w) (off := 0) hT.1 hT.2 (h.blk _ hm).1 (us := us) (by rw [List.drop_zero, List.take_of_length_le (by have := (h.vals hm).1; simp only; omega)]) (h.vals hm).1
  simpa only [Instr.loadAt, Instr.sureAddr, Sem.run_bind, Sem.run_pure, Result.andThen_ok] using hr
theorem sep_ret3 (h : Sep B I w L T) {v' : Value} (hf : fn.results = #[.cell p t, .tmp q, .tmp r]) (hd : a.defers = []) (hp : a.tmps.getD p undef = .pointer (some ⟨g, 0, none⟩)) (hq : a.tmps.getD q undef = v) (hq' : a.tmps.getD r undef = v') (hT : Ty P t n) (hm : (⟨g, e, n, us⟩ : Ent) ∈ L)
    (hR : R (.returned (.tuple #[.agg us.toArray, v, v'])) w) : bodyPost P fn R .ret a w := by
  refine bodyPost_ret_by (v := .tuple #[.agg us.toArray, v, v']) ?_ hd hR
  have hr := sep_load_run h hT hm
  rw [Array.getD_eq_getD_getElem?] at hp hq hq'
  simp [results, hf, hp, hq, hq', asAddr, Sem.run_bind, hr]
theorem sep_ret_cct (h : Sep B I w L T) {g' : Nat} {us' : List Value} {e' : TypeId} (hf : fn.results = #[.cell p t, .cell q t, .tmp r]) (hd : a.defers = []) (hp : a.tmps.getD p undef = .pointer (some ⟨g, 0, none⟩)) (hq : a.tmps.getD q undef = .pointer (some ⟨g', 0, none⟩)) (hq' : a.tmps.getD r undef = v) (hT : Ty P t n) (hm : (⟨g, e, n, us⟩ : Ent) ∈ L) (hm' : (⟨g', e', n, us'⟩ : Ent) ∈ L)
    (hR : R (.returned (.tuple #[.agg us.toArray, .agg us'.toArray, v])) w) : bodyPost P fn R .ret a w := by
  refine bodyPost_ret_by (v := .tuple #[.agg us.toArray, .agg us'.toArray, v]) ?_ hd hR
  have hr := sep_load_run h hT hm
  have hr' := sep_load_run h hT hm'
  rw [Array.getD_eq_getD_getElem?] at hp hq hq'
  simp [results, hf, hp, hq, hq', asAddr, Sem.run_bind, hr, hr']
theorem sep_ret1 (h : Sep B I w L T) (hf : fn.results = #[.cell p t]) (hd : a.defers = []) (hp : a.tmps.getD p undef = .pointer (some ⟨g, 0, none⟩)) (hT : Ty P t n) (hm : (⟨g, e, n, us⟩ : Ent) ∈ L)
    (hR : R (.returned (.agg us.toArray)) w) : bodyPost P fn R .ret a w := by
  refine bodyPost_ret_by (v := .agg us.toArray) ?_ hd hR
  have hr := sep_load_run h hT hm
  rw [Array.getD_eq_getD_getElem?] at hp
  simp [results, hf, hp, asAddr, Sem.run_bind, hr]
end

/-! What goes on beside: memory alone, or a bank. -/
def PI (ws : World) (N : Nat → Prop) (w : World) : Prop := Below ws.heap.size ws w ∧ ∀ j, N j → j < w.heap.size
theorem PI.frame (ws : World) : Frame ws.heap.size (PI ws) where
  size h := h.1.size
  new h hb hN := ⟨below_then h.1 hb, fun j hj => by rcases hN j hj with h1 | h1; exact Nat.lt_of_lt_of_le (h.2 j h1) hb.size; exact h1.2⟩
  set h hb hm hB := ⟨h.1.trans (hb.below hB h.1.size), fun j hj => Nat.lt_of_lt_of_le (h.2 j hj) hb.size⟩
  grown h hg hM hN := ⟨h.1.grown hg h.1.size (fun j hj => (hM j hj).2), fun j hj => by rcases hN j hj with h1 | h1; exact Nat.lt_of_lt_of_le (h.2 j h1) hg.size; exact h1.2⟩
theorem PI.start (ws : World) : Sep ws.heap.size (PI ws) ws [] [] := ⟨PI.frame ws, ⟨Below.refl _ _, fun j hj => by rcases hj with ⟨e, he, _⟩ | ⟨e, he, _⟩ <;> simp at he⟩, fun e he => by simp at he, by simp, fun s hs => by simp at hs⟩
theorem Sep.below {B : Nat} {ws w : World} {L : List Ent} {T : List Sli} (h : Sep B (PI ws) w L T) : Below ws.heap.size ws w := h.inv.1
def BI (w0 : World) (M : Nat → Prop) (ws : World) (k p g : Nat) (S : DS) (l : List Bool) (t : Nat) (N : Nat → Prop) (w : World) : Prop := BS w0 w (fun j => M j ∨ N j) k p g S l t ∧ Stay M ws w ∧ w0.heap.size ≤ ws.heap.size ∧ ∀ j, M j → j < ws.heap.size
section
variable {w0 ws w w' : World} {M : Nat → Prop} {k p g : Nat} {S S' : DS} {l l' : List Bool} {t : Nat} {B : Nat} {L : List Ent} {T : List Sli}
theorem BI.frame : Frame ws.heap.size (BI w0 M ws k p g S l t) where
  size h := h.2.1.size
  new h hb hN := ⟨h.1.new hb (fun j hj => by rcases hj with hj | hj; exact .inl (.inl hj); exact (hN j hj).imp .inr id), h.2.1.trans (Stay.of_below hb), h.2.2⟩
  set {_ _ _} {m} h hb hm hB := ⟨h.1.set hb (.inr hm) (Nat.le_trans h.2.2.1 hB), ⟨Nat.le_trans h.2.1.size hb.size, fun j hj hl => (hb.block j (by omega) (Nat.lt_of_lt_of_le hl h.2.1.size)).trans (h.2.1.block j hj hl)⟩, h.2.2⟩
  grown {_ _ _ _} row h hg hM hN := ⟨h.1.grown hg (fun j hj => ⟨.inr (hM j hj).1, Nat.le_trans h.2.2.1 (hM j hj).2⟩) (fun j hj => by rcases hj with hj | hj; exact .inl (.inl hj); exact (hN j hj).imp .inr id), ⟨Nat.le_trans h.2.1.size hg.size, fun j hj hl => (hg.block j (Nat.lt_of_lt_of_le hl h.2.1.size) (fun e => by have := (hM j e.symm).2; omega)).trans (h.2.1.block j hj hl)⟩, h.2.2⟩
theorem BI.start (h : BS w0 ws M k p g S l t) : Sep ws.heap.size (BI w0 M ws k p g S l t) ws [] [] :=
  ⟨BI.frame, ⟨h.less (fun j hj => by rcases hj with hj | ⟨e, he, _⟩ | ⟨e, he, _⟩; exact hj; simp at he; simp at he), ⟨Nat.le_refl _, fun _ _ _ => rfl⟩, h.bel.size, fun j hj => h.lt hj⟩, fun e he => by simp at he, by simp, fun s hs => by simp at hs⟩
theorem Sep.bank (h : Sep B (BI w0 M ws k p g S l t) w L T) : BS w0 w (fun j => M j ∨ mine L T j) k p g S l t := h.inv.1
theorem Sep.stay (h : Sep B (BI w0 M ws k p g S l t) w L T) : Stay M ws w := h.inv.2.1
theorem Sep.done (h : Sep B (BI w0 M ws k p g S l t) w L T) : BS w0 w M k p g S l t ∧ Stay M ws w := ⟨h.inv.1.less fun j hj => .inl hj, h.inv.2.1⟩
/-- A call that turns the bank. -/
theorem Sep.turn (h : Sep ws.heap.size (BI w0 M ws k p g S l t) w L T) (h1 : BS w0 w' (fun j => M j ∨ mine L T j) k p g S' l' t) (h2 : Stay (fun j => M j ∨ mine L T j) w w') : Sep ws.heap.size (BI w0 M ws k p g S' l' t) w' L T := by
  have hst : Stay M ws w' := h.inv.2.1.trans ⟨h2.size, fun j hj hl => h2.block j (.inl hj) hl⟩
  refine ⟨BI.frame, ⟨h1, hst, h.inv.2.2⟩, fun e he => ⟨h2.blk (h.blk e he).1 (.inr (.inl ⟨e, he, rfl⟩)), (h.blk e he).2⟩, h.nd, fun s hs => ⟨h2.bs (h.sl s hs).1 (fun x hx => .inr (.inr ⟨s, hs, x, hx, rfl⟩)), fun x hx => ⟨((h.sl s hs).2 x hx).1, Nat.lt_of_lt_of_le ((h.sl s hs).2 x hx).2.1 h2.size, ((h.sl s hs).2 x hx).2.2⟩⟩⟩
end

end Go.Proofs.YthbldjnpnligpaaDoor

/-
  tree.node: what a node's pointer reads.
-/

namespace Go.Proofs.YthbldjnpnligpaaDoor
set_option linter.unusedSimpArgs false
set_option linter.unusedVariables false
set_option maxRecDepth 100000
open Go.RowKit

theorem ty_ptr : Ty Tryd.prog 42 35 := ⟨agg_ptr, size_ptr⟩
theorem ty_four : Ty Tryd.prog 139 140 := ⟨agg_four, size_four⟩
theorem vals_ptr {q : Pt} (h : q.ok) : Vals 35 q.vs := ⟨Pt.vs_len h, Pt.vs_one q⟩
theorem vals_four {l : List Pt} (h : Four l) : Vals 140 (fourV l) := ⟨by rw [fourV_len h.ok, h.len], fourV_one l⟩
theorem al_ptr : (∀ w, (Instr.alloc 42 true (.tuple #[])).run Tryd.prog w = .ok (.pointer (some ⟨w.heap.size, 0, none⟩)) (w.alloc (.cells Pt.zero.vs.toArray 42))) ∧ Vals 35 Pt.zero.vs := ⟨alloc_ptr0, vals_ptr Pt.zero_ok⟩
theorem al_four : (∀ w, (Instr.alloc 139 true (.tuple #[])).run Tryd.prog w = .ok (.pointer (some ⟨w.heap.size, 0, none⟩)) (w.alloc (.cells (fourV zeros4).toArray 139))) ∧ Vals 140 (fourV zeros4) := ⟨alloc_four0, vals_four Four.zeros⟩

section
variable {w0 w : World} {M : Nat → Prop} {k p g : Nat} {S : DS} {l : List Bool} {n kk tx : Nat}

set_option maxHeartbeats 4000000 in
theorem tnode_run (h : BS w0 w M k p g S l tx) (hV : Vars w0) (hg : Good n kk S) {q : Pt} {ns : List Pt} (hn : Node S kk q ns) :
    Calls Tryd.prog 123 #[.pointer (some ⟨k, 0, none⟩), .agg q.vs.toArray] w fun e w' => e = .returned (.tuple #[.agg (fourV ns).toArray, .int .i64 0]) ∧ Below w.heap.size w w' := by
  obtain ⟨h1, h2, h3⟩ := hn.read hg
  have hq := hn.ok hg.klt
  have hqv := vals_ptr hq
  have hrd : ∀ u, Below w.heap.size w u → Calls Tryd.prog 52 #[.pointer (some ⟨k, 0, none⟩), .agg q.vs.toArray] u fun e w' => ∃ a c, e = .returned (.tuple #[.slice a 256 c, .int .i64 0]) ∧ Bs w' a c (readK S q).1 ∧ Below u.heap.size u w' := fun u hu => by
    refine (bs_read (h.stays hu) hV hg.small q hq).mono ?_
    rintro e w' ⟨a, c, rfl, hN, hb⟩
    exact ⟨a, c, by rw [h1, h2], hN.1, hb⟩
  have hpr : ∀ u a c, Bs u a c (readK S q).1 → Calls Tryd.prog 134 #[.slice a 256 c] u fun e w' => e = .returned (.tuple #[.agg (fourV ns).toArray, .int .i64 0]) ∧ Below u.heap.size u w' := fun u a c hB => by
    have := read_run a c 256 _ u h2.symm hB
    rw [h3] at this
    exact this
  have hnv := vals_four hn.four
  obtain ⟨vs, hvs⟩ : ∃ vs, vs = q.vs := ⟨_, rfl⟩
  obtain ⟨fs, hfs⟩ : ∃ fs, fs = fourV ns := ⟨_, rfl⟩
  rw [← hvs] at hqv hrd ⊢
  rw [← hfs] at hnv hpr ⊢
  have hs := PI.start w
  clear hvs hfs h1 h2 h3
  go_enter Tryd.func123, Tryd.ntmps123
  go_wp2_with (first
    | (refine sep_box hs rfl rfl (by rfl) (by assumption) ?_; clear hs; intro w1 g1 hs)
    | (refine sep_alloc hs rfl rfl al_four ?_; clear hs; intro w1 g1 hs)
    | (refine sep_loadw hs rfl rfl (by rfl) (by repeat (first | exact List.Mem.head _ | apply List.Mem.tail)) (by first | exact ty_ptr | exact ty_four) ?_)
    | (refine sep_storew hs rfl rfl (by rfl) (by rfl) (by repeat (first | exact Upd.head | apply Upd.tail)) (by first | exact ty_ptr | exact ty_four) (by assumption) ?_; clear hs; intro w1 hs)
    | (go_at_call 52; go_must (refine (hrd _ hs.below).mono ?_); rintro e w1 ⟨a1, c1, rfl, hB1, hb1⟩; replace hs := hs.stays hb1; have hp1 := hpr _ _ _ hB1; clear hb1)
    | (go_at_call 134; go_must (refine hp1.mono ?_); rintro e w1 ⟨rfl, hb1⟩; replace hs := hs.stays hb1; clear hb1))
  exact sep_ret2 hs rfl rfl (by rfl) (by rfl) ty_four (by repeat (first | exact List.Mem.head _ | apply List.Mem.tail)) ⟨rfl, hs.below⟩
end

end Go.Proofs.YthbldjnpnligpaaDoor
