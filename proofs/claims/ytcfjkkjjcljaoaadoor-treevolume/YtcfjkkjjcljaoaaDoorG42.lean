/-
  tree.Walk: all pointers of a volume.
-/
import Derived.Test.YtcfjkkjjcljaoaaDoorG37
import Derived.Test.YtcfjkkjjcljaoaaDoorG38
import Derived.Test.YtcfjkkjjcljaoaaDoorG40
import Derived.Test.YtcfjkkjjcljaoaaDoorG26
namespace Go.Proofs.YtcfjkkjjcljaoaaDoor
set_option linter.unusedSimpArgs false
set_option linter.unusedVariables false
set_option maxRecDepth 100000
open Go.RowKit

/-- The cells' pointers of a leaf, without holes. -/
def cellsL (l : List Pt) (m : Nat) : List Pt := (List.range m).flatMap (fun i => if (nth l i).hole then [] else [nth l i])
def leavesL (ns : List Pt) (cs : Nat → List Pt) (k : Nat) : List Pt := (List.range k).flatMap (fun j => if (nth ns j).hole then [] else nth ns j :: cellsL (cs j) 4)
def walkL (q : Pt) (ns : List Pt) (cs : Nat → List Pt) : List Pt := if q.hole then [] else q :: leavesL ns cs 4
theorem cellsL_more (l : List Pt) (m : Nat) : cellsL l (m + 1) = cellsL l m ++ (if (nth l m).hole then [] else [nth l m]) := by
  unfold cellsL; rw [List.range_succ, List.flatMap_append]; simp
theorem leavesL_more (ns : List Pt) (cs : Nat → List Pt) (k : Nat) : leavesL ns cs (k + 1) = leavesL ns cs k ++ (if (nth ns k).hole then [] else nth ns k :: cellsL (cs k) 4) := by
  unfold leavesL; rw [List.range_succ, List.flatMap_append]; simp
theorem flat_len {f : Nat → List Pt} {b : Nat} (h : ∀ i, (f i).length ≤ b) : ∀ n, ((List.range n).flatMap f).length ≤ n * b
  | 0 => by simp
  | n + 1 => by
    rw [List.range_succ, List.flatMap_append, List.length_append, Nat.succ_mul]
    have h1 := flat_len h n
    have h2 := h n
    have h3 : ([n].flatMap f).length = (f n).length := by simp
    omega
theorem cellsL_len (l : List Pt) (m : Nat) : (cellsL l m).length ≤ m := by
  have := flat_len (f := fun i => if (nth l i).hole then [] else [nth l i]) (b := 1) (fun i => by split <;> simp) m
  unfold cellsL; omega
theorem leavesL_len (ns : List Pt) (cs : Nat → List Pt) (k : Nat) : (leavesL ns cs k).length ≤ k * 5 :=
  flat_len (fun j => by
    have := cellsL_len (cs j) 4
    split
    · simp
    · simp; omega) k

section
variable {w0 w : World} {M : Nat → Prop} {k p g : Nat} {S : DS} {l : List Bool} {n kk : Nat}

/-- What Walk hands back. -/
def WalkOf (w w' : World) (e : Ending) (ps : List Pt) : Prop := ∃ v, e = .returned (.tuple #[v, .bool true]) ∧ (rwP v ps).holds w.heap.size w' ∧ Below w.heap.size w w'

set_option maxHeartbeats 16000000 in
theorem walk_run9 (h : BS w0 w M k p g S l 7) (hV : Vars w0) (hg : Good n kk S) {q : Pt} {ns : List Pt} {cs : Nat → List Pt} {pl : List (List Int)} (hv : Vol S kk q ns cs pl) :
    Calls Tryd.prog 24 #[.pointer (some ⟨k, 0, none⟩), .agg q.vs.toArray] w fun e w' => WalkOf w w' e (walkL q ns cs) := by
  have hqo := hv.root.ok hg.klt
  have hqv := vals_ptr hqo
  have hho := fun u => isHole_run q hqo u
  have hs := PI.start w
  unfold walkL
  cases hqh : q.hole
  · rw [hqh] at hho
    simp only [Bool.false_eq_true, if_false]
    have hn1 := node_later h hV hg hv.root
    have hnv := vals_four hv.root.four
    have HIX : Hid (∀ j : Nat, j < 4 → ∀ u, (Instr.index 128 (.agg (fourV ns).toArray) (.int .i64 (j : Int))).run Tryd.prog u = .ok (.agg (nth ns j).vs.toArray) u) := fun j hj u => index_four hv.root.four.ok hv.root.four.len hj u
    have HN2 : Hid (∀ j, j < 4 → ∀ u, Below w.heap.size w u → Calls Tryd.prog 58 #[.pointer (some ⟨k, 0, none⟩), .agg (nth ns j).vs.toArray] u fun e w' => e = .returned (.tuple #[.agg (fourV (cs j)).toArray, .int .i64 0]) ∧ Below u.heap.size u w') := fun j hj => node_later h hV hg (hv.leaf j hj)
    have HIX2 : Hid (∀ j : Nat, j < 4 → ∀ m : Nat, m < 4 → ∀ u, (Instr.index 128 (.agg (fourV (cs j)).toArray) (.int .i64 (m : Int))).run Tryd.prog u = .ok (.agg (nth (cs j) m).vs.toArray) u) := fun j hj m hm u => index_four (hv.leaf j hj).four.ok (hv.leaf j hj).four.len hm u
    have HOK : Hid (∀ j, (nth ns j).ok) := fun j => nth_ok hv.root.four.ok j
    have HOK2 : Hid (∀ j, j < 4 → ∀ m, (nth (cs j) m).ok) := fun j hj m => nth_ok (hv.leaf j hj).four.ok m
    have HCV : Hid (∀ j, j < 4 → Vals 140 (fourV (cs j))) := fun j hj => vals_four (hv.leaf j hj).four
    have hone := run_onep q hqo
    have HQV : Hid (ptrsV [q] = q.vs) := by show _ = _; simp [ptrsV]
    obtain ⟨vs, hvs⟩ : ∃ vs, vs = q.vs := ⟨_, rfl⟩
    rw [← hvs] at hqv hho hn1 hone HQV ⊢
    obtain ⟨fn, hfn⟩ : ∃ fn, fn = fourV ns := ⟨_, rfl⟩
    rw [← hfn] at hn1 hnv HIX
    clear hvs hfn h hV hg hv hqh hqo
    go_enter Tryd.func24, Tryd.ntmps24
    go_wp2_with (first
      | (refine sep_box hs rfl rfl (by rfl) hqv ?_; clear hs; intro w1 g1 hs)
      | (go_at_call 57; go_must (refine (hho _).mono ?_); rintro e w1 ⟨rfl, hb1⟩; replace hs := hs.stays hb1; clear hb1)
      | (refine sep_loadw hs rfl rfl (by rfl) (by repeat (first | exact List.Mem.head _ | apply List.Mem.tail)) (by first | exact ty_ptr | exact ty_four) ?_)
      | (refine sep_one hs rfl (by rfl) (by rfl) hone hqv ?_; clear hs; intro w1 g1 hs)
      | (refine sep_alloc hs rfl rfl (by first | exact al_ptr | exact al_four) ?_; clear hs; intro w1 g1 hs)
      | (refine sep_storew hs rfl rfl (by rfl) (by rfl) (by repeat (first | exact Upd.head | apply Upd.tail)) (by first | exact ty_ptr | exact ty_four) (by assumption) ?_; clear hs; intro w1 hs)
      | (go_at_call 58; go_must (refine (hn1 _ hs.below).mono ?_); rintro e w1 ⟨rfl, hb1⟩; replace hs := hs.stays hb1; clear hb1))
    replace hs := hs.drop.made.drop
    have hst := rwP_cast hs ([q] ++ leavesL ns cs 0) rfl HQV.out.symm
    clear hs hn1 hho hone hqv hnv
    go_loopw [30, 6, 9] (fun i o b wr => ∃ j : Nat, i = .int .i64 (j : Int) ∧ j ≤ 4 ∧ b = .bool true ∧ Sep w.heap.size (Row1 w.heap.size (PI w) (rwP o ([q] ++ leavesL ns cs j))) wr [] []) (fun i _ _ _ => 4 - (intOf i).toNat)
    case atStart => exact ⟨0, rfl, by omega, rfl, hst⟩
    case round =>
      clear hst
      rename_i wr hrel
      obtain ⟨j, rfl, hj4, rfl, hs⟩ := hrel
      by_cases hj : j < 4
      · have hix := HIX.out j hj
        have hok := HOK.out j
        have hpv := vals_ptr hok
        have hho := fun u => isHole_run (nth ns j) hok u
        have hzp := al_ptr.2
        cases hph : (nth ns j).hole
        · rw [hph] at hho
          have HM : Hid (leavesL ns cs (j + 1) = leavesL ns cs j ++ nth ns j :: cellsL (cs j) 4) := by
            show _ = _
            rw [leavesL_more, hph]; rfl
          have hn2 := HN2.out j hj
          have hcv := HCV.out j hj
          have HIX3 : Hid _ := HIX2.out j hj
          have HOK3 : Hid _ := HOK2.out j hj
          have hone := run_onep _ hok
          have hfl := leavesL_len ns cs j
          obtain ⟨A, hA⟩ : ∃ A, A = [q] ++ leavesL ns cs j := ⟨_, rfl⟩
          have hAl : A.length ≤ 1 + j * 5 := by rw [hA]; simp; omega
          have HMA : Hid ([q] ++ leavesL ns cs (j + 1) = A ++ [nth ns j] ++ cellsL (cs j) 4) := by show _ = _; rw [HM.out, hA]; simp
          rw [← hA] at hs
          obtain ⟨pv, hpve⟩ : ∃ pv, pv = (nth ns j).vs := ⟨_, rfl⟩
          have HPV : Hid (pv = (nth ns j).vs) := hpve
          rw [← hpve] at hix hpv hho hn2 hone
          obtain ⟨fc, hfc⟩ : ∃ fc, fc = fourV (cs j) := ⟨_, rfl⟩
          rw [← hfc] at hn2 hcv HIX3
          obtain ⟨P, hP⟩ : ∃ P, P = nth ns j := ⟨_, rfl⟩
          rw [← hP] at hok hph HMA HPV
          obtain ⟨C, hC⟩ : ∃ C, C = cs j := ⟨_, rfl⟩
          rw [← hC] at HIX3 HOK3 HMA
          unfold rwP at hs
          clear hA hpve hfc hP hC HM hfl

          go_wp2_with (first
            | (refine sep_alloc hs rfl rfl (by first | exact al_ptr | exact al_four) ?_; clear hs; intro w1 g1 hs)
            | (refine sep_storew hs rfl rfl (by rfl) (by rfl) (by repeat (first | exact Upd.head | apply Upd.tail)) (by first | exact ty_ptr | exact ty_four) (by assumption) ?_; clear hs; intro w1 hs)
            | (refine sep_loadw hs rfl rfl (by rfl) (by repeat (first | exact List.Mem.head _ | apply List.Mem.tail)) (by first | exact ty_ptr | exact ty_four) ?_)
            | (go_at_call 57; go_must (refine (hho _).mono ?_); rintro e w1 ⟨rfl, hb1⟩; replace hs := hs.stays hb1; clear hb1)
            | (refine sep_one hs rfl (by rfl) (by rfl) hone hpv ?_; clear hs; intro w1 g1 hs)
            | (refine sep_append hs (PI.frame w) rfl rfl elem_ptr (by rfl) (by rfl) (by repeat (first | exact List.Mem.head _ | apply List.Mem.tail)) (by omega) ?_; clear hs; intro v1 w1 hs; replace hs := rwP_more hs HPV.out)
            | (go_at_call 58; go_must (refine (hn2 _ hs.rbelow).mono ?_); rintro e w1 ⟨rfl, hb1⟩; replace hs := hs.stays hb1; clear hb1))
          replace hs := hs.drop.drop.drop
          have hst := rwP_eq hs (A ++ [P] ++ cellsL C 0) (by simp [cellsL])
          clear hs hn2 hho hone hpv hix hcv
          go_loopw [51, 6] (fun i o wq => ∃ (u : World) (m : Nat), u = wq ∧ i = .int .i64 (m : Int) ∧ m ≤ 4 ∧ Sep w.heap.size (Row1 w.heap.size (PI w) (rwP o (A ++ [P] ++ cellsL C m))) u [] []) (fun i _ _ => 4 - (intOf i).toNat)
          case atStart => exact ⟨_, 0, rfl, rfl, by omega, hst⟩
          case round =>
            clear hst
            rename_i hrel
            obtain ⟨u, m, rfl, rfl, hm4, hs⟩ := hrel
            by_cases hm : m < 4
            · have hix := HIX3.out m hm
              have hqok := HOK3.out m
              have hqv := vals_ptr hqok
              have hho := fun u => isHole_run (nth C m) hqok u
              have hcl := cellsL_len C m
              have HCM : Hid _ := cellsL_more C m
              have hone := run_onep _ hqok
              obtain ⟨D, hD⟩ : ∃ D, D = A ++ [P] ++ cellsL C m := ⟨_, rfl⟩
              have hDl : D.length ≤ 40 := by rw [hD]; simp; omega
              have HD : Hid (D = A ++ [P] ++ cellsL C m) := hD
              rw [← hD] at hs
              obtain ⟨qv, hqve⟩ : ∃ qv, qv = (nth C m).vs := ⟨_, rfl⟩
              have HQ : Hid (qv = (nth C m).vs) := hqve
              rw [← hqve] at hix hqv hho hone
              unfold rwP at hs
              clear hD hqve
              cases hqh : (nth C m).hole
              · rw [hqh] at hho HCM
                go_wp2_with (first
                  | (refine sep_alloc hs rfl rfl (by first | exact al_ptr | exact al_four) ?_; clear hs; intro w1 g1 hs)
                  | (refine sep_storew hs rfl rfl (by rfl) (by rfl) (by repeat (first | exact Upd.head | apply Upd.tail)) (by first | exact ty_ptr | exact ty_four) (by assumption) ?_; clear hs; intro w1 hs)
                  | (refine sep_loadw hs rfl rfl (by rfl) (by repeat (first | exact List.Mem.head _ | apply List.Mem.tail)) (by first | exact ty_ptr | exact ty_four) ?_)
                  | (go_at_call 57; go_must (refine (hho _).mono ?_); rintro e w1 ⟨rfl, hb1⟩; replace hs := hs.stays hb1; clear hb1)
                  | (refine sep_one hs rfl (by rfl) (by rfl) hone hqv ?_; clear hs; intro w1 g1 hs)
                  | (refine sep_append hs (PI.frame w) rfl rfl elem_ptr (by rfl) (by rfl) (by repeat (first | exact List.Mem.head _ | apply List.Mem.tail)) (by omega) ?_; clear hs; intro v1 w1 hs; replace hs := rwP_more hs HQ.out))
                replace hs := hs.drop.drop
                have hfin := rwP_eq hs (A ++ [P] ++ cellsL C (m + 1)) (by rw [HCM.out, ← List.append_assoc, ← HD.out]; rfl)
                clear hs hho hone hqv hix
                go_roundw
                case rel => exact ⟨_, m + 1, rfl, by go_num, by omega, hfin⟩
                case measure => simp [intOf]; omega
              · rw [hqh] at hho HCM
                go_wp2_with (first
                  | (refine sep_alloc hs rfl rfl (by first | exact al_ptr | exact al_four) ?_; clear hs; intro w1 g1 hs)
                  | (refine sep_storew hs rfl rfl (by rfl) (by rfl) (by repeat (first | exact Upd.head | apply Upd.tail)) (by first | exact ty_ptr | exact ty_four) (by assumption) ?_; clear hs; intro w1 hs)
                  | (refine sep_loadw hs rfl rfl (by rfl) (by repeat (first | exact List.Mem.head _ | apply List.Mem.tail)) (by first | exact ty_ptr | exact ty_four) ?_)
                  | (go_at_call 57; go_must (refine (hho _).mono ?_); rintro e w1 ⟨rfl, hb1⟩; replace hs := hs.stays hb1; clear hb1))
                replace hs := hs.drop
                have hfin := rwP_eq hs (A ++ [P] ++ cellsL C (m + 1)) (by rw [HCM.out, ← List.append_assoc, ← HD.out]; simp)
                clear hs hho hone hqv hix
                go_roundw
                case rel => exact ⟨_, m + 1, rfl, by go_num, by omega, hfin⟩
                case measure => simp [intOf]; omega
            · have hm4' : m = 4 := by omega
              subst hm4'
              go_wp2
              go_roundw
              case rel => exact ⟨j + 1, by go_num, by omega, rfl, by rw [HMA.out]; exact hs⟩
              case measure => simp [intOf]; omega
        · rw [hph] at hho
          have HM : Hid (leavesL ns cs (j + 1) = leavesL ns cs j) := by
            show _ = _
            rw [leavesL_more, hph]; simp
          obtain ⟨pv, hpve⟩ : ∃ pv, pv = (nth ns j).vs := ⟨_, rfl⟩
          rw [← hpve] at hix hpv hho
          clear hpve
          go_wp2_with (first
            | (refine sep_alloc hs rfl rfl (by first | exact al_ptr | exact al_four) ?_; clear hs; intro w1 g1 hs)
            | (refine sep_storew hs rfl rfl (by rfl) (by rfl) (by repeat (first | exact Upd.head | apply Upd.tail)) (by first | exact ty_ptr | exact ty_four) (by assumption) ?_; clear hs; intro w1 hs)
            | (refine sep_loadw hs rfl rfl (by rfl) (by repeat (first | exact List.Mem.head _ | apply List.Mem.tail)) (by first | exact ty_ptr | exact ty_four) ?_)
            | (go_at_call 57; go_must (refine (hho _).mono ?_); rintro e w1 ⟨rfl, hb1⟩; replace hs := hs.stays hb1; clear hb1))
          replace hs := hs.drop
          clear hho hpv hix
          go_roundw
          case rel => exact ⟨j + 1, by go_num, by omega, rfl, by rw [HM.out]; exact hs⟩
          case measure => simp [intOf]; omega
      · have hj4' : j = 4 := by omega
        subst hj4'
        have hrow := hs.row
        have hbel := hs.rbelow
        go_wp2
        go_ret2
        exact ⟨_, rfl, hrow, hbel⟩
  · rw [hqh] at hho
    simp only [if_true]
    obtain ⟨vs, hvs⟩ : ∃ vs, vs = q.vs := ⟨_, rfl⟩
    rw [← hvs] at hqv hho ⊢
    clear hvs h hV hg hv hqh hqo
    go_enter Tryd.func24, Tryd.ntmps24
    go_wp2_with (first
      | (refine sep_box hs rfl rfl (by rfl) hqv ?_; clear hs; intro w1 g1 hs)
      | (go_at_call 57; go_must (refine (hho _).mono ?_); rintro e w1 ⟨rfl, hb1⟩; replace hs := hs.stays hb1; clear hb1)
      | (refine sep_loadw hs rfl rfl (by rfl) (by repeat (first | exact List.Mem.head _ | apply List.Mem.tail)) (by first | exact ty_ptr | exact ty_four) ?_))
    go_ret2
    exact ⟨_, rfl, ⟨by simp [rwP, ptrsV], .inl ⟨rfl, rfl⟩⟩, hs.below⟩
end

end Go.Proofs.YtcfjkkjjcljaoaaDoor

/-
  How many pointers a walk tells.
-/

namespace Go.Proofs.YtcfjkkjjcljaoaaDoor
set_option linter.unusedSimpArgs false
set_option linter.unusedVariables false
set_option maxRecDepth 100000
open Go.RowKit

def cnt (f : Nat → Nat) : Nat → Nat
  | 0 => 0
  | n + 1 => cnt f n + f n
def e1 (pl : List (List Int)) (i : Nat) : Nat := if pl.getD i [] = [] then 0 else 1
def e4 (pl : List (List Int)) (i : Nat) : Nat := if i % 4 = 3 ∧ ¬ (pl.getD i [] = [] ∧ pl.getD (i - 1) [] = [] ∧ pl.getD (i - 2) [] = [] ∧ pl.getD (i - 3) [] = []) then 1 else 0
theorem cnt_le {f : Nat → Nat} (h : ∀ i, f i ≤ 1) : ∀ n, cnt f n ≤ n
  | 0 => Nat.le_refl _
  | n + 1 => by have := cnt_le h n; have := h n; show cnt f n + f n ≤ _; omega
theorem e1_le (pl : List (List Int)) (i : Nat) : e1 pl i ≤ 1 := by unfold e1; split <;> omega
theorem e4_le (pl : List (List Int)) (i : Nat) : e4 pl i ≤ 1 := by unfold e4; split <;> omega

section
variable {S : DS} {k n : Nat} {q : Pt} {ns : List Pt} {cs : Nat → List Pt} {pl : List (List Int)}
theorem cell_one (hv : Vol S k q ns cs pl) {j m : Nat} (hj : j < 4) (hm : m < 4) : (if (nth (cs j) m).hole then ([] : List Pt) else [nth (cs j) m]).length = e1 pl (4 * j + m) := by
  have h := (hv.cell (4 * j + m) (by omega)).hole
  rw [show (4 * j + m) / 4 = j by omega, show (4 * j + m) % 4 = m by omega] at h
  rw [h]
  unfold e1
  by_cases e : pl.getD (4 * j + m) [] = []
  · rw [decide_eq_true e, if_pos rfl, if_pos e]; rfl
  · rw [decide_eq_false e, if_neg (by simp), if_neg e]; rfl
theorem leaf_len (hv : Vol S k q ns cs pl) {j : Nat} (hj : j < 4) : (cellsL (cs j) 4).length = e1 pl (4 * j) + e1 pl (4 * j + 1) + e1 pl (4 * j + 2) + e1 pl (4 * j + 3) := by
  rw [cellsL_more, cellsL_more, cellsL_more, cellsL_more, List.length_append, List.length_append, List.length_append, List.length_append, cell_one hv hj (by omega), cell_one hv hj (by omega), cell_one hv hj (by omega), cell_one hv hj (by omega)]
  simp [cellsL]
theorem all_nth {l : List Pt} (h : l.length = 4) : l.all Pt.hole = ((nth l 0).hole && (nth l 1).hole && (nth l 2).hole && (nth l 3).hole) := by
  match l, h with
  | [a, b, c, d], _ => simp [nth, Bool.and_assoc]
theorem leaf_hole (hv : Vol S k q ns cs pl) {j : Nat} (hj : j < 4) : (nth ns j).hole = decide (e4 pl (4 * j + 3) = 0) := by
  have hn := hv.leaf j hj
  have hc : ∀ m, m < 4 → (nth (cs j) m).hole = decide (pl.getD (4 * j + m) [] = []) := fun m hm => by
    have h := (hv.cell (4 * j + m) (by omega)).hole
    rw [show (4 * j + m) / 4 = j by omega, show (4 * j + m) % 4 = m by omega] at h
    exact h
  rw [hn.holes, all_nth hn.four.len, hc 0 (by omega), hc 1 (by omega), hc 2 (by omega), hc 3 (by omega)]
  unfold e4
  rw [show (4 * j + 3) % 4 = 3 by omega, show 4 * j + 3 - 1 = 4 * j + 2 by omega, show 4 * j + 3 - 2 = 4 * j + 1 by omega, show 4 * j + 3 - 3 = 4 * j by omega, show 4 * j + 0 = 4 * j by omega]
  by_cases a : pl.getD (4 * j) [] = [] <;> by_cases b : pl.getD (4 * j + 1) [] = [] <;> by_cases c : pl.getD (4 * j + 2) [] = [] <;> by_cases d : pl.getD (4 * j + 3) [] = [] <;> simp only [a, b, c, d] <;> decide
theorem leaf_part (hv : Vol S k q ns cs pl) {j : Nat} (hj : j < 4) : (if (nth ns j).hole then ([] : List Pt) else nth ns j :: cellsL (cs j) 4).length = e4 pl (4 * j + 3) + (e1 pl (4 * j) + e1 pl (4 * j + 1) + e1 pl (4 * j + 2) + e1 pl (4 * j + 3)) := by
  have hl := leaf_len hv hj
  have hh := leaf_hole hv hj
  have h4 := e4_le pl (4 * j + 3)
  by_cases e : e4 pl (4 * j + 3) = 0
  · rw [hh, decide_eq_true e, if_pos rfl, e]
    unfold e4 at e
    rw [show (4 * j + 3) % 4 = 3 by omega, show 4 * j + 3 - 1 = 4 * j + 2 by omega, show 4 * j + 3 - 2 = 4 * j + 1 by omega, show 4 * j + 3 - 3 = 4 * j by omega] at e
    have e' : pl.getD (4 * j + 3) [] = [] ∧ pl.getD (4 * j + 2) [] = [] ∧ pl.getD (4 * j + 1) [] = [] ∧ pl.getD (4 * j) [] = [] := by
      by_cases hx : pl.getD (4 * j + 3) [] = [] ∧ pl.getD (4 * j + 2) [] = [] ∧ pl.getD (4 * j + 1) [] = [] ∧ pl.getD (4 * j) [] = []
      · exact hx
      · rw [if_pos ⟨rfl, hx⟩] at e; omega
    unfold e1
    rw [if_pos e'.1, if_pos e'.2.1, if_pos e'.2.2.1, if_pos e'.2.2.2]
    rfl
  · rw [hh, decide_eq_false e, if_neg (by simp), List.length_cons, hl]
    omega
theorem walk_count (hv : Vol S k q ns cs pl) : (walkL q ns cs).length = if cnt (e1 pl) 16 + cnt (e4 pl) 16 > 0 then cnt (e1 pl) 16 + cnt (e4 pl) 16 + 1 else 0 := by
  have p0 := leaf_part hv (j := 0) (by omega)
  have p1 := leaf_part hv (j := 1) (by omega)
  have p2 := leaf_part hv (j := 2) (by omega)
  have p3 := leaf_part hv (j := 3) (by omega)
  simp only [Nat.reduceMul, Nat.reduceAdd] at p0 p1 p2 p3
  have hL : (leavesL ns cs 4).length = cnt (e1 pl) 16 + cnt (e4 pl) 16 := by
    rw [leavesL_more, leavesL_more, leavesL_more, leavesL_more, List.length_append, List.length_append, List.length_append, List.length_append, p0, p1, p2, p3]
    have z : ∀ i, i % 4 ≠ 3 → e4 pl i = 0 := fun i hi => by unfold e4; rw [if_neg (fun h => hi h.1)]
    simp only [cnt, leavesL, List.range_zero, List.flatMap_nil, List.length_nil, z 0 (by omega), z 1 (by omega), z 2 (by omega), z 4 (by omega), z 5 (by omega), z 6 (by omega), z 8 (by omega), z 9 (by omega), z 10 (by omega), z 12 (by omega), z 13 (by omega), z 14 (by omega)]
    omega
  have hr : q.hole = decide (cnt (e1 pl) 16 + cnt (e4 pl) 16 = 0) := by
    rw [hv.root.holes, all_nth hv.root.four.len, leaf_hole hv (j := 0) (by omega), leaf_hole hv (j := 1) (by omega), leaf_hole hv (j := 2) (by omega), leaf_hole hv (j := 3) (by omega)]
    have q0 : e4 pl 3 = 0 → e1 pl 0 + e1 pl 1 + e1 pl 2 + e1 pl 3 = 0 := fun h => by
      have h1 := leaf_hole hv (j := 0) (by omega)
      rw [show 4 * 0 + 3 = 3 from rfl, decide_eq_true h] at h1
      rw [h1, if_pos rfl] at p0
      simp only [List.length_nil] at p0
      omega
    have q1 : e4 pl 7 = 0 → e1 pl 4 + e1 pl 5 + e1 pl 6 + e1 pl 7 = 0 := fun h => by
      have h1 := leaf_hole hv (j := 1) (by omega)
      rw [show 4 * 1 + 3 = 7 from rfl, decide_eq_true h] at h1
      rw [h1, if_pos rfl] at p1
      simp only [List.length_nil] at p1
      omega
    have q2 : e4 pl 11 = 0 → e1 pl 8 + e1 pl 9 + e1 pl 10 + e1 pl 11 = 0 := fun h => by
      have h1 := leaf_hole hv (j := 2) (by omega)
      rw [show 4 * 2 + 3 = 11 from rfl, decide_eq_true h] at h1
      rw [h1, if_pos rfl] at p2
      simp only [List.length_nil] at p2
      omega
    have q3 : e4 pl 15 = 0 → e1 pl 12 + e1 pl 13 + e1 pl 14 + e1 pl 15 = 0 := fun h => by
      have h1 := leaf_hole hv (j := 3) (by omega)
      rw [show 4 * 3 + 3 = 15 from rfl, decide_eq_true h] at h1
      rw [h1, if_pos rfl] at p3
      simp only [List.length_nil] at p3
      omega
    have z : ∀ i, i % 4 ≠ 3 → e4 pl i = 0 := fun i hi => by unfold e4; rw [if_neg (fun h => hi h.1)]
    have hs : cnt (e1 pl) 16 + cnt (e4 pl) 16 = (e1 pl 0 + e1 pl 1 + e1 pl 2 + e1 pl 3) + (e1 pl 4 + e1 pl 5 + e1 pl 6 + e1 pl 7) + (e1 pl 8 + e1 pl 9 + e1 pl 10 + e1 pl 11) + (e1 pl 12 + e1 pl 13 + e1 pl 14 + e1 pl 15) + (e4 pl 3 + e4 pl 7 + e4 pl 11 + e4 pl 15) := by
      simp only [cnt, z 0 (by omega), z 1 (by omega), z 2 (by omega), z 4 (by omega), z 5 (by omega), z 6 (by omega), z 8 (by omega), z 9 (by omega), z 10 (by omega), z 12 (by omega), z 13 (by omega), z 14 (by omega)]
      omega
    rw [hs, ← Bool.decide_and, ← Bool.decide_and, ← Bool.decide_and]
    refine decide_eq_decide.2 ⟨fun h => ?_, fun h => ?_⟩
    · have h1 : e4 pl 3 = 0 := h.1.1.1
      have h2 : e4 pl 7 = 0 := h.1.1.2
      have h3 : e4 pl 11 = 0 := h.1.2
      have h4 : e4 pl 15 = 0 := h.2
      have := q0 h1; have := q1 h2; have := q2 h3; have := q3 h4
      omega
    · refine ⟨⟨⟨?_, ?_⟩, ?_⟩, ?_⟩
      · show e4 pl 3 = 0; omega
      · show e4 pl 7 = 0; omega
      · show e4 pl 11 = 0; omega
      · show e4 pl 15 = 0; omega
  unfold walkL
  rw [hr]
  by_cases h0 : cnt (e1 pl) 16 + cnt (e4 pl) 16 = 0
  · rw [decide_eq_true h0, if_pos rfl, if_neg (by omega)]; rfl
  · rw [decide_eq_false h0, if_neg (by simp), if_pos (by omega), List.length_cons, hL]
/-- Each pointer that is told is one that was put. -/
theorem walk_all (hv : Vol S k q ns cs pl) (hk : k ≤ 512) : ∀ p ∈ walkL q ns cs, p.ok ∧ p.b = 7 ∧ p.hole = false := by
  have node : ∀ {p : Pt} {l : List Pt}, Node S k p l → p.hole = false → p.ok ∧ p.b = 7 ∧ p.hole = false := fun {p l} h hh => by
    rcases h.is with ⟨rfl, _⟩ | ⟨h1, _⟩
    · exact absurd hh (by decide)
    · exact ⟨h1.ok hk, h1.birth, hh⟩
  intro p hp
  unfold walkL at hp
  cases hq : q.hole
  · rw [hq] at hp
    rcases List.mem_cons.1 (by simpa using hp) with rfl | hp
    · exact node hv.root hq
    · unfold leavesL at hp
      obtain ⟨j, hj, hp⟩ := List.mem_flatMap.1 hp
      have hj4 : j < 4 := List.mem_range.1 hj
      cases hl : (nth ns j).hole
      · rw [hl] at hp
        rcases List.mem_cons.1 (by simpa using hp) with rfl | hp
        · exact node (hv.leaf j hj4) hl
        · unfold cellsL at hp
          obtain ⟨m, hm, hp⟩ := List.mem_flatMap.1 hp
          have hm4 : m < 4 := List.mem_range.1 hm
          cases hc : (nth (cs j) m).hole
          · rw [hc] at hp
            have hp : p = nth (cs j) m := by simpa using hp
            subst hp
            have h := hv.cell (4 * j + m) (by omega)
            rw [show (4 * j + m) / 4 = j by omega, show (4 * j + m) % 4 = m by omega] at h
            rcases h with ⟨h1, _⟩ | h1
            · rw [h1] at hc; exact absurd hc (by decide)
            · exact ⟨h1.ok hk, h1.birth, hc⟩
          · rw [hc] at hp; simp at hp
      · rw [hl] at hp; simp at hp
  · rw [hq] at hp; simp at hp
end

end Go.Proofs.YtcfjkkjjcljaoaaDoor

/-
  Cells as strings: empty ones, joined ones.
-/

namespace Go.Proofs.YtcfjkkjjcljaoaaDoor
set_option linter.unusedSimpArgs false
set_option linter.unusedVariables false
set_option maxRecDepth 100000
open Go.RowKit

theorem plV_at {pl : List (List Int)} (h : pl.length = 16) {i : Nat} (hi : i < 16) : (plV pl)[i]? = some (.string (strOfNums (pl.getD i []))) := by
  unfold plV
  rw [List.getElem?_map, List.getD_eq_getElem?_getD, List.getElem?_eq_getElem (by omega)]
  rfl
theorem str_none {b : List Int} (h : b = []) : ((strOfNums b).toList == []) = true := by rw [h, ByteArray.toList_eq]; rfl
theorem str_some {b : List Int} (h : b ≠ []) : ((strOfNums b).toList == []) = false := by
  have h1 : (strOfNums b).toList.length = b.length := by rw [ByteArray.toList_eq]; simp [strOfNums]
  cases hb : (strOfNums b).toList with
  | nil => rw [hb] at h1; exact absurd (List.length_eq_zero_iff.1 h1.symm) h
  | cons _ _ => rfl
theorem str_app (xs ys : List Int) : strOfNums xs ++ strOfNums ys = strOfNums (xs ++ ys) := by
  have := str_append xs ys
  exact this

end Go.Proofs.YtcfjkkjjcljaoaaDoor
