/-
  tree.follow, tree.Find, tree.Get: the way to a cell, and what it reads.
-/
import Derived.Test.YthbldjnpnligpaaDoorG36
import Derived.Test.YthbldjnpnligpaaDoorG35
namespace Go.Proofs.YthbldjnpnligpaaDoor
set_option linter.unusedSimpArgs false
set_option linter.unusedVariables false
set_option maxRecDepth 100000
open Go.RowKit

section
variable {w0 w : World} {M : Nat → Prop} {k p g : Nat} {S : DS} {l : List Bool} {n kk tx : Nat}

/-- A node, at any world behind. -/
theorem node_later (h : BS w0 w M k p g S l tx) (hV : Vars w0) (hg : Good n kk S) {q : Pt} {ns : List Pt} (hn : Node S kk q ns) : ∀ u, Below w.heap.size w u → Calls Tryd.prog 123 #[.pointer (some ⟨k, 0, none⟩), .agg q.vs.toArray] u fun e w' => e = .returned (.tuple #[.agg (fourV ns).toArray, .int .i64 0]) ∧ Below u.heap.size u w' :=
  fun u hu => tnode_run (h.stays hu) hV hg hn

set_option maxHeartbeats 8000000 in
theorem follow_run (h : BS w0 w M k p g S l tx) (hV : Vars w0) (hg : Good n kk S) {q : Pt} {ns cs : List Pt} {i : Nat} (hi : i < 16) (hn : Node S kk q ns) (hc : Node S kk (nth ns (i / 4)) cs) :
    Calls Tryd.prog 118 #[.pointer (some ⟨k, 0, none⟩), .agg q.vs.toArray, .int .i64 (i : Int)] w fun e w' => e = .returned (.tuple #[.agg (wayV i ns cs).toArray, .int .i64 0]) ∧ Below w.heap.size w w' := by
  have hm : i / 4 < 4 := by omega
  have hqv := vals_ptr (hn.ok hg.klt)
  have hcv := vals_ptr (hc.ok hg.klt)
  have hn1 := node_later h hV hg hn
  have hn2 := node_later h hV hg hc
  have hix2 := fun (g u) => ix_four g 1 hm u
  have hmm : Int.tdiv (i : Int) 4 = ((i / 4 : Nat) : Int) := by rw [Int.tdiv_eq_ediv_of_nonneg (by omega)]; omega
  have hz := vals_way Four.zeros Four.zeros i
  have HS1 : Hid _ := way_set_root (i := i) (r' := ns) Four.zeros Four.zeros
  have HL1 : Hid _ := way_root_at (i := i) hn.four Four.zeros hm
  have HS2 : Hid _ := way_set_leaf (i := i) (l' := cs) hn.four Four.zeros
  have HBW : Hid (∀ u, (Instr.build 186 #[(0, .int .i64 (i : Int))]).run Tryd.prog u = .ok (.agg (wayV i zeros4 zeros4).toArray) u) := build_way i
  have hnv := vals_four hn.four
  have hfv := vals_four hc.four
  have hwv := vals_way hn.four hc.four i
  have h0 : (0 : Int) ≤ i := by omega
  have h16 : (i : Int) < 16 := by omega
  obtain ⟨m, hm'⟩ : ∃ m, m = i / 4 := ⟨_, rfl⟩
  rw [← hm'] at hm hix2 hmm hcv hn2 HL1
  obtain ⟨vs, hvs⟩ : ∃ vs, vs = q.vs := ⟨_, rfl⟩
  rw [← hvs] at hqv hn1 ⊢
  obtain ⟨us, hus⟩ : ∃ us, us = (nth ns m).vs := ⟨_, rfl⟩
  rw [← hus] at hcv hn2 HL1
  obtain ⟨fn, hfn⟩ : ∃ fn, fn = fourV ns := ⟨_, rfl⟩
  rw [← hfn] at hn1 HS1 hnv
  obtain ⟨fc, hfc⟩ : ∃ fc, fc = fourV cs := ⟨_, rfl⟩
  rw [← hfc] at hn2 HS2 hfv
  obtain ⟨za, hza⟩ : ∃ za, za = wayV i zeros4 zeros4 := ⟨_, rfl⟩
  rw [← hza] at HS1 HBW hz
  obtain ⟨zb, hzb⟩ : ∃ zb, zb = wayV i ns zeros4 := ⟨_, rfl⟩
  rw [← hzb] at HS1 HS2 HL1
  obtain ⟨zc, hzc⟩ : ∃ zc, zc = wayV i ns cs := ⟨_, rfl⟩
  rw [← hzc] at HS2 hwv ⊢
  have hs := PI.start w
  clear hm' hvs hus hfn hfc hza hzb hzc h hV hg hn hc
  go_enter Tryd.func118, Tryd.ntmps118
  go_wp2_with (first
    | (refine sep_box hs rfl rfl (by rfl) hqv ?_; clear hs; intro w1 g1 hs)
    | (refine sep_alloc hs rfl rfl al_way ?_; clear hs; intro w1 g1 hs)
    | (refine wpList_build (by rfl) 186 [(0, .tmp 17)] (by rfl) [(0, .int .i64 (i : Int))] (by rfl) _ HBW.out ?_)
    | (refine sep_storew hs rfl rfl (by rfl) (by rfl) (by repeat (first | exact Upd.head | apply Upd.tail)) ty_way (by assumption) ?_; clear hs; intro w1 hs)
    | (refine sep_loadw hs rfl rfl (by rfl) (by repeat (first | exact List.Mem.head _ | apply List.Mem.tail)) (by first | exact ty_ptr | exact ty_way) ?_)
    | (refine sep_load hs rfl rfl (by rfl) (by repeat (first | exact List.Mem.head _ | apply List.Mem.tail)) ty_ptr HL1.out hcv.1 ?_)
    | (refine sep_store hs rfl rfl (by rfl) (by rfl) (by repeat (first | exact Upd.head | apply Upd.tail)) ty_four hnv HS1.out (by omega) ?_; clear hs; intro w1 hs)
    | (refine sep_store hs rfl rfl (by rfl) (by rfl) (by repeat (first | exact Upd.head | apply Upd.tail)) ty_four hfv HS2.out (by omega) ?_; clear hs; intro w1 hs)
    | (go_at_call_of 123 (Value.agg vs.toArray); refine (hn1 _ hs.below).mono ?_; rintro e w1 ⟨rfl, hb1⟩; replace hs := hs.stays hb1; clear hb1)
    | (go_at_call_of 123 (Value.agg us.toArray); refine (hn2 _ hs.below).mono ?_; rintro e w1 ⟨rfl, hb1⟩; replace hs := hs.stays hb1; clear hb1))
  exact sep_ret2 hs rfl rfl (by rfl) (by rfl) ty_way (by repeat (first | exact List.Mem.head _ | apply List.Mem.tail)) ⟨rfl, hs.below⟩

set_option maxHeartbeats 8000000 in
theorem follow_no (q : Pt) (hq : q.ok) {i : Int} (hi : i < 0 ∨ 16 ≤ i) (w : World) :
    Calls Tryd.prog 118 #[.pointer (some ⟨k, 0, none⟩), .agg q.vs.toArray, .int .i64 i] w fun e w' => e = .returned (.tuple #[.agg (wayV 0 zeros4 zeros4).toArray, .int .i64 1]) ∧ Below w.heap.size w w' := by
  have hqv := vals_ptr hq
  have hz := al_way.2
  obtain ⟨vs, hvs⟩ : ∃ vs, vs = q.vs := ⟨_, rfl⟩
  rw [← hvs] at hqv ⊢
  have hs := PI.start w
  clear hvs
  rcases hi with hi | hi
  · go_enter Tryd.func118, Tryd.ntmps118
    go_wp2_with (first
      | (refine sep_box hs rfl rfl (by rfl) hqv ?_; clear hs; intro w1 g1 hs)
      | (refine sep_alloc hs rfl rfl al_way ?_; clear hs; intro w1 g1 hs)
      | (refine wpList_build0 (by rfl) 186 (by rfl) _ build_way0 ?_)
      | (refine sep_storew hs rfl rfl (by rfl) (by rfl) (by repeat (first | exact Upd.head | apply Upd.tail)) ty_way hz ?_; clear hs; intro w1 hs))
    exact sep_ret2 hs rfl rfl (by rfl) (by rfl) ty_way (by repeat (first | exact List.Mem.head _ | apply List.Mem.tail)) ⟨rfl, hs.below⟩
  · go_enter Tryd.func118, Tryd.ntmps118
    go_wp2_with (first
      | (refine sep_box hs rfl rfl (by rfl) hqv ?_; clear hs; intro w1 g1 hs)
      | (refine sep_alloc hs rfl rfl al_way ?_; clear hs; intro w1 g1 hs)
      | (refine wpList_build0 (by rfl) 186 (by rfl) _ build_way0 ?_)
      | (refine sep_storew hs rfl rfl (by rfl) (by rfl) (by repeat (first | exact Upd.head | apply Upd.tail)) ty_way hz ?_; clear hs; intro w1 hs))
    exact sep_ret2 hs rfl rfl (by rfl) (by rfl) ty_way (by repeat (first | exact List.Mem.head _ | apply List.Mem.tail)) ⟨rfl, hs.below⟩

set_option maxHeartbeats 8000000 in
theorem find_run (h : BS w0 w M k p g S l tx) (hV : Vars w0) (hg : Good n kk S) {q : Pt} {ns cs : List Pt} {i : Nat} (hi : i < 16) (hn : Node S kk q ns) (hc : Node S kk (nth ns (i / 4)) cs) :
    Calls Tryd.prog 74 #[.pointer (some ⟨k, 0, none⟩), .agg q.vs.toArray, .int .i64 (i : Int)] w fun e w' => e = .returned (.tuple #[.agg (nth cs (i % 4)).vs.toArray, .int .i64 0]) ∧ Below w.heap.size w w' := by
  have hfo : ∀ u, Below w.heap.size w u → Calls Tryd.prog 118 #[.pointer (some ⟨k, 0, none⟩), .agg q.vs.toArray, .int .i64 (i : Int)] u fun e w' => e = .returned (.tuple #[.agg (wayV i ns cs).toArray, .int .i64 0]) ∧ Below u.heap.size u w' := fun u hu => follow_run (h.stays hu) hV hg hi hn hc
  have hce := fun u => cell_run hn.four hc.four hi u
  have hqv := vals_ptr (hn.ok hg.klt)
  have hcv := vals_ptr (nth_ok hc.four.ok (i % 4))
  have hwv := vals_way hn.four hc.four i
  obtain ⟨vs, hvs⟩ : ∃ vs, vs = q.vs := ⟨_, rfl⟩
  rw [← hvs] at hqv hfo ⊢
  obtain ⟨us, hus⟩ : ∃ us, us = (nth cs (i % 4)).vs := ⟨_, rfl⟩
  rw [← hus] at hcv hce ⊢
  obtain ⟨wv, hwve⟩ : ∃ wv, wv = wayV i ns cs := ⟨_, rfl⟩
  rw [← hwve] at hwv hfo hce
  have hs := PI.start w
  clear hvs hus hwve h hV hg hn hc
  go_enter Tryd.func74, Tryd.ntmps74
  go_wp2_with (first
    | (refine sep_box hs rfl rfl (by rfl) hqv ?_; clear hs; intro w1 g1 hs)
    | (refine sep_alloc hs rfl rfl (by first | exact al_ptr | exact al_way) ?_; clear hs; intro w1 g1 hs)
    | (refine sep_storew hs rfl rfl (by rfl) (by rfl) (by repeat (first | exact Upd.head | apply Upd.tail)) (by first | exact ty_ptr | exact ty_way) (by assumption) ?_; clear hs; intro w1 hs)
    | (refine sep_loadw hs rfl rfl (by rfl) (by repeat (first | exact List.Mem.head _ | apply List.Mem.tail)) (by first | exact ty_ptr | exact ty_way) ?_)
    | (go_at_call 118; go_must (refine (hfo _ hs.below).mono ?_); rintro e w1 ⟨rfl, hb1⟩; replace hs := hs.stays hb1; clear hb1)
    | (go_at_call 119; go_must (refine (hce _).mono ?_); rintro e w1 ⟨rfl, hb1⟩; replace hs := hs.stays hb1; clear hb1))
  exact sep_ret2 hs rfl rfl (by rfl) (by rfl) ty_ptr (by repeat (first | exact List.Mem.head _ | apply List.Mem.tail)) ⟨rfl, hs.below⟩

set_option maxHeartbeats 8000000 in
theorem get_run (h : BS w0 w M k p g S l tx) (hV : Vars w0) (hg : Good n kk S) {q : Pt} {ns cs : List Pt} {i : Nat} (hi : i < 16) (hn : Node S kk q ns) (hc : Node S kk (nth ns (i / 4)) cs) {b : List Int} (hb : Cell S kk (nth cs (i % 4)) b) :
    Calls Tryd.prog 73 #[.pointer (some ⟨k, 0, none⟩), .agg q.vs.toArray, .int .i64 (i : Int)] w fun e w' => ∃ a c, e = .returned (.tuple #[.slice a 256 c, .int .i64 0]) ∧ NewB w.heap.size w' a c (cellL b) ∧ Below w.heap.size w w' := by
  have hfi : ∀ u, Below w.heap.size w u → Calls Tryd.prog 74 #[.pointer (some ⟨k, 0, none⟩), .agg q.vs.toArray, .int .i64 (i : Int)] u fun e w' => e = .returned (.tuple #[.agg (nth cs (i % 4)).vs.toArray, .int .i64 0]) ∧ Below u.heap.size u w' := fun u hu => find_run (h.stays hu) hV hg hi hn hc
  have hcok := nth_ok hc.four.ok (i % 4)
  have hrd : ∀ u, Below w.heap.size w u → Calls Tryd.prog 52 #[.pointer (some ⟨k, 0, none⟩), .agg (nth cs (i % 4)).vs.toArray] u fun e w' => ∃ a c, e = .returned (.tuple #[.slice a 256 c, .int .i64 0]) ∧ NewB w.heap.size w' a c (cellL b) ∧ Below u.heap.size u w' := fun u hu => by
    refine (bs_read (h.stays hu) hV hg.small _ hcok).mono ?_
    rintro e w' ⟨a, c, rfl, hN, hb1⟩
    rw [hb.read hg] at hN ⊢
    have hl : (cellL b).length = 256 := by
      rcases readK_len hg.live.ok (nth cs (i % 4)) with h1 | h1
      · rw [hb.read hg] at h1; exact h1.2
      · rw [hb.read hg] at h1; exact absurd rfl h1.1
    exact ⟨a, c, by rw [hl], hN.mono hu.size, hb1⟩
  have hqv := vals_ptr (hn.ok hg.klt)
  have hcv := vals_ptr hcok
  obtain ⟨vs, hvs⟩ : ∃ vs, vs = q.vs := ⟨_, rfl⟩
  rw [← hvs] at hqv hfi ⊢
  obtain ⟨us, hus⟩ : ∃ us, us = (nth cs (i % 4)).vs := ⟨_, rfl⟩
  rw [← hus] at hcv hfi hrd
  have hs := PI.start w
  clear hvs hus h hV hg hn hc hb hcok
  go_enter Tryd.func73, Tryd.ntmps73
  go_wp2_with (first
    | (refine sep_box hs rfl rfl (by rfl) hqv ?_; clear hs; intro w1 g1 hs)
    | (refine sep_alloc hs rfl rfl al_ptr ?_; clear hs; intro w1 g1 hs)
    | (refine sep_storew hs rfl rfl (by rfl) (by rfl) (by repeat (first | exact Upd.head | apply Upd.tail)) ty_ptr (by assumption) ?_; clear hs; intro w1 hs)
    | (refine sep_loadw hs rfl rfl (by rfl) (by repeat (first | exact List.Mem.head _ | apply List.Mem.tail)) ty_ptr ?_)
    | (go_at_call 74; go_must (refine (hfi _ hs.below).mono ?_); rintro e w1 ⟨rfl, hb1⟩; replace hs := hs.stays hb1; clear hb1)
    | (go_at_call 52; go_must (refine (hrd _ hs.below).mono ?_); rintro e w1 ⟨a1, c1, rfl, hN1, hb1⟩; replace hs := hs.stays hb1; clear hb1))
  go_ret2
  exact ⟨_, _, rfl, hN1, hs.below⟩
end

end Go.Proofs.YthbldjnpnligpaaDoor

/-
  tree.Set, tree.Trim: a volume, edited.
-/

namespace Go.Proofs.YthbldjnpnligpaaDoor
set_option linter.unusedSimpArgs false
set_option linter.unusedVariables false
set_option maxRecDepth 100000
open Go.RowKit

section
variable {w0 w : World} {M : Nat → Prop} {k p g : Nat} {S : DS} {l : List Bool} {n kk : Nat}

/-- A volume behind an edit. -/
structure Edited (S : DS) (kk : Nat) (cs : Nat → List Pt) (pl : List (List Int)) (i : Nat) (b : List Int) (root : Pt) (S2 : DS) (k2 : Nat) (ns2 : List Pt) (cs2 : Nat → List Pt) : Prop where
  keep : Keeps S kk S2 k2
  small : k2 ≤ kk + 5
  vol : Vol S2 k2 root ns2 cs2 (pl.set i b)
  same : ∀ j, j < 16 → j ≠ i → nth (cs2 (j / 4)) (j % 4) = nth (cs (j / 4)) (j % 4)
  exact : b ≠ [] → k2 = kk + 5 ∧ root.x = kk + 3 ∧ root.y = kk + 4 ∧ nth (cs2 (i / 4)) (i % 4) = ptrAt b kk 1
def EditOf (w0 w : World) (M : Nat → Prop) (k p g : Nat) (S : DS) (n kk : Nat) (cs : Nat → List Pt) (pl : List (List Int)) (i : Nat) (b : List Int) (root : Pt) (w' : World) : Prop :=
  ∃ S2 k2 ns2 cs2, BS w0 w' M k p g S2 (lab n k2) 7 ∧ Stay M w w' ∧ Good n k2 S2 ∧ Edited S kk cs pl i b root S2 k2 ns2 cs2
theorem laid_same {cs : Nat → List Pt} {i : Nat} {q : Pt} (hl : (cs (i / 4)).length = 4) {j : Nat} (hj : j < 16) (hne : j ≠ i) : nth ((fun m => if m = i / 4 then (cs (i / 4)).set (i % 4) q else cs m) (j / 4)) (j % 4) = nth (cs (j / 4)) (j % 4) := by
  by_cases e : j / 4 = i / 4
  · simp only [if_pos e]
    rw [nth_set (by omega), if_neg (by omega), e]
  · simp only [if_neg e]
set_option maxHeartbeats 8000000 in
theorem set_run (h : BS w0 w M k p g S (lab n kk) 7) (hV : Vars w0) (hg : Good n kk S) {q : Pt} {ns : List Pt} {cs : Nat → List Pt} {pl : List (List Int)} (hv : Vol S kk q ns cs pl) {i : Nat} (hi : i < 16)
    {a : Option Addr} {cc : Nat} {bs : List Int} (hB : Bs w a cc bs) (hn : ∀ x, a = some x → M x.block) (hbl : bs.length = 256) (hbr : ∀ y ∈ bs, 0 ≤ y ∧ y ≤ 255) (hk : kk + 5 ≤ n) :
    Calls Tryd.prog 70 #[.pointer (some ⟨k, 0, none⟩), .agg q.vs.toArray, .int .i64 (i : Int), .slice a 256 cc] w fun e w' => ∃ root, e = .returned (.tuple #[.agg root.vs.toArray, .int .i64 0]) ∧ EditOf w0 w M k p g S n kk cs pl i bs root w' := by
  have hm : i / 4 < 4 := by omega
  have hnr := hv.root
  have hnl := hv.leaf (i / 4) hm
  have hfo : ∀ u N, BS w0 u N k p g S (lab n kk) 7 → Calls Tryd.prog 118 #[.pointer (some ⟨k, 0, none⟩), .agg q.vs.toArray, .int .i64 (i : Int)] u fun e w' => e = .returned (.tuple #[.agg (wayV i ns (cs (i / 4))).toArray, .int .i64 0]) ∧ Below u.heap.size u w' := fun u N h1 => follow_run h1 hV hg hi hnr hnl
  have hpt : ∀ u N, BS w0 u N k p g S (lab n kk) 7 → (∀ j, M j → N j) → Stay M w u → Calls Tryd.prog 122 #[.pointer (some ⟨k, 0, none⟩), .slice a 256 cc, .int .i64 1, .func (.func 121) #[] #[]] u fun e w' => ∃ v, e = .returned (.tuple #[.agg (ptrAt bs kk 1).vs.toArray, v, .int .i64 0]) ∧ One v ∧ PutsOf w0 u N k p g S n kk bs 1 w' :=
    fun u N h1 h2 h3 => tput_run h1 hV hg (h3.bs hB hn) (fun x hx => h2 _ (hn x hx)) hbl hbr (c := 1) (.inl rfl) (by omega) ⟨rfl, rfl⟩
  have hqv := vals_ptr (hnr.ok hg.klt)
  have hwv := vals_way hnr.four hnl.four i
  have hpok : (ptrAt bs kk 1).ok := ptrAt_ok (by have := hg.klt; omega)
  have hpm : (ptrAt bs kk 1).may = true := ptrAt_may hg.lo
  have hpv := vals_ptr hpok
  have HPH : Hid ((ptrAt bs kk 1).hole = false) := ptrAt_hole hg.lo
  have hly : ∀ u N S1 (v : Value), BS w0 u N k p g S1 (lab n (kk + 1)) 7 → Good n (kk + 1) S1 → One v → Calls Tryd.prog 120 #[.agg (wayV i ns (cs (i / 4))).toArray, .pointer (some ⟨k, 0, none⟩), .agg (ptrAt bs kk 1).vs.toArray, v] u fun e w' => ∃ root, e = .returned (.tuple #[.agg root.vs.toArray, .int .i64 0]) ∧ LayOf w0 u N k p g S1 n (kk + 1) ns (cs (i / 4)) i (ptrAt bs kk 1) root w' :=
    fun u N S1 v h1 h2 h3 => tlay_run h1 hV h2 hnr.four hnl.four hi hpok hpm (by omega) h3
  have HP : Hid (∀ S1 root q1 S2 k2, Keeps S kk S1 (kk + 1) → Stands S1 (kk + 1) (ptrAt bs kk 1) bs → Keeps S1 (kk + 1) S2 k2 → k2 ≤ kk + 1 + 4 → Node S2 k2 q1 ((cs (i / 4)).set (i % 4) (ptrAt bs kk 1)) → Node S2 k2 root (ns.set (i / 4) q1) → (k2 = kk + 1 + 4 ∧ root = ptrAt (nodeL (ns.set (i / 4) q1)) (kk + 1 + 2) 2) → Edited S kk cs pl i bs root S2 k2 (ns.set (i / 4) q1) (fun m => if m = i / 4 then (cs (i / 4)).set (i % 4) (ptrAt bs kk 1) else cs m)) :=
    fun S1 root q1 S2 k2 h1 h2 h3 h4 h5 h6 h7 => ⟨h1.trans h3, by omega, hv.lay h1 hi (.inr h2) h3 h5 h6, fun j hj hne => laid_same hnl.four.len hj hne, fun _ => ⟨by omega, by rw [h7.2]; rfl, by rw [h7.2]; rfl, by show nth (if i / 4 = i / 4 then _ else _) _ = _; rw [if_pos rfl, nth_set (by rw [hnl.four.len]; omega), if_pos rfl]⟩⟩
  obtain ⟨vs, hvs⟩ : ∃ vs, vs = q.vs := ⟨_, rfl⟩
  rw [← hvs] at hqv hfo ⊢
  obtain ⟨us, hus⟩ : ∃ us, us = (ptrAt bs kk 1).vs := ⟨_, rfl⟩
  rw [← hus] at hpv hpt hly
  obtain ⟨wv, hwve⟩ : ∃ wv, wv = wayV i ns (cs (i / 4)) := ⟨_, rfl⟩
  rw [← hwve] at hwv hfo hly
  have hs := BI.start h
  clear hvs hus hwve h hg hv hB hnr hnl hbr hpok hpm
  go_enter Tryd.func70, Tryd.ntmps70
  go_wp2_with (first
    | (refine sep_box hs rfl rfl (by rfl) hqv ?_; clear hs; intro w1 g1 hs)
    | (refine sep_alloc hs rfl rfl (by first | exact al_ptr | exact al_way) ?_; clear hs; intro w1 g1 hs)
    | (refine sep_storew hs rfl rfl (by rfl) (by rfl) (by repeat (first | exact Upd.head | apply Upd.tail)) (by first | exact ty_ptr | exact ty_way) (by assumption) ?_; clear hs; intro w1 hs)
    | (refine sep_loadw hs rfl rfl (by rfl) (by repeat (first | exact List.Mem.head _ | apply List.Mem.tail)) (by first | exact ty_ptr | exact ty_way) ?_)
    | (go_at_call 118; go_must (refine (hfo _ _ hs.bank).mono ?_); rintro e w1 ⟨rfl, hb1⟩; replace hs := hs.stays hb1; clear hb1)
    | (go_at_call 122; go_must (refine (hpt _ _ hs.bank (fun j hj => .inl hj) hs.stay).mono ?_); rintro e w1 ⟨v1, rfl, hv1, S1, h1, h2, hg1, hk1, hp1⟩; replace hs := hs.turn h1 h2; have HK1 : Hid _ := hk1; have HP1 : Hid _ := hp1; clear h1 h2 hk1 hp1)
    | (go_at_call 120; go_must (refine (hly _ _ _ _ hs.bank hg1 hv1).mono ?_); rintro e w1 ⟨root, rfl, q1, S2, k2, h1, h2, hg2, hk2, hle2, hn2, hr2, hx2⟩; replace hs := hs.turn h1 h2; have hrv := vals_ptr (hr2.ok hg2.klt); have HX2 : Hid _ := hx2; clear h1 h2 hx2))
  exact sep_ret2 hs rfl rfl (by rfl) (by rfl) ty_ptr (by repeat (first | exact List.Mem.head _ | apply List.Mem.tail)) ⟨root, rfl, S2, k2, _, _, hs.done.1, hs.done.2, hg2, HP.out _ _ _ _ _ HK1.out HP1.out hk2 hle2 hn2 hr2 (HX2.out HPH.out)⟩

theorem edit_none {q : Pt} {ns : List Pt} {cs : Nat → List Pt} {pl : List (List Int)} (hv : Vol S kk q ns cs pl) {i : Nat} (hi : i < 16) (hh : (nth (cs (i / 4)) (i % 4)).hole = true) : Edited S kk cs pl i [] q S kk ns cs := by
  have h1 := hv.cell i hi
  have h2 : pl.getD i [] = [] := by
    have := h1.hole
    rw [hh] at this
    exact of_decide_eq_true this.symm
  have h3 : pl.set i [] = pl := by
    refine List.ext_getElem (by rw [List.length_set]) (fun j hj hj' => ?_)
    rw [List.getElem_set]
    split
    · next e =>
      subst e
      rw [List.getD_eq_getElem?_getD, List.getElem?_eq_getElem hj'] at h2
      exact h2.symm
    · rfl
  exact ⟨Keeps.refl _ _, by omega, by rw [h3]; exact hv, fun _ _ _ => rfl, fun h => absurd rfl h⟩

set_option maxHeartbeats 8000000 in
theorem trim_run (h : BS w0 w M k p g S (lab n kk) 7) (hV : Vars w0) (hg : Good n kk S) {q : Pt} {ns : List Pt} {cs : Nat → List Pt} {pl : List (List Int)} (hv : Vol S kk q ns cs pl) {i : Nat} (hi : i < 16) (hk : kk + 5 ≤ n) :
    Calls Tryd.prog 69 #[.pointer (some ⟨k, 0, none⟩), .agg q.vs.toArray, .int .i64 (i : Int)] w fun e w' => ∃ root, e = .returned (.tuple #[.agg root.vs.toArray, .int .i64 0]) ∧ EditOf w0 w M k p g S n kk cs pl i [] root w' := by
  have hm : i / 4 < 4 := by omega
  have hnr := hv.root
  have hnl := hv.leaf (i / 4) hm
  have hfo : ∀ u N, BS w0 u N k p g S (lab n kk) 7 → Calls Tryd.prog 118 #[.pointer (some ⟨k, 0, none⟩), .agg q.vs.toArray, .int .i64 (i : Int)] u fun e w' => e = .returned (.tuple #[.agg (wayV i ns (cs (i / 4))).toArray, .int .i64 0]) ∧ Below u.heap.size u w' := fun u N h1 => follow_run h1 hV hg hi hnr hnl
  have hce := fun u => cell_run hnr.four hnl.four hi u
  have hcok := nth_ok hnl.four.ok (i % 4)
  have hho := fun u => isHole_run (nth (cs (i / 4)) (i % 4)) hcok u
  have hqv := vals_ptr (hnr.ok hg.klt)
  have hcv := vals_ptr hcok
  have hwv := vals_way hnr.four hnl.four i
  have hzv := vals_ptr Pt.zero_ok
  cases hh : (nth (cs (i / 4)) (i % 4)).hole
  · have hly : ∀ u N (v : Value), BS w0 u N k p g S (lab n kk) 7 → One v → Calls Tryd.prog 120 #[.agg (wayV i ns (cs (i / 4))).toArray, .pointer (some ⟨k, 0, none⟩), .agg Pt.zero.vs.toArray, v] u fun e w' => ∃ root, e = .returned (.tuple #[.agg root.vs.toArray, .int .i64 0]) ∧ LayOf w0 u N k p g S n kk ns (cs (i / 4)) i Pt.zero root w' :=
      fun u N v h1 h3 => tlay_run h1 hV hg hnr.four hnl.four hi Pt.zero_ok Pt.zero_may (by omega) h3
    have HP : Hid (∀ root q1 S2 k2, Keeps S kk S2 k2 → k2 ≤ kk + 4 → Node S2 k2 q1 ((cs (i / 4)).set (i % 4) Pt.zero) → Node S2 k2 root (ns.set (i / 4) q1) → Edited S kk cs pl i [] root S2 k2 (ns.set (i / 4) q1) (fun m => if m = i / 4 then (cs (i / 4)).set (i % 4) Pt.zero else cs m)) :=
      fun root q1 S2 k2 h3 h4 h5 h6 => ⟨h3, by omega, hv.lay (Keeps.refl _ _) hi (.inl ⟨rfl, rfl⟩) h3 h5 h6, fun j hj hne => laid_same hnl.four.len hj hne, fun h => absurd rfl h⟩
    rw [hh] at hho
    obtain ⟨vs, hvs⟩ : ∃ vs, vs = q.vs := ⟨_, rfl⟩
    rw [← hvs] at hqv hfo ⊢
    obtain ⟨us, hus⟩ : ∃ us, us = (nth (cs (i / 4)) (i % 4)).vs := ⟨_, rfl⟩
    rw [← hus] at hcv hce hho
    obtain ⟨wv, hwve⟩ : ∃ wv, wv = wayV i ns (cs (i / 4)) := ⟨_, rfl⟩
    rw [← hwve] at hwv hfo hly hce
    have hs := BI.start h
    clear hvs hus hwve h hg hv hnr hnl hcok hh
    go_enter Tryd.func69, Tryd.ntmps69
    go_wp2_with (first
      | (refine sep_box hs rfl rfl (by rfl) hqv ?_; clear hs; intro w1 g1 hs)
      | (refine sep_alloc hs rfl rfl (by first | exact al_ptr | exact al_way) ?_; clear hs; intro w1 g1 hs)
      | (refine sep_storew hs rfl rfl (by rfl) (by rfl) (by repeat (first | exact Upd.head | apply Upd.tail)) (by first | exact ty_ptr | exact ty_way) (by assumption) ?_; clear hs; intro w1 hs)
      | (refine sep_loadw hs rfl rfl (by rfl) (by repeat (first | exact List.Mem.head _ | apply List.Mem.tail)) (by first | exact ty_ptr | exact ty_way) ?_)
      | (go_at_call 118; go_must (refine (hfo _ _ hs.bank).mono ?_); rintro e w1 ⟨rfl, hb1⟩; replace hs := hs.stays hb1; clear hb1)
      | (go_at_call 119; go_must (refine (hce _).mono ?_); rintro e w1 ⟨rfl, hb1⟩; replace hs := hs.stays hb1; clear hb1)
      | (go_at_call 87; go_must (refine (hho _).mono ?_); rintro e w1 ⟨rfl, hb1⟩; replace hs := hs.stays hb1; clear hb1)
      | (refine wpList_build0 (by rfl) 42 (by rfl) _ build_ptr0 ?_)
      | (go_at_call 120; go_must (refine (hly _ _ _ hs.bank ⟨rfl, rfl⟩).mono ?_); rintro e w1 ⟨root, rfl, q1, S2, k2, h1, h2, hg2, hk2, hle2, hn2, hr2, hx2⟩; replace hs := hs.turn h1 h2; have hrv := vals_ptr (hr2.ok hg2.klt); clear h1 h2 hx2))
    exact sep_ret2 hs rfl rfl (by rfl) (by rfl) ty_ptr (by repeat (first | exact List.Mem.head _ | apply List.Mem.tail)) ⟨root, rfl, S2, k2, _, _, hs.done.1, hs.done.2, hg2, HP.out _ _ _ _ hk2 hle2 hn2 hr2⟩
  · have HP : Hid (∀ w', BS w0 w' M k p g S (lab n kk) 7 ∧ Stay M w w' → EditOf w0 w M k p g S n kk cs pl i [] q w') := fun w' h1 => ⟨S, kk, ns, cs, h1.1, h1.2, hg, edit_none hv hi hh⟩
    rw [hh] at hho
    obtain ⟨vs, hvs⟩ : ∃ vs, vs = q.vs := ⟨_, rfl⟩
    have HVS : Hid (vs = q.vs) := hvs
    rw [← hvs] at hqv hfo ⊢
    obtain ⟨us, hus⟩ : ∃ us, us = (nth (cs (i / 4)) (i % 4)).vs := ⟨_, rfl⟩
    rw [← hus] at hcv hce hho
    obtain ⟨wv, hwve⟩ : ∃ wv, wv = wayV i ns (cs (i / 4)) := ⟨_, rfl⟩
    rw [← hwve] at hwv hfo hce
    have hs := BI.start h
    clear hvs hus hwve h hg hv hnr hnl hcok hh
    go_enter Tryd.func69, Tryd.ntmps69
    go_wp2_with (first
      | (refine sep_box hs rfl rfl (by rfl) hqv ?_; clear hs; intro w1 g1 hs)
      | (refine sep_alloc hs rfl rfl (by first | exact al_ptr | exact al_way) ?_; clear hs; intro w1 g1 hs)
      | (refine sep_storew hs rfl rfl (by rfl) (by rfl) (by repeat (first | exact Upd.head | apply Upd.tail)) (by first | exact ty_ptr | exact ty_way) (by assumption) ?_; clear hs; intro w1 hs)
      | (refine sep_loadw hs rfl rfl (by rfl) (by repeat (first | exact List.Mem.head _ | apply List.Mem.tail)) (by first | exact ty_ptr | exact ty_way) ?_)
      | (go_at_call 118; go_must (refine (hfo _ _ hs.bank).mono ?_); rintro e w1 ⟨rfl, hb1⟩; replace hs := hs.stays hb1; clear hb1)
      | (go_at_call 119; go_must (refine (hce _).mono ?_); rintro e w1 ⟨rfl, hb1⟩; replace hs := hs.stays hb1; clear hb1)
      | (go_at_call 87; go_must (refine (hho _).mono ?_); rintro e w1 ⟨rfl, hb1⟩; replace hs := hs.stays hb1; clear hb1)
      | (refine wpList_build0 (by rfl) 42 (by rfl) _ build_ptr0 ?_))
    exact sep_ret2 hs rfl rfl (by rfl) (by rfl) ty_ptr (by repeat (first | exact List.Mem.head _ | apply List.Mem.tail)) ⟨q, by rw [← HVS.out]; rfl, HP.out _ hs.done⟩

set_option maxHeartbeats 8000000 in
theorem set_no (q : Pt) (hq : q.ok) {i : Int} (hi : i < 0 ∨ 16 ≤ i) {a : Option Addr} {m cc : Nat} (w : World) :
    Calls Tryd.prog 70 #[.pointer (some ⟨k, 0, none⟩), .agg q.vs.toArray, .int .i64 i, .slice a m cc] w fun e w' => e = .returned (.tuple #[.agg Pt.zero.vs.toArray, .int .i64 1]) ∧ Below w.heap.size w w' := by
  have hfo := fun u => follow_no (k := k) q hq hi u
  have hqv := vals_ptr hq
  have hz := al_way.2
  have hzv := vals_ptr Pt.zero_ok
  obtain ⟨vs, hvs⟩ : ∃ vs, vs = q.vs := ⟨_, rfl⟩
  rw [← hvs] at hqv hfo ⊢
  obtain ⟨wv, hwve⟩ : ∃ wv, wv = wayV 0 zeros4 zeros4 := ⟨_, rfl⟩
  rw [← hwve] at hz hfo
  have hs := PI.start w
  clear hvs hwve
  go_enter Tryd.func70, Tryd.ntmps70
  go_wp2_with (first
    | (refine sep_box hs rfl rfl (by rfl) hqv ?_; clear hs; intro w1 g1 hs)
    | (refine sep_alloc hs rfl rfl (by first | exact al_ptr | exact al_way) ?_; clear hs; intro w1 g1 hs)
    | (refine sep_storew hs rfl rfl (by rfl) (by rfl) (by repeat (first | exact Upd.head | apply Upd.tail)) (by first | exact ty_ptr | exact ty_way) (by assumption) ?_; clear hs; intro w1 hs)
    | (refine sep_loadw hs rfl rfl (by rfl) (by repeat (first | exact List.Mem.head _ | apply List.Mem.tail)) (by first | exact ty_ptr | exact ty_way) ?_)
    | (go_at_call 118; go_must (refine (hfo _).mono ?_); rintro e w1 ⟨rfl, hb1⟩; replace hs := hs.stays hb1; clear hb1)
    | (refine wpList_build0 (by rfl) 42 (by rfl) _ build_ptr0 ?_))
  exact sep_ret2 hs rfl rfl (by rfl) (by rfl) ty_ptr (by repeat (first | exact List.Mem.head _ | apply List.Mem.tail)) ⟨rfl, hs.below⟩

set_option maxHeartbeats 8000000 in
theorem trim_no (q : Pt) (hq : q.ok) {i : Int} (hi : i < 0 ∨ 16 ≤ i) (w : World) :
    Calls Tryd.prog 69 #[.pointer (some ⟨k, 0, none⟩), .agg q.vs.toArray, .int .i64 i] w fun e w' => e = .returned (.tuple #[.agg Pt.zero.vs.toArray, .int .i64 1]) ∧ Below w.heap.size w w' := by
  have hfo := fun u => follow_no (k := k) q hq hi u
  have hqv := vals_ptr hq
  have hz := al_way.2
  have hzv := vals_ptr Pt.zero_ok
  obtain ⟨vs, hvs⟩ : ∃ vs, vs = q.vs := ⟨_, rfl⟩
  rw [← hvs] at hqv hfo ⊢
  obtain ⟨wv, hwve⟩ : ∃ wv, wv = wayV 0 zeros4 zeros4 := ⟨_, rfl⟩
  rw [← hwve] at hz hfo
  have hs := PI.start w
  clear hvs hwve
  go_enter Tryd.func69, Tryd.ntmps69
  go_wp2_with (first
    | (refine sep_box hs rfl rfl (by rfl) hqv ?_; clear hs; intro w1 g1 hs)
    | (refine sep_alloc hs rfl rfl (by first | exact al_ptr | exact al_way) ?_; clear hs; intro w1 g1 hs)
    | (refine sep_storew hs rfl rfl (by rfl) (by rfl) (by repeat (first | exact Upd.head | apply Upd.tail)) (by first | exact ty_ptr | exact ty_way) (by assumption) ?_; clear hs; intro w1 hs)
    | (refine sep_loadw hs rfl rfl (by rfl) (by repeat (first | exact List.Mem.head _ | apply List.Mem.tail)) (by first | exact ty_ptr | exact ty_way) ?_)
    | (go_at_call 118; go_must (refine (hfo _).mono ?_); rintro e w1 ⟨rfl, hb1⟩; replace hs := hs.stays hb1; clear hb1)
    | (refine wpList_build0 (by rfl) 42 (by rfl) _ build_ptr0 ?_))
  exact sep_ret2 hs rfl rfl (by rfl) (by rfl) ty_ptr (by repeat (first | exact List.Mem.head _ | apply List.Mem.tail)) ⟨rfl, hs.below⟩
end

end Go.Proofs.YthbldjnpnligpaaDoor

/-
  A list that grows, held beside: a slice that append makes longer.
-/

namespace Go.Proofs.YthbldjnpnligpaaDoor
set_option linter.unusedSimpArgs false
set_option linter.unusedVariables false
set_option maxRecDepth 100000
open Go.RowKit

/-- A slice that is the function's own: its elements' type, their size, how many, their cells. -/
structure Rw where
  v : Value
  t : TypeId
  sz : Nat
  n : Nat
  xs : List Value
def Rw.holds (r : Rw) (B : Nat) (w : World) : Prop := w.ownsRow B r.t r.sz r.v r.n r.xs
def Rw.own (r : Rw) (j : Nat) : Prop := r.v.ownBlock = some j
def Row1 (B : Nat) (I : (Nat → Prop) → World → Prop) (r : Rw) (N : Nat → Prop) (w : World) : Prop := I (fun j => N j ∨ r.own j) w ∧ r.holds B w ∧ ∀ j, r.own j → ¬ N j

section
variable {B : Nat} {I : (Nat → Prop) → World → Prop} {w w' : World} {L : List Ent} {T : List Sli} {r : Rw}
theorem Rw.holds.lt (h : r.holds B w) {j : Nat} (hj : r.own j) : B ≤ j ∧ j < w.heap.size := World.ownsRow.lt h j hj
theorem Rw.holds.keep (h : r.holds B w) (hk : ∀ j, r.own j → w'.heap[j]? = w.heap[j]?) : r.holds B w' := by
  obtain ⟨v, t, sz, n, xs⟩ := r
  obtain ⟨h1, h2⟩ := h
  refine ⟨h1, ?_⟩
  rcases h2 with h2 | ⟨g, cap, cur, h3, hb, hh, rest⟩
  · exact .inl h2
  · simp only at h3
    subst h3
    exact .inr ⟨g, cap, cur, rfl, hb, by rw [hk g rfl]; exact hh, rest⟩
theorem Rw.holds.form (h : r.holds B w) : ∃ a c, r.v = .slice a r.n c := by
  rcases h.2 with ⟨h1, h0⟩ | ⟨g, cap, cur, h1, _⟩
  · exact ⟨none, 0, by rw [h1, h0]⟩
  · exact ⟨_, _, h1⟩
theorem Row1.frame (hF : Frame B I) : Frame B (Row1 B I r) where
  size h := hF.size h.1
  new h hb hN := ⟨hF.new h.1 hb (fun j hj => by rcases hj with hj | hj; exact (hN j hj).imp .inl id; exact .inl (.inr hj)), h.2.1.keep fun j hj => hb.block j (h.2.1.lt hj).2, fun j hj hn => by
    rcases hN j hn with h1 | h1
    · exact h.2.2 j hj h1
    · have := (h.2.1.lt hj).2; omega⟩
  set {_ w w'} {m} h hb hm hB := ⟨hF.set h.1 hb (.inl hm) hB, h.2.1.keep fun j hj => hb.block j (fun e => h.2.2 j hj (e ▸ hm)) (h.2.1.lt hj).2, h.2.2⟩
  grown {_ _ w w'} row h hg hM hN := ⟨hF.grown h.1 hg (fun j hj => ⟨.inl (hM j hj).1, (hM j hj).2⟩) (fun j hj => by rcases hj with hj | hj; exact (hN j hj).imp .inl id; exact .inl (.inr hj)),
    h.2.1.keep fun j hj => hg.block j (h.2.1.lt hj).2 (fun e => h.2.2 j hj (hM j e.symm).1), fun j hj hn => by
    rcases hN j hn with h1 | h1
    · exact h.2.2 j hj h1
    · have := (h.2.1.lt hj).2; omega⟩
/-- An empty list. -/
theorem Sep.nil (h : Sep B I w L T) (t : TypeId) (sz : Nat) : Sep B (Row1 B I ⟨.slice none 0 0, t, sz, 0, []⟩) w L T := by
  have hno : ∀ j, ¬ (⟨.slice none 0 0, t, sz, 0, []⟩ : Rw).own j := fun j hj => by simp [Rw.own, Value.ownBlock] at hj
  have he : (fun j => mine L T j ∨ (⟨.slice none 0 0, t, sz, 0, []⟩ : Rw).own j) = mine L T := funext fun j => propext ⟨fun hj => hj.elim id (fun h1 => absurd h1 (hno j)), .inl⟩
  exact ⟨Row1.frame h.fr, ⟨by rw [he]; exact h.inv, ⟨by simp, .inl ⟨rfl, rfl⟩⟩, fun j hj => absurd hj (hno j)⟩, h.blk, h.nd, h.sl⟩
/-- The newest block is let go. -/
theorem Sep.drop {e : Ent} (h : Sep B I w (e :: L) T) : Sep B I w L T :=
  ⟨h.fr, h.fr.new h.inv (Below.refl _ _) (fun j hj => .inl (by rcases hj with ⟨x, hx, h1⟩ | hj; exact .inl ⟨x, List.mem_cons_of_mem _ hx, h1⟩; exact .inr hj)), fun x hx => h.blk x (List.mem_cons_of_mem _ hx), by
    have := h.nd; rw [List.map_cons, List.nodup_cons] at this; exact this.2, fun s hs => ⟨(h.sl s hs).1, fun x hx => ⟨((h.sl s hs).2 x hx).1, ((h.sl s hs).2 x hx).2.1, fun e' he' => ((h.sl s hs).2 x hx).2.2 e' (List.mem_cons_of_mem _ he')⟩⟩⟩
/-- A block of one element is a list of one. -/
theorem Sep.made {g n : Nat} {t : TypeId} {vs : List Value} (h : Sep B I w (⟨g, t, n, vs⟩ :: L) T) : Sep B (Row1 B I ⟨.slice (some ⟨g, 0, none⟩) 1 1, t, n, 1, vs⟩) w L T := by
  obtain ⟨hb, hg, hv⟩ := h.blk _ List.mem_cons_self
  have hd := h.drop
  have hv1 : vs.length = n := hv.1
  have hown : ∀ j, (⟨.slice (some ⟨g, 0, none⟩) 1 1, t, n, 1, vs⟩ : Rw).own j ↔ g = j := fun j => by simp [Rw.own, Value.ownBlock]
  refine ⟨Row1.frame h.fr, ⟨h.fr.new h.inv (Below.refl _ _) (fun j hj => .inl ?_), ⟨by rw [Nat.one_mul]; exact hv.1, .inr ⟨g, 1, vs.toArray, rfl, hg, hb, Nat.le_refl _, by decide, by simp [hv1], by rw [Nat.one_mul, ← hv1]; simp⟩⟩, fun j hj hn => ?_⟩, hd.blk, hd.nd, hd.sl⟩
  · rcases hj with hj | hj
    · rcases hj with ⟨e', he, rfl⟩ | hj
      · exact .inl ⟨e', List.mem_cons_of_mem _ he, rfl⟩
      · exact .inr hj
    · exact .inl ⟨_, List.mem_cons_self, (hown j).1 hj⟩
  · have e := (hown j).1 hj
    subst e
    rcases hn with ⟨e', he, h1⟩ | ⟨s, hs, x, hx, h1⟩
    · have := h.nd
      rw [List.map_cons, List.nodup_cons] at this
      exact this.1 (List.mem_map.2 ⟨e', he, h1⟩)
    · exact ((h.sl s hs).2 x hx).2.2 _ List.mem_cons_self h1.symm
theorem Sep.row (h : Sep B (Row1 B I r) w L T) : r.holds B w := h.inv.2.1
variable {P : Program} {ops : Array Oper} {rest : List Oper} {o : Oper} {a : Act} {Q : Exit → Act → World → Prop} {n : Nat} {t e : TypeId} {vs us : List Value} {v : Value} {x s : Operand}
/-! Steps of regions that draw their order. -/
variable {K : Act → World → Prop} {E : Prop} {off g : Nat} {L' : List Ent} {y : Operand}
theorem sep_step_loadw (h : Sep B I w L T) (hgd : o.guard = none) (ho : o.op = Op.load t x) (hx : a.eval x = .pointer (some ⟨g, 0, none⟩)) (hm : (⟨g, e, n, vs⟩ : Ent) ∈ L) (hT : Ty P t n)
    (hk : K (a.put o.dst (.agg vs.toArray)) w) : if Region.wanted o (yielded ops a.tmps) = true then Oper.wp P o a w K Q else E := by
  rw [if_pos (by simp [Region.wanted, hgd])]
  exact step_load_blk x t ho g 0 n hx hT.1 hT.2 (h.blk _ hm).1 vs (whole_load (h.vals hm).1) (h.vals hm).1 hk
theorem sep_step_storew (h : Sep B I w L T) (hgd : o.guard = none) (ho : o.op = Op.store t x y) (hx : a.eval x = .pointer (some ⟨g, 0, none⟩)) (hy : a.eval y = .agg us.toArray) (hup : Upd L g e n vs us L') (hT : Ty P t n) (hv : Vals n us)
    (hk : ∀ w', Sep B I w' L' T → K (a.put o.dst undef) w') : if Region.wanted o (yielded ops a.tmps) = true then Oper.wp P o a w K Q else E := by
  obtain ⟨P', R', hL, _⟩ := id hup
  have hm : (⟨g, e, n, vs⟩ : Ent) ∈ L := by rw [hL]; simp
  obtain ⟨hB, _, hvl, hv1⟩ := h.blk _ hm
  simp only at hB hvl hv1
  rw [if_pos (by simp [Region.wanted, hgd])]
  refine step_store_blk x y t ho g 0 n hx us hy hT.2 hB hv.1 (by omega) hv.2 us ?_ fun w' hB' hb _ => hk w' (h.upd hup hb hB' hv)
  rw [Nat.zero_add, ← hvl]
  simp
theorem sep_step_alloc (h : Sep B I w L T) (hgd : o.guard = none) (ho : o.op = Op.alloc t) (hr : (∀ w, (Instr.alloc t true (.tuple #[])).run P w = .ok (.pointer (some ⟨w.heap.size, 0, none⟩)) (w.alloc (.cells vs.toArray t))) ∧ Vals n vs)
    (hk : ∀ w' g, Sep B I w' (⟨g, t, n, vs⟩ :: L) T → K (a.put o.dst (.pointer (some ⟨g, 0, none⟩))) w') : if Region.wanted o (yielded ops a.tmps) = true then Oper.wp P o a w K Q else E := by
  rw [if_pos (by simp [Region.wanted, hgd])]
  unfold Oper.wp execOp
  simp only [ho, Sem.run_bind, Sem.run_pure, Result.andThen_ok, hr.1]
  exact hk _ _ (h.add ((Below.refl _ _).alloc (Nat.le_refl _) _) (Blk.newAt rfl rfl) hr.2)

variable {md : Region.Mode} {fuel : Nat} {listed : Array Bool}
/-- One operation may come up, or one of two. -/
theorem sep_any1 (i : Nat) (hr : Region.ready md ops listed = [i]) {o : Oper} (ho : ops[i]? = some o)
    (h1 : ∀ K : Act → World → Prop, (∀ a w, wpAny P md ops Q fuel (listed.setIfInBounds i true) a w → K a w) → if Region.wanted o (yielded ops a.tmps) = true then Oper.wp P o a w K Q else K (a.put o.dst undef) w) :
    wpAny P md ops Q (fuel + 1) listed a w := wpAny_ready hr (by simp) (AllReady.cons ho h1 AllReady.nil)
theorem sep_any2 (i j : Nat) (hr : Region.ready md ops listed = [i, j]) {o o' : Oper} (ho : ops[i]? = some o) (ho' : ops[j]? = some o')
    (h1 : ∀ K : Act → World → Prop, (∀ a w, wpAny P md ops Q fuel (listed.setIfInBounds i true) a w → K a w) → if Region.wanted o (yielded ops a.tmps) = true then Oper.wp P o a w K Q else K (a.put o.dst undef) w)
    (h2 : ∀ K : Act → World → Prop, (∀ a w, wpAny P md ops Q fuel (listed.setIfInBounds j true) a w → K a w) → if Region.wanted o' (yielded ops a.tmps) = true then Oper.wp P o' a w K Q else K (a.put o'.dst undef) w) :
    wpAny P md ops Q (fuel + 1) listed a w := wpAny_ready hr (by simp) (AllReady.cons ho h1 (AllReady.cons ho' h2 AllReady.nil))

/-- A slice of one element. -/
theorem sep_one (h : Sep B I w L T) (hgd : o.guard = none) {st : TypeId} (ho : o.op = Op.buildSlice st 1 [(0, x)].toArray) {u : Value} (hx : a.eval x = u)
    (hr : ∀ w : World, (Instr.buildSlice st 1 [(0, u)].toArray).run P w = .ok (.slice (some ⟨w.heap.size, 0, none⟩) 1 1) (w.alloc (.cells vs.toArray e))) (hv : Vals n vs)
    (hk : ∀ w' g, Sep B I w' (⟨g, e, n, vs⟩ :: L) T → wpList P ops Q rest (a.put o.dst (.slice (some ⟨g, 0, none⟩) 1 1)) w') : wpList P ops Q (o :: rest) a w := by
  refine wpList_plain hgd fun K hK => ?_
  have e : [(0, x)].toArray.map (fun (i, x) => (i, a.eval x)) = [(0, u)].toArray := by simp [hx]
  unfold Oper.wp execOp
  simp only [ho, Sem.run_bind, Sem.run_pure, Result.andThen_ok, e, hr]
  exact hK _ _ (hk _ _ (h.add ((Below.refl _ _).alloc (Nat.le_refl _) _) (Blk.newAt rfl rfl) hv))
/-- Elements of a type. -/
structure Elem (P : Program) (st t : TypeId) (sz : Nat) : Prop where
  und : P.underlying st = some (.slice t)
  info : ∃ i z, P.info? t = some i ∧ i.zero = some z ∧ i.size = sz ∧ i.bytes ≤ 1024 ∧ z.cells.size = sz
  pos : 0 < sz
/-- append(l, x). -/
theorem sep_append {m : Nat} {xs : List Value} (h : Sep B (Row1 B I ⟨v, t, n, m, xs⟩) w L T) (hF : Frame B I) (hgd : o.guard = none) {st : TypeId} (ho : o.op = .call { callee := .builtin .append, args := #[s, x], argTypes := #[st, st] }) (hE : Elem P st t n)
    (hs : a.eval s = v) {b : Nat} (hx : a.eval x = .slice (some ⟨b, 0, none⟩) 1 1) (hm : (⟨b, e, n, vs⟩ : Ent) ∈ L) (hlen : m ≤ 1000000)
    (hk : ∀ v' w', Sep B (Row1 B I ⟨v', t, n, m + 1, xs ++ vs⟩) w' L T → wpList P ops Q rest (a.put o.dst v') w') : wpList P ops Q (o :: rest) a w := by
  obtain ⟨hu, ⟨i, z, hi, hz, hsz, hby, hzc⟩, hp⟩ := hE
  obtain ⟨h1, h2, h3⟩ := h.inv
  obtain ⟨hB, hg, hvl⟩ := h.blk _ hm
  have hbd : (m + 1) * i.bytes ≤ 140737488355328 := Nat.le_trans (Nat.mul_le_mul (show m + 1 ≤ 1000001 by omega) hby) (by decide)
  refine wpList_append_lies _ hgd s x st ho B t i z n i.bytes hu hi hz hsz rfl hzc hp v m xs hs h2 ⟨b, 0, none⟩ 1 1 vs hx (by rw [hvl.1, Nat.one_mul]) (fun j u hj => ?_) hvl.2 (by omega) (by unfold maxLen; omega) hbd (h.fr.size h.inv) _ rfl fun g cap w' q1 q2 q3 q4 => ?_
  · have hadd : (⟨b, 0, none⟩ : Addr).add j = ⟨b, j, none⟩ := by unfold Addr.add; split <;> simp_all
    rw [hadd, hB.cell j, hj]
  · have hown : ∀ j, (⟨.slice (some ⟨g, 0, none⟩) (m + 1) cap, t, n, m + 1, xs ++ vs⟩ : Rw).own j → j = g := fun j hj => by
      have : g = j := by simpa [Rw.own, Value.ownBlock] using hj
      exact this.symm
    have hrow : ∀ j, v.ownBlock = some j → B ≤ j ∧ j < w.heap.size := fun j hj => Rw.holds.lt (r := ⟨v, t, n, m, xs⟩) h2 hj
    have hgo : ∀ j, mine L T j → w'.heap[j]? = w.heap[j]? := fun j hj => by
      have hl : j < w.heap.size := by
        rcases hj with ⟨e', he, rfl⟩ | ⟨s', hs', y, hy, rfl⟩
        · exact (h.blk e' he).1.lt
        · exact ((h.sl s' hs').2 y hy).2.1
      exact q2.block j hl (fun e' => h3 j e'.symm hj)
    have hmine : ∀ j, mine L T j → j < w.heap.size := fun j hj => by
      rcases hj with ⟨e', he, rfl⟩ | ⟨s', hs', y, hy, rfl⟩
      · exact (h.blk e' he).1.lt
      · exact ((h.sl s' hs').2 y hy).2.1
    refine hk _ w' ⟨Row1.frame hF, ⟨hF.grown h1 q2 (fun j hj => ⟨.inr hj, (hrow j hj).1⟩) (fun j hj => ?_), q1, fun j hj hn => ?_⟩, fun e' he => ⟨?_, (h.blk e' he).2⟩, h.nd, fun s' hs' => ⟨?_, fun y hy => ⟨((h.sl s' hs').2 y hy).1, Nat.lt_of_lt_of_le ((h.sl s' hs').2 y hy).2.1 q2.size, ((h.sl s' hs').2 y hy).2.2⟩⟩⟩
    · rcases hj with hj | hj
      · exact .inl (.inl hj)
      · rw [hown j hj]
        rcases q3 with q3 | q3
        · exact .inl (.inr q3)
        · exact .inr ⟨by omega, q4⟩
    · rw [hown j hj] at hn
      rcases q3 with q3 | q3
      · exact h3 g q3 hn
      · have := hmine g hn; omega
    · have hb1 := (h.blk e' he).1
      unfold Blk at *
      rw [hgo _ (.inl ⟨e', he, rfl⟩)]; exact hb1
    · refine Stay.bs (M := fun j => mine L T j) ⟨q2.size, fun j hj _ => hgo j hj⟩ (h.sl s' hs').1 (fun y hy => .inr ⟨s', hs', y, hy, rfl⟩)
end

theorem Sep.rbelow {B : Nat} {ws w : World} {r : Rw} {L : List Ent} {T : List Sli} (h : Sep B (Row1 B (PI ws) r) w L T) : Below ws.heap.size ws w := h.inv.1.1

end Go.Proofs.YthbldjnpnligpaaDoor
