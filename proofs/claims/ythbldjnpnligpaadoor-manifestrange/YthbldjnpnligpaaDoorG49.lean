/-
  manifest.Blank, named, Make: over a bank whose blocks all stand.
-/
import Derived.Test.YthbldjnpnligpaaDoorG48
import Derived.Test.YthbldjnpnligpaaDoorG37
import Derived.Test.YthbldjnpnligpaaDoorG38
import Derived.Test.YthbldjnpnligpaaDoorG22
import Derived.Test.YthbldjnpnligpaaDoorG21
namespace Go.Proofs.YthbldjnpnligpaaDoor
set_option linter.unusedSimpArgs false
set_option linter.unusedVariables false
set_option maxRecDepth 100000
open Go.RowKit

/-- The hash of noughts; a cell's hash; the hashes of 16 cells. -/
def blankH : List Int := shaOf (List.replicate 256 0)
theorem blankH_len : blankH.length = 32 := shaOf_length _
def nameH (p : Pt) : List Int := if p.hole then blankH else p.h
theorem nameH_len {p : Pt} (h : p.ok) : (nameH p).length = 32 := by unfold nameH; split; exact blankH_len; exact h.len
def manF (f : Nat → List Int) : Nat → List Int
  | 0 => []
  | k + 1 => manF f k ++ f k
theorem manF_len {f : Nat → List Int} : ∀ {k : Nat}, (∀ i, i < k → (f i).length = 32) → (manF f k).length = k * 32
  | 0, _ => rfl
  | k + 1, h => by rw [manF, List.length_append, manF_len fun i hi => h i (by omega), h k (by omega)]; omega
theorem manF_at {f : Nat → List Int} : ∀ {k i : Nat}, (∀ i, i < k → (f i).length = 32) → i < k → hAt (manF f k) i = f i
  | k + 1, i, h, hi => by
    have hl := manF_len (f := f) (k := k) fun i hi => h i (by omega)
    unfold hAt
    rw [manF]
    rcases Nat.lt_or_ge i k with h1 | h1
    · rw [List.drop_append_of_le_length (by omega), List.take_append_of_le_length (by rw [List.length_drop]; omega)]
      exact manF_at (fun i hi => h i (by omega)) h1
    · obtain rfl : i = k := by omega
      rw [List.drop_append, hl, Nat.sub_self, List.drop_zero, List.drop_eq_nil_of_le (by omega), List.nil_append, List.take_of_length_le (by rw [h i (by omega)]; omega)]
def manOf (cs : Nat → List Pt) : List Int := manF (fun i => nameH (nth (cs (i / 4)) (i % 4))) 16

theorem mblank_run (w : World) (hV : Vars w) : Calls Tryd.prog 95 #[] w fun e w' => e = .returned (.agg (mV blankH).toArray) ∧ Below w.heap.size w w' := by
  have hsum : ∀ u a c, Bs u a c (List.replicate 256 0) → Vars u → Calls Tryd.prog 96 #[.slice a 256 c] u fun e w' => e = .returned (.agg (mV blankH).toArray) ∧ Below u.heap.size u w' := fun u a c h1 h2 => by
    have := sum_run a c (List.replicate 256 0) u h1 h2 (by rw [List.length_replicate]; omega)
    rw [List.length_replicate] at this
    exact this
  have hbv := vals_mV blankH_len
  obtain ⟨bv, hbe⟩ : ∃ bv, bv = mV blankH := ⟨_, rfl⟩
  rw [← hbe] at hbv hsum ⊢
  have hs := PI.start w
  clear hbe
  go_enter Tryd.func95, Tryd.ntmps95
  go_wp2_with (first
    | (refine sep_alloc hs rfl rfl al_hsh ?_; clear hs; intro w1 g1 hs)
    | (refine sep_makeN hs rfl (by rfl) (by rfl) (by rfl) (n := 256) (by omega) (by omega) (by omega) (by omega) ?_; clear hs; intro w1 g2 hs)
    | (go_at_call 96; go_must (refine (hsum _ _ _ (hs.bs List.mem_cons_self) (hV.stays hs.below)).mono ?_); rintro e w1 ⟨rfl, hb1⟩; replace hs := hs.stays hb1; clear hb1)
    | (refine sep_storew hs rfl rfl (by rfl) (by rfl) (by repeat (first | exact Upd.head | apply Upd.tail)) ty_hsh hbv ?_; clear hs; intro w1 hs))
  refine sep_ret1 hs rfl rfl (by rfl) ty_hsh (by repeat (first | exact List.Mem.head _ | apply List.Mem.tail)) ⟨rfl, hs.below⟩
theorem named_run (p : Pt) (hp : p.ok) (w : World) (hV : Vars w) : Calls Tryd.prog 136 #[.agg p.vs.toArray] w fun e w' => e = .returned (.agg (mV (nameH p)).toArray) ∧ Below w.heap.size w w' := by
  have hhl := fun u => isHole_run p hp u
  have hpv := vals_ptr hp
  have HHS : Hid (mV p.h = (p.vs.drop 0).take 32) := Pt.vs_hash hp
  have hhv := vals_mV hp.len
  have hbv := vals_mV blankH_len
  obtain ⟨bv, hbe⟩ : ∃ bv, bv = mV blankH := ⟨_, rfl⟩
  have hbl : ∀ u, Vars u → Calls Tryd.prog 95 #[] u fun e w' => e = .returned (.agg bv.toArray) ∧ Below u.heap.size u w' := fun u h => by rw [hbe]; exact mblank_run u h
  have HN : Hid (mV (nameH p) = if p.hole then bv else mV p.h) := by show _ = _; unfold nameH; cases p.hole <;> simp [hbe]
  obtain ⟨pv, hpe⟩ : ∃ pv, pv = p.vs := ⟨_, rfl⟩
  obtain ⟨hv, hhe⟩ : ∃ hv, hv = mV p.h := ⟨_, rfl⟩
  obtain ⟨ho, hoe⟩ : ∃ ho, ho = p.hole := ⟨_, rfl⟩
  rw [← hpe, ← hhe] at HHS
  rw [← hhe, ← hoe] at HN
  rw [← hhe] at hhv
  rw [← hpe] at hpv hhl ⊢
  rw [← hoe] at hhl
  rw [← hbe] at hbv
  clear hbe hpe hhe hoe
  have hs := PI.start w
  cases ho
  all_goals
    go_enter Tryd.func136, Tryd.ntmps136
    go_wp2_with (first
      | (refine sep_box hs rfl rfl (by rfl) hpv ?_; clear hs; intro w1 g1 hs)
      | (refine sep_alloc hs rfl rfl al_hsh ?_; clear hs; intro w1 g2 hs)
      | (refine sep_loadw hs rfl rfl (by rfl) (by repeat (first | exact List.Mem.head _ | apply List.Mem.tail)) ty_ptr ?_)
      | (refine sep_load hs rfl rfl (by rfl) (by repeat (first | exact List.Mem.head _ | apply List.Mem.tail)) ty_hsh HHS.out hhv.1 ?_)
      | (go_at_call 87; go_must (refine (hhl _).mono ?_); rintro e w1 ⟨rfl, hb1⟩; replace hs := hs.stays hb1; clear hb1)
      | (go_at_call 95; go_must (refine (hbl _ (hV.stays hs.below)).mono ?_); rintro e w1 ⟨rfl, hb1⟩; replace hs := hs.stays hb1; clear hb1)
      | (refine sep_storew hs rfl rfl (by rfl) (by rfl) (by repeat (first | exact Upd.head | apply Upd.tail)) ty_hsh (by first | exact hhv | exact hbv) ?_; clear hs; intro w1 hs))
    refine sep_ret1 hs rfl rfl (by rfl) ty_hsh (by repeat (first | exact List.Mem.head _ | apply List.Mem.tail)) ⟨by rw [HN.out]; rfl, hs.below⟩
section
variable {w0 w : World} {M : Nat → Prop} {k p g : Nat} {S : DS} {l : List Bool} {n kk tx : Nat}
set_option maxHeartbeats 8000000 in
theorem make_run (h : BS w0 w M k p g S l tx) (hV : Vars w0) (hg : Good n kk S) {q : Pt} {ns : List Pt} {cs : Nat → List Pt} {pl : List (List Int)} (hv : Vol S kk q ns cs pl) :
    Calls Tryd.prog 94 #[.pointer (some ⟨k, 0, none⟩), .agg q.vs.toArray] w fun e w' => e = .returned (.tuple #[.agg (mV (manOf cs)).toArray, .int .i64 0]) ∧ Below w.heap.size w w' := by
  have hvw := h.vars hV
  have hfi : ∀ i : Nat, i < 16 → ∀ u, Below w.heap.size w u → Calls Tryd.prog 74 #[.pointer (some ⟨k, 0, none⟩), .agg q.vs.toArray, .int .i64 (i : Int)] u fun e w' => e = .returned (.tuple #[.agg (nth (cs (i / 4)) (i % 4)).vs.toArray, .int .i64 0]) ∧ Below u.heap.size u w' := fun i hi u hu => by
    have h1 := h.stays hu
    have h2 : i / 4 < 4 := by omega
    have h3 := find_run h1 hV hg (i := i) hi hv.root (hv.leaf (i / 4) h2)
    exact h3
  have hok : ∀ i : Nat, i < 16 → (nth (cs (i / 4)) (i % 4)).ok := fun i hi => nth_ok (hv.leaf (i / 4) (by omega)).four.ok _
  have hnl : ∀ i : Nat, i < 16 → (nameH (nth (cs (i / 4)) (i % 4))).length = 32 := fun i hi => nameH_len (hok i hi)
  have HX : Hid ((manOf cs).length = 512 ∧ ∀ i : Nat, i < 16 → hAt (manOf cs) i = nameH (nth (cs (i / 4)) (i % 4))) := ⟨by unfold manOf; rw [manF_len hnl], fun i hi => by unfold manOf; exact manF_at hnl hi⟩
  obtain ⟨X, hX⟩ : ∃ X, X = manOf cs := ⟨_, rfl⟩
  have hqv := vals_ptr (hv.root.ok hg.klt)
  obtain ⟨qv, hqe⟩ : ∃ qv, qv = q.vs := ⟨_, rfl⟩
  rw [← hX] at HX ⊢
  rw [← hqe] at hqv hfi ⊢
  have HFI : Hid _ := hfi
  have HOK : Hid _ := hok
  have hz := al_man.2
  obtain ⟨zs, hzs⟩ : ∃ zs, zs = mV (List.replicate 512 0) := ⟨_, rfl⟩
  have hal := al_man
  rw [← hzs] at hz hal
  have HZS : Hid (zs = mV (List.replicate 512 0)) := hzs
  clear hzs hX hqe hfi hok hnl
  have hs := PI.start w
  go_enter Tryd.func94, Tryd.ntmps94
  go_wp2_with (first
    | (refine sep_box hs rfl rfl (by rfl) hqv ?_; clear hs; intro w1 gQ hs)
    | ((with_reducible show wpList _ _ _ (Oper.mk (some 4) (Op.alloc _) _ _ _ _ :: _) _ _); refine sep_alloc hs rfl rfl hal ?_; clear hs; intro w1 gR hs)
    | ((with_reducible show wpList _ _ _ (Oper.mk (some 6) (Op.alloc _) _ _ _ _ :: _) _ _); refine sep_alloc hs rfl rfl hal ?_; clear hs; intro w1 gM hs))
  go_loopw [10] (fun x wr => ∃ i : Nat, x = .int .i64 (i : Int) ∧ i ≤ 16 ∧ Sep w.heap.size (PI w) wr [⟨gM, 89, 512, mV (sofar X (i * 32))⟩, ⟨gR, 89, 512, zs⟩, ⟨gQ, 42, 35, qv⟩] []) (fun x _ => 16 - (intOf x).toNat)
  case atStart => exact ⟨0, rfl, by omega, by rw [Nat.zero_mul, sofar_zero, ← HZS.out]; exact hs⟩
  case round =>
    clear hs
    rename_i wr hrel
    obtain ⟨i, rfl, hi, hs⟩ := hrel
    by_cases hlt : i < 16
    · have hfi := HFI.out i hlt
      have hpk := HOK.out i hlt
      have hix := fun u => ix_man gM hlt u
      have HAT : Hid (hAt X i = nameH (nth (cs (i / 4)) (i % 4))) := HX.out.2 i hlt
      obtain ⟨c, hc⟩ : ∃ c, c = nth (cs (i / 4)) (i % 4) := ⟨_, rfl⟩
      rw [← hc] at hfi hpk HAT
      have hnv := vals_mV (nameH_len hpk)
      have hna := fun u hu => named_run c hpk u hu
      obtain ⟨nv, hne⟩ : ∃ nv, nv = mV (nameH c) := ⟨_, rfl⟩
      rw [← hne] at hnv hna
      have HNV : Hid (nv = mV (nameH c)) := hne
      have hcv := vals_ptr hpk
      obtain ⟨cv, hce⟩ : ∃ cv, cv = c.vs := ⟨_, rfl⟩
      rw [← hce] at hfi hcv hna
      clear hc hne hce hpk
      go_wp2_with (first
        | (go_at_call 74; go_must (refine (hfi _ hs.below).mono ?_); rintro e w1 ⟨rfl, hb1⟩; replace hs := hs.stays hb1; clear hb1)
        | (go_at_call 136; go_must (refine (hna _ (hvw.stays hs.below)).mono ?_); rintro e w1 ⟨rfl, hb1⟩; replace hs := hs.stays hb1; clear hb1)
        | (refine sep_alloc hs rfl rfl al_ptr ?_; clear hs; intro w1 gP hs)
        | (refine sep_loadw hs rfl rfl (by rfl) (by repeat (first | exact List.Mem.head _ | apply List.Mem.tail)) ty_ptr ?_)
        | (refine sep_storew hs rfl rfl (by rfl) (by rfl) (by repeat (first | exact Upd.head | apply Upd.tail)) ty_ptr hcv ?_; clear hs; intro w1 hs)
        | (refine sep_store hs rfl rfl (by rfl) (by rfl) (off := i * 32) (n := 32) (us := nv) (ws := mV (sofar X (i * 32 + 32))) (by repeat (first | exact Upd.head | apply Upd.tail)) ty_hsh hnv (by rw [sofar_step HX.out.1 (by omega), HNV.out, ← HAT.out]; unfold splice hAt mV; rw [List.append_assoc, List.length_map, List.length_take, List.length_drop, HX.out.1, Nat.min_eq_left (by omega)]) (by omega) ?_; clear hs; intro w1 hs))
      go_roundw
      case rel => exact ⟨i + 1, by go_num, by omega, by rw [Nat.add_mul, Nat.one_mul]; exact hs.drop⟩
      case measure => simp [intOf]; omega
    · obtain rfl : i = 16 := by omega
      have hsx : Sep w.heap.size (PI w) wr [⟨gM, 89, 512, mV (X)⟩, ⟨gR, 89, 512, zs⟩, ⟨gQ, 42, 35, qv⟩] [] := by have := hs; rw [show 16 * 32 = 512 from rfl, sofar_all HX.out.1] at this; exact this
      clear hs
      have hs := hsx
      clear hsx
      have hxv := vals_mV HX.out.1
      obtain ⟨mv, hmv⟩ : ∃ mv, mv = mV X := ⟨_, rfl⟩
      rw [← hmv] at hs hxv
      have HMV : Hid (mv = mV X) := hmv
      clear hmv
      go_wp2_with (first | (refine sep_loadw hs rfl rfl (by rfl) (by repeat (first | exact List.Mem.head _ | apply List.Mem.tail)) ty_man ?_) | (refine sep_storew hs rfl rfl (by rfl) (by rfl) (by repeat (first | exact Upd.head | apply Upd.tail)) ty_man (by assumption) ?_; clear hs; intro w1 hs))
      refine sep_ret2 hs rfl rfl (by rfl) (by rfl) (v := .int .i64 0) ty_man (by repeat (first | exact List.Mem.head _ | apply List.Mem.tail)) ⟨by rw [HMV.out], hs.below⟩
end
end Go.Proofs.YthbldjnpnligpaaDoor

/-
  manifest.Decode, and the document's.
-/

namespace Go.Proofs.YthbldjnpnligpaaDoor
set_option linter.unusedSimpArgs false
set_option linter.unusedVariables false
set_option maxRecDepth 100000
open Go.RowKit

set_option maxHeartbeats 8000000 in
theorem mdec_run (a : Option Addr) (c n : Nat) (xs : List Int) (w : World) (hB : Bs w a c xs) (hn : n = xs.length) :
    Calls Tryd.prog 37 #[.slice a n c] w fun e w' => e = .returned (.tuple #[.agg (mV (decM xs)).toArray, .int .i64 (decE xs)]) ∧ Below w.heap.size w w' := by
  have hz := al_man.2
  obtain ⟨zs, hzs⟩ : ∃ zs, zs = mV (List.replicate 512 0) := ⟨_, rfl⟩
  have hal := al_man
  have hbd := build_man0
  rw [← hzs] at hz hal hbd
  have HZS : Hid (zs = mV (List.replicate 512 0)) := hzs
  have hs := PI.start w
  by_cases h : n = 512
  · have HX : Hid (decM xs = xs ∧ decE xs = 0 ∧ xs.length = 512) := ⟨if_pos (by omega), if_pos (by omega), by omega⟩
    have HB : Hid (Bs w a c xs) := hB
    subst h
    clear hzs hB hn
    go_enter Tryd.func37, Tryd.ntmps37
    go_wp2_with (first
      | ((with_reducible show wpList _ _ _ (Oper.mk (some 2) (Op.alloc _) _ _ _ _ :: _) _ _); refine sep_alloc hs rfl rfl hal ?_; clear hs; intro w1 gR hs)
      | (refine sep_alloc hs rfl rfl hal ?_; clear hs; intro w1 gM hs)
      | (refine wpList_build0 (by rfl) 89 (by rfl) _ hbd ?_)
      | (refine sep_storew hs rfl rfl (by rfl) (by rfl) (by repeat (first | exact Upd.head | apply Upd.tail)) ty_man (by assumption) ?_; clear hs; intro w1 hs))
    go_loopw [10] (fun x wr => ∃ i : Nat, x = .int .i64 (i : Int) ∧ i ≤ 16 ∧ Sep w.heap.size (PI w) wr [⟨gM, 89, 512, mV (sofar xs (i * 32))⟩, ⟨gR, 89, 512, zs⟩] []) (fun x _ => 16 - (intOf x).toNat)
    case atStart => exact ⟨0, rfl, by omega, by rw [Nat.zero_mul, sofar_zero, ← HZS.out]; exact hs⟩
    case round =>
      clear hs
      rename_i wr hrel
      obtain ⟨i, rfl, hi, hs⟩ := hrel
      by_cases hlt : i < 16
      · have hix := fun u => ix_man gM hlt u
        obtain ⟨D, hD⟩ : ∃ D, D = i * 32 := ⟨_, rfl⟩
        have hD2 : D ≤ 480 := by omega
        have hDk : (i : Int) * 32 = (D : Int) := by omega
        have hwD : IntKind.i64.wrap (D : Int) = (D : Int) := by first | go_num | (rw [IntKind.wrap_i64]; omega)
        obtain ⟨a', c', hfr, hbs, hjunk⟩ := Bs.fromIn (P := Tryd.prog) w a c xs 43 5 Tryd.underlying43 (by kernel_rfl) (by kernel_rfl) D (by rw [HX.out.2.2]; omega) HB.out.cap
        rw [HX.out.2.2] at hfr
        have HBS : Hid (Bs w a' c' (xs.drop D)) := hbs _ HB.out
        have hsl := fun u => sl_hsh gM D u
        have HDD : Hid (D = i * 32) := hD
        rw [← hD] at hix hs
        clear hD hjunk hbs
        have hfr' := fun u => hfr u .i64
        clear hfr
        go_wp2
        refine UpT.wp_region_tail 7 (UpT.tell []) (fun _ => false) (by kernel_rfl) (by kernel_rfl) (UpT.tell_steady _ (fun p hp => by cases hp)) ?_
        simp only [List.take_succ_cons, List.take_zero]
        iterate 7 (apply UpT.wpUp_pure; (case hw => rfl); (case hψ => rfl); (case hv => (intro wz hp; clear hp; go_simp; try (with_reducible rfl))); simp only [Act.put, List.setIfInBounds_toArray, List.set_cons_zero, List.set_cons_succ])
        refine UpT.wpUp_end ?_
        intro w2 hb2 hf
        simp only [List.drop_succ_cons, List.drop_zero]
        replace hs := hs.stays hb2
        clear hf hb2
        go_wp2_with (refine sep_copy hs (by rfl) (by rfl) Tryd.underlying43 sizes5 (by rfl) (by rfl) (m := 32) (ys := xs.drop D) (us := mV (sofar xs (D + 32))) (by repeat (first | exact Upd.head | apply Upd.tail)) (HBS.out.stays hs.below) (by omega) (by show 32 = min _ _; omega) (by rw [List.length_drop, HX.out.2.2]; omega) (by omega) (sofar_step HX.out.2.2 (by omega)) ?_; clear hs; intro w3 hs)
        go_roundw
        case rel => exact ⟨i + 1, by go_num, by omega, by rw [Nat.add_mul, Nat.one_mul, ← HDD.out]; exact hs⟩
        case measure => simp [intOf]; omega
      · obtain rfl : i = 16 := by omega
        have hsx : Sep w.heap.size (PI w) wr [⟨gM, 89, 512, mV xs⟩, ⟨gR, 89, 512, zs⟩] [] := by have := hs; rw [show 16 * 32 = 512 from rfl, sofar_all HX.out.2.2] at this; exact this
        clear hs
        have hs := hsx
        clear hsx
        have hxv := vals_mV HX.out.2.2
        obtain ⟨mv, hmv⟩ : ∃ mv, mv = mV xs := ⟨_, rfl⟩
        rw [← hmv] at hs hxv
        have HMV : Hid (mv = mV xs) := hmv
        clear hmv
        go_wp2_with (first | (refine sep_loadw hs rfl rfl (by rfl) (by repeat (first | exact List.Mem.head _ | apply List.Mem.tail)) ty_man ?_) | (refine sep_storew hs rfl rfl (by rfl) (by rfl) (by repeat (first | exact Upd.head | apply Upd.tail)) ty_man (by assumption) ?_; clear hs; intro w1 hs))
        refine sep_ret2 hs rfl rfl (by rfl) (by rfl) (v := .int .i64 0) ty_man (by repeat (first | exact List.Mem.head _ | apply List.Mem.tail)) ⟨by rw [HX.out.1, HX.out.2.1, HMV.out], hs.below⟩
  · have HX : Hid (decM xs = List.replicate 512 0 ∧ decE xs = 3) := ⟨if_neg (by omega), if_neg (by omega)⟩
    clear hzs hB hn
    have hnz : ¬ (n : Int) = 512 := by omega
    go_enter Tryd.func37, Tryd.ntmps37
    go_wp2_with (first
      | ((with_reducible show wpList _ _ _ (Oper.mk (some 2) (Op.alloc _) _ _ _ _ :: _) _ _); refine sep_alloc hs rfl rfl hal ?_; clear hs; intro w1 gR hs)
      | (refine sep_alloc hs rfl rfl hal ?_; clear hs; intro w1 gM hs)
      | (refine wpList_build0 (by rfl) 89 (by rfl) _ hbd ?_)
      | (refine sep_storew hs rfl rfl (by rfl) (by rfl) (by repeat (first | exact Upd.head | apply Upd.tail)) ty_man (by assumption) ?_; clear hs; intro w1 hs)
      | (refine sep_loadw hs rfl rfl (by rfl) (by repeat (first | exact List.Mem.head _ | apply List.Mem.tail)) ty_man ?_))
    refine sep_ret2 hs rfl rfl (by rfl) (by rfl) (v := .int .i64 3) ty_man (by repeat (first | exact List.Mem.head _ | apply List.Mem.tail)) ⟨by rw [HX.out.1, HX.out.2, HZS.out], hs.below⟩
set_option maxHeartbeats 8000000 in
theorem rmdec_run (a : Option Addr) (c n : Nat) (xs : List Int) (w : World) (hB : Bs w a c xs) (hn : n = xs.length) :
    Calls Tryd.prog 38 #[.slice a n c] w fun e w' => e = .returned (.tuple #[.agg (mV (decM xs)).toArray, .int .i64 (decE xs)]) ∧ Below w.heap.size w w' := by
  have hz := al_man.2
  obtain ⟨zs, hzs⟩ : ∃ zs, zs = mV (List.replicate 512 0) := ⟨_, rfl⟩
  have hal := al_man
  have hbd := build_man0
  rw [← hzs] at hz hal hbd
  have HZS : Hid (zs = mV (List.replicate 512 0)) := hzs
  have hs := PI.start w
  by_cases h : n = 512
  · have HX : Hid (decM xs = xs ∧ decE xs = 0 ∧ xs.length = 512) := ⟨if_pos (by omega), if_pos (by omega), by omega⟩
    have HB : Hid (Bs w a c xs) := hB
    subst h
    clear hzs hB hn
    go_enter Tryd.func38, Tryd.ntmps38
    go_wp2_with (first
      | ((with_reducible show wpList _ _ _ (Oper.mk (some 2) (Op.alloc _) _ _ _ _ :: _) _ _); refine sep_alloc hs rfl rfl hal ?_; clear hs; intro w1 gR hs)
      | (refine sep_alloc hs rfl rfl hal ?_; clear hs; intro w1 gM hs)
      | (refine wpList_build0 (by rfl) 89 (by rfl) _ hbd ?_)
      | (refine sep_storew hs rfl rfl (by rfl) (by rfl) (by repeat (first | exact Upd.head | apply Upd.tail)) ty_man (by assumption) ?_; clear hs; intro w1 hs))
    go_loopw [5] (fun x wr => ∃ i : Nat, x = .int .i64 (i : Int) ∧ i ≤ 512 ∧ Sep w.heap.size (PI w) wr [⟨gM, 89, 512, mV (sofar xs i)⟩, ⟨gR, 89, 512, zs⟩] []) (fun x _ => 512 - (intOf x).toNat)
    case atStart => exact ⟨0, rfl, by omega, by rw [sofar_zero, ← HZS.out]; exact hs⟩
    case round =>
      clear hs
      rename_i wr hrel
      obtain ⟨i, rfl, hi, hs⟩ := hrel
      by_cases hlt : i < 512
      · have hq : Int.tdiv (i : Int) 32 = ((i / 32 : Nat) : Int) := by rw [Int.tdiv_eq_ediv_of_nonneg (by omega)]; omega
        have hr : Int.tmod (i : Int) 32 = ((i % 32 : Nat) : Int) := by rw [Int.tmod_eq_emod_of_nonneg (by omega)]; omega
        obtain ⟨q, hqe⟩ : ∃ q, q = i / 32 := ⟨_, rfl⟩
        obtain ⟨r, hre⟩ : ∃ r, r = i % 32 := ⟨_, rfl⟩
        rw [← hqe] at hq
        rw [← hre] at hr
        have hq16 : q < 16 := by omega
        have hr32 : r < 32 := by omega
        have HQR : Hid (q * 32 + r = i) := by show _ = _; omega
        have hwq : IntKind.i64.wrap (q : Int) = (q : Int) := by first | go_num | (rw [IntKind.wrap_i64]; omega)
        have hwr : IntKind.i64.wrap (r : Int) = (r : Int) := by first | go_num | (rw [IntKind.wrap_i64]; omega)
        have hix := fun u => ix_man gM hq16 u
        have hih := fun u => ix_hsh gM (q * 32) hr32 u
        obtain ⟨b, off, hab, hc⟩ := HB.out.cell (by rw [HX.out.2.2]; omega)
        subst hab
        have hib : ∀ u, (Instr.indexAt 43 (.slice (some ⟨b, off, none⟩) 512 c) (.int .i64 (i : Int))).run Tryd.prog u = .ok (.pointer (some ⟨b, off + i, none⟩)) u := fun u => by
          have := index_slice (P := Tryd.prog) 43 5 1 Tryd.underlying43 (by kernel_rfl) (by kernel_rfl) b off 512 c .i64 i hlt u
          rw [Nat.mul_one] at this
          exact this
        obtain ⟨y, hy⟩ : ∃ y, y = xs.getD i 0 := ⟨_, rfl⟩
        have HY : Hid (y = xs.getD i 0) := hy
        have hlb : ∀ wz, Below w.heap.size w wz → (Instr.loadAt 5 (.pointer (some ⟨b, off + i, none⟩))).run Tryd.prog wz = .ok (.int .u8 y) wz := fun wz hwz => by
          refine run_load_at ty1_byte ?_
          obtain ⟨b', off', h1, h2⟩ := (HB.out.stays hwz).cell (by rw [HX.out.2.2]; omega)
          cases h1
          rw [h2 i (by rw [HX.out.2.2]; omega), hy]
        clear hqe hre hc hy
        go_wp2
        refine UpT.wp_region_tail 10 (UpT.tell []) (fun _ => false) (by kernel_rfl) (by kernel_rfl) (UpT.tell_steady _ (fun p hp => by cases hp)) ?_
        simp only [List.take_succ_cons, List.take_zero]
        iterate 7 (apply UpT.wpUp_pure; (case hw => rfl); (case hψ => rfl); (case hv => (intro wz hp; clear hp; go_simp; try (with_reducible rfl))); simp only [Act.put, List.setIfInBounds_toArray, List.set_cons_zero, List.set_cons_succ])
        refine UpT.wpUp_pure (.int .u8 y) (by rfl) (by rfl) (fun wz hp => exec_load (by rfl) (by rfl) (hlb wz (below_then hs.below hp.1))) ?_
        simp only [Act.put, List.setIfInBounds_toArray, List.set_cons_zero, List.set_cons_succ]
        iterate 2 (apply UpT.wpUp_pure; (case hw => rfl); (case hψ => rfl); (case hv => (intro wz hp; clear hp; go_simp; try (with_reducible rfl))); simp only [Act.put, List.setIfInBounds_toArray, List.set_cons_zero, List.set_cons_succ])
        refine UpT.wpUp_end ?_
        intro w2 hb2 hf
        simp only [List.drop_succ_cons, List.drop_zero]
        replace hs := hs.stays hb2
        clear hf hb2 hlb
        go_wp2_with (refine sep_store1 hs rfl rfl (by rfl) (by rfl) rfl rfl (off := q * 32 + r) (ws := mV (sofar xs (i + 1))) (by repeat (first | exact Upd.head | apply Upd.tail)) ty1_byte.2 (by rw [HY.out, HQR.out]; exact sofar_next HX.out.2.2 hlt) (by have := HQR.out; omega) ?_; clear hs; intro w3 hs)
        go_roundw
        case rel => exact ⟨i + 1, by go_num, by omega, hs⟩
        case measure => simp [intOf]; omega
      · obtain rfl : i = 512 := by omega
        have hsx : Sep w.heap.size (PI w) wr [⟨gM, 89, 512, mV xs⟩, ⟨gR, 89, 512, zs⟩] [] := by have := hs; rw [sofar_all HX.out.2.2] at this; exact this
        clear hs
        have hs := hsx
        clear hsx
        have hxv := vals_mV HX.out.2.2
        obtain ⟨mv, hmv⟩ : ∃ mv, mv = mV xs := ⟨_, rfl⟩
        rw [← hmv] at hs hxv
        have HMV : Hid (mv = mV xs) := hmv
        clear hmv
        go_wp2_with (first | (refine sep_loadw hs rfl rfl (by rfl) (by repeat (first | exact List.Mem.head _ | apply List.Mem.tail)) ty_man ?_) | (refine sep_storew hs rfl rfl (by rfl) (by rfl) (by repeat (first | exact Upd.head | apply Upd.tail)) ty_man (by assumption) ?_; clear hs; intro w1 hs))
        refine sep_ret2 hs rfl rfl (by rfl) (by rfl) (v := .int .i64 0) ty_man (by repeat (first | exact List.Mem.head _ | apply List.Mem.tail)) ⟨by rw [HX.out.1, HX.out.2.1, HMV.out], hs.below⟩
  · have HX : Hid (decM xs = List.replicate 512 0 ∧ decE xs = 3) := ⟨if_neg (by omega), if_neg (by omega)⟩
    clear hzs hB hn
    have hnz : ¬ (n : Int) = 512 := by omega
    go_enter Tryd.func38, Tryd.ntmps38
    go_wp2_with (first
      | ((with_reducible show wpList _ _ _ (Oper.mk (some 2) (Op.alloc _) _ _ _ _ :: _) _ _); refine sep_alloc hs rfl rfl hal ?_; clear hs; intro w1 gR hs)
      | (refine sep_alloc hs rfl rfl hal ?_; clear hs; intro w1 gM hs)
      | (refine wpList_build0 (by rfl) 89 (by rfl) _ hbd ?_)
      | (refine sep_storew hs rfl rfl (by rfl) (by rfl) (by repeat (first | exact Upd.head | apply Upd.tail)) ty_man (by assumption) ?_; clear hs; intro w1 hs)
      | (refine sep_loadw hs rfl rfl (by rfl) (by repeat (first | exact List.Mem.head _ | apply List.Mem.tail)) ty_man ?_))
    refine sep_ret2 hs rfl rfl (by rfl) (by rfl) (v := .int .i64 3) ty_man (by repeat (first | exact List.Mem.head _ | apply List.Mem.tail)) ⟨by rw [HX.out.1, HX.out.2, HZS.out], hs.below⟩
end Go.Proofs.YthbldjnpnligpaaDoor

/-
  The live question of law 11.
-/

namespace Go.Proofs.YthbldjnpnligpaaDoor
set_option linter.unusedSimpArgs false
set_option linter.unusedVariables false
set_option maxRecDepth 100000
open Go.RowKit

theorem slB.bs {n : Nat} {xs : List Int} {b : Option Addr} {c : Nat} {w : World} (h : slB n xs (.slice b n c) w) : Bs w b c xs := by
  obtain ⟨a', c', h1, h2⟩ := h
  cases h1
  exact h2
theorem exec_make256 {a : Act} {o : Oper} {lx cx : Operand} (w : World) (ho : o.op = Op.makeSlice 43 lx cx) (hl : a.eval lx = .int .i64 256) (hc : a.eval cx = .int .i64 256) {Sx : Bool} (hS : Sx = false) : ∃ u w', (execOp a.eval o).run Tryd.prog w = .ok (.value u) w' ∧ Below w.heap.size w w' ∧ slB 256 (List.replicate 256 0) u w' ∧ (Sx = true → ∃ g, u = .pointer (some g) ∧ w.heap.size ≤ g.block ∧ g.block < w'.heap.size) := by
  have hi : (Tryd.prog.info? 5).map (fun i => (i.zero, i.size, i.bytes)) = some (some (.int .u8 0), 1, 1) := by kernel_rfl
  obtain ⟨i0, hi0, hz0, hz1, hz2⟩ := info_parts hi
  obtain ⟨w', hr, hown, hgr⟩ := run_make_full (P := Tryd.prog) w w.heap.size 43 5 i0 (.int .u8 0) 1 Tryd.underlying43 hi0 hz0 hz1 .i64 .i64 256 (by rw [hz2]; decide) (by decide) (Nat.le_refl _)
  have e2 : (madeCells (Value.int .u8 0).cells (256 * 1)).toList = (List.replicate 256 (0 : Int)).map (Value.int .u8) := by
    have e2 : (Value.int .u8 0).cells = #[.int .u8 0] := rfl
    rw [e2, Nat.mul_one, toList_madeCells_one, List.map_replicate]
  rw [e2] at hown
  obtain ⟨b, c, h1, h2⟩ := Bs.of_owns hown (fun x hx => by have := (List.mem_replicate.1 hx).2; omega)
  have hr' : (Instr.makeSlice 43 (.int .i64 256) (.int .i64 256)).run Tryd.prog w = .ok (.slice (some ⟨w.heap.size, 0, none⟩) 256 256) w' := hr
  refine ⟨.slice (some ⟨w.heap.size, 0, none⟩) 256 256, w', ?_, (Below.refl _ _).grown hgr (Nat.le_refl _) (by simp), ⟨b, c, ?_, h2⟩, fun h => by rw [hS] at h; cases h⟩
  · simp [execOp, ho, hl, hc, hr', Result.andThen]
  · rw [h1, List.length_replicate]
theorem manOf_zeros : hAt (manOf fun _ => zeros4) 3 = blankH ∧ (manOf fun _ => zeros4).length = 512 := by
  have hn : ∀ i : Nat, i < 16 → (nameH (nth ((fun _ => zeros4) (i / 4)) (i % 4))).length = 32 := fun i _ => nameH_len (nth_ok zeros4_ok _)
  refine ⟨?_, ?_⟩
  · unfold manOf
    rw [manF_at hn (by omega)]
    rfl
  · unfold manOf
    rw [manF_len hn]

set_option maxHeartbeats 16000000 in
theorem alive11_run (w : World) (hV : Vars w) : Calls Tryd.prog 36 #[] w fun e w' => e = .returned (.bool true) ∧ Below w.heap.size w w' := by
  have hnd : ∀ u, Below w.heap.size w u → Calls Tryd.prog 45 #[.int .i64 32] u fun e w' => ∃ p b, e = .returned (.tuple #[.pointer (some ⟨p, 0, none⟩), .int .i64 0]) ∧ w.heap.size ≤ b ∧ u.heap.size ≤ b ∧ Dk w' (fun j => b ≤ j) p (DS.new 32) ∧ Below u.heap.size u w' := fun u hu => by
    refine (dk_new 32 u (by omega) (by omega)).mono ?_
    rintro e w' ⟨p, rfl, hD, hb⟩
    exact ⟨p, _, rfl, hu.size, Nat.le_refl _, hD, hb⟩
  have hnm : ∀ u, Below w.heap.size w u → Calls Tryd.prog 46 #[.int .i64 32] u fun e w' => ∃ mg, e = .returned (.tuple #[.pointer (some ⟨mg, 0, none⟩), .int .i64 0]) ∧ w.heap.size ≤ mg ∧ u.heap.size ≤ mg ∧ Mp w' mg (lab 32 4) ∧ Below u.heap.size u w' := fun u hu => by
    refine (snew_run 32 (by omega) (by omega) u).mono ?_
    rintro e w' ⟨rfl, hM, hb⟩
    exact ⟨_, rfl, hu.size, Nat.le_refl _, hM, hb⟩
  have hov : ∀ (p g : Nat) (u : World), Calls Tryd.prog 47 #[.pointer (some ⟨p, 0, none⟩), .pointer (some ⟨g, 0, none⟩), .int .u32 1] u fun e w' => ∃ k, e = .returned (.pointer (some ⟨k, 0, none⟩)) ∧ u.heap.size ≤ k ∧ Blk 133 w' k (bankV p g 1) ∧ Below u.heap.size u w' := fun p g u =>
    (over_run p g 1 u).mono fun e w' hh => ⟨_, hh.1, Nat.le_refl _, hh.2.1, hh.2.2⟩
  have hg0 : Good 32 4 (DS.new 32) := Good.new (by omega) (by omega)
  have hzv := vals_ptr Pt.zero_ok
  have hmz := manOf_zeros
  obtain ⟨X, hX⟩ : ∃ X, X = manOf fun _ => zeros4 := ⟨_, rfl⟩
  rw [← hX] at hmz
  have hxv := vals_mV hmz.2
  have HX3 : Hid (mV blankH = ((mV X).drop 96).take 32) := by show _ = _; rw [← hmz.1]; exact mV_part
  obtain ⟨xv, hxe⟩ : ∃ xv, xv = mV X := ⟨_, rfl⟩
  have hmk : ∀ u N k p g, BS w u N k p g (DS.new 32) (lab 32 4) 1 → Calls Tryd.prog 94 #[.pointer (some ⟨k, 0, none⟩), .agg Pt.zero.vs.toArray] u fun e w' => e = .returned (.tuple #[.agg xv.toArray, .int .i64 0]) ∧ Below u.heap.size u w' := fun u N k p g h1 => by
    rw [hxe, hX]
    exact make_run h1 hV hg0 (Vol.new _ _)
  rw [← hxe] at hxv HX3
  have HSZ : Hid ((lab 32 4).length = (DS.new 32).laid.length / 256 ∧ Lab (lab 32 4)) := ⟨by rw [lab_len]; unfold DS.new; simp, Lab.lab (by omega)⟩
  obtain ⟨S, hS⟩ : ∃ S, S = DS.new 32 := ⟨_, rfl⟩
  obtain ⟨ml, hml⟩ : ∃ ml, ml = lab 32 4 := ⟨_, rfl⟩
  rw [← hS] at hnd HSZ hmk
  rw [← hml] at hnm HSZ hmk
  have hzs := al_man.2
  obtain ⟨zs, hze⟩ : ∃ zs, zs = mV (List.replicate 512 0) := ⟨_, rfl⟩
  have hal := al_man
  have hdn : ∀ u, Calls Tryd.prog 37 #[.slice none 0 0] u fun e w' => e = .returned (.tuple #[.agg zs.toArray, .int .i64 3]) ∧ Below u.heap.size u w' := fun u => by
    rw [hze]
    exact mdec_run none 0 0 [] u (Bs.empty u) rfl
  rw [← hze] at hzs hal
  have hbv := vals_mV blankH_len
  have heq := fun u => eq_hsh blankH_len u
  obtain ⟨bv, hbe⟩ : ∃ bv, bv = mV blankH := ⟨_, rfl⟩
  have hbl : ∀ u, Vars u → Calls Tryd.prog 95 #[] u fun e w' => e = .returned (.agg bv.toArray) ∧ Below u.heap.size u w' := fun u h => by rw [hbe]; exact mblank_run u h
  have hsum : ∀ u a c, Bs u a c (List.replicate 256 0) → Vars u → Calls Tryd.prog 96 #[.slice a 256 c] u fun e w' => e = .returned (.agg bv.toArray) ∧ Below u.heap.size u w' := fun u a c h1 h2 => by
    have := sum_run a c (List.replicate 256 0) u h1 h2 (by rw [List.length_replicate]; omega)
    rw [List.length_replicate] at this
    rw [hbe]
    exact this
  rw [← hbe] at hbv heq HX3
  have HSUM : Hid _ := hsum
  have HBL : Hid _ := hbl
  have hs := PI.start w
  clear hS hml hmz hxe hX hze hbe hg0 hsum hbl
  go_enter Tryd.func36, Tryd.ntmps36
  go_wp2_with (first
    | (go_at_call 45; go_must (refine (hnd _ hs.below).mono ?_); rintro e w1 ⟨p, b, rfl, hb0, hbu, hD, hb1⟩; obtain ⟨z, hz⟩ : ∃ z, z = w1.heap.size := ⟨_, rfl⟩; replace hs := hs.hold hb1 (F := fun j => b ≤ j ∧ j < z) (R := fun u => Dk u (fun j => b ≤ j ∧ j < z) p S) (fun j hj => ⟨Nat.le_trans hbu hj.1, hz ▸ hj.2⟩) (hD.mono (fun j hj hl => ⟨hj, hz ▸ hl⟩)) (fun u u' hR hk _ => hR.keep hk); clear hb1 hD hz hbu)
    | (go_at_call 46; go_must (refine (hnm _ hs.inv.1.1).mono ?_); rintro e w1 ⟨mg, rfl, hm0, hmu, hM, hb1⟩; have HML := hM.blk.lt; replace hs := hs.hold hb1 (F := fun j => j = mg) (R := fun u => Mp u mg ml) (fun j hj => by rw [hj]; exact ⟨hmu, HML⟩) hM (fun u u' hR hk _ => ⟨by have := hR.blk; unfold Blk at *; rw [hk _ rfl (by have := hR.blk.lt; exact this)]; exact this, hR.lo, hR.hi⟩); clear hb1 hM HML hmu)
    | (go_at_call 47; go_must (refine (hov p mg _).mono ?_); rintro e w1 ⟨k, rfl, hk1, hK, hb2⟩; have HKL := hK.lt; have hk0 : w.heap.size ≤ k := Nat.le_trans (hs.fr.size hs.inv) hk1; replace hs := hs.hold hb2 (F := fun j => j = k) (R := fun u => Blk 133 u k (bankV p mg 1)) (fun j hj => by rw [hj]; exact ⟨hk1, HKL⟩) hK (fun u u' hR hk _ => by have h1 := hR.lt; unfold Blk at *; rw [hk _ rfl h1]; exact hR); have hbs : BS w w1 (fun _ => False) k p mg S ml 1 := (by obtain ⟨⟨⟨⟨hb, hlt⟩, hD, hDl, hDn⟩, hM, hMl, hMn⟩, hK, hKl, hKn⟩ := hs.inv; exact ⟨_, ⟨hD, hM, hK, fun j hj => ⟨Nat.le_trans hb0 hj.1, hDl j hj⟩, fun h1 => hDn _ h1 (.inr rfl), fun h1 => hDn _ h1 (.inl (.inr rfl)), hm0, hk0, HSZ.out.1, HSZ.out.2, by omega⟩, hb, fun j hj => hj.elim⟩); clear hs hk1 hK hb2 HKL hk0 hb0 hm0; have hs := BI.start hbs; clear hbs)
    | (refine wpList_build0 (by rfl) 42 (by rfl) _ build_ptr0 ?_)
    | (go_at_call 94; go_must (refine (hmk _ _ _ _ _ hs.bank).mono ?_); rintro e w1 ⟨rfl, hb1⟩; replace hs := hs.stays hb1; clear hb1)
    | (go_at_call 37; go_must (refine (hdn _).mono ?_); rintro e w1 ⟨rfl, hb1⟩; replace hs := hs.stays hb1; clear hb1)
    | ((with_reducible show wpList _ _ _ (Oper.mk (some 5) (Op.alloc _) _ _ _ _ :: _) _ _); refine sep_alloc hs rfl rfl hal ?_; clear hs; intro w1 gL hs)
    | (refine sep_alloc hs rfl rfl hal ?_; clear hs; intro w1 gZ hs)
    | (refine sep_storew hs rfl rfl (by rfl) (by rfl) (by repeat (first | exact Upd.head | apply Upd.tail)) ty_man (by assumption) ?_; clear hs; intro w1 hs))
  have hvw := hs.bank.vars hV
  have hix : ∀ u, (Instr.indexAt 89 (.pointer (some ⟨gL, 0, none⟩)) (.int .i64 3)).run Tryd.prog u = .ok (.pointer (some ⟨gL, 96, none⟩)) u := fun u => ix_man gL (i := 3) (by omega) u
  have HVW : Hid (Vars _) := hvw
  clear hnd hnm hov hmk hdn hvw hal
  refine UpT.wp_region_tail 18 (UpT.tell [(5, isV (.agg bv.toArray)), (9, isV (.agg bv.toArray)), (10, slB 256 (List.replicate 256 0)), (11, isV (.agg bv.toArray))]) (fun _ => false) (by kernel_rfl) (by kernel_rfl) (UpT.tell_steady _ (by
    intro p hp
    simp only [List.mem_cons, List.not_mem_nil, or_false] at hp
    rcases hp with rfl | rfl | rfl | rfl <;> first | exact isV_steady _ | exact slB_steady _ _)) ?_
  simp only [List.take_succ_cons, List.take_zero]
  iterate 4 (apply UpT.wpUp_pure; (case hw => rfl); (case hψ => rfl); (case hv => (intro wz hp; clear hp; go_simp; try (with_reducible rfl))); simp only [Act.put, List.setIfInBounds_toArray, List.set_cons_zero, List.set_cons_succ])
  refine UpT.wpUp_pure (.agg bv.toArray) (by rfl) (by rfl) (fun wz hp => exec_load (by rfl) (by rfl) (hs.ldp (us := bv) hp.1 ty_hsh (by repeat (first | exact List.Mem.head _ | apply List.Mem.tail)) HX3.out hbv.1)) ?_
  simp only [Act.put, List.setIfInBounds_toArray, List.set_cons_zero, List.set_cons_succ]
  refine UpT.wpUp_call _ 95 #[] (by rfl) (by rfl) (by rfl) (fun wz => by go_simp) (fun wz hp => calls_isV (HBL.out wz (HVW.out.stays hp.1))) ?_
  rintro v ⟨u, _, hf⟩
  obtain rfl := hf.of 5 v _ rfl rfl
  clear hf
  simp only [Act.put, List.setIfInBounds_toArray, List.set_cons_zero, List.set_cons_succ]
  iterate 3 (apply UpT.wpUp_pure; (case hw => rfl); (case hψ => rfl); (case hv => (intro wz hp; clear hp; go_simp; try (with_reducible rfl))); simp only [Act.put, List.setIfInBounds_toArray, List.set_cons_zero, List.set_cons_succ])
  refine UpT.wpUp_call _ 95 #[] (by rfl) (by rfl) (by rfl) (fun wz => by go_simp) (fun wz hp => calls_isV (HBL.out wz (HVW.out.stays hp.1))) ?_
  rintro v ⟨u, _, hf⟩
  obtain rfl := hf.of 9 v _ rfl rfl
  clear hf
  simp only [Act.put, List.setIfInBounds_toArray, List.set_cons_zero, List.set_cons_succ]
  refine UpT.wpUp_make (slB 256 (List.replicate 256 0)) (by rfl) (by rfl) (fun wz hp => exec_make256 wz (by rfl) (by rfl) (by rfl) (by rfl)) ?_
  rintro v ⟨u, _, hf⟩
  obtain ⟨a5, c5, rfl, _⟩ := hf.of 10 v _ rfl rfl
  clear hf
  simp only [Act.put, List.setIfInBounds_toArray, List.set_cons_zero, List.set_cons_succ]
  refine UpT.wpUp_call _ 96 #[.slice a5 256 c5] (by rfl) (by rfl) (by rfl) (fun wz => by go_simp) (fun wz hp => calls_isV (HSUM.out wz a5 c5 (slB.bs (hp.2 10 _ _ (by kernel_rfl) rfl rfl)) (HVW.out.stays hp.1))) ?_
  rintro v ⟨u, _, hf⟩
  obtain rfl := hf.of 11 v _ rfl rfl
  clear hf
  simp only [Act.put, List.setIfInBounds_toArray, List.set_cons_zero, List.set_cons_succ]
  iterate 3 (apply UpT.wpUp_pure; (case hw => rfl); (case hψ => rfl); (case hv => (intro wz hp; clear hp; go_simp; try (with_reducible rfl))); simp only [Act.put, List.setIfInBounds_toArray, List.set_cons_zero, List.set_cons_succ])
  iterate 3 (apply UpT.wpUp_pure; (case hw => rfl); (case hψ => rfl); (case hv => (intro wz hp; clear hp; go_simp; try (with_reducible rfl))); simp only [Act.put, List.setIfInBounds_toArray, List.set_cons_zero, List.set_cons_succ])
  refine UpT.wpUp_end ?_
  intro w2 hb2 hf
  simp only [List.drop_succ_cons, List.drop_zero]
  replace hs := hs.stays hb2
  clear hf hb2
  go_wp2
  go_ret
  exact ⟨rfl, hs.done.1.bel⟩
end Go.Proofs.YthbldjnpnligpaaDoor
