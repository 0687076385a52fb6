/-
  ShaSum: the hash of any bytes, and its text: the statement's walk.
-/
import Derived.Test.YtolgbmljjikooaaDoorAlive
import Derived.Test.YtolgbmljjikooaaDoorArrEq
import Derived.Test.YtolgbmljjikooaaDoorRSum
import Derived.Test.YtolgbmljjikooaaDoorRText
import Derived.Test.YtolgbmljjikooaaDoorUp
import Derived.OwnWalk
namespace Go.Proofs.YtolgbmljjikooaaDoor
set_option linter.unusedSimpArgs false
set_option linter.unusedVariables false
open Go.RowKit

def isV (x : Value) : Value → World → Prop := fun v _ => v = x
theorem isV_steady (x : Value) : Up.Steady (isV x) := fun v w w' hb h => h

theorem calls_isV {f : FuncId} {args : Array Value} {w : World} {x : Value} (h : Calls Tryd.prog f args w fun e w' => e = .returned x ∧ Below w.heap.size w w') :
    Calls Tryd.prog f args w fun e w' => ∃ v, e = .returned v ∧ Below w.heap.size w w' ∧ isV x v w' := h.mono fun e w' ⟨h1, h2⟩ => ⟨_, h1, h2, rfl⟩

theorem exec_load {P : Program} {a : Act} {o : Oper} {w : World} {t : TypeId} {x : Operand} {p : Addr} {v : Value} (ho : o.op = Op.load t x) (hx : a.eval x = .pointer (some p)) (hr : (Instr.loadAt t (.pointer (some p))).run P w = .ok v w) :
    (execOp a.eval o).run P w = .ok (.value v) w := by
  unfold execOp
  simp only [ho, hx, Sem.run_bind, Sem.run_pure, Result.andThen_ok, hr]

theorem bytes_new {w : World} {e : TypeId} {base : Nat} (hb : base ≤ w.heap.size) : (w.alloc (.cells #[] e)).ownsRow base e 1 (.slice (some ⟨w.heap.size, 0, none⟩) 0 0) ([] : List Int).length (([] : List Int).map (Value.int .u8)) := by
  refine ⟨rfl, .inr ⟨w.heap.size, 0, #[], rfl, hb, ?_, Nat.le_refl _, by decide, rfl, rfl⟩⟩
  exact (Blk.newAt (e := e) (vs := []) rfl rfl : _)

theorem bytesInfo : ∃ i, Tryd.prog.info? 5 = some i ∧ i.zero = some (.int .u8 0) ∧ i.size = 1 ∧ i.bytes = 1 := ⟨_, rfl, rfl, rfl, rfl⟩

set_option maxHeartbeats 2000000 in
set_option maxRecDepth 100000 in
theorem sumlaw_walk (a : Option Addr) (c : Nat) (xs hs : List Int) (hl : hs.length = 32) (hr : ∀ x ∈ hs, 0 ≤ x ∧ x ≤ 255) (w : World) (hB : Bs w a c xs) (hV : Vars w) :
    Calls Tryd.prog 3 #[.slice a xs.length c, .agg (hs.map (Value.int .u8)).toArray] w fun e w' => e = .returned (.bool true) ∧ Below w.heap.size w w' := by
  obtain ⟨hv, hhv⟩ : ∃ hv, hv = (hs.map (Value.int .u8)).toArray := ⟨_, rfl⟩
  have ha : Below w.heap.size w (w.alloc (.cells hv 23)) := (Below.refl _ _).alloc (Nat.le_refl _) _
  have hvB : Blk 23 (w.alloc (.cells hv 23)) w.heap.size (hs.map (Value.int .u8)) := Blk.newAt rfl hhv
  have hT1 : ∀ u, Calls Tryd.prog 9 #[.agg hv] u fun e w' => e = .returned (.string (strOfNums (textOf hs))) ∧ Below u.heap.size u w' := by rw [hhv]; exact text_run hs hl hr
  have hT2 : ∀ u, Calls Tryd.prog 10 #[.agg hv] u fun e w' => e = .returned (.string (strOfNums (textOf hs))) ∧ Below u.heap.size u w' := by rw [hhv]; exact rtext_run hs hl hr
  have hlen : (hs.map (Value.int .u8)).length = 32 := by rw [List.length_map]; exact hl
  have HV : Hid (hv = (hs.map (Value.int .u8)).toArray) := hhv
  rw [← hhv]
  clear hhv
  by_cases hbig : 400 < xs.length
  · have hbig' : (400 : Int) < (xs.length : Int) := by omega
    have hcall := alive_run _ (hV.stays ha)
    clear hB hlen
    go_enter Tryd.func3, Tryd.ntmps3
    go_wp2_with (go_at_call 6; go_must (refine hcall.mono ?_); rintro e w1 ⟨rfl, hb1⟩)
    go_ret
    exact ⟨rfl, ha.trans (hb1.mono ha.size)⟩
  · have hsm : ¬ ((400 : Int) < (xs.length : Int)) := by omega
    have hB1 := hB.stays ha
    obtain ⟨i0, hi, hz0, hz1, hz2⟩ := bytesInfo
    have hs1 : (w.alloc (.cells hv 23)).heap.size = w.heap.size + 1 := by simp
    have ha2 : Below (w.heap.size + 1) (w.alloc (.cells hv 23)) ((w.alloc (.cells hv 23)).alloc (.cells #[] 5)) := by rw [← hs1]; exact (Below.refl _ _).alloc (Nat.le_refl _) _
    have hown1 : ((w.alloc (.cells hv 23)).alloc (.cells #[] 5)).ownsRow (w.heap.size + 1) 5 1 (.slice (some ⟨w.heap.size + 1, 0, none⟩) 0 0) ([] : List Int).length (([] : List Int).map (Value.int .u8)) := by
      have := bytes_new (w := w.alloc (.cells hv 23)) (e := 5) (base := w.heap.size + 1) (by simp)
      rw [hs1] at this
      exact this
    have hB2 := hB1.stays (by rw [hs1]; exact ha2)
    have hsz2 : w.heap.size + 1 ≤ ((w.alloc (.cells hv 23)).alloc (.cells #[] 5)).heap.size := by simp
    go_enter Tryd.func3, Tryd.ntmps3
    go_wp2_with (at_builtin; go_must (refine wpList_append_bytes (w0 := w.alloc (.cells hv 23)) (by rfl) (.tmp 10) (.tmp 11) 22 (by rfl) (w.heap.size + 1) 5 i0 Tryd.underlying22 hi hz0 hz1 hz2 _ [] rfl hown1 a xs.length c xs (by rfl) rfl hB2 (by simp; omega) hsz2 ha2 ?_))
    intro v' w2 hown2 hbel2
    have hown3 : w2.ownsRow (w.heap.size + 1) 5 1 v' xs.length (xs.map (Value.int .u8)) := by simpa using hown2
    obtain ⟨a2, c2, rfl, hO⟩ := Bs.of_owns hown3 hB.rng
    have hbW : Below (w.alloc (.cells hv 23)).heap.size (w.alloc (.cells hv 23)) w2 := by rw [hs1]; exact hbel2
    have hbA : Below w.heap.size w w2 := ha.trans (hbW.mono ha.size)
    have hX := hB.stays hbA
    have hV2 := hV.stays hbA
    have hvB2 := hvB.stays hbW
    obtain ⟨S, hS⟩ : ∃ S, S = ((shaOf xs).map (Value.int .u8)).toArray := ⟨_, rfl⟩
    have hc0 : Hid (∀ u : World, Below w2.heap.size w2 u → Calls Tryd.prog 6 #[] u fun e w' => ∃ v, e = .returned v ∧ Below u.heap.size u w' ∧ isV (.bool true) v w') := fun u hu => calls_isV (alive_run u (hV2.stays hu))
    have hc3 : Hid (∀ u : World, Below w2.heap.size w2 u → Calls Tryd.prog 7 #[.slice a2 xs.length c2] u fun e w' => ∃ v, e = .returned v ∧ Below u.heap.size u w' ∧ isV (.agg S) v w') := fun u hu => by rw [hS]; exact calls_isV (sum_run a2 c2 xs u (hO.stays hu) (hV2.stays hu) (by omega))
    have hc5 : Hid (∀ u : World, Below w2.heap.size w2 u → Calls Tryd.prog 8 #[.slice a xs.length c] u fun e w' => ∃ v, e = .returned v ∧ Below u.heap.size u w' ∧ isV (.agg S) v w') := fun u hu => by rw [hS]; exact calls_isV (rsum_run a c xs u (hX.stays hu) (by omega))
    obtain ⟨T, hT⟩ : ∃ T, T = strOfNums (textOf hs) := ⟨_, rfl⟩
    rw [← hT] at hT1 hT2
    have hcA : Hid (∀ u : World, Calls Tryd.prog 9 #[.agg hv] u fun e w' => ∃ v, e = .returned v ∧ Below u.heap.size u w' ∧ isV (.string T) v w') := fun u => calls_isV (hT1 u)
    have hcC : Hid (∀ u : World, Calls Tryd.prog 10 #[.agg hv] u fun e w' => ∃ v, e = .returned v ∧ Below u.heap.size u w' ∧ isV (.string T) v w') := fun u => calls_isV (hT2 u)
    have heq : ∀ u : World, (Op.equalIn 10000 23 (.agg S) (.agg S)).run Tryd.prog u = .ok true u := by rw [hS]; exact equal_same Tryd.underlying23 Tryd.underlying5 (by kernel_rfl) (shaOf xs) (shaOf_length xs)
    obtain ⟨Z, hZ⟩ : ∃ Z, Z = strOfNums xs := ⟨_, rfl⟩
    have hv1 : Hid (∀ u : World, Below w2.heap.size w2 u → (convert 22 9 (.slice a2 xs.length c2)).run Tryd.prog u = .ok (.string Z) u) := fun u hu => by rw [hZ]; exact (hO.stays hu).conv xs.length rfl 22 5 Tryd.underlying22 Tryd.underlying5 9 Tryd.underlying9
    have hv2 : Hid (∀ u : World, Below w2.heap.size w2 u → (convert 22 9 (.slice a xs.length c)).run Tryd.prog u = .ok (.string Z) u) := fun u hu => by rw [hZ]; exact (hX.stays hu).conv xs.length rfl 22 5 Tryd.underlying22 Tryd.underlying5 9 Tryd.underlying9
    have hld : Hid (∀ u : World, Below w2.heap.size w2 u → (Instr.loadAt 23 (.pointer (some ⟨w.heap.size, 0, none⟩))).run Tryd.prog u = .ok (.agg hv) u) := fun u hu => by
      rw [HV.out]
      exact run_load_blk (isAgg_array Tryd.underlying23) (sizeOf_run (by kernel_rfl)) (hvB2.stays hu) (by rw [List.drop_zero, List.take_of_length_le (by omega)]) hlen
    have HALL : Hid (Below w.heap.size w w2) := hbA
    clear hS hT hZ hT1 hT2 hX hV2 hvB2 hO hown3 hown2 hbel2 hbW hbA hB1 hB2 hown1 hB hvB ha ha2 hsz2 hs1 hi hz0 hz1 hz2 hlen hl hr hV
    go_wp2
    refine Up.wp_region_up (Up.tell [(0, isV (.bool true)), (3, isV (.agg S)), (5, isV (.agg S)), (10, isV (.string T)), (12, isV (.string T))]) (by kernel_rfl) (by kernel_rfl) (Up.tell_steady _ (by
      intro p hp
      simp only [List.mem_cons, List.not_mem_nil, or_false] at hp
      rcases hp with rfl | rfl | rfl | rfl | rfl <;> exact isV_steady _)) ?_
    refine Up.wpUp_call _ 6 #[] (by rfl) (by rfl) (fun w1 => by go_simp) (fun w1 hp => hc0.out w1 hp.1) ?_
    rintro v ⟨u, _, hf⟩
    obtain rfl := hf 0 v _ rfl rfl
    clear hf
    simp only [Act.put, List.setIfInBounds_toArray, List.set_cons_zero, List.set_cons_succ]
    repeat (first
      | (apply Up.wpUp_pure
         case hw => rfl
         case hψ => rfl
         case hv => (intro w1 hp; have hq1 := hv1.out w1 hp.1; have hq2 := hv2.out w1 hp.1; clear hp; go_simp; try (with_reducible rfl))
         simp only [Act.put, List.setIfInBounds_toArray, List.set_cons_zero, List.set_cons_succ]))
    refine Up.wpUp_call _ 7 #[.slice a2 xs.length c2] (by rfl) (by rfl) (fun w1 => by go_simp) (fun w1 hp => hc3.out w1 hp.1) ?_
    rintro v ⟨u, _, hf⟩
    obtain rfl := hf 3 v _ rfl rfl
    clear hf
    simp only [Act.put, List.setIfInBounds_toArray, List.set_cons_zero, List.set_cons_succ]
    repeat (first
      | (apply Up.wpUp_pure
         case hw => rfl
         case hψ => rfl
         case hv => (intro w1 hp; have hq1 := hv1.out w1 hp.1; have hq2 := hv2.out w1 hp.1; clear hp; go_simp; try (with_reducible rfl))
         simp only [Act.put, List.setIfInBounds_toArray, List.set_cons_zero, List.set_cons_succ]))
    refine Up.wpUp_call _ 8 #[.slice a xs.length c] (by rfl) (by rfl) (fun w1 => by go_simp) (fun w1 hp => hc5.out w1 hp.1) ?_
    rintro v ⟨u, _, hf⟩
    obtain rfl := hf 5 v _ rfl rfl
    clear hf
    simp only [Act.put, List.setIfInBounds_toArray, List.set_cons_zero, List.set_cons_succ]
    repeat (first
      | (apply Up.wpUp_pure
         case hw => rfl
         case hψ => rfl
         case hv => (intro w1 hp; have hq1 := hv1.out w1 hp.1; have hq2 := hv2.out w1 hp.1; clear hp; go_simp; try (with_reducible rfl))
         simp only [Act.put, List.setIfInBounds_toArray, List.set_cons_zero, List.set_cons_succ]))
    refine Up.wpUp_pure (.agg hv) (by rfl) (by rfl) (fun w1 hp => exec_load (t := 23) (x := .tmp 3) (p := ⟨w.heap.size, 0, none⟩) (by rfl) (by rfl) (hld.out w1 hp.1)) ?_
    simp only [Act.put, List.setIfInBounds_toArray, List.set_cons_zero, List.set_cons_succ]
    refine Up.wpUp_call _ 9 #[.agg hv] (by rfl) (by rfl) (fun w1 => by go_simp) (fun w1 hp => hcA.out w1) ?_
    rintro v ⟨u, _, hf⟩
    obtain rfl := hf 10 v _ rfl rfl
    clear hf
    simp only [Act.put, List.setIfInBounds_toArray, List.set_cons_zero, List.set_cons_succ]
    repeat (first
      | (apply Up.wpUp_pure
         case hw => rfl
         case hψ => rfl
         case hv => (intro w1 hp; have hq1 := hv1.out w1 hp.1; have hq2 := hv2.out w1 hp.1; clear hp; go_simp; try (with_reducible rfl))
         simp only [Act.put, List.setIfInBounds_toArray, List.set_cons_zero, List.set_cons_succ]))
    refine Up.wpUp_pure (.agg hv) (by rfl) (by rfl) (fun w1 hp => exec_load (t := 23) (x := .tmp 3) (p := ⟨w.heap.size, 0, none⟩) (by rfl) (by rfl) (hld.out w1 hp.1)) ?_
    simp only [Act.put, List.setIfInBounds_toArray, List.set_cons_zero, List.set_cons_succ]
    refine Up.wpUp_call _ 10 #[.agg hv] (by rfl) (by rfl) (fun w1 => by go_simp) (fun w1 hp => hcC.out w1) ?_
    rintro v ⟨u, _, hf⟩
    obtain rfl := hf 12 v _ rfl rfl
    clear hf
    simp only [Act.put, List.setIfInBounds_toArray, List.set_cons_zero, List.set_cons_succ]
    repeat (first
      | (apply Up.wpUp_pure
         case hw => rfl
         case hψ => rfl
         case hv => (intro w1 hp; have hq1 := hv1.out w1 hp.1; have hq2 := hv2.out w1 hp.1; clear hp; go_simp; try (with_reducible rfl))
         simp only [Act.put, List.setIfInBounds_toArray, List.set_cons_zero, List.set_cons_succ]))
    refine Up.wpUp_end ?_
    intro w6 hb6 _
    go_wp2
    go_ret
    exact ⟨rfl, HALL.out.trans (hb6.mono HALL.out.size)⟩
end Go.Proofs.YtolgbmljjikooaaDoor
