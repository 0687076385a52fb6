/-
  The walk over the document's Encode.
-/
import Derived.Test.YteocmmmnfbabaaaDoorPtrMid
import Derived.Test.YteocmmmnfbabaaaDoorNumRWhole
namespace Go.Proofs.YteocmmmnfbabaaaDoor
set_option linter.unusedSimpArgs false
set_option linter.unusedVariables false
open Go.RowKit

theorem rput32_at (a : Option Addr) (c l m : Nat) (xs : List Int) (n : Nat) (hn : n < 4294967296) (w : World) (hl : l = xs.length) (hm : m = l + 4) (hB : Bs w a c xs) (hlen : xs.length ≤ 100000) :
    Calls Tryd.prog 38 #[.slice a l c, .int .u32 (n : Int)] w fun e w' => ∃ a' c', e = .returned (.slice a' m c') ∧ Bs w' a' c' (xs ++ b32 n) ∧ Below w.heap.size w w' := by
  refine (rput32_bs a c l xs n n rfl hn w (xs ++ b32 n) rfl hl hB hlen).mono ?_
  rintro e w' ⟨a', c', rfl, h1, h2⟩
  exact ⟨a', c', by rw [List.length_append, b32_len, hm, hl], h1, h2⟩

set_option maxHeartbeats 1000000 in
set_option maxRecDepth 100000 in
theorem rencode_run (p : Pt) (hp : p.ok) (w : World) : Calls Tryd.prog 39 #[.agg p.vs.toArray] w fun e w' => ∃ a c, e = .returned (.slice a 44 c) ∧ Bs w' a c p.enc ∧ Below w.heap.size w w' := by
  obtain ⟨i0, hi, hz0, hz1, hz2⟩ := info_parts Tryd.info5
  have hlen : p.h.length = 32 := hp.len
  have hvl := Pt.vs_len hp
  have hx := hp.x
  have hy := hp.y
  have hbb := hp.b
  have hl1 : (p.h ++ b32 p.b).length = 36 := by rw [List.length_append, hlen]; rfl
  have hl2 : ((p.h ++ b32 p.b) ++ b32 p.x).length = 40 := by rw [List.length_append, hl1]; rfl
  have HE : Hid (p.enc = ((p.h ++ b32 p.b) ++ b32 p.x) ++ b32 p.y) := by show _ = _; unfold Pt.enc; simp
  have hPB : ∀ u g, Blk 26 u g p.vs → Bs u (some ⟨g, 0, none⟩) 32 p.h := fun u g hP => by
    refine ⟨hp.rng, by omega, by decide, by simp, .inr ⟨_, 0, rfl, fun i hi => ?_⟩⟩
    rw [hP.cell]
    have := Pt.vs_hash hp
    simp only [List.drop_zero] at this
    have h2 : p.vs[0 + i]? = (p.vs.take 32)[i]? := by rw [Nat.zero_add, List.getElem?_take_of_lt (by omega)]
    rw [h2, ← this]
    simp [List.getD, hi]
  have HPB : Hid (∀ u g, Blk 26 u g p.vs → Bs u (some ⟨g, 0, none⟩) 32 p.h) := hPB
  have HCB : Hid (∀ u g, Blk 26 u g p.vs → u.cell? ⟨g, 32, none⟩ = some (.int .u32 (p.b : Int)) ∧ u.cell? ⟨g, 33, none⟩ = some (.int .u32 (p.x : Int)) ∧ u.cell? ⟨g, 34, none⟩ = some (.int .u32 (p.y : Int))) := fun u g hP => ⟨(hP.cell 32).trans (Pt.vs_birth hp), (hP.cell 33).trans (Pt.vs_x hp), (hP.cell 34).trans (Pt.vs_y hp)⟩
  clear hPB hp
  go_enter Tryd.func39, Tryd.ntmps39
  go_wp2_with (first
    | (refine wpList_box0 (by rfl) 26 (.tmp 0) (by rfl) p.vs (by rfl) ?_; intro w1 hP1 hb1 hs1)
    | (at_builtin; go_must (refine wpList_append_bytes (w0 := w1) (by rfl) (.tmp 4) (.tmp 6) 27 (by rfl) w1.heap.size 5 i0 Tryd.underlying27 hi hz0 hz1 hz2 _ [] (by rfl) (by rw [← hs1]; exact World.ownsRow_made w1 #[] 0 (Nat.le_refl _) (by decide) rfl) (some ⟨w.heap.size, 0, none⟩) 32 32 p.h (by rfl) hlen.symm (HPB.out _ _ (hP1.alloc _)) (by simp; omega) (by simp) ((Below.refl _ _).alloc (Nat.le_refl _) _) ?_); rw [List.nil_append]; intro v1 w2 hown2 hb2
       obtain ⟨a2, c2, rfl, hB2⟩ := Bs.of_owns hown2 (HPB.out _ _ hP1).rng
       have hP2 := hP1.stays hb2
       obtain ⟨q1, q2, q3⟩ := HCB.out _ _ hP2
       rw [hlen]
       have hc3 := rput32_at a2 c2 32 36 p.h p.b hbb w2 hlen.symm rfl hB2 (by omega))
    | (go_at_call_of 38 (Value.slice a2 32 c2); go_must (refine hc3.mono ?_); rintro e w3 ⟨a3, c3, rfl, hB3, hb3⟩
       have hP3 := hP2.stays hb3; obtain ⟨r1, r2, r3⟩ := HCB.out _ _ hP3
       have hc4 := rput32_at a3 c3 36 40 _ p.x hx w3 hl1.symm rfl hB3 (by omega))
    | (go_at_call_of 38 (Value.slice a3 36 c3); go_must (refine hc4.mono ?_); rintro e w4 ⟨a4, c4, rfl, hB4, hb4⟩
       have hP4 := hP3.stays hb4; obtain ⟨s1, s2, s3⟩ := HCB.out _ _ hP4
       have hc5 := rput32_at a4 c4 40 44 _ p.y hy w4 hl2.symm rfl hB4 (by omega))
    | (go_at_call_of 38 (Value.slice a4 40 c4); go_must (refine hc5.mono ?_); rintro e w5 ⟨a5, c5, rfl, hB5, hb5⟩))
  go_ret
  refine ⟨a5, c5, rfl, by rw [HE.out]; exact hB5, ?_⟩
  exact below_then (below_then (below_then (below_then hb1 hb2) hb3) hb4) hb5

end Go.Proofs.YteocmmmnfbabaaaDoor
