/-
  The walks over the document's Node and Read.
-/
import Derived.Test.YtobfegmkjiggdaaPRDec
import Derived.Test.YtobfegmkjiggdaaPWOnly
namespace Go.Proofs.Ytobfegmkjiggdaa
set_option linter.unusedSimpArgs false
set_option linter.unusedVariables false
open Go.RowKit

def lenOf : Value → Nat
  | .slice _ n _ => n
  | _ => 0

theorem owns_keep {w w' : World} {base : Nat} {e : TypeId} {s : Nat} {v : Value} {n : Nat} {xs : List Value} (h : w.ownsRow base e s v n xs) (hk : ∀ k, v.ownBlock = some k → w'.heap[k]? = w.heap[k]?) : w'.ownsRow base e s v n xs := by
  obtain ⟨h1, h2⟩ := h
  refine ⟨h1, ?_⟩
  rcases h2 with h2 | ⟨g, cap, cur, rfl, hb, hh, rest⟩
  · exact .inl h2
  · exact .inr ⟨g, cap, cur, rfl, hb, by rw [hk g rfl]; exact hh, rest⟩

theorem owns_stays {w w' : World} {base : Nat} {e : TypeId} {s : Nat} {v : Value} {n : Nat} {xs : List Value} (h : w.ownsRow base e s v n xs) (hb : Below w.heap.size w w') : w'.ownsRow base e s v n xs :=
  owns_keep h (fun k e => hb.block k (h.lt k e).2)

set_option maxHeartbeats 1000000 in
set_option maxRecDepth 100000 in
theorem rnode_run (l : List Pt) (hl : ∀ p ∈ l, p.ok) (h4 : l.length = 4) (w : World) : Calls Try.prog 22 #[.agg (fourV l).toArray] w fun e w' => ∃ a c, e = .returned (.slice a 256 c) ∧ Bs w' a c (nodeL l) ∧ Below w.heap.size w w' := by
  obtain ⟨i0, hi, hz0, hz1, hz2⟩ := info_parts Try.info5
  have hfl : (fourV l).length = 140 := by rw [fourV_len hl, h4]
  obtain ⟨fv, hfv⟩ : ∃ fv, fv = fourV l := ⟨_, rfl⟩
  have HPT : Hid (∀ k : Nat, k < 4 → (nth l k).vs = (fv.drop (k * 35)).take 35) := fun k hk => by rw [hfv]; exact four_part hl (by omega)
  rw [← hfv] at hfl ⊢
  clear hfv
  go_enter Try.func22, Try.ntmps22
  go_wp2_with (first
    | (refine wpList_box0 (by rfl) 36 (.tmp 0) (by rfl) fv (by rfl) ?_; intro w1 hF1 hb1 hs1))
  go_loopw [3, 4] (fun v i wr => ∃ k : Nat, k ≤ 4 ∧ i = .int .i64 k ∧ wr.ownsRow (w.heap.size + 1) 5 1 v (encs (l.take k)).length ((encs (l.take k)).map (Value.int .u8)) ∧ Below (w.heap.size + 1) w1 wr) (fun _ i _ => 4 - (intOf i).toNat)
  case atStart => exact ⟨0, by omega, rfl, by rw [← hs1]; exact World.ownsRow_made w1 #[] 0 (Nat.le_refl _) (by decide) rfl, by rw [← hs1]; exact (Below.refl _ _).alloc (Nat.le_refl _) _⟩
  case round =>
    rename_i hrel
    obtain ⟨k, hk, rfl, hown, hbr⟩ := hrel
    have hsz := hbr.size
    have hF : Blk 36 _ w.heap.size fv := hF1.stays (by rw [hs1]; exact hbr)
    by_cases hlt : k < 4
    · obtain ⟨p, hp⟩ : ∃ p, p = nth l k := ⟨_, rfl⟩
      have hok : p.ok := hp ▸ nth_ok hl k
      have hpt := HPT.out k hlt
      have hvl := Pt.vs_len hok
      have hel := Pt.enc_len hok
      have HT : Hid (encs (l.take (k + 1)) = encs (l.take k) ++ p.enc) := by rw [hp]; exact node_step hl (by omega)
      have HD : Hid ((encs (l.take k)).length = 44 * k) := encs_take_len hl (by omega)
      have hix : ∀ u : World, (Instr.indexAt 36 (.pointer (some ⟨w.heap.size, 0, none⟩)) (.int .i64 (k : Int))).run Try.prog u = .ok (.pointer (some ⟨w.heap.size, k * 35, none⟩)) u := fun u => by
        have := index_ptr (P := Try.prog) (g := w.heap.size) (off := 0) (K := .i64) Try.underlying36 sizes26 hlt u
        rw [Nat.zero_add] at this
        exact this
      rw [← hp] at hpt
      have HP : Hid (p.vs = (fv.drop (k * 35)).take 35) := hpt
      have HEN : Hid (∀ u, Calls Try.prog 10 #[.agg p.vs.toArray] u fun e w' => ∃ a c, e = .returned (.slice a 44 c) ∧ Bs w' a c p.enc ∧ Below u.heap.size u w') := rencode_run p hok
      obtain ⟨D, hD⟩ : ∃ D, D = encs (l.take k) := ⟨_, rfl⟩
      rw [← hD] at hown HT HD
      have hDl : D.length ≤ 176 := by have := HD.out; omega
      clear hp hpt hD HD
      go_wp2_with (first
        | (refine wpList_load_blk (by rfl) (.tmp 12) 26 (by rfl) _ (k * 35) 35 (by rfl) agg_ptr size_ptr hF _ HP.out hvl ?_)
        | (go_at_call 10; go_must (refine (HEN.out _).mono ?_); rintro e w3 ⟨a3, c3, rfl, hB3, hb3⟩; have hown3 := owns_stays hown hb3; have hX3 := hbr.trans (hb3.mono (by have := hbr.size; omega)))
        | (at_builtin; go_must (refine wpList_append_bytes (w0 := w1) (by rfl) (.tmp 10) (.tmp 14) 30 (by rfl) (w.heap.size + 1) 5 i0 Try.underlying30 hi hz0 hz1 hz2 _ D (by rfl) hown3 a3 44 c3 p.enc (by rfl) hel.symm hB3 (by omega) (by have := hb3.size; omega) hX3 ?_); intro v5 w5 hown5 hb5))
      go_roundw
      case rel => exact ⟨k + 1, by omega, by go_num, by rw [HT.out]; exact hown5, hb5⟩
      case measure => simp [intOf]; omega
    · have hk4 : k = 4 := by omega
      subst hk4
      rw [List.take_of_length_le (by omega)] at hown
      have hen := encs_len hl
      rw [h4] at hen
      have her := encs_rng hl
      obtain ⟨D, hD⟩ : ∃ D, D = encs l := ⟨_, rfl⟩
      rw [← hD] at hown hen her
      have HD : Hid (D = encs l) := hD
      have hDl : D.length = 176 := hen
      clear hD hen
      go_wp2
      go_loopw [3] (fun v wr => ∃ m : Nat, m ≤ 80 ∧ wr.ownsRow (w.heap.size + 1) 5 1 v (D ++ List.replicate m 0).length ((D ++ List.replicate m 0).map (Value.int .u8)) ∧ Below (w.heap.size + 1) w1 wr) (fun v _ => 256 - lenOf v)
      case atStart => exact ⟨0, by omega, by simpa using hown, hbr⟩
      case round =>
        rename_i hrel
        obtain ⟨m, hm, hown2, hbr2⟩ := hrel
        clear hown hbr hF
        have hrg : ∀ x ∈ D ++ List.replicate m (0 : Int), 0 ≤ x ∧ x ≤ 255 := by
          intro x hx
          rcases List.mem_append.1 hx with hx | hx
          · exact her x hx
          · rw [List.mem_replicate] at hx; omega
        have hlen : (D ++ List.replicate m (0 : Int)).length = 176 + m := by simp; omega
        obtain ⟨X, hX⟩ : ∃ X, X = D ++ List.replicate m (0 : Int) := ⟨_, rfl⟩
        rw [← hX] at hown2 hrg hlen
        have HX : Hid (X = D ++ List.replicate m (0 : Int)) := hX
        have HL : Hid (X.length = 176 + m) := hlen
        clear hX hlen
        obtain ⟨a2, c2, rfl, hB2⟩ := Bs.of_owns hown2 hrg
        have hsz2 := hbr2.size
        by_cases hlt2 : m < 80
        · have hlt' : (X.length : Int) < 256 := by have := HL.out; omega
          have hlX : X.length ≤ 256 := by omega
          go_wp2_with (at_builtin; go_must (refine wpList_append_bytes (w0 := w1) (by rfl) (.tmp 19) (.tmp 20) 30 (by rfl) (w.heap.size + 1) 5 i0 Try.underlying30 hi hz0 hz1 hz2 _ X (by rfl) (hown2.alloc _) _ 1 1 [0] (by rfl) (by rfl) (Bs.one _ 0 ⟨by omega, by omega⟩ _) (by simp; omega) (by simp; omega) (hbr2.alloc (by omega) _) ?_); intro v5 w5 hown5 hb5)
          have hlv : lenOf v5 = X.length + 1 := by
            obtain ⟨a5, c5, h5, _⟩ := Bs.of_owns hown5 (fun x hx => by
              rcases List.mem_append.1 hx with hx | hx
              · exact hrg x hx
              · rw [List.mem_singleton.1 hx]; omega)
            rw [h5]; simp [lenOf]
          go_roundw
          case rel => exact ⟨v5, _, _, _, _, _, _, ⟨m + 1, by omega, by
            have : D ++ List.replicate (m + 1) (0 : Int) = X ++ [0] := by rw [HX.out, List.replicate_succ']; simp
            rw [this]; exact hown5, hb5⟩, rfl⟩
          case measure =>
            show 256 - lenOf v5 < 256 - lenOf (Value.slice a2 X.length c2)
            rw [hlv]; simp only [lenOf]; omega
        · have hlt' : ¬ (X.length : Int) < 256 := by have := HL.out; omega
          have hm80 : m = 80 := by omega
          have hXn : X = nodeL l := by rw [HX.out, hm80, HD.out]; rfl
          have hX256 : X.length = 256 := by have := HL.out; omega
          have HBX : Hid (Bs _ a2 c2 (nodeL l)) := hXn ▸ hB2
          have HX2 : Hid (X.length = 256) := hX256
          have hfin : Below w.heap.size w _ := hb1.trans (hbr2.mono (by omega))
          clear hB2 hown2 hXn hX256
          go_wp2
          go_ret
          exact ⟨a2, c2, by rw [HX2.out]; rfl, HBX.out, hfin⟩
end Go.Proofs.Ytobfegmkjiggdaa
