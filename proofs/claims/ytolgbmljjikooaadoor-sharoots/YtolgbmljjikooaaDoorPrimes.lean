/-
  The document's primes.
-/
import Derived.Test.YtolgbmljjikooaaDoorRootNums
import Derived.OwnWalk
namespace Go.Proofs.YtolgbmljjikooaaDoor
set_option linter.unusedSimpArgs false
set_option linter.unusedVariables false
open Go.RowKit

def u64s (l : List Nat) : List Value := l.map fun (n : Nat) => Value.int .u64 (n : Int)
theorem u64s_len (l : List Nat) : (u64s l).length = l.length := by simp [u64s]

/-- Numbers behind a slice. -/
def Us (w : World) (a : Option Addr) (xs : List Nat) : Prop :=
  0 < xs.length → ∃ b off, a = some ⟨b, off, none⟩ ∧ ∀ i, i < xs.length → w.cell? ⟨b, off + i, none⟩ = some (.int .u64 ((xs.getD i 0 : Nat) : Int))

theorem Us.stays {w w' : World} {a : Option Addr} {xs : List Nat} (h : Us w a xs) (hb : Below w.heap.size w w') : Us w' a xs := by
  intro hp
  obtain ⟨b, off, ha, hc⟩ := h hp
  refine ⟨b, off, ha, fun i hi => ?_⟩
  have hlt : b < w.heap.size := by
    rcases Nat.lt_or_ge b w.heap.size with h' | h'
    · exact h'
    · have := hc 0 hp
      simp [World.cell?, Array.getElem?_eq_none h'] at this
  exact (hb.cell (show (⟨b, off + i, none⟩ : Addr).block < w.heap.size from hlt)).trans (hc i hi)

theorem us_of_owns {w : World} {base : Nat} {e : TypeId} {v : Value} {n : Nat} {l : List Nat} (h : w.ownsRow base e 1 v n (u64s l)) : ∃ a c, v = .slice a l.length c ∧ Us w a l := by
  have hl : l.length = n := by have := h.1; rw [u64s_len] at this; omega
  rcases h.2 with ⟨rfl, h0⟩ | ⟨g, cap, cur, rfl, _, hg, hc, _, hs, ht⟩
  · have : l = [] := List.eq_nil_of_length_eq_zero (by omega)
    subst this
    exact ⟨none, 0, rfl, fun hp => absurd hp (by simp)⟩
  · refine ⟨_, cap, by rw [hl], fun hp => ⟨g, 0, rfl, fun i hi => ?_⟩⟩
    rw [Nat.zero_add]
    have h1 : w.cell? ⟨g, i, none⟩ = cur[i]? := by simp [World.cell?, hg]
    rw [h1]
    have h2 : (cur.toList.take (n * 1))[i]? = (u64s l)[i]? := by rw [ht]
    unfold u64s at h2
    rw [List.getElem?_take, if_pos (by omega), List.getElem?_map, List.getElem?_eq_getElem hi] at h2
    rw [List.getD_eq_getElem?_getD, List.getElem?_eq_getElem hi]
    simpa using h2

theorem u64_new {w : World} {e : TypeId} {base : Nat} (hb : base ≤ w.heap.size) : (w.alloc (.cells #[] e)).ownsRow base e 1 (.slice (some ⟨w.heap.size, 0, none⟩) 0 0) ([] : List Nat).length (u64s []) := by
  refine ⟨rfl, .inr ⟨w.heap.size, 0, #[], rfl, hb, ?_, Nat.le_refl _, by decide, rfl, rfl⟩⟩
  exact (Blk.newAt (e := e) (vs := []) rfl rfl : _)

theorem u64_stays {w w' : World} {base : Nat} {e : TypeId} {v : Value} {n : Nat} {xs : List Value} (h : w.ownsRow base e 1 v n xs) (hb : Below w.heap.size w w') : w'.ownsRow base e 1 v n xs := by
  refine ⟨h.1, ?_⟩
  rcases h.2 with h0 | ⟨g, cap, cur, h1, h2, h3, h4⟩
  · exact .inl h0
  · refine .inr ⟨g, cap, cur, h1, h2, ?_, h4⟩
    rw [hb.block g ?_]
    · exact h3
    · rcases Nat.lt_or_ge g w.heap.size with h' | h'
      · exact h'
      · rw [Array.getElem?_eq_none h'] at h3
        simp at h3

theorem u64Info : ∃ i, Tryd.prog.info? 46 = some i ∧ i.zero = some (.int .u64 0) ∧ i.size = 1 ∧ i.bytes = 8 := ⟨_, rfl, rfl, rfl, rfl⟩

theorem wpList_append_u64 {P : Program} {w w0 : World} {ops : Array Oper} {rest : List Oper} {o : Oper} {a : Act} {Q : Exit → Act → World → Prop} (hgd : o.guard = none) (s x : Operand) (t : TypeId)
    (ho : o.op = .call { callee := .builtin .append, args := #[s, x], argTypes := #[t, t] })
    (base : Nat) (e : TypeId) (i : TypeInfo) (ht : P.underlying t = some (.slice e)) (hi : P.info? e = some i) (hz : i.zero = some (.int .u64 0)) (hsize : i.size = 1) (hby : i.bytes = 8)
    (v : Value) (xs : List Nat) (hs : a.eval s = v) (hown : w.ownsRow base e 1 v xs.length (u64s xs))
    (b c : Nat) (y : Nat) (hx : a.eval x = .slice (some ⟨b, 0, none⟩) 1 c) (hB : w.cell? ⟨b, 0, none⟩ = some (.int .u64 (y : Int)))
    (hlen : xs.length ≤ 1000000) (hbase : base ≤ w.heap.size) (hb : Below base w0 w)
    (h : ∀ v' w', w'.ownsRow base e 1 v' (xs ++ [y]).length (u64s (xs ++ [y])) → Below base w0 w' → wpList P ops Q rest (a.put o.dst v') w') : wpList P ops Q (o :: rest) a w := by
  refine wpList_append_own _ hgd s x t ho base e i (.int .u64 0) 1 8 ht hi hz hsize hby rfl (by decide) v xs.length (u64s xs) hs hown ⟨b, 0, none⟩ 1 c [.int .u64 (y : Int)] hx (by simp) ?_ (by simp [Value.oneCell']) ?_ ?_ hbase ?_
  · intro j u hj
    cases j with
    | zero =>
      simp at hj
      subst hj
      exact hB
    | succ j => simp at hj
  · unfold maxLen; omega
  · omega
  · intro v' w' h1 h2 _
    exact h v' w' (by simpa [u64s] using h1) (owns_below hown hb hbase h2)

theorem pl_len_le (k : Nat) : (pl k).length ≤ (pl (k + 1)).length := by
  show _ ≤ (pStep (pl k) (k + 2)).length
  unfold pStep
  split <;> simp
theorem pl_mono : ∀ (d k : Nat), (pl k).length ≤ (pl (k + d)).length
  | 0, _ => Nat.le_refl _
  | d + 1, k => Nat.le_trans (pl_mono d k) (pl_len_le (k + d))
theorem pl_rng : ∀ (k : Nat), ∀ q ∈ pl k, 2 ≤ q ∧ q ≤ k + 1
  | 0, q, h => by simp [pl] at h
  | k + 1, q, h => by
    have h' : q ∈ pStep (pl k) (k + 2) := h
    unfold pStep at h'
    split at h'
    · rcases List.mem_append.1 h' with h1 | h1
      · have := pl_rng k q h1; omega
      · rw [List.mem_singleton.1 h1]; omega
    · have := pl_rng k q h'; omega

theorem all_take (P : Nat → Bool) (l : List Nat) (i : Nat) (hi : i < l.length) : (l.take (i + 1)).all P = ((l.take i).all P && P (l.getD i 0)) := by
  rw [List.take_add_one, List.getElem?_eq_getElem hi, List.getD_eq_getElem?_getD, List.getElem?_eq_getElem hi, List.all_append]
  simp only [Option.toList, List.all_cons, List.all_nil, Bool.and_true, Option.getD]

set_option maxHeartbeats 4000000 in
set_option maxRecDepth 100000 in
theorem primes_run (w : World) : Calls Tryd.prog 21 #[.int .i64 64] w fun e w' => ∃ a c, e = .returned (.slice a primes64.length c) ∧ Us w' a primes64 ∧ Below w.heap.size w w' := by
  obtain ⟨i0, hi0, hz0, hs0, hy0⟩ := u64Info
  have hown0 := u64_new (w := w) (e := 46) (base := w.heap.size) (Nat.le_refl _)
  have hal : Below w.heap.size w (w.alloc (.cells #[] 46)) := (Below.refl _ _).alloc (Nat.le_refl _) _
  go_enter Tryd.func21, Tryd.ntmps21
  go_wp2
  go_loopw [3, 4] (fun v u wr => ∃ k : Nat, u = .int .u64 ((k + 2 : Nat) : Int) ∧ k ≤ 310 ∧ wr.ownsRow w.heap.size 46 1 v (pl k).length (u64s (pl k)) ∧ Below w.heap.size w wr) (fun _ u _ => 400 - (intOf u).toNat)
  case atStart => exact ⟨0, rfl, by omega, hown0, hal⟩
  case round =>
    clear hown0 hal
    rename_i hrel
    obtain ⟨k, rfl, hk, hown, hbel⟩ := hrel
    obtain ⟨a, c, rfl, hU⟩ := us_of_owns hown
    have hsr := hbel.size
    obtain ⟨p, hp⟩ : ∃ p, p = k + 2 := ⟨_, rfl⟩
    rw [← hp]
    by_cases hlt : (pl k).length < 64
    · have hk310 : k < 310 := by
        rcases Nat.lt_or_ge k 310 with h' | h'
        · exact h'
        · have : k = 310 := by omega
          rw [this, pl_310] at hlt
          simp at hlt
      have hrng := pl_rng k
      have hnext : pl (k + 1) = if (pl k).all (fun q => p % q != 0) then pl k ++ [p] else pl k := by rw [hp]; rfl
      obtain ⟨L, hL⟩ : ∃ L, L = pl k := ⟨_, rfl⟩
      rw [← hL] at hown hU hlt hrng hnext ⊢
      have HN : Hid (pl (k + 1) = (if L.all (fun q => p % q != 0) then L ++ [p] else L) ∧ p = k + 2 ∧ k < 310) := ⟨hnext, hp, hk310⟩
      have hlt' : (L.length : Int) < 64 := by omega
      have hp3 : p ≤ 400 := by omega
      clear hnext hp hL hk310 hk
      go_wp2
      go_loopw [5, 6] (fun u v wq => ∃ i : Nat, v = .int .i64 i ∧ u = .bool ((L.take i).all (fun q => p % q != 0)) ∧ i ≤ L.length ∧ wq = wr) (fun _ v _ => L.length - (intOf v).toNat)
      case atStart => exact ⟨0, rfl, rfl, by omega, rfl⟩
      case round =>
        rename_i hrel
        obtain ⟨i, rfl, rfl, hi, rfl⟩ := hrel
        by_cases hil : i < L.length
        · have hil' : (i : Int) < (L.length : Int) := by omega
          have hat := all_take (fun q => p % q != 0) L i hil
          obtain ⟨b, off, rfl, hc⟩ := hU (by omega)
          have hci := hc i hil
          have hq0 := hrng (L.getD i 0) (by rw [List.getD_eq_getElem?_getD, List.getElem?_eq_getElem hil]; exact List.getElem_mem hil)
          obtain ⟨q, hq⟩ : ∃ q, q = L.getD i 0 := ⟨_, rfl⟩
          rw [← hq] at hat hci hq0
          obtain ⟨r, hr⟩ : ∃ r, r = p % q := ⟨_, rfl⟩
          have e1 : (p : Int).tmod (q : Int) = (r : Int) := by rw [Int.tmod_eq_emod_of_nonneg (by omega), hr]; omega
          have e2 : ((q : Int) == 0) = false := by simp; omega
          have e3 : ((q : Int) = 0) = False := by simp; omega
          have hat2 : (L.take (i + 1)).all (fun q => p % q != 0) = ((L.take i).all (fun q => p % q != 0) && (r != 0)) := by rw [hr]; exact hat
          generalize hX : (L.take i).all (fun q => p % q != 0) = X at hat2 ⊢
          have HA : Hid ((L.take (i + 1)).all (fun q => p % q != 0) = (X && (r != 0))) := hat2
          clear hat hat2 hX hq hr hc
          cases X with
          | false =>
            go_wp2
            go_roundw
            case rel => exact ⟨i + 1, by go_num, by rw [HA.out]; rfl, by omega, trivial⟩
            case measure => simp [intOf]; omega
          | true =>
            by_cases hr0 : r = 0
            · subst hr0
              go_wp2
              go_roundw
              case rel => exact ⟨i + 1, by go_num, by rw [HA.out]; rfl, by omega, trivial⟩
              case measure => simp [intOf]; omega
            · have hn1 : ((r : Int) != 0) = true := by simp; omega
              have hn2 : ((r : Int) == 0) = false := by simp; omega
              have hn3 : ((r : Int) = 0) = False := by simp; omega
              have hn4 : (r != 0) = true := by simp; omega
              have HA2 : Hid ((L.take (i + 1)).all (fun q => p % q != 0) = true) := by show _ = _; rw [HA.out, hn4]; rfl
              clear hr0 hn4
              go_wp2
              go_roundw
              case rel => exact ⟨i + 1, by go_num, by rw [HA2.out], by omega, trivial⟩
              case measure => simp [intOf]; omega
        · have hil' : ¬ ((i : Int) < (L.length : Int)) := by omega
          have htk : L.take i = L := List.take_of_length_le (by omega)
          rw [htk]
          have HN2 : Hid (pl (k + 1) = (if L.all (fun q => p % q != 0) then L ++ [p] else L)) := HN.out.1
          generalize hX : L.all (fun q => p % q != 0) = X at HN2 ⊢
          clear hX htk
          have hpw : (p : Int) + 1 ≤ 1000 := by omega
          cases X with
          | false =>
            go_wp2
            go_roundw
            case rel => exact ⟨k + 1, by have := HN.out.2.1; rw [this]; go_num, by have := HN.out.2.2; omega, by rw [HN2.out]; exact hown, hbel⟩
            case measure => have := HN.out.2; simp [intOf]; omega
          | true =>
            have hcn : (wr.alloc (.cells #[.int .u64 (p : Int)] 46)).cell? ⟨wr.heap.size, 0, none⟩ = some (.int .u64 (p : Int)) := (Blk.newAt (e := 46) (vs := [.int .u64 (p : Int)]) rfl rfl).cell 0
            have hown1 := u64_stays hown ((Below.refl wr.heap.size wr).alloc (Nat.le_refl _) (.cells #[.int .u64 (p : Int)] 46))
            have hbel2 := hbel.alloc (by omega) (.cells #[.int .u64 (p : Int)] 46)
            have hsz2 : w.heap.size ≤ (wr.alloc (.cells #[.int .u64 (p : Int)] 46)).heap.size := by simp; omega
            go_wp2_with (at_builtin; go_must (refine wpList_append_u64 (w0 := w) (by rfl) (.tmp 31) (.tmp 33) 43 (by rfl) w.heap.size 46 i0 Tryd.underlying43 hi0 hz0 hs0 hy0 _ L rfl hown1 wr.heap.size 1 p (by rfl) hcn (by omega) hsz2 hbel2 ?_))
            intro v' w2 hown2 hbel3
            go_wp2
            go_roundw
            case rel => exact ⟨k + 1, by have := HN.out.2.1; rw [this]; go_num, by have := HN.out.2.2; omega, by rw [HN2.out]; simpa using hown2, hbel3⟩
            case measure => have := HN.out.2; simp [intOf]; omega
    · have hk310 : k = 310 := by
        rcases Nat.lt_or_ge k 310 with h' | h'
        · have h1 := pl_mono (309 - k) k
          rw [show k + (309 - k) = 309 by omega, pl_309] at h1
          omega
        · omega
      subst hk310
      have hlt' : ¬ (((pl 310).length : Int) < 64) := by omega
      have hL : pl 310 = primes64 := pl_310
      rw [hL] at hU hlt' hown ⊢
      go_wp2
      go_ret
      exact ⟨a, ⟨c, rfl⟩, hU, hbel⟩
end Go.Proofs.YtolgbmljjikooaaDoor
