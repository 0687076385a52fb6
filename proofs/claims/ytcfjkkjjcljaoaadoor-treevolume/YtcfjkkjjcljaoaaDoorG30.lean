/-
  Sectors given back behind a write that failed; what a bank's number of copies tells; plain data, no function here.
-/
import Derived.Test.YtcfjkkjjcljaoaaDoorG29
namespace Go.Proofs.YtcfjkkjjcljaoaaDoor
set_option linter.unusedSimpArgs false
set_option linter.unusedVariables false
set_option maxRecDepth 100000
open Go.RowKit

/-- Given back, one behind the other. -/
def giveAll (l : List Bool) (o : List Nat) : List Bool := o.foldl (fun l i => (giveL l i).1) l
theorem giveAll_more (l : List Bool) (o : List Nat) (i : Nat) : giveAll l (o ++ [i]) = (giveL (giveAll l o) i).1 := by
  unfold giveAll; rw [List.foldl_append]; rfl
theorem giveAll_len (o : List Nat) : ∀ l, (giveAll l o).length = l.length := by
  induction o with
  | nil => intro l; rfl
  | cons k o ih => intro l; show (giveAll _ o).length = _; rw [ih]; exact giveL_len l k
theorem giveL_at {l : List Bool} (i j : Nat) (hj : j < l.length) : (giveL l i).1.getD j false = if i = j ∧ 4 ≤ i then false else l.getD j false := by
  unfold giveL
  by_cases h : i < l.length ∧ 4 ≤ i ∧ l.getD i false = true
  · rw [if_pos h]
    simp only
    rw [getD_set _ _ _ _ h.1]
    by_cases e : i = j
    · rw [if_pos e, if_pos ⟨e, h.2.1⟩]
    · rw [if_neg e, if_neg (fun x => e x.1)]
  · rw [if_neg h]
    by_cases e : i = j ∧ 4 ≤ i
    · rw [if_pos e]
      obtain ⟨rfl, e4⟩ := e
      cases hx : l.getD i false
      · rfl
      · exact absurd ⟨hj, e4, hx⟩ h
    · rw [if_neg e]
theorem giveAll_at (o : List Nat) : ∀ (l : List Bool) (j : Nat), j < l.length → (giveAll l o).getD j false = if j ∈ o ∧ 4 ≤ j then false else l.getD j false := by
  induction o with
  | nil => intro l j hj; simp [giveAll]
  | cons k o ih =>
    intro l j hj
    show (giveAll (giveL l k).1 o).getD j false = _
    rw [ih _ j (by rw [giveL_len]; exact hj), giveL_at k j hj]
    by_cases h1 : j ∈ o ∧ 4 ≤ j
    · rw [if_pos h1, if_pos ⟨List.mem_cons_of_mem _ h1.1, h1.2⟩]
    · rw [if_neg h1]
      by_cases h2 : k = j ∧ 4 ≤ k
      · rw [if_pos h2, if_pos ⟨by rw [h2.1]; exact List.mem_cons_self, by omega⟩]
      · rw [if_neg h2, if_neg]
        rintro ⟨h3, h4⟩
        rcases List.mem_cons.1 h3 with h5 | h5
        · exact h2 ⟨h5.symm, by omega⟩
        · exact h1 ⟨h5, h4⟩
theorem Lab.giveAll {l : List Bool} (h : Lab l) (h4 : 4 ≤ l.length) (o : List Nat) : Lab (giveAll l o) := fun i hi => by
  rw [giveAll_at _ _ _ (by omega), if_neg (by omega)]; exact h i hi
/-- What was taken and is given back: as before. -/
theorem giveAll_take {l : List Bool} (h : Lab l) (k : Int) : giveAll (takeL l k).1 (takeL l k).2.1 = l := by
  unfold takeL
  split
  · rfl
  · split
    · rfl
    · refine List.ext_getElem (by rw [giveAll_len, setAll_len]) fun j h1 h2 => ?_
      have hj : j < l.length := h2
      have hg := giveAll_at ((Fr l l.length).take k.toNat) (setAll l ((Fr l l.length).take k.toNat)) j (by rw [setAll_len]; exact hj)
      rw [setAll_at _ _ _ hj] at hg
      have e1 : ∀ (xs : List Bool) (hx : j < xs.length), xs.getD j false = xs[j] := fun xs hx => by simp [List.getD, hx]
      rw [e1 _ h1, e1 _ h2] at hg
      rw [hg]
      by_cases hm : j ∈ (Fr l l.length).take k.toNat
      · have hf := (Fr_mem.1 (List.mem_of_mem_take hm)).2
        rw [e1 _ h2] at hf
        have h4 : 4 ≤ j := by
          rcases Nat.lt_or_ge j 4 with h5 | h5
          · have := h j h5; rw [e1 _ h2, hf] at this; cases this
          · exact h5
        rw [if_pos ⟨hm, h4⟩, hf]
      · rw [if_neg (fun x => hm x.1)]
        simp [hm]
theorem takeL_bound (l : List Bool) (k : Int) : ∀ x ∈ (takeL l k).2.1, x < l.length ∧ l.getD x false = false := by
  unfold takeL
  split
  · simp
  · split
    · simp
    · intro x hx; exact Fr_mem.1 (List.mem_of_mem_take hx)
theorem takeL_count {l : List Bool} {k : Int} (h : (takeL l k).2.2 = 0) : (takeL l k).2.1.length = k.toNat := by
  unfold takeL at *
  by_cases h1 : k < 0 ∨ 8 < k
  · rw [if_pos h1] at h; simp at h
  · rw [if_neg h1] at h ⊢
    by_cases h2 : (freeN l : Int) < k
    · rw [if_pos h2] at h; simp at h
    · rw [if_neg h2]
      simp only [List.length_take, Fr_all]
      omega
theorem wrK_fst (b : List Int) (S : DS) (xs ys : List Nat) (S' : DS) (h : wrK b S xs = (S', 0)) : wrK b S (xs ++ ys) = wrK b S' ys := by
  induction xs generalizing S with
  | nil => simp [wrK] at h; rw [h]; rfl
  | cons x xs ih =>
    simp only [List.cons_append, wrK] at h ⊢
    split at h
    · next h1 => rw [if_pos h1]; exact ih _ h
    · next h1 => exact absurd (by rw [h]) h1
theorem wrK_bad (b : List Int) (S : DS) (xs : List Nat) (x : Nat) (ys : List Nat) (S' : DS) (h : wrK b S xs = (S', 0)) (hx : (S'.write (x : Int) b).2 ≠ 0) : wrK b S (xs ++ x :: ys) = S'.write (x : Int) b := by
  rw [wrK_fst b S xs _ S' h]
  simp only [wrK]
  rw [if_neg hx]

end Go.Proofs.YtcfjkkjjcljaoaaDoor

/-
  bank.write.
-/

namespace Go.Proofs.YtcfjkkjjcljaoaaDoor
set_option linter.unusedSimpArgs false
set_option linter.unusedVariables false
set_option maxRecDepth 100000
open Go.RowKit

section
variable {B : Nat} {w w' : World} {F : Nat → Prop} {k p g : Nat} {S S' : DS} {l l' : List Bool} {t : Nat}

theorem index_us (b off m c j : Nat) (hj : j < m) (u : World) : (Instr.indexAt 137 (.slice (some ⟨b, off, none⟩) m c) (.int .i64 (j : Int))).run Tryd.prog u = .ok (.pointer (some ⟨b, off + j, none⟩)) u :=
  index_run 137 34 Tryd.underlying137 sizes32 elem32 b off m c .i64 j hj u
theorem us_at {a : Option Addr} {xs : List Nat} (h : Us w a xs) {j : Nat} (hj : j < xs.length) : ∃ b off, a = some ⟨b, off, none⟩ ∧ w.cell? ⟨b, off + j, none⟩ = some (.int .u32 ((xs.getD j 0 : Nat) : Int)) := by
  rcases h.lay with h0 | ⟨b, off, h1, h2⟩
  · rw [h0] at hj; simp at hj
  · exact ⟨b, off, h1, h2 j hj⟩
theorem take_next (xs : List Nat) (j : Nat) (hj : j < xs.length) : xs.take (j + 1) = xs.take j ++ [xs.getD j 0] := by
  rw [List.take_succ_eq_append_getElem hj]; simp [List.getD, hj]
theorem take_split (xs : List Nat) (j : Nat) (hj : j < xs.length) : xs = xs.take j ++ xs.getD j 0 :: xs.drop (j + 1) := by
  have h1 := List.take_append_drop (j + 1) xs
  rw [take_next xs j hj, List.append_assoc] at h1
  exact h1.symm
theorem wrK_grow (b : List Int) : ∀ (xs : List Nat) (S S' : DS), wrK b S xs = (S', 0) → S.off = false → S'.off = false
  | [], S, S', h, ho => by simp [wrK] at h; rw [← h]; exact ho
  | x :: xs, S, S', h, ho => by
    simp only [wrK] at h
    split at h
    · next h1 => exact wrK_grow b xs _ _ h (write_on (by rw [h1]; decide)).1
    · next h1 => exact absurd (by rw [h]) h1

set_option maxHeartbeats 8000000 in
theorem bwrite_run (h : Bk B w F k p g S l t) (hln : S.ws.length ≤ 800000) (a : Option Addr) (c : Nat) (xs : List Nat) (hU : Us w a xs) (hx8 : xs.length ≤ 8) (hxl : ∀ x ∈ xs, x < l.length) (hnU : ∀ x, a = some x → ¬ F x.block)
    (a2 : Option Addr) (c2 : Nat) (bs : List Int) (hB : Bs w a2 c2 bs) (h256 : bs.length = 256) (hnF : ∀ x, a2 = some x → ¬ F x.block) :
    Calls Tryd.prog 64 #[.pointer (some ⟨k, 0, none⟩), .slice a xs.length c, .slice a2 256 c2] w fun e w' => e = .returned (.int .i64 (wrK bs S xs).2) ∧ Then F w w' p (wrK bs S xs).1 := by
  have hsz := h.sz
  obtain ⟨M, hM⟩ : ∃ M, M = S.laid.length / 256 := ⟨_, rfl⟩
  have hMl : M ≤ 512 := by rw [hM, ← h.sz]; exact h.mp.hi
  have hLN : ∀ u, Below w.heap.size w u → Calls Tryd.prog 96 #[.pointer (some ⟨p, 0, none⟩)] u fun e w' => e = .returned (.int .i64 (M : Int)) ∧ w' = u := fun u hu => by
    rw [hM]; exact dk_len (h.dk.stays hu)
  have HXL : Hid (∀ j, j < xs.length → xs.getD j 0 < M ∧ xs.getD j 0 < 4294967296) := fun j hj => by
    have h1 : xs.getD j 0 ∈ xs := by simp [List.getD, hj]
    have := hxl _ h1
    rw [hM, ← hsz]
    exact ⟨this, hU.rng _ h1⟩
  obtain ⟨m, hm⟩ : ∃ m, m = xs.length := ⟨_, rfl⟩
  have HM : Hid (m = xs.length) := hm
  rw [← hm] at hx8 HXL ⊢
  have hc0 : w.cell? ⟨k, 0, none⟩ = some (.pointer (some ⟨p, 0, none⟩)) := h.bb.cell 0
  have hln0 := hLN w (Below.refl _ _)
  clear hsz hM hm hLN
  go_enter Tryd.func64, Tryd.ntmps64
  go_wp2
  go_loopw [14] (fun i wr => ∃ j : Nat, j ≤ m ∧ i = .int .i64 j ∧ w = wr) (fun i _ => m - (intOf i).toNat)
  case atStart => exact ⟨0, by omega, rfl, rfl⟩
  case round =>
    rename_i hrel
    obtain ⟨j, hj, rfl, rfl⟩ := hrel
    by_cases hlt : j < m
    · obtain ⟨b, off, ha, hc⟩ := us_at hU (j := j) (by have := HM.out; omega)
      have hix : ∀ u : World, (Instr.indexAt 137 (.slice a m c) (.int .i64 (j : Int))).run Tryd.prog u = .ok (.pointer (some ⟨b, off + j, none⟩)) u := fun u => by
        rw [ha]; exact index_us b off m c j hlt u
      obtain ⟨hq1, hq2⟩ := HXL.out j hlt
      obtain ⟨q, hq⟩ : ∃ q, q = xs.getD j 0 := ⟨_, rfl⟩
      rw [← hq] at hc hq1 hq2
      have hwr : IntKind.i64.wrap (q : Int) = (q : Int) := by rw [IntKind.wrap_i64]; omega
      have hge : decide ((M : Int) ≤ (q : Int)) = false := by simp; omega
      have hge' : decide (M ≤ q) = false := by simp; omega
      have hgp : ¬ M ≤ q := by omega
      clear hq ha
      go_wp2_with (first
        | (go_at_call 96; go_must (refine hln0.mono ?_); rintro e w' ⟨rfl, rfl⟩))
      go_roundw
      case rel => exact ⟨j + 1, by omega, by go_num, by first | rfl | trivial⟩
      case measure => simp [intOf]; omega
    · have hjm : m = j := by omega
      subst hjm
      clear hlt
      go_wp2
      go_loopw [29] (fun i wr => ∃ (j : Nat) (S' : DS), j ≤ m ∧ i = .int .i64 j ∧ Hid (wrK bs S (xs.take j) = (S', 0)) ∧ Then F w wr p S') (fun i _ => m - (intOf i).toNat)
      case atStart => exact ⟨0, S, by omega, rfl, (by show _ = _; rfl), then_same h.dk (Below.refl _ _)⟩
      case round =>
        rename_i hrel
        obtain ⟨j, T, hj, rfl, HW, htr⟩ := hrel
        by_cases hlt : j < m
        · obtain ⟨b, off, ha, hc⟩ := us_at (us_keep htr.2 hU hnU) (j := j) (by have := HM.out; omega)
          have hix : ∀ u : World, (Instr.indexAt 137 (.slice a m c) (.int .i64 (j : Int))).run Tryd.prog u = .ok (.pointer (some ⟨b, off + j, none⟩)) u := fun u => by
            rw [ha]; exact index_us b off m c j hlt u
          obtain ⟨hq1, hq2⟩ := HXL.out j hlt
          have HTN := take_next xs j (by have := HM.out; omega)
          have HTS := take_split xs j (by have := HM.out; omega)
          obtain ⟨q, hq⟩ : ∃ q, q = xs.getD j 0 := ⟨_, rfl⟩
          rw [← hq] at hc hq1 hq2 HTN HTS
          have HN : Hid (xs.take (j + 1) = xs.take j ++ [q]) := HTN
          have HS : Hid (xs = xs.take j ++ q :: xs.drop (j + 1)) := HTS
          have hwr : IntKind.i64.wrap (q : Int) = (q : Int) := by rw [IntKind.wrap_i64]; omega
          have hpc : Hid (_ = some (Value.pointer (some ⟨p, 0, none⟩))) := (box_keep htr.2 h.bb h.fk).cell 0
          have hc1 := hpc.out
          have hTl : T.ws.length ≤ 900000 := by have := wrK_len bs (xs.take j) S; rw [HW.out] at this; simp only [List.length_take] at this; omega
          have hwc := dk_write htr.1 (q : Int) a2 c2 bs (bs_keep htr.2 hB hnF) (fun x hx hf => hf.elim (hnF x hx) (fun h2 => by have := hB.lt (by intro e; rw [e] at h256; simp at h256) hx; omega)) (by omega)
          rw [h256] at hwc
          have hwc' := hwc.mono (fun e w' (he : e = .returned (.int .i64 (T.write (q : Int) bs).2) ∧ _) => (⟨he.1, then_trans htr he.2⟩ : e = .returned (.int .i64 (T.write (q : Int) bs).2) ∧ Then F w w' p (T.write (q : Int) bs).1))
          clear hq ha HTN HTS hwc hpc htr hU
          by_cases he : (T.write (q : Int) bs).2 = 0
          · obtain ⟨T2, hT2⟩ : ∃ T2, T2 = (T.write (q : Int) bs).1 := ⟨_, rfl⟩
            have HC : Hid (T.write (q : Int) bs = (T2, 0)) := by show _ = _; rw [hT2, ← he]
            rw [he, ← hT2] at hwc'
            clear he hT2
            go_wp2_with (first
              | (go_at_call 97; go_must (refine hwc'.mono ?_); rintro e w6 ⟨rfl, ht6⟩))
            go_roundw
            case rel => exact ⟨j + 1, T2, by omega, by go_num, (by show _ = _; rw [HN.out, wrK_fst bs S _ _ T HW.out]; unfold wrK; rw [HC.out]; simp only [if_pos]; rfl), ht6⟩
            case measure => simp [intOf]; omega
          · obtain ⟨E, hE⟩ : ∃ E, E = (T.write (q : Int) bs).2 := ⟨_, rfl⟩
            obtain ⟨T2, hT2⟩ : ∃ T2, T2 = (T.write (q : Int) bs).1 := ⟨_, rfl⟩
            have HC : Hid (T.write (q : Int) bs = (T2, E)) := by show _ = _; rw [hT2, hE]
            rw [← hE] at he
            rw [← hE, ← hT2] at hwc'
            have hne : (E != 0) = true := by simpa using he
            clear hE hT2
            go_wp2_with (first
              | (go_at_call 97; go_must (refine hwc'.mono ?_); rintro e w6 ⟨rfl, ht6⟩))
            go_ret
            have hv : wrK bs S xs = (T2, E) := by rw [HS.out, wrK_bad bs S _ q _ T HW.out (by rw [HC.out]; exact he), HC.out]
            rw [hv]
            exact ⟨rfl, ht6⟩
        · have hjm : m = j := by omega
          subst hjm
          go_wp2
          go_ret
          have hv : wrK bs S xs = (T, 0) := by
            have := HW.out
            rwa [List.take_of_length_le (by have := HM.out; omega)] at this
          rw [hv]
          exact ⟨rfl, htr⟩
end

end Go.Proofs.YtcfjkkjjcljaoaaDoor

/-
  bank.Put: what fails.
-/

namespace Go.Proofs.YtcfjkkjjcljaoaaDoor
set_option linter.unusedSimpArgs false
set_option linter.unusedVariables false
set_option maxRecDepth 100000
open Go.RowKit

section
variable {B : Nat} {w w' : World} {F : Nat → Prop} {k p g : Nat} {S S' : DS} {l l' : List Bool} {t : Nat}

theorem but_new {m : Nat} {x y z : World} (h : But g x y) (hk : But m y z) (hm : x.heap.size ≤ m) : But g x z :=
  ⟨hk.os.trans h.os, hk.tape.trans h.tape, hk.output.trans h.output, Nat.le_trans h.size hk.size, fun i hi hl => (hk.block i (by omega) (by have := h.size; omega)).trans (h.block i hi hl)⟩
theorem zero_one : ∀ v ∈ Pt.zero.vs, v.oneCell' = true := by decide
theorem bs_map {a : Option Addr} {c : Nat} {xs : List Int} (hB : Bs w a c xs) (hm : Mp w g l) (hb : But g w w') : Bs w' a c xs := by
  refine ⟨hB.rng, hB.cap, hB.capm, hB.nul, ?_⟩
  rcases hB.lay with h0 | ⟨b, off, rfl, hc⟩
  · exact .inl h0
  · refine .inr ⟨b, off, rfl, fun i hi => ?_⟩
    have hci := hc i hi
    have hne : b ≠ g := by
      rintro rfl
      rw [hm.blk.cell _] at hci
      have hmm := List.mem_of_getElem? hci
      simp only [mapV, wordsV, List.mem_cons, List.mem_map] at hmm
      rcases hmm with hmm | ⟨k, _, hmm⟩
      · simp at hmm
      · simp at hmm
    rw [World.cell?_of_block (w := w) (hb.block b hne (World.block_lt_of_cell? w _ hci))]
    exact hci

set_option maxHeartbeats 4000000 in
theorem bput_down (h : Bk B w F k p g S l t) (hln : S.ws.length ≤ 800000) (hV : Vars w) (a : Option Addr) (c : Nat) (bs : List Int) (hB : Bs w a c bs) (cp : Int) (hoff : S.off = true) :
    Calls Tryd.prog 30 #[.pointer (some ⟨k, 0, none⟩), .slice a bs.length c, .int .i64 cp] w fun e w' => e = .returned (.tuple #[.agg Pt.zero.vs.toArray, .int .i64 8]) ∧ Below w.heap.size w w' := by
  have hdn := fun u (hu : Below w.heap.size w u) => bdown_run (h.stays hu) (by omega)
  have HAL : Hid (∀ w : World, (Instr.alloc 42 true (.tuple #[])).run Tryd.prog w = .ok (.pointer (some ⟨w.heap.size, 0, none⟩)) (w.alloc (.cells Pt.zero.vs.toArray 42))) := alloc_ptr0
  have HBU : Hid (∀ w : World, (Instr.build 42 #[]).run Tryd.prog w = .ok (.agg Pt.zero.vs.toArray) w) := build_ptr0
  have hzl : Pt.zero.vs.length = 35 := Pt.vs_len Pt.zero_ok
  have hzo : ∀ v ∈ Pt.zero.vs, v.oneCell' = true := zero_one
  obtain ⟨zs, hzs⟩ : ∃ zs, zs = Pt.zero.vs := ⟨_, rfl⟩
  rw [← hzs] at HAL HBU hzl hzo ⊢
  obtain ⟨n, hn⟩ : ∃ n, n = bs.length := ⟨_, rfl⟩
  rw [← hn]
  rw [hoff] at hdn
  clear hzs hn
  go_enter Tryd.func30, Tryd.ntmps30
  go_wp2_with (first
    | ((with_reducible show wpList _ _ _ (Oper.mk _ (Op.alloc _) _ _ _ _ :: _) _ _); refine wpList_alloc0 (by rfl) 42 (by rfl) (some 6) (by rfl) _ HAL.out ?_; intro w1 hR1 hb1 hs1
       clear hs1
       have hd1 := hdn _ hb1)
    | (go_at_call 62; go_must (refine hd1.mono ?_); rintro e w2 ⟨rfl, hb2⟩
       have hR2 := hR1.stays hb2
       have hb2' := below_then hb1 hb2)
    | ((with_reducible show wpList _ _ _ (Oper.mk _ (Op.build _ _) _ _ _ _ :: _) _ _); refine wpList_build0 (by rfl) 42 (by rfl) _ HBU.out ?_)
    | ((with_reducible show wpList _ _ _ (Oper.mk _ (Op.store _ _ _) _ _ _ _ :: _) _ _); refine wpList_store_blk (by rfl) (.tmp 6) (.tmp 16) 42 (by rfl) _ 0 35 (by rfl) zs (by rfl) size_ptr hR2 hzl (by omega) hzo _ (whole_store hzl) ?_
       intro w3 hRz hbutz hsz))
  exact bodyPost_ret_blk2 rfl rfl (by rfl) (by rfl) agg_ptr size_ptr hRz hzl ⟨rfl, hb2'.trans (hbutz.below (Nat.le_refl _) hb2'.size)⟩

set_option maxHeartbeats 4000000 in
theorem bput_len (h : Bk B w F k p g S l t) (hln : S.ws.length ≤ 800000) (hV : Vars w) (a : Option Addr) (c : Nat) (bs : List Int) (hB : Bs w a c bs) (cp : Int) (hoff : S.off = false) (hne : bs.length ≠ 256) :
    Calls Tryd.prog 30 #[.pointer (some ⟨k, 0, none⟩), .slice a bs.length c, .int .i64 cp] w fun e w' => e = .returned (.tuple #[.agg Pt.zero.vs.toArray, .int .i64 1]) ∧ Below w.heap.size w w' := by
  have hdn := fun u (hu : Below w.heap.size w u) => bdown_run (h.stays hu) (by omega)
  have HAL : Hid (∀ w : World, (Instr.alloc 42 true (.tuple #[])).run Tryd.prog w = .ok (.pointer (some ⟨w.heap.size, 0, none⟩)) (w.alloc (.cells Pt.zero.vs.toArray 42))) := alloc_ptr0
  have HBU : Hid (∀ w : World, (Instr.build 42 #[]).run Tryd.prog w = .ok (.agg Pt.zero.vs.toArray) w) := build_ptr0
  have hzl : Pt.zero.vs.length = 35 := Pt.vs_len Pt.zero_ok
  have hzo : ∀ v ∈ Pt.zero.vs, v.oneCell' = true := zero_one
  obtain ⟨zs, hzs⟩ : ∃ zs, zs = Pt.zero.vs := ⟨_, rfl⟩
  rw [← hzs] at HAL HBU hzl hzo ⊢
  obtain ⟨n, hn⟩ : ∃ n, n = bs.length := ⟨_, rfl⟩
  rw [← hn]
  rw [hoff] at hdn
  have hx1 : ((n : Int) != 256) = true := by simp; omega
  clear hzs hn
  go_enter Tryd.func30, Tryd.ntmps30
  go_wp2_with (first
    | ((with_reducible show wpList _ _ _ (Oper.mk _ (Op.alloc _) _ _ _ _ :: _) _ _); refine wpList_alloc0 (by rfl) 42 (by rfl) (some 6) (by rfl) _ HAL.out ?_; intro w1 hR1 hb1 hs1
       clear hs1
       have hd1 := hdn _ hb1)
    | (go_at_call 62; go_must (refine hd1.mono ?_); rintro e w2 ⟨rfl, hb2⟩
       have hR2 := hR1.stays hb2
       have hb2' := below_then hb1 hb2)
    | ((with_reducible show wpList _ _ _ (Oper.mk _ (Op.build _ _) _ _ _ _ :: _) _ _); refine wpList_build0 (by rfl) 42 (by rfl) _ HBU.out ?_)
    | ((with_reducible show wpList _ _ _ (Oper.mk _ (Op.store _ _ _) _ _ _ _ :: _) _ _); refine wpList_store_blk (by rfl) (.tmp 6) (.tmp 28) 42 (by rfl) _ 0 35 (by rfl) zs (by rfl) size_ptr hR2 hzl (by omega) hzo _ (whole_store hzl) ?_
       intro w3 hRz hbutz hsz))
  exact bodyPost_ret_blk2 rfl rfl (by rfl) (by rfl) agg_ptr size_ptr hRz hzl ⟨rfl, hb2'.trans (hbutz.below (Nat.le_refl _) hb2'.size)⟩

set_option maxHeartbeats 4000000 in
theorem bput_low (h : Bk B w F k p g S l t) (hln : S.ws.length ≤ 800000) (hV : Vars w) (a : Option Addr) (c : Nat) (bs : List Int) (hB : Bs w a c bs) (cp : Int) (hoff : S.off = false) (h256 : bs.length = 256) (hc1 : cp < 1) :
    Calls Tryd.prog 30 #[.pointer (some ⟨k, 0, none⟩), .slice a bs.length c, .int .i64 cp] w fun e w' => e = .returned (.tuple #[.agg Pt.zero.vs.toArray, .int .i64 1]) ∧ Below w.heap.size w w' := by
  have hdn := fun u (hu : Below w.heap.size w u) => bdown_run (h.stays hu) (by omega)
  have HAL : Hid (∀ w : World, (Instr.alloc 42 true (.tuple #[])).run Tryd.prog w = .ok (.pointer (some ⟨w.heap.size, 0, none⟩)) (w.alloc (.cells Pt.zero.vs.toArray 42))) := alloc_ptr0
  have HBU : Hid (∀ w : World, (Instr.build 42 #[]).run Tryd.prog w = .ok (.agg Pt.zero.vs.toArray) w) := build_ptr0
  have hzl : Pt.zero.vs.length = 35 := Pt.vs_len Pt.zero_ok
  have hzo : ∀ v ∈ Pt.zero.vs, v.oneCell' = true := zero_one
  obtain ⟨zs, hzs⟩ : ∃ zs, zs = Pt.zero.vs := ⟨_, rfl⟩
  rw [← hzs] at HAL HBU hzl hzo ⊢
  obtain ⟨n, hn⟩ : ∃ n, n = bs.length := ⟨_, rfl⟩
  rw [← hn]
  rw [hoff] at hdn
  rw [h256] at hn
  obtain rfl : n = 256 := hn
  have hn := 0
  have hx2 : decide (cp < 1) = true := by simp; omega
  clear hzs hn
  go_enter Tryd.func30, Tryd.ntmps30
  go_wp2_with (first
    | ((with_reducible show wpList _ _ _ (Oper.mk _ (Op.alloc _) _ _ _ _ :: _) _ _); refine wpList_alloc0 (by rfl) 42 (by rfl) (some 6) (by rfl) _ HAL.out ?_; intro w1 hR1 hb1 hs1
       clear hs1
       have hd1 := hdn _ hb1)
    | (go_at_call 62; go_must (refine hd1.mono ?_); rintro e w2 ⟨rfl, hb2⟩
       have hR2 := hR1.stays hb2
       have hb2' := below_then hb1 hb2)
    | ((with_reducible show wpList _ _ _ (Oper.mk _ (Op.build _ _) _ _ _ _ :: _) _ _); refine wpList_build0 (by rfl) 42 (by rfl) _ HBU.out ?_)
    | ((with_reducible show wpList _ _ _ (Oper.mk _ (Op.store _ _ _) _ _ _ _ :: _) _ _); refine wpList_store_blk (by rfl) (.tmp 6) (.tmp 28) 42 (by rfl) _ 0 35 (by rfl) zs (by rfl) size_ptr hR2 hzl (by omega) hzo _ (whole_store hzl) ?_
       intro w3 hRz hbutz hsz))
  exact bodyPost_ret_blk2 rfl rfl (by rfl) (by rfl) agg_ptr size_ptr hRz hzl ⟨rfl, hb2'.trans (hbutz.below (Nat.le_refl _) hb2'.size)⟩

set_option maxHeartbeats 4000000 in
theorem bput_high (h : Bk B w F k p g S l t) (hln : S.ws.length ≤ 800000) (hV : Vars w) (a : Option Addr) (c : Nat) (bs : List Int) (hB : Bs w a c bs) (cp : Int) (hoff : S.off = false) (h256 : bs.length = 256) (hc1 : 2 < cp) :
    Calls Tryd.prog 30 #[.pointer (some ⟨k, 0, none⟩), .slice a bs.length c, .int .i64 cp] w fun e w' => e = .returned (.tuple #[.agg Pt.zero.vs.toArray, .int .i64 1]) ∧ Below w.heap.size w w' := by
  have hdn := fun u (hu : Below w.heap.size w u) => bdown_run (h.stays hu) (by omega)
  have HAL : Hid (∀ w : World, (Instr.alloc 42 true (.tuple #[])).run Tryd.prog w = .ok (.pointer (some ⟨w.heap.size, 0, none⟩)) (w.alloc (.cells Pt.zero.vs.toArray 42))) := alloc_ptr0
  have HBU : Hid (∀ w : World, (Instr.build 42 #[]).run Tryd.prog w = .ok (.agg Pt.zero.vs.toArray) w) := build_ptr0
  have hzl : Pt.zero.vs.length = 35 := Pt.vs_len Pt.zero_ok
  have hzo : ∀ v ∈ Pt.zero.vs, v.oneCell' = true := zero_one
  obtain ⟨zs, hzs⟩ : ∃ zs, zs = Pt.zero.vs := ⟨_, rfl⟩
  rw [← hzs] at HAL HBU hzl hzo ⊢
  obtain ⟨n, hn⟩ : ∃ n, n = bs.length := ⟨_, rfl⟩
  rw [← hn]
  rw [hoff] at hdn
  rw [h256] at hn
  obtain rfl : n = 256 := hn
  have hn := 0
  have hx2 : decide (cp < 1) = false := by simp; omega
  have hx3 : decide (2 < cp) = true := by simp; omega
  clear hzs hn
  go_enter Tryd.func30, Tryd.ntmps30
  go_wp2_with (first
    | ((with_reducible show wpList _ _ _ (Oper.mk _ (Op.alloc _) _ _ _ _ :: _) _ _); refine wpList_alloc0 (by rfl) 42 (by rfl) (some 6) (by rfl) _ HAL.out ?_; intro w1 hR1 hb1 hs1
       clear hs1
       have hd1 := hdn _ hb1)
    | (go_at_call 62; go_must (refine hd1.mono ?_); rintro e w2 ⟨rfl, hb2⟩
       have hR2 := hR1.stays hb2
       have hb2' := below_then hb1 hb2)
    | ((with_reducible show wpList _ _ _ (Oper.mk _ (Op.build _ _) _ _ _ _ :: _) _ _); refine wpList_build0 (by rfl) 42 (by rfl) _ HBU.out ?_)
    | ((with_reducible show wpList _ _ _ (Oper.mk _ (Op.store _ _ _) _ _ _ _ :: _) _ _); refine wpList_store_blk (by rfl) (.tmp 6) (.tmp 28) 42 (by rfl) _ 0 35 (by rfl) zs (by rfl) size_ptr hR2 hzl (by omega) hzo _ (whole_store hzl) ?_
       intro w3 hRz hbutz hsz))
  exact bodyPost_ret_blk2 rfl rfl (by rfl) (by rfl) agg_ptr size_ptr hRz hzl ⟨rfl, hb2'.trans (hbutz.below (Nat.le_refl _) hb2'.size)⟩

set_option maxHeartbeats 4000000 in
theorem bput_full (h : Bk B w F k p g S l t) (hln : S.ws.length ≤ 800000) (hV : Vars w) (a : Option Addr) (c : Nat) (bs : List Int) (hB : Bs w a c bs) (cp : Int) (hoff : S.off = false) (h256 : bs.length = 256) (hc1 : 1 ≤ cp) (hc2 : cp ≤ 2) (E : Nat) (hE : (takeL l cp).2.2 = E) (hE0 : E ≠ 0) :
    Calls Tryd.prog 30 #[.pointer (some ⟨k, 0, none⟩), .slice a 256 c, .int .i64 cp] w fun e w' => e = .returned (.tuple #[.agg Pt.zero.vs.toArray, .int .i64 (E : Int)]) ∧ But g w w' ∧ Mp w' g l := by
  have hdn := fun u (hu : Below w.heap.size w u) => bdown_run (h.stays hu) (by omega)
  have HAL : Hid (∀ w : World, (Instr.alloc 42 true (.tuple #[])).run Tryd.prog w = .ok (.pointer (some ⟨w.heap.size, 0, none⟩)) (w.alloc (.cells Pt.zero.vs.toArray 42))) := alloc_ptr0
  have HBU : Hid (∀ w : World, (Instr.build 42 #[]).run Tryd.prog w = .ok (.agg Pt.zero.vs.toArray) w) := build_ptr0
  have hzl : Pt.zero.vs.length = 35 := Pt.vs_len Pt.zero_ok
  have hzo : ∀ v ∈ Pt.zero.vs, v.oneCell' = true := zero_one
  obtain ⟨zs, hzs⟩ : ∃ zs, zs = Pt.zero.vs := ⟨_, rfl⟩
  rw [← hzs] at HAL HBU hzl hzo ⊢
  rw [hoff] at hdn
  have hx2 : decide (cp < 1) = false := by simp; omega
  have hx3 : decide (2 < cp) = false := by simp; omega
  have hne : ((E : Int) != 0) = true := by simp; omega
  have hM2 := fun u (hu : Below w.heap.size w u) => (h.stays hu).mp
  have hgl := h.mp.blk.lt
  have htk : ∀ u, Mp u g l → Calls Tryd.prog 63 #[.pointer (some ⟨g, 0, none⟩), .int .i64 cp] u fun e w' => ∃ a c n, e = .returned (.tuple #[.slice a n c, .int .i64 (E : Int)]) ∧ Mp w' g l ∧ But g u w' := fun u hu => by
    refine (take_run cp u hu).mono ?_
    rintro e w' ⟨v, rfl, hN, hM, hb⟩
    obtain ⟨a, c, rfl⟩ := hN.form
    have : (takeL l cp).1 = l := by
      unfold takeL at hE ⊢
      split
      · rfl
      · next h1 =>
        rw [if_neg h1] at hE
        split
        · rfl
        · next h2 => rw [if_neg h2] at hE; simp at hE; omega
    rw [this] at hM
    exact ⟨a, c, _, by rw [hE], hM, hb⟩
  have hcg : ∀ u, Below w.heap.size w u → u.cell? ⟨k, 1, none⟩ = some (.pointer (some ⟨g, 0, none⟩)) := fun u hu => (h.stays hu).bb.cell 1
  clear hzs
  go_enter Tryd.func30, Tryd.ntmps30
  go_wp2_with (first
    | ((with_reducible show wpList _ _ _ (Oper.mk _ (Op.alloc _) _ _ _ _ :: _) _ _); refine wpList_alloc0 (by rfl) 42 (by rfl) (some 6) (by rfl) _ HAL.out ?_; intro w1 hR1 hb1 hs1
       clear hs1
       have hd1 := hdn _ hb1)
    | (go_at_call 62; go_must (refine hd1.mono ?_); rintro e w2 ⟨rfl, hb2⟩
       have hR2 := hR1.stays hb2
       have hb2' := below_then hb1 hb2
       have hm2 := hM2 _ hb2'
       have hc2' := hcg _ hb2')
    | (go_at_call 63; go_must (refine (htk _ hm2).mono ?_); rintro e w3 ⟨a3, c3, n3, rfl, hM3, hb3⟩
       have hR3 := hR2.but hb3 (by have := hb1.size; omega))
    | ((with_reducible show wpList _ _ _ (Oper.mk _ (Op.build _ _) _ _ _ _ :: _) _ _); refine wpList_build0 (by rfl) 42 (by rfl) _ HBU.out ?_)
    | ((with_reducible show wpList _ _ _ (Oper.mk _ (Op.store _ _ _) _ _ _ _ :: _) _ _); refine wpList_store_blk (by rfl) (.tmp 6) (.tmp 40) 42 (by rfl) _ 0 35 (by rfl) zs (by rfl) size_ptr hR3 hzl (by omega) hzo _ (whole_store hzl) ?_
       intro w4 hRz hbutz hsz))
  have hm4 : Mp w4 g l := ⟨hM3.blk.but hbutz (by have := hb1.size; omega), hM3.lo, hM3.hi⟩
  have hb3' : Below w.heap.size w w2 := hb2'
  refine bodyPost_ret_blk2 rfl rfl (by rfl) (by rfl) agg_ptr size_ptr hRz hzl ⟨rfl, ?_, hm4⟩
  exact but_new ((But.of_below hb2').trans hb3) hbutz (by omega)
end

end Go.Proofs.YtcfjkkjjcljaoaaDoor
