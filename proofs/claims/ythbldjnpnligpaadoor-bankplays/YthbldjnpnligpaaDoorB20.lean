/-
 The document's answer for package sha: Sum.
-/
import Derived.Test.YthbldjnpnligpaaDoorB06
import Derived.Test.YthbldjnpnligpaaDoorB18
import Derived.Test.YthbldjnpnligpaaDoorB19
import Derived.RegionTactic
namespace Go.Proofs.YthbldjnpnligpaaDoor
set_option linter.unusedSimpArgs false
set_option linter.unusedVariables false
set_option maxRecDepth 100000
open Go.RowKit
theorem cut64 {P : Program} {t e : TypeId} (ht : P.underlying t = some (.slice e)) (hs : (P.info? e).map (·.size) = some 1) (he : P.elem t = e) (b off n c : Nat) (i : Nat) (hi : i + 64 ≤ n) (hc : n ≤ c) (w : World) :
 (Instr.slice t (.slice (some ⟨b, off, none⟩) n c) (some (.int .i64 (i : Int))) (some (.int .i64 ((i + 64 : Nat) : Int))) none).run P w = .ok (.slice (some ⟨b, off + i, none⟩) 64 (c - i)) w := by
 have hz := sizeOf_run hs w
 have hadd : (⟨b, off, none⟩ : Addr).add i = ⟨b, off + i, none⟩ := by unfold Addr.add; split <;> simp_all
 have hne : ¬ c = i := by omega
 rw [run_slice_lh w t (some ⟨b, off, none⟩) n c (by rw [he]; exact ht) .i64 .i64 i ((i + 64 : Nat) : Int) (by omega) (by omega) (by omega), he, hz]
 simp [Result.andThen, sliced, hne, hadd]
 omega
theorem Bs.part64 {w : World} {b off c : Nat} {xs : List Int} (h : Bs w (some ⟨b, off, none⟩) c xs) (q : Nat) (hq : q + 64 ≤ xs.length) : Bs w (some ⟨b, off + q, none⟩) (c - q) ((xs.drop q).take 64) := by
 have hl : ((xs.drop q).take 64).length = 64 := by simp; omega
 have hc := h.cap
 have hm := h.capm
 refine ⟨fun x hx => h.rng x (List.mem_of_mem_drop (List.mem_of_mem_take hx)), by omega, by omega, (fun h => by cases h), .inr ⟨b, off + q, rfl, fun i hi => ?_⟩⟩
 rw [hl] at hi
 obtain ⟨b1, o1, he, hc1⟩ := h.cell (by omega)
 cases he
 rw [Nat.add_assoc, hc1 (q + i) (by omega)]
 simp [List.getD, List.getElem?_take, List.getElem?_drop, hi]
theorem flat_at : ∀ (l : List Nat) (k : Nat), k < 4 * l.length → (l.flatMap bytes4).getD k 0 = (bytes4 (l.getD (k / 4) 0)).getD (k % 4) 0
 | [], k, h => by simp at h
 | x :: l, k, h => by
   rw [List.flatMap_cons]
   by_cases hk : k < 4
   · have h4 : (bytes4 x).length = 4 := rfl
     rw [Nat.div_eq_of_lt hk, Nat.mod_eq_of_lt hk]
     simp [List.getD, List.getElem?_append, h4, hk]
   · have ih := flat_at l (k - 4) (by simp at h; omega)
     have h4 : (bytes4 x).length = 4 := rfl
     have e1 : k / 4 = (k - 4) / 4 + 1 := by omega
     have e2 : k % 4 = (k - 4) % 4 := by omega
     rw [e1, e2, List.getD_cons_succ, ← ih]
     simp [List.getD, List.getElem?_append, h4, hk]
theorem bytes4_at (n : Nat) (hn : n < 4294967296) (r : Nat) (hr : r < 4) : (bytes4 n).getD r 0 = ((n / 2 ^ (24 - 8 * r) % 256 : Nat) : Int) := by
 have : r = 0 ∨ r = 1 ∨ r = 2 ∨ r = 3 := by omega
 rcases this with rfl | rfl | rfl | rfl
 · simp [bytes4]; omega
 · simp [bytes4]
 · simp [bytes4]
 · simp [bytes4]
theorem list_lt (v : S8) (hv : v.Ok) (j : Nat) : v.list.getD j 0 < 4294967296 := getD_lt (fun x hx => by
 simp only [S8.list, List.mem_cons, List.not_mem_nil, or_false] at hx
 rcases hx with rfl | rfl | rfl | rfl | rfl | rfl | rfl | rfl
 · exact hv.a
 · exact hv.b
 · exact hv.c
 · exact hv.d
 · exact hv.e
 · exact hv.f
 · exact hv.g
 · exact hv.h) j
def outUp (v : S8) (k : Nat) : List Int := v.bytes.take k ++ List.replicate (32 - k) 0
theorem outUp_length (v : S8) (k : Nat) (hk : k ≤ 32) : (outUp v k).length = 32 := by
 have : v.bytes.length = 32 := rfl
 simp [outUp, this]; omega
theorem outUp_next (v : S8) (k : Nat) (hk : k < 32) : (outUp v k).set k (v.bytes.getD k 0) = outUp v (k + 1) := by
 have hl : v.bytes.length = 32 := rfl
 unfold outUp
 rw [show 32 - k = (32 - (k + 1)) + 1 by omega, List.replicate_succ, set_at _ _ _ _ _ (by simp [hl]; omega), List.take_add_one, List.getElem?_eq_getElem (by omega)]
 simp [List.getD, hl, hk]
structure SumAt (w wr : World) (H S : Nat) (a : Option Addr) (c : Nat) (PB : List Int) : Prop where
 bel : Below w.heap.size w wr
 res : Blk 39 wr w.heap.size ((List.replicate 32 (0 : Int)).map (Value.int .u8))
 keys : Tab .u32 wr S (ints stepNums)
 bytes : Bs wr a c PB
theorem SumAt.but {w wr w' : World} {H S : Nat} {a : Option Addr} {c : Nat} {PB : List Int} (h : SumAt w wr H S a c PB) (hb : But H wr w') (h1 : w.heap.size < H) (h2 : S ≠ H) (h3 : ∀ x, a = some x → x.block ≠ H) : SumAt w w' H S a c PB :=
 ⟨h.bel.trans (hb.below (by omega) h.bel.size), h.res.but hb (by omega), h.keys.but hb h2, h.bytes.but hb (fun _ => h3)⟩
theorem SumAt.stays {w wr w' : World} {H S : Nat} {a : Option Addr} {c : Nat} {PB : List Int} (h : SumAt w wr H S a c PB) (hb : Below wr.heap.size wr w') : SumAt w w' H S a c PB :=
 ⟨h.bel.trans (hb.mono h.bel.size), h.res.stays hb, h.keys.stays hb, h.bytes.stays hb⟩
theorem rsum_facts {w w1 w2 w3 : World} {cs : Array Value} {o2 : Obj} (hcs : cs = ((List.replicate 32 (0 : Int)).map (Value.int .u8)).toArray)
 (hb1 : Below (w.alloc (.cells cs 39)).heap.size (w.alloc (.cells cs 39)) w1) (hb2 : Blk 217 w2 w1.heap.size firsts8.val) (hbut2 : But w1.heap.size (w1.alloc o2) w2) (hsz2 : w2.heap.size = (w1.alloc o2).heap.size) (hb3 : Below w2.heap.size w2 w3) :
 Below w.heap.size w w3 ∧ Blk 39 w3 w.heap.size ((List.replicate 32 (0 : Int)).map (Value.int .u8)) ∧ Blk 217 w3 w1.heap.size firsts8.val ∧ w.heap.size < w1.heap.size ∧ w2.heap.size = w1.heap.size + 1 ∧ w1.heap.size + 1 ≤ w3.heap.size := by
 have h1 := hb1.size
 simp at h1 hsz2
 have h3 := hb3.size
 have e1 : Below w.heap.size w w1 := ((Below.refl w.heap.size w).alloc (Nat.le_refl _) _).trans (hb1.mono (by simp))
 have r1 : Blk 39 w1 w.heap.size ((List.replicate 32 (0 : Int)).map (Value.int .u8)) := (Blk.newAt rfl hcs).stays hb1
 have e2 : Below w.heap.size w w2 := (e1.alloc (by omega) o2).trans (hbut2.below (by omega) (by simp; omega))
 exact ⟨e2.trans (hb3.mono (by omega)), ((r1.alloc o2).but hbut2 (by omega)).stays hb3, hb2.stays hb3, by omega, hsz2, by omega⟩
set_option maxRecDepth 100000 in
set_option maxHeartbeats 4000000 in
theorem rsum_run (a : Option Addr) (c : Nat) (xs : List Int) (w : World) (hB : Bs w a c xs) (hlen : xs.length < 1000000000000) :
 Calls Tryd.prog 110 #[.slice a xs.length c] w fun e w' => e = .returned (.agg ((shaOf xs).map (Value.int .u8)).toArray) ∧ Below w.heap.size w w' := by
 obtain ⟨PB, hPB⟩ : ∃ PB, PB = xs ++ padOf xs.length := ⟨_, rfl⟩
 have hPl : PB.length % 64 = 0 := by rw [hPB, List.length_append]; exact padded_whole _
 have hPp : 0 < PB.length := by rw [hPB, List.length_append, padOf_length]; omega
 have hPm : PB.length < 1000000000200 := by rw [hPB, List.length_append, padOf_length]; have : (119 - xs.length % 64) % 64 < 64 := Nat.mod_lt _ (by decide); omega
 have HP : Hid (PB = xs ++ padOf xs.length) := hPB
 have hpad := fun u hu => padded_run a c xs u (hB.stays hu) hlen
 rw [← hPB] at hpad
 clear hPB
 go_enter Tryd.func110, Tryd.ntmps110
 go_wp2_with (first
  | (go_at_call 149; go_must (refine (start_run _).mono ?_); rintro e w1 ⟨rfl, hb1⟩)
  | (refine wpList_store_blk (by rfl) (.tmp 3) (.tmp 9) 217 (by rfl) w1.heap.size 0 8 (by rfl) firsts8.val (by rfl) (sizeOf_run (by kernel_rfl)) (e := 217) (vs := (List.replicate 8 (0 : Int)).map (Value.int .u32)) (Blk.newAt rfl (by rfl)) rfl (by decide) (int_oneCell _ _) firsts8.val rfl ?_
     intro w2 hb2 hbut2 hsz2)
  | (go_at_call 150; go_must (refine (steps_run _).mono ?_); rintro e w3 ⟨rfl, hT3, hb3⟩))
 obtain ⟨hbel3, hR3, hH3, hwH, hs2, hs3⟩ := rsum_facts rfl hb1 hb2 hbut2 hsz2 hb3
 obtain ⟨H, hH⟩ : ∃ H, H = w1.heap.size := ⟨_, rfl⟩
 rw [hs2] at hT3
 rw [← hH] at hH3 hwH hs3 hT3 ⊢
 clear hb1 hb2 hbut2 hsz2 hb3 hs2 hH
 refine (hpad w3 hbel3).mono ?_
 rintro e w4 ⟨a', c', rfl, hB4, hge4, hb4⟩
 have hS4 : SumAt w w4 H (H + 1) a' c' PB := ⟨hbel3.trans (hb4.mono hbel3.size), hR3.stays hb4, hT3.stays hb4, hB4⟩
 have hH4 : Blk 217 w4 H (folded firsts8 PB 0).val := hH3.stays hb4
 obtain ⟨pb, poff, hpa, hpc⟩ := hB4.cell hPp
 have hpH : H + 1 ≤ pb := by have := hge4 _ hpa; simp at this; omega
 subst hpa
 obtain ⟨T, hT⟩ : ∃ T, T = PB.length := ⟨_, rfl⟩
 rw [← hT]
 have hcap := hB4.cap
 have HT : Hid (T = PB.length) := hT
 have hTl : T % 64 = 0 := by rw [hT]; exact hPl
 have hTm : T < 1000000000200 := by rw [hT]; exact hPm
 have hTc : T ≤ c' := by rw [hT]; exact hcap
 clear hpad hbel3 hR3 hH3 hT3 hge4 hb4 hB4 hpc hT hPl hPm hcap
 go_wp2
 go_loopw [6] (fun i wr => ∃ j q : Nat, q = 64 * j ∧ q ≤ T ∧ i = .int .i64 q ∧ SumAt w wr H (H + 1) (some ⟨pb, poff, none⟩) c' PB ∧ Blk 217 wr H (folded firsts8 PB j).val) (fun i _ => T - (intOf i).toNat)
 case atStart => exact ⟨0, 0, rfl, by omega, rfl, hS4, hH4⟩
 case round =>
  clear hS4 hH4
  rename_i hrel
  obtain ⟨j, q, hq, hqT, rfl, hS, hHv⟩ := hrel
  by_cases hlt : q < T
  · obtain ⟨q2, hq2⟩ : ∃ q2, q2 = q + 64 := ⟨_, rfl⟩
    have hq64 : q + 64 ≤ T := by omega
    obtain ⟨bs, hbs⟩ : ∃ bs, bs = (PB.drop q).take 64 := ⟨_, rfl⟩
    have hPT := HT.out
    have hbl : bs.length = 64 := by rw [hbs]; simp; omega
    have hBb : Bs wr.drew (some ⟨pb, poff + q, none⟩) (c' - q) bs := hbs ▸ (hS.bytes.part64 q (by omega)).stays (Below.refl _ _).drew
    have hcut : ∀ w, (Instr.slice 43 (.slice (some ⟨pb, poff, none⟩) T c') (some (.int .i64 (q : Int))) (some (.int .i64 (q2 : Int))) none).run Tryd.prog w = .ok (.slice (some ⟨pb, poff + q, none⟩) 64 (c' - q)) w := fun w => by
        rw [hq2]; exact cut64 Tryd.underlying43 (by kernel_rfl) (by kernel_rfl) pb poff T c' q hq64 hTc w
    have e1 : IntKind.i64.wrap ((q : Int) + 64) = (q2 : Int) := by rw [IntKind.wrap_i64]; omega
    have hok := folded_ok firsts8 firsts8_ok PB j
    have hcall := block_run (folded firsts8 PB j) hok pb (poff + q) (c' - q) bs hbl (H + 1) wr.drew hBb hS.keys
    have HF : Hid (takenOf (folded firsts8 PB j) bs = folded firsts8 PB (j + 1)) := by unfold Hid; rw [hbs, hq]; rfl
    obtain ⟨vs, hvs⟩ : ∃ vs, vs = (folded firsts8 PB j).val := ⟨_, rfl⟩
    obtain ⟨us, hus⟩ : ∃ us, us = (takenOf (folded firsts8 PB j) bs).val := ⟨_, rfl⟩
    rw [← hvs] at hcall hHv
    rw [← hus] at hcall
    have hvl : vs.length = 8 := by rw [hvs]; rfl
    have hul : us.length = 8 := by rw [hus]; rfl
    have hv0 : vs = (vs.drop 0).take 8 := by rw [List.drop_zero, List.take_of_length_le (by omega)]
    have hu1 : ∀ v ∈ us, v.oneCell' = true := hus ▸ int_oneCell _ _
    have hu2 : us = vs.take 0 ++ us ++ vs.drop (0 + 8) := by rw [List.take_zero, List.nil_append, List.drop_eq_nil_of_le (by omega), List.append_nil]
    have HV0 : Hid (vs = (vs.drop 0).take 8) := hv0
    have HU2 : Hid (us = vs.take 0 ++ us ++ vs.drop (0 + 8)) := hu2
    have HUS : Hid (us = (takenOf (folded firsts8 PB j) bs).val) := hus
    have HQ : Hid (q = 64 * j ∧ q2 = q + 64) := ⟨hq, hq2⟩
    clear hv0 hu2 hus hvs hbs hq hq2 hPT
    go_wp2
    refine wp_region_any (by kernel_rfl) ?_
    change wpAny _ _ _ _ _ _ _ (World.drew _)
    refine any_take 1 rfl (some 20) rfl (.slice (some ⟨pb, poff, none⟩) T c') (by kernel_rfl) (by kernel_rfl) (by kernel_rfl) (fun _ _ _ h => h) (Or.inl ⟨by rfl, fun w => by go_simp⟩) ?_
    simp only [Act.put, sTA, sT0, sT1]
    refine any_take 2 rfl (some 21) rfl (.int .i64 (q : Int)) (by kernel_rfl) (by kernel_rfl) (by kernel_rfl) (fun _ _ _ h => h) (Or.inl ⟨by rfl, fun w => by go_simp⟩) ?_
    simp only [Act.put, sTA, sT0, sT1]
    refine any_take 3 rfl (some 22) rfl (.int .i64 (q : Int)) (by kernel_rfl) (by kernel_rfl) (by kernel_rfl) (fun _ _ _ h => h) (Or.inl ⟨by rfl, fun w => by go_simp⟩) ?_
    simp only [Act.put, sTA, sT0, sT1]
    refine any_take 4 rfl (some 23) rfl (.int .i64 (q2 : Int)) (by kernel_rfl) (by kernel_rfl) (by kernel_rfl) (fun _ _ _ h => h) (Or.inl ⟨by rfl, fun w => by go_simp⟩) ?_
    simp only [Act.put, sTA, sT0, sT1]
    refine any_take 5 rfl (some 24) rfl (.slice (some ⟨pb, poff + q, none⟩) 64 (c' - q)) (by kernel_rfl) (by kernel_rfl) (by kernel_rfl) (fun _ _ _ h => h) (Or.inl ⟨by rfl, fun w => by go_simp⟩) ?_
    simp only [Act.put, sTA, sT0, sT1]
    refine any_take 6 rfl (some 25) rfl (.slice (some ⟨H + 1, 0, none⟩) 64 64) (by kernel_rfl) (by kernel_rfl) (by kernel_rfl) (fun _ _ _ h => h) (Or.inl ⟨by rfl, fun w => by go_simp⟩) ?_
    simp only [Act.put, sTA, sT0, sT1]
    refine any_load 0 (by kernel_rfl) rfl rfl (some 19) rfl (.tmp 3) 217 rfl H 0 8 rfl (isAgg_array Tryd.underlying217) (sizeOf_run (by kernel_rfl)) hHv.drew vs HV0.out hvl ?_
    simp only [Act.put, sTA, sT0, sT1]
    refine any_call 7 (by kernel_rfl) rfl rfl (some 26) rfl 152 #[.agg vs.toArray, .slice (some ⟨pb, poff + q, none⟩) 64 (c' - q), .slice (some ⟨H + 1, 0, none⟩) 64 64] (by go_simp) hcall ?_
    rintro e w5 ⟨rfl, hb5⟩
    refine ⟨_, rfl, ?_⟩
    simp only [Act.put, sTA, sT0, sT1]
    refine any_store 8 (by kernel_rfl) rfl rfl none rfl (.tmp 3) (.tmp 26) 217 rfl H 0 8 rfl us rfl (sizeOf_run (by kernel_rfl)) (hHv.drew.stays hb5) hul (by rw [hvl]; omega) hu1 us HU2.out ?_
    intro w6 hb6 hbut6 hsz6
    refine wpAny_done (by kernel_rfl) ?_ _
    simp only [Act.put]
    go_wp2
    go_roundw
    case rel =>
        obtain ⟨hq, hq2⟩ := HQ.out
        refine ⟨j + 1, q2, by omega, by omega, by go_num, ?_, ?_⟩
        · exact ((hS.stays (Below.refl _ _).drew).stays hb5).but hbut6 hwH (by omega) (fun x hx => by cases hx; show pb ≠ H; omega)
        · rw [← HF.out, ← HUS.out]; exact hb6
    case measure => obtain ⟨hq, hq2⟩ := HQ.out; simp [intOf]; omega
  · have hlt' : ¬ ((q : Int) < (T : Int)) := by omega
    have hj : j = PB.length / 64 := by have := HT.out; omega
    obtain ⟨v, hv⟩ : ∃ v, v = hashed PB := ⟨_, rfl⟩
    have hHh : Blk 217 wr H v.val := by rw [hv]; unfold hashed; rw [← hj]; exact hHv
    have hok : v.Ok := hv ▸ hashed_ok _
    have HV : Hid (v.bytes = shaOf xs) := by unfold Hid shaOf; rw [hv, HP.out]
    have hHl := hHh.lt
    obtain ⟨O, hO⟩ : ∃ O, O = wr.heap.size := ⟨_, rfl⟩
    have hz1 : ∀ v ∈ (List.replicate 32 (0 : Int)).map (Value.int .u8), v.oneCell' = true := int_oneCell _ _
    clear hHv hj hv hq hTl hlt hqT
    go_wp2_with (refine wpList_store_blk (by rfl) (.tmp 7) (.tmp 27) 39 (by rfl) wr.heap.size 0 32 (by rfl) ((List.replicate 32 (0 : Int)).map (Value.int .u8)) (by rfl) (sizeOf_run (by kernel_rfl)) (e := 39) (vs := (List.replicate 32 (0 : Int)).map (Value.int .u8)) (Blk.newAt rfl (by rfl)) rfl (by decide) hz1 ((List.replicate 32 (0 : Int)).map (Value.int .u8)) rfl ?_
                 intro w5 hb5 hbut5 hsz5)
    have hgrow : ∀ o, Below wr.heap.size wr (wr.alloc o) := fun o => (Below.refl _ _).alloc (Nat.le_refl _) _
    have hbo : Below wr.heap.size wr w5 := (hgrow _).trans (hbut5.below (Nat.le_refl _) (by simp))
    have hS5 := hS.stays hbo
    have hH5 := hHh.stays hbo
    have hO5 : Arr .u8 39 w5 O (outUp v 0) := by rw [hO]; exact hb5
    have hHO : H < O := by rw [hO]; exact hHl
    rw [← hO]
    clear hgrow hbo hbut5 hsz5 hb5 hS hHh hO
    go_loopw [8] (fun i wr => ∃ k : Nat, k ≤ 32 ∧ i = .int .i64 k ∧ Below w.heap.size w wr ∧ Blk 39 wr w.heap.size ((List.replicate 32 (0 : Int)).map (Value.int .u8)) ∧ Blk 217 wr H v.val ∧ Arr .u8 39 wr O (outUp v k)) (fun i _ => 32 - (intOf i).toNat)
    case atStart => exact ⟨0, by omega, rfl, hS5.bel, hS5.res, hH5, hO5⟩
    case round =>
        clear hS5 hH5 hO5 hlt' hHl
        rename_i hrel
        obtain ⟨k, hk, rfl, hbel, hR, hHb, hA⟩ := hrel
        by_cases hlk : k < 32
        · obtain ⟨p, hp⟩ : ∃ p, p = k / 4 := ⟨_, rfl⟩
          obtain ⟨r, hr⟩ : ∃ r, r = k % 4 := ⟨_, rfl⟩
          obtain ⟨sh, hsh⟩ : ∃ r, r = 24 - 8 * (k % 4) := ⟨_, rfl⟩
          obtain ⟨x, hx⟩ : ∃ x, x = v.list.getD p 0 := ⟨_, rfl⟩
          have lx : x < 4294967296 := hx ▸ list_lt v hok p
          obtain ⟨y, hy⟩ : ∃ y, y = x / 2 ^ sh := ⟨_, rfl⟩
          obtain ⟨z, hz⟩ : ∃ z, z = y % 256 := ⟨_, rfl⟩
          have cx : wr.cell? ⟨H, p, none⟩ = some (.int .u32 (x : Int)) := by
           have hl : v.list.length = 8 := rfl
           rw [hHb.cell, hx]
           unfold S8.val ints
           have : p < 8 := by omega
           simp [List.getD, hl, this]
          obtain ⟨z0, cz⟩ : ∃ z, wr.cell? ⟨O, k, none⟩ = some (.int .u8 z) := ⟨_, hA.cell k (by rw [outUp_length _ _ hk]; exact hlk)⟩
          have fz := hA.free k
          have bp : (p : Int) < 8 := by omega
          have bk : (k : Int) < 32 := by omega
          have e1 : (k : Int).tdiv 4 = (p : Int) := by rw [Int.tdiv_eq_ediv_of_nonneg (by omega)]; omega
          have e1' : (k : Int) / 4 = (p : Int) := by omega
          have e2 : (k : Int).tmod 4 = (r : Int) := by rw [Int.tmod_eq_emod_of_nonneg (by omega)]; omega
          have e2' : (k : Int) % 4 = (r : Int) := by omega
          have e3 : (24 : Int) - 8 * (r : Int) = (sh : Int) := by omega
          have lr : r < 4 := by omega
          have lsh : sh ≤ 24 := by omega
          have e4 : (x : Int) / 2 ^ sh = (y : Int) := by rw [hy, Int.natCast_ediv, Int.natCast_pow]; rfl
          have e5 : (y : Int) % 256 = (z : Int) := by omega
          have HZ : Hid (v.bytes.getD k 0 = (z : Int)) := by
           unfold Hid S8.bytes
           have hl : v.list.length = 8 := rfl
           rw [flat_at v.list k (by omega), ← hp, ← hx, bytes4_at x lx _ (Nat.mod_lt _ (by decide)), hz, hy, hsh]
          clear hp hr hsh hx hy hz
          go_wp2
          go_roundw
          case rel =>
           refine ⟨k + 1, by omega, by go_num, hbel.setCell (by simp; omega) _, hR.but ((But.refl O wr).setCell k _) (by omega), hHb.but ((But.refl O wr).setCell k _) (by omega), ?_⟩
           have h1 := hA.set k (z : Int)
           rw [← HZ.out, outUp_next v k hlk, HZ.out] at h1
           exact h1
          case measure => simp [intOf]; omega
        · obtain ⟨us, hus⟩ : ∃ us, us = (shaOf xs).map (Value.int .u8) := ⟨_, rfl⟩
          have h8 : Blk 39 wr O us := by
           have e : k = 32 := by omega
           have h9 : outUp v 32 = v.bytes := by
            have hl : v.bytes.length = 32 := rfl
            unfold outUp
            rw [List.take_of_length_le (by omega), Nat.sub_self, List.replicate_zero, List.append_nil]
           rw [e, h9, HV.out] at hA
           rw [hus]
           exact hA
          have hul : us.length = 32 := by rw [hus, List.length_map, shaOf_length]
          have hu1 : ∀ v ∈ us, v.oneCell' = true := hus ▸ int_oneCell _ _
          have hu0 : Hid (us = (us.drop 0).take 32) := by unfold Hid; rw [List.drop_zero, List.take_of_length_le (by omega)]
          have hu2 : Hid (us = ((List.replicate 32 (0 : Int)).map (Value.int .u8)).take 0 ++ us ++ ((List.replicate 32 (0 : Int)).map (Value.int .u8)).drop (0 + 32)) := by
           unfold Hid; rw [List.take_zero, List.nil_append, List.drop_eq_nil_of_le (by simp), List.append_nil]
          have HUS : Hid (us = (shaOf xs).map (Value.int .u8)) := hus
          have hbs := hbel.size
          clear hus hA hz1
          go_wp2_with (first
           | (refine wpList_load_blk (by rfl) (.tmp 7) 39 (by rfl) O 0 32 (by rfl) (isAgg_array Tryd.underlying39) (sizeOf_run (by kernel_rfl)) h8 us hu0.out hul ?_)
           | (refine wpList_store_blk (by rfl) (.tmp 2) (.tmp 45) 39 (by rfl) w.heap.size 0 32 (by rfl) us (by rfl) (sizeOf_run (by kernel_rfl)) hR hul (by simp) hu1 us hu2.out ?_
              intro w6 hb6 hbut6 hsz6))
          go_wp2
          refine bodyPost_ret_blk (by rfl) (by rfl) (by rfl) (isAgg_array Tryd.underlying39) (sizeOf_run (by kernel_rfl)) hb6 hul ?_
          exact ⟨by rw [HUS.out], hbel.trans (hbut6.below (Nat.le_refl _) hbs)⟩
end Go.Proofs.YthbldjnpnligpaaDoor

/-
 Package sha: All and Sum.
-/

namespace Go.Proofs.YthbldjnpnligpaaDoor
set_option linter.unusedSimpArgs false
set_option linter.unusedVariables false
set_option maxRecDepth 100000
open Go.RowKit
structure Part where
 a : Option Addr
 c : Nat
 xs : List Int
def joined (ps : List Part) : List Int := ps.flatMap (·.xs)
structure Parts (w : World) (pa : Option Addr) (ps : List Part) : Prop where
 lay : ps = [] ∨ ∃ b off, pa = some ⟨b, off, none⟩ ∧ ∀ (i : Nat) (p : Part), ps[i]? = some p → w.cell? ⟨b, off + i, none⟩ = some (.slice p.a p.xs.length p.c)
 bytes : ∀ p ∈ ps, Bs w p.a p.c p.xs
theorem Bs.blk_lt {w : World} {a : Option Addr} {c : Nat} {xs : List Int} (h : Bs w a c xs) (h0 : xs ≠ []) (x : Addr) (hx : a = some x) : x.block < w.heap.size := by
 obtain ⟨b, off, rfl, hc⟩ := h.cell (List.length_pos_iff.2 h0)
 cases hx
 have h1 := hc 0 (List.length_pos_iff.2 h0)
 rcases Nat.lt_or_ge b w.heap.size with h2 | h2
 · exact h2
 · simp [World.cell?, Array.getElem?_eq_none h2] at h1
theorem joined_take (ps : List Part) (k : Nat) (p : Part) (hp : ps[k]? = some p) : joined (ps.take (k + 1)) = joined (ps.take k) ++ p.xs := by
 unfold joined
 rw [List.take_add_one, hp]
 simp
theorem joined_le (ps : List Part) (k : Nat) (p : Part) (hp : ps[k]? = some p) : (joined (ps.take k)).length + p.xs.length ≤ (joined ps).length := by
 have h := joined_take ps k p hp
 have h1 : joined ps = joined (ps.take (k + 1)) ++ joined (ps.drop (k + 1)) := by
  unfold joined
  rw [← List.flatMap_append, List.take_append_drop]
 rw [h1, h]
 simp
set_option maxRecDepth 100000 in
set_option maxHeartbeats 2000000 in
theorem all_run (pa : Option Addr) (pc : Nat) (ps : List Part) (w : World) (hP : Parts w pa ps) (hV : Vars w) (hlen : (joined ps).length < 1000000000000000000) (hpn : ps.length ≤ 9223372036854775807) :
 Calls Tryd.prog 137 #[.slice pa ps.length pc] w fun e w' => e = .returned (.agg ((shaOf (joined ps)).map (Value.int .u8)).toArray) ∧ Below w.heap.size w w' := by
 obtain ⟨N, hN⟩ : ∃ N, N = ps.length := ⟨_, rfl⟩
 have HN : Hid (N = ps.length) := hN
 have hsz := hV.size
 rw [← hN]
 clear hN
 go_enter Tryd.func137, Tryd.ntmps137
 go_wp2_with (go_at_call 160; go_must (refine (new_run _).mono ?_); rintro e w1 ⟨rfl, hH1, hb1, hs1⟩)
 have hN2 : N ≤ 9223372036854775807 := by rw [HN.out]; exact hpn
 have hb0 : ∀ o, Below w.heap.size w (w.alloc o) := fun o => (Below.refl _ _).alloc (Nat.le_refl _) _
 have hR1 : Blk 39 w1 w.heap.size ((List.replicate 32 (0 : Int)).map (Value.int .u8)) := (Blk.newAt rfl rfl).stays hb1
 have hbel1 : Below w.heap.size w w1 := (hb0 _).trans (hb1.mono (by simp))
 have hV1 : Vars w1 := hV.stays hbel1
 have hH2 : HashAt w1 (w.heap.size + 1) (joined (ps.take 0)) := by simpa [joined] using hH1
 clear hH1 hb1 hs1 hb0 hpn
 go_loopw [9] (fun i wr => ∃ k : Nat, k ≤ N ∧ i = .int .i64 k ∧ Below w.heap.size w wr ∧ HashAt wr (w.heap.size + 1) (joined (ps.take k)) ∧ Blk 39 wr w.heap.size ((List.replicate 32 (0 : Int)).map (Value.int .u8))) (fun i _ => N - (intOf i).toNat)
 case atStart => exact ⟨0, by omega, rfl, hbel1, hH2, hR1⟩
 case round =>
  clear hbel1 hH2 hR1 hV1
  rename_i hrel
  obtain ⟨k, hk, rfl, hbel, hH, hR⟩ := hrel
  have hVr : Vars wr := hV.stays hbel
  by_cases hlt : k < N
  · obtain ⟨p, hp⟩ : ∃ p, ps[k]? = some p := ⟨_, List.getElem?_eq_getElem (by rw [← HN.out]; exact hlt)⟩
    have hpm : p ∈ ps := List.mem_of_getElem? hp
    have hBp := hP.bytes p hpm
    obtain ⟨b, off, hpa, hc⟩ := hP.lay.resolve_left (fun h => by rw [h] at hpm; cases hpm)
    have hcell : wr.cell? ⟨b, off + k, none⟩ = some (.slice p.a p.xs.length p.c) := by
        have h1 := hc k p hp
        have hlb : b < w.heap.size := by
         rcases Nat.lt_or_ge b w.heap.size with h2 | h2
         · exact h2
         · simp [World.cell?, Array.getElem?_eq_none h2] at h1
        rw [hbel.cell hlb]
        exact h1
    have hidx : ∀ w, (Instr.indexAt 212 (.slice pa N pc) (.int .i64 (k : Int))).run Tryd.prog w = .ok (.pointer (some ⟨b, off + k, none⟩)) w := by
        rw [hpa]
        exact fun w => index_run (P := Tryd.prog) 212 43 Tryd.underlying212 (by kernel_rfl) (by kernel_rfl) b off N pc .i64 k hlt w
    have hw := write_run (w.heap.size + 1) (joined (ps.take k)) p.a p.c p.xs wr hH (hBp.stays hbel) (fun h0 x hx => by have := hBp.blk_lt h0 x hx; omega) (by have := joined_le ps k p hp; omega) hVr.steps hVr.firsts (by omega) (by omega)
    have HJ : Hid (joined (ps.take (k + 1)) = joined (ps.take k) ++ p.xs) := joined_take ps k p hp
    clear hpa hc hp hP
    go_wp2_with (go_at_call 161; go_must (refine hw.mono ?_); rintro e w2 ⟨rfl, hst2, hbut2⟩)
    go_roundw
    case rel =>
        refine ⟨k + 1, by omega, by go_num, hbel.trans (hbut2.below (by omega) hbel.size), ?_, hR.but hbut2 (by omega)⟩
        rw [HJ.out]; exact hst2.at
    case measure => simp [intOf]; omega
  · have hJ : joined (ps.take k) = joined ps := by rw [List.take_of_length_le (by rw [← HN.out]; omega)]
    rw [hJ] at hH
    have hs := hsum_run (w.heap.size + 1) (joined ps) wr hH hlen hVr
    obtain ⟨us, hus⟩ : ∃ us, us = (shaOf (joined ps)).map (Value.int .u8) := ⟨_, rfl⟩
    rw [← hus] at hs
    have HUS : Hid (us = (shaOf (joined ps)).map (Value.int .u8)) := hus
    have hul : us.length = 32 := by rw [hus, List.length_map, shaOf_length]
    have hu1 : ∀ v ∈ us, v.oneCell' = true := hus ▸ int_oneCell _ _
    have hu2 : Hid (us = ((List.replicate 32 (0 : Int)).map (Value.int .u8)).take 0 ++ us ++ ((List.replicate 32 (0 : Int)).map (Value.int .u8)).drop (0 + 32)) := by
        unfold Hid; rw [List.take_zero, List.nil_append, List.drop_eq_nil_of_le (by simp), List.append_nil]
    have hbs := hbel.size
    clear hus hJ hH hP
    go_wp2_with (first
        | (go_at_call 162; go_must (refine hs.mono ?_); rintro e w2 ⟨rfl, hb2⟩)
        | (refine wpList_store_blk (by rfl) (.tmp 2) (.tmp 18) 39 (by rfl) w.heap.size 0 32 (by rfl) us (by rfl) (sizeOf_run (by kernel_rfl)) (hR.stays hb2) hul (by simp) hu1 us hu2.out ?_
           intro w6 hb6 hbut6 hsz6))
    go_wp2
    refine bodyPost_ret_blk (by rfl) (by rfl) (by rfl) (isAgg_array Tryd.underlying39) (sizeOf_run (by kernel_rfl)) hb6 hul ?_
    exact ⟨by rw [HUS.out], (hbel.trans (hb2.mono hbs)).trans (hbut6.below (Nat.le_refl _) (by have := hb2.size; omega))⟩
set_option maxRecDepth 100000 in
theorem sum_run (a : Option Addr) (c : Nat) (xs : List Int) (w : World) (hB : Bs w a c xs) (hV : Vars w) (hlen : xs.length < 1000000000000000000) :
 Calls Tryd.prog 96 #[.slice a xs.length c] w fun e w' => e = .returned (.agg ((shaOf xs).map (Value.int .u8)).toArray) ∧ Below w.heap.size w w' := by
 obtain ⟨us, hus⟩ : ∃ us, us = (shaOf xs).map (Value.int .u8) := ⟨_, rfl⟩
 have hul : us.length = 32 := by rw [hus, List.length_map, shaOf_length]
 have hu1 : ∀ v ∈ us, v.oneCell' = true := hus ▸ int_oneCell _ _
 have hu2 : Hid (us = ((List.replicate 32 (0 : Int)).map (Value.int .u8)).take 0 ++ us ++ ((List.replicate 32 (0 : Int)).map (Value.int .u8)).drop (0 + 32)) := by
  unfold Hid; rw [List.take_zero, List.nil_append, List.drop_eq_nil_of_le (by simp), List.append_nil]
 have hall : ∀ (o1 o2 : Obj), o2 = .cells #[.slice a xs.length c] 43 → Calls Tryd.prog 137 #[.slice (some ⟨w.heap.size + 1, 0, none⟩) 1 1] ((w.alloc o1).alloc o2) fun e w' => e = .returned (.agg us.toArray) ∧ Below ((w.alloc o1).alloc o2).heap.size ((w.alloc o1).alloc o2) w' := fun o1 o2 ho => by
  have hb : Below w.heap.size w ((w.alloc o1).alloc o2) := ((Below.refl _ _).alloc (Nat.le_refl _) _).alloc (by simp) _
  have h := all_run (some ⟨w.heap.size + 1, 0, none⟩) 1 [⟨a, c, xs⟩] ((w.alloc o1).alloc o2) ⟨.inr ⟨_, 0, rfl, fun i p hp => ?_⟩, fun p hp => ?_⟩ (hV.stays hb) (by simpa [joined] using hlen) (by simp)
  · rw [hus]; simpa [joined] using h
  · obtain ⟨rfl, rfl⟩ : i = 0 ∧ p = ⟨a, c, xs⟩ := by
        rcases i with _ | i
        · simpa [eq_comm] using hp
        · simp at hp
    subst ho
    simp
  · obtain rfl := List.mem_singleton.1 hp
    exact hB.stays hb
 have HUS : Hid (us = (shaOf xs).map (Value.int .u8)) := hus
 clear hus
 go_enter Tryd.func96, Tryd.ntmps96
 go_wp2_with (first
  | (go_at_call 137; go_must (refine (hall _ _ rfl).mono ?_); rintro e w2 ⟨rfl, hb2⟩)
  | (refine wpList_store_blk (by rfl) (.tmp 2) (.tmp 5) 39 (by rfl) w.heap.size 0 32 (by rfl) us (by rfl) (sizeOf_run (by kernel_rfl)) (e := 39) (vs := (List.replicate 32 (0 : Int)).map (Value.int .u8)) (((Blk.newAt rfl (by rfl)).alloc _).stays hb2) hul (by simp) hu1 us hu2.out ?_
     intro w6 hb6 hbut6 hsz6))
 go_wp2
 refine bodyPost_ret_blk (by rfl) (by rfl) (by rfl) (isAgg_array Tryd.underlying39) (sizeOf_run (by kernel_rfl)) hb6 hul ?_
 refine ⟨by rw [HUS.out], ?_⟩
 have hs := hb2.size
 simp at hs
 exact ((((Below.refl _ _).alloc (Nat.le_refl _) _).alloc (by simp) _).trans (hb2.mono (by simp; omega))).trans (hbut6.below (Nat.le_refl _) (by omega))
end Go.Proofs.YthbldjnpnligpaaDoor
