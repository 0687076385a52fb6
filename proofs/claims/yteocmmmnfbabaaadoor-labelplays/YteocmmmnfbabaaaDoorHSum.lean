/-
  Package sha: New, and Sum on a hash.
-/
import Derived.Test.YteocmmmnfbabaaaDoorWrite
namespace Go.Proofs.YteocmmmnfbabaaaDoor
set_option linter.unusedSimpArgs false
set_option linter.unusedVariables false
set_option maxRecDepth 100000
open Go.RowKit

/-- The variables of the package. -/
structure Vars (w : World) : Prop where
  steps : Tab .u32 w 1 (ints stepNums)
  firsts : Tab .u32 w 0 (ints firsts8.list)

theorem Vars.size {w : World} (h : Vars w) : 2 ≤ w.heap.size := by
  have h1 := h.steps.lt (by decide)
  have h2 := h.firsts.lt (by decide)
  omega
theorem Vars.but {w w' : World} {b : Nat} (h : Vars w) (hb : But b w w') (h1 : b ≠ 1) (h2 : b ≠ 0) : Vars w' := ⟨h.steps.but hb (Ne.symm h1), h.firsts.but hb (Ne.symm h2)⟩
theorem Vars.stays {w w' : World} (h : Vars w) (hb : Below w.heap.size w w') : Vars w' := ⟨h.steps.stays hb, h.firsts.stays hb⟩
theorem Vars.below {w w' : World} {B : Nat} (h : Vars w) (hb : Below B w w') (hB : 2 ≤ B) : Vars w' := ⟨h.steps.below hb (by omega), h.firsts.below hb (by omega)⟩

def zero8 : S8 := ⟨0, 0, 0, 0, 0, 0, 0, 0⟩

theorem zero_hash (w : World) : (zeroValue 127).run Tryd.prog w = .ok (.agg (hashCells zero8 (List.replicate 64 0) 0).toArray) w := by
  obtain ⟨i, hi, hz⟩ : ∃ i, Tryd.prog.info? 127 = some i ∧ i.zero = some (.agg (hashCells zero8 (List.replicate 64 0) 0).toArray) := ⟨_, rfl, rfl⟩
  simp [zeroValue, typeInfo, hi, hz, go_sem]

theorem agg_hash (w : World) : (isAgg 127).run Tryd.prog w = .ok true w := by
  obtain ⟨fs, hfs⟩ : ∃ fs, Tryd.prog.underlying 127 = some (.struct fs) := ⟨_, rfl⟩
  exact isAgg_struct hfs w

theorem new_run (w : World) : Calls Tryd.prog 72 #[] w fun e w' => e = .returned (.pointer (some ⟨w.heap.size, 0, none⟩)) ∧ HashAt w' w.heap.size [] ∧ Below w.heap.size w w' ∧ w'.heap.size = w.heap.size + 1 := by
  have hz := zero_hash
  go_enter Tryd.func72, Tryd.ntmps72
  go_wp2
  go_ret
  refine ⟨rfl, ⟨zero8, List.replicate 64 0, Blk.newAt rfl rfl, ⟨by decide, by decide, by decide, by decide, by decide, by decide, by decide, by decide⟩, rfl, by decide, rfl, fun h => absurd rfl h⟩, (Below.refl _ _).alloc (Nat.le_refl _) _, by simp⟩

theorem padded_whole (n : Nat) : (n + (padOf n).length) % 64 = 0 := by
  rw [padOf_length]; omega

theorem hashCells_numbers (v : S8) (T : List Int) (m : Nat) : v.val = ((hashCells v T m).drop 0).take 8 := by
  rw [List.drop_zero]
  unfold hashCells
  rw [List.append_assoc, List.take_append_of_le_length (by rw [val_length]; omega), List.take_of_length_le (by rw [val_length]; omega)]

/-- The bytes of the first j numbers. -/
def bytesUp (v : S8) (j : Nat) : List Int := (v.list.take j).flatMap bytes4 ++ List.replicate (32 - 4 * j) 0
theorem bytes4_length (n : Nat) : (bytes4 n).length = 4 := rfl
theorem flat_length (l : List Nat) : (l.flatMap bytes4).length = 4 * l.length := by
  induction l with
  | nil => rfl
  | cons x l ih => simp only [List.flatMap_cons, List.length_append, bytes4_length, ih, List.length_cons]; omega
theorem bytesUp_length (v : S8) (j : Nat) (hj : j ≤ 8) : (bytesUp v j).length = 32 := by
  unfold bytesUp
  rw [List.length_append, flat_length, List.length_take, List.length_replicate, show v.list.length = 8 from rfl]; omega
theorem set4 (l r : List Int) (x0 x1 x2 x3 y0 y1 y2 y3 : Int) (p : Nat) (hp : p = l.length) : ((((l ++ (x0 :: x1 :: x2 :: x3 :: r)).set p y0).set (p + 1) y1).set (p + 2) y2).set (p + 3) y3 = l ++ ([y0, y1, y2, y3] ++ r) := by
  subst hp
  simp [List.set_append_right]
theorem bytesUp_next (v : S8) (j : Nat) (hj : j < 8) (y0 y1 y2 y3 : Int) (h : bytes4 (v.list.getD j 0) = [y0, y1, y2, y3]) : ((((bytesUp v j).set (4 * j) y0).set (4 * j + 1) y1).set (4 * j + 2) y2).set (4 * j + 3) y3 = bytesUp v (j + 1) := by
  have hl : v.list.length = 8 := rfl
  unfold bytesUp
  rw [show 32 - 4 * j = (32 - 4 * (j + 1)) + 1 + 1 + 1 + 1 by omega]
  simp only [List.replicate_succ]
  rw [set4 _ _ _ _ _ _ _ _ _ _ _ (by rw [flat_length, List.length_take, hl]; omega), List.take_add_one, List.getElem?_eq_getElem (by omega), List.flatMap_append, List.append_assoc]
  congr 2
  have : v.list[j]'(by omega) = v.list.getD j 0 := by simp [List.getD, hl, hj]
  simp only [Option.toList_some, List.flatMap_cons, List.flatMap_nil, List.append_nil, this, h]

theorem hsum_cell {w w3 : World} {o1 o2 o3 : Obj} {b n : Nat} {v : S8} {tail : List Int} (hblk : Blk 127 w b (hashCells v tail n)) (htl : tail.length = 64) (hbut3 : But (w.heap.size + 1 + 1) (((w.alloc o1).alloc o2).alloc o3) w3) :
    w3.cell? ⟨b, 72, none⟩ = some (.int .u64 (n : Int)) := by
  have := hblk.lt
  rw [((((hblk.alloc o1).alloc o2).alloc o3).but hbut3 (by omega)).cell]
  exact hashCells_size _ _ _ htl

theorem hsum_facts {w w3 w4 : World} {t1 t2 : TypeId} {vs1 vs2 : List Value} {c1 c2 : Array Value} {o3 : Obj} {xs : List Int} {n : Nat} (h1 : c1 = vs1.toArray) (h2 : c2 = vs2.toArray) {cs : List Value} (hb3 : Blk 127 w3 (w.heap.size + 1 + 1) cs)
    (hbut3 : But (w.heap.size + 1 + 1) (((w.alloc (.cells c1 t1)).alloc (.cells c2 t2)).alloc o3) w3) (hrow4 : Row 5 w4 w3.heap.size (padOf n)) (hbel4 : Below w3.heap.size w3 w4) (hV : Vars w)
    (hH : ∀ u, Blk 127 u (w.heap.size + 1 + 1) cs → HashAt u (w.heap.size + 1 + 1) xs) :
    HashAt w4 (w.heap.size + 1 + 1) xs ∧ Bs w4 (some ⟨w3.heap.size, 0, none⟩) (padOf n).length (padOf n) ∧ Vars w4 ∧ Below w.heap.size w w4 ∧ Blk t1 w4 w.heap.size vs1 ∧ Blk t2 w4 (w.heap.size + 1) vs2 ∧ w.heap.size + 1 + 1 < w3.heap.size := by
  have hsz := hV.size
  have hs3 := hbut3.size
  simp at hs3
  have e0 : Below w.heap.size w (((w.alloc (.cells c1 t1)).alloc (.cells c2 t2)).alloc o3) := (((Below.refl _ _).alloc (Nat.le_refl _) _).alloc (by simp) _).alloc (by simp; omega) _
  have e1 : Below w.heap.size w w3 := e0.trans (hbut3.below (by omega) (by simp; omega))
  have e2 : Below w.heap.size w w4 := e1.trans (hbel4.mono (by omega))
  have b1 : Blk t1 (((w.alloc (.cells c1 t1)).alloc (.cells c2 t2)).alloc o3) w.heap.size vs1 := ((Blk.newAt rfl h1).alloc _).alloc _
  have b2 : Blk t2 (((w.alloc (.cells c1 t1)).alloc (.cells c2 t2)).alloc o3) (w.heap.size + 1) vs2 := (Blk.newAt (by simp) h2).alloc _
  refine ⟨hH _ (hb3.stays hbel4), hrow4.bs (padOf_rng n) ?_, hV.below e2 hsz, e2, (b1.but hbut3 (by omega)).stays hbel4, (b2.but hbut3 (by omega)).stays hbel4, by omega⟩
  rw [padOf_length]
  have : (119 - n % 64) % 64 < 64 := Nat.mod_lt _ (by decide)
  unfold maxLen
  omega

set_option maxRecDepth 100000 in
set_option maxHeartbeats 600000 in
theorem hsum_run (b : Nat) (xs : List Int) (w : World) (hH : HashAt w b xs) (hlen : xs.length < 1000000000000000000) (hV : Vars w) :
    Calls Tryd.prog 74 #[.pointer (some ⟨b, 0, none⟩)] w fun e w' => e = .returned (.agg ((shaOf xs).map (Value.int .u8)).toArray) ∧ Below w.heap.size w w' := by
  obtain ⟨v, tail, hblk, hok, htl, htr, hcut, hnum⟩ := hH
  have hsz : w.cell? ⟨b, 72, none⟩ = some (.int .u64 (xs.length : Int)) := by rw [hblk.cell]; exact hashCells_size _ _ _ htl
  obtain ⟨n, hn⟩ : ∃ n, n = xs.length := ⟨_, rfl⟩
  obtain ⟨cs, hcs⟩ : ∃ cs, cs = hashCells v tail xs.length := ⟨_, rfl⟩
  have hcl : cs.length = 73 := by rw [hcs]; exact hashCells_length _ _ _ htl
  rw [← hn] at hsz
  rw [← hcs] at hblk
  have hc0 : Hid (cs = (cs.drop 0).take 73) := by unfold Hid; rw [List.drop_zero, List.take_of_length_le (by omega)]
  have hc2 : Hid (cs = (hashCells zero8 (List.replicate 64 0) 0).take 0 ++ cs ++ (hashCells zero8 (List.replicate 64 0) 0).drop (0 + 73)) := by
    unfold Hid; rw [List.take_zero, List.nil_append, List.drop_eq_nil_of_le (by decide), List.append_nil]
  have hc1 : ∀ v ∈ cs, v.oneCell' = true := by
    rw [hcs]
    intro u hu
    unfold hashCells at hu
    simp only [List.mem_append] at hu
    rcases hu with (hu | hu) | hu
    · exact int_oneCell _ _ u hu
    · exact int_oneCell _ _ u hu
    · rw [List.mem_singleton.1 hu]; rfl
  have HN : Hid (n = xs.length) := hn
  have HC : Hid (cs = hashCells v tail xs.length) := hcs
  have hblk0 : Hid (Blk 127 w b (hashCells v tail n)) := by unfold Hid; rw [hn, ← hcs]; exact hblk
  have hnl : n < 1152921504606846976 := by omega
  have hbig : xs.length + (padOf n).length < 1152921504606846976 := by rw [padOf_length]; have : (119 - n % 64) % 64 < 64 := Nat.mod_lt _ (by decide); omega
  have hsz2 := hV.size
  have hne1 : w.heap.size + 1 + 1 ≠ 1 := by omega
  have hne2 : w.heap.size + 1 + 1 ≠ 0 := by omega
  have hH : ∀ u, Blk 127 u (w.heap.size + 1 + 1) cs → HashAt u (w.heap.size + 1 + 1) xs := fun u hu => ⟨v, tail, hcs ▸ hu, hok, htl, htr, hcut, hnum⟩
  clear hn hcs hcut hnum
  go_enter Tryd.func74, Tryd.ntmps74
  have hz := zero_hash
  go_wp2_with (first
    | (refine wpList_load_blk (by rfl) (.tmp 11) 127 (by rfl) b 0 73 (by rfl) agg_hash (sizeOf_run (by kernel_rfl)) ((hblk.alloc _).alloc _) cs hc0.out hcl ?_)
    | (refine wpList_store_blk (by rfl) (.tmp 4) (.tmp 12) 127 (by rfl) (w.heap.size + 1 + 1) 0 73 (by rfl) cs (by rfl) (sizeOf_run (by kernel_rfl)) (e := 127) (vs := hashCells zero8 (List.replicate 64 0) 0) (Blk.newAt (by simp) (by rfl)) hcl (by decide) hc1 cs hc2.out ?_
       intro w3 hb3 hbut3 hsz3
       have hs3 := hsum_cell hblk0.out htl hbut3))
  refine (padding_run n hnl _).mono ?_
  rintro e w4 ⟨rfl, hrow4, hbel4⟩
  obtain ⟨hH4, hB4, hV4, hbelw, hR4, hO4, hlt4⟩ := hsum_facts (vs1 := (List.replicate 32 (0 : Int)).map (Value.int .u8)) (vs2 := (List.replicate 32 (0 : Int)).map (Value.int .u8)) rfl rfl hb3 hbut3 hrow4 hbel4 hV hH
  have hw := write_run (w.heap.size + 1 + 1) xs _ _ (padOf n) w4 hH4 hB4 (fun _ x hx => by cases hx; exact Nat.ne_of_gt hlt4) hbig hV4.steps hV4.firsts hne1 hne2
  clear hsz hb3 hbut3 hrow4 hbel4 hH4 hB4 hblk hs3 hsz3
  go_wp2_with (first
    | (go_at_call 73; go_must (refine hw.mono ?_); rintro e w5 ⟨rfl, ⟨v5, tail5, hblk5, hst5⟩, hbut5⟩)
    | (refine wpList_load_blk (by rfl) (.tmp 19) 107 (by rfl) (w.heap.size + 1 + 1) 0 8 (by rfl) (isAgg_array Tryd.underlying107) (sizeOf_run (by kernel_rfl)) hblk5 v5.val (hashCells_numbers _ _ _) rfl ?_))
  have hR5 : Blk 23 w5 w.heap.size ((List.replicate 32 (0 : Int)).map (Value.int .u8)) := hR4.but hbut5 (by omega)
  have hO5 : Arr .u8 23 w5 (w.heap.size + 1) (bytesUp v5 0) := (hO4.but hbut5 (by omega)).arr
  have hbel5 : Below w.heap.size w w5 := hbelw.trans (hbut5.below (by omega) (by have := hbelw.size; omega))
  have hok5 : v5.Ok := hst5.num ▸ hashed_ok _
  have HV5 : Hid (v5.bytes = shaOf xs) := by unfold Hid shaOf; rw [hst5.num, HN.out]
  obtain ⟨vs, hvs⟩ : ∃ vs, vs = v5.val := ⟨_, rfl⟩
  have hix : ∀ j, j < 8 → vs.toArray[j]? = some (.int .u32 ((v5.list.getD j 0 : Nat) : Int)) := fun j hj => by
    have hl : v5.list.length = 8 := rfl
    rw [hvs, List.getElem?_toArray]
    unfold S8.val ints
    simp [List.getD, hl, hj]
  have hx32 : ∀ j, j < 8 → v5.list.getD j 0 < 4294967296 := fun j hj => getD_lt (fun x hx => by
    simp only [S8.list, List.mem_cons, List.not_mem_nil, or_false] at hx
    rcases hx with rfl | rfl | rfl | rfl | rfl | rfl | rfl | rfl
    · exact hok5.a
    · exact hok5.b
    · exact hok5.c
    · exact hok5.d
    · exact hok5.e
    · exact hok5.f
    · exact hok5.g
    · exact hok5.h) j
  rw [← hvs]
  clear hR4 hO4 hbelw hw hblk5 hst5 hbut5 hvs hok5 hV4 hH
  go_loopw [21] (fun i wr => ∃ j : Nat, j ≤ 8 ∧ i = .int .i64 j ∧ Below w.heap.size w wr ∧ Arr .u8 23 wr (w.heap.size + 1) (bytesUp v5 j) ∧ Blk 23 wr w.heap.size ((List.replicate 32 (0 : Int)).map (Value.int .u8))) (fun i _ => 8 - (intOf i).toNat)
  case atStart => exact ⟨0, by omega, rfl, hbel5, hO5, hR5⟩
  case round =>
    clear hbel5 hO5 hR5
    rename_i hrel
    obtain ⟨j, hj, rfl, hbel, hO, hR⟩ := hrel
    by_cases hlj : j < 8
    · obtain ⟨x, hx⟩ : ∃ x, x = v5.list.getD j 0 := ⟨_, rfl⟩
      have hin := index_agg (P := Tryd.prog) Tryd.underlying107 Tryd.underlying22 (by kernel_rfl) hlj (hix j hlj) .i64
      have lx : x < 4294967296 := hx ▸ hx32 j hlj
      rw [← hx] at hin
      obtain ⟨y0, hy0⟩ : ∃ y, y = x / 16777216 := ⟨_, rfl⟩
      obtain ⟨y1, hy1⟩ : ∃ y, y = x / 65536 % 256 := ⟨_, rfl⟩
      obtain ⟨y2, hy2⟩ : ∃ y, y = x / 256 % 256 := ⟨_, rfl⟩
      obtain ⟨y3, hy3⟩ : ∃ y, y = x % 256 := ⟨_, rfl⟩
      have e0 : (x : Int) / 16777216 = (y0 : Int) := by omega
      have e00 : (y0 : Int) % 256 = (y0 : Int) := by omega
      obtain ⟨s1, hs1⟩ : ∃ s, s = x / 65536 := ⟨_, rfl⟩
      obtain ⟨s2, hs2⟩ : ∃ s, s = x / 256 := ⟨_, rfl⟩
      have e10 : (x : Int) / 65536 = (s1 : Int) := by omega
      have e20 : (x : Int) / 256 = (s2 : Int) := by omega
      have ly0 : y0 < 256 := by omega
      have e1 : (s1 : Int) % 256 = (y1 : Int) := by omega
      have e2 : (s2 : Int) % 256 = (y2 : Int) := by omega
      clear hs1 hs2
      have e3 : (x : Int) % 256 = (y3 : Int) := by omega
      have HB : Hid (bytes4 (v5.list.getD j 0) = [(y0 : Int), (y1 : Int), (y2 : Int), (y3 : Int)]) := by unfold Hid bytes4; rw [← hx, hy0, hy1, hy2, hy3]
      obtain ⟨p0, hp0⟩ : ∃ p, p = 4 * j := ⟨_, rfl⟩
      obtain ⟨p1, hp1⟩ : ∃ p, p = 4 * j + 1 := ⟨_, rfl⟩
      obtain ⟨p2, hp2⟩ : ∃ p, p = 4 * j + 2 := ⟨_, rfl⟩
      obtain ⟨p3, hp3⟩ : ∃ p, p = 4 * j + 3 := ⟨_, rfl⟩
      have f0 : 4 * (j : Int) = (p0 : Int) := by omega
      have f1 : (p0 : Int) + 1 = (p1 : Int) := by omega
      have f2 : (p0 : Int) + 2 = (p2 : Int) := by omega
      have f3 : (p0 : Int) + 3 = (p3 : Int) := by omega
      have b0 : (p0 : Int) < 32 := by omega
      have b1 : (p1 : Int) < 32 := by omega
      have b2 : (p2 : Int) < 32 := by omega
      have b3 : (p3 : Int) < 32 := by omega
      have n10 : (p1 = p0) = False := eq_false (by omega)
      have n01 : (p0 = p1) = False := eq_false (by omega)
      have n20 : (p2 = p0) = False := eq_false (by omega)
      have n02 : (p0 = p2) = False := eq_false (by omega)
      have n21 : (p2 = p1) = False := eq_false (by omega)
      have n12 : (p1 = p2) = False := eq_false (by omega)
      have n30 : (p3 = p0) = False := eq_false (by omega)
      have n03 : (p0 = p3) = False := eq_false (by omega)
      have n31 : (p3 = p1) = False := eq_false (by omega)
      have n13 : (p1 = p3) = False := eq_false (by omega)
      have n32 : (p3 = p2) = False := eq_false (by omega)
      have n23 : (p2 = p3) = False := eq_false (by omega)
      have hbl := bytesUp_length v5 j hj
      have hO0 := hO
      have hO1 := hO0.set p0 (y0 : Int)
      have hO2 := hO1.set p1 (y1 : Int)
      have hO3 := hO2.set p2 (y2 : Int)
      have hO4 := hO3.set p3 (y3 : Int)
      obtain ⟨z0, c0⟩ : ∃ z, wr.cell? ⟨w.heap.size + 1, p0, none⟩ = some (.int .u8 z) := ⟨_, hO0.cell p0 (by omega)⟩
      obtain ⟨z1, c1⟩ : ∃ z, wr.cell? ⟨w.heap.size + 1, p1, none⟩ = some (.int .u8 z) := ⟨_, hO0.cell p1 (by omega)⟩
      obtain ⟨z2, c2⟩ : ∃ z, wr.cell? ⟨w.heap.size + 1, p2, none⟩ = some (.int .u8 z) := ⟨_, hO0.cell p2 (by omega)⟩
      obtain ⟨z3, c3⟩ : ∃ z, wr.cell? ⟨w.heap.size + 1, p3, none⟩ = some (.int .u8 z) := ⟨_, hO0.cell p3 (by omega)⟩
      have z0f := hO0.free p0
      have z1f := hO0.free p1
      have z2f := hO0.free p2
      have z3f := hO0.free p3
      clear hO1 hO2 hO3 hO4
      have HP : Hid (p0 = 4 * j ∧ p1 = 4 * j + 1 ∧ p2 = 4 * j + 2 ∧ p3 = 4 * j + 3) := ⟨hp0, hp1, hp2, hp3⟩
      clear hne1 hne2 hlt4 hsz2 hnl hlen hbig
      clear hx hy0 hy1 hy2 hy3 hp0 hp1 hp2 hp3 hix hx32 hbl
      go_wp2
      go_roundw
      case rel =>
        obtain ⟨hp0, hp1, hp2, hp3⟩ := HP.out
        refine ⟨j + 1, by omega, by go_num, ?_, ?_, ?_⟩
        · exact (((hbel.setCell (by simp) _).setCell (by simp) _).setCell (by simp) _).setCell (by simp) _
        · have h4 := (((hO0.set p0 (y0 : Int)).set p1 (y1 : Int)).set p2 (y2 : Int)).set p3 (y3 : Int)
          have h5 := bytesUp_next v5 j hlj _ _ _ _ HB.out
          rw [← hp0, show p0 + 1 = p1 by omega, show p0 + 2 = p2 by omega, show p0 + 3 = p3 by omega] at h5
          rw [h5] at h4
          exact h4
        · exact hR.but (((((But.refl (w.heap.size + 1) wr).setCell p0 _).setCell p1 _).setCell p2 _).setCell p3 _) (by omega)
      case measure => simp [intOf]; omega
    · have h8 : Arr .u8 23 wr (w.heap.size + 1) (shaOf xs) := by
        have e : j = 8 := by omega
        have h9 : bytesUp v5 8 = v5.bytes := by simp [bytesUp, S8.bytes, S8.list]
        rw [e, h9, HV5.out] at hO
        exact hO
      obtain ⟨us, hus⟩ : ∃ us, us = (shaOf xs).map (Value.int .u8) := ⟨_, rfl⟩
      have hul : us.length = 32 := by rw [hus, List.length_map, shaOf_length]
      have hu1 : ∀ v ∈ us, v.oneCell' = true := hus ▸ int_oneCell _ _
      have hu0 : Hid (us = (us.drop 0).take 32) := by unfold Hid; rw [List.drop_zero, List.take_of_length_le (by omega)]
      have hu2 : Hid (us = ((List.replicate 32 (0 : Int)).map (Value.int .u8)).take 0 ++ us ++ ((List.replicate 32 (0 : Int)).map (Value.int .u8)).drop (0 + 32)) := by
        unfold Hid; rw [List.take_zero, List.nil_append, List.drop_eq_nil_of_le (by simp), List.append_nil]
      have h8b := h8.blk
      rw [← hus] at h8b
      have HUS : Hid (us = (shaOf xs).map (Value.int .u8)) := hus
      have hbs := hbel.size
      clear hus h8 hO hne1 hne2 hix hx32
      go_wp2_with (first
        | (refine wpList_load_blk (by rfl) (.tmp 3) 23 (by rfl) (w.heap.size + 1) 0 32 (by rfl) (isAgg_array Tryd.underlying23) (sizeOf_run (by kernel_rfl)) h8b us hu0.out hul ?_)
        | (refine wpList_store_blk (by rfl) (.tmp 2) (.tmp 52) 23 (by rfl) w.heap.size 0 32 (by rfl) us (by rfl) (sizeOf_run (by kernel_rfl)) hR hul (by simp) hu1 us hu2.out ?_
           intro w6 hb6 hbut6 hsz6))
      go_wp2
      refine bodyPost_ret_blk (by rfl) (by rfl) (by rfl) (isAgg_array Tryd.underlying23) (sizeOf_run (by kernel_rfl)) hb6 hul ?_
      exact ⟨by rw [HUS.out], hbel.trans (hbut6.below (Nat.le_refl _) hbs)⟩
end Go.Proofs.YteocmmmnfbabaaaDoor
