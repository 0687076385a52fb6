/-
  Package sha: New, and Sum on a hash.
-/
import Derived.Test.YtjfoidilecognaaDoorG17
import Derived.Test.YtjfoidilecognaaDoorG16
import Derived.RegionTactic
namespace Go.Proofs.YtjfoidilecognaaDoor
set_option linter.unusedSimpArgs false
set_option linter.unusedVariables false
set_option maxRecDepth 100000
open Go.RowKit

/-- The variables of the package. -/
structure Vars (w : World) : Prop where
  steps : Tab .u32 w 1 (ints stepNums)
  firsts : Tab .u32 w 0 (ints firsts8.list)

theorem Vars.size {w : World} (h : Vars w) : 2 ≤ w.heap.size := by
  have h1 := h.steps.lt (by decide)
  have h2 := h.firsts.lt (by decide)
  omega
theorem Vars.but {w w' : World} {b : Nat} (h : Vars w) (hb : But b w w') (h1 : b ≠ 1) (h2 : b ≠ 0) : Vars w' := ⟨h.steps.but hb (Ne.symm h1), h.firsts.but hb (Ne.symm h2)⟩
theorem Vars.stays {w w' : World} (h : Vars w) (hb : Below w.heap.size w w') : Vars w' := ⟨h.steps.stays hb, h.firsts.stays hb⟩
theorem Vars.below {w w' : World} {B : Nat} (h : Vars w) (hb : Below B w w') (hB : 2 ≤ B) : Vars w' := ⟨h.steps.below hb (by omega), h.firsts.below hb (by omega)⟩

def zero8 : S8 := ⟨0, 0, 0, 0, 0, 0, 0, 0⟩

theorem zero_hash (w : World) : (zeroValue 154).run Tryd.prog w = .ok (.agg (hashCells zero8 (List.replicate 64 0) 0).toArray) w := by
  obtain ⟨i, hi, hz⟩ : ∃ i, Tryd.prog.info? 154 = some i ∧ i.zero = some (.agg (hashCells zero8 (List.replicate 64 0) 0).toArray) := ⟨_, rfl, rfl⟩
  simp [zeroValue, typeInfo, hi, hz, go_sem]

theorem agg_hash (w : World) : (isAgg 154).run Tryd.prog w = .ok true w := by
  obtain ⟨fs, hfs⟩ : ∃ fs, Tryd.prog.underlying 154 = some (.struct fs) := ⟨_, rfl⟩
  exact isAgg_struct hfs w

theorem new_run (w : World) : Calls Tryd.prog 73 #[] w fun e w' => e = .returned (.pointer (some ⟨w.heap.size, 0, none⟩)) ∧ HashAt w' w.heap.size [] ∧ Below w.heap.size w w' ∧ w'.heap.size = w.heap.size + 1 := by
  have hz := zero_hash
  go_enter Tryd.func73, Tryd.ntmps73
  go_wp2
  go_ret
  refine ⟨rfl, ⟨zero8, List.replicate 64 0, Blk.newAt rfl rfl, ⟨by decide, by decide, by decide, by decide, by decide, by decide, by decide, by decide⟩, rfl, by decide, rfl, fun h => absurd rfl h⟩, (Below.refl _ _).alloc (Nat.le_refl _) _, by simp⟩

theorem padded_whole (n : Nat) : (n + (padOf n).length) % 64 = 0 := by
  rw [padOf_length]; omega

theorem hashCells_numbers (v : S8) (T : List Int) (m : Nat) : v.val = ((hashCells v T m).drop 0).take 8 := by
  rw [List.drop_zero]
  unfold hashCells
  rw [List.append_assoc, List.take_append_of_le_length (by rw [val_length]; omega), List.take_of_length_le (by rw [val_length]; omega)]

/-- The bytes of the first j numbers. -/
def bytesUp (v : S8) (j : Nat) : List Int := (v.list.take j).flatMap bytes4 ++ List.replicate (32 - 4 * j) 0
theorem bytes4_length (n : Nat) : (bytes4 n).length = 4 := rfl
theorem flat_length (l : List Nat) : (l.flatMap bytes4).length = 4 * l.length := by
  induction l with
  | nil => rfl
  | cons x l ih => simp only [List.flatMap_cons, List.length_append, bytes4_length, ih, List.length_cons]; omega
theorem bytesUp_length (v : S8) (j : Nat) (hj : j ≤ 8) : (bytesUp v j).length = 32 := by
  unfold bytesUp
  rw [List.length_append, flat_length, List.length_take, List.length_replicate, show v.list.length = 8 from rfl]; omega
theorem set4 (l r : List Int) (x0 x1 x2 x3 y0 y1 y2 y3 : Int) (p : Nat) (hp : p = l.length) : ((((l ++ (x0 :: x1 :: x2 :: x3 :: r)).set p y0).set (p + 1) y1).set (p + 2) y2).set (p + 3) y3 = l ++ ([y0, y1, y2, y3] ++ r) := by
  subst hp
  simp [List.set_append_right]
theorem bytesUp_next (v : S8) (j : Nat) (hj : j < 8) (y0 y1 y2 y3 : Int) (h : bytes4 (v.list.getD j 0) = [y0, y1, y2, y3]) : ((((bytesUp v j).set (4 * j) y0).set (4 * j + 1) y1).set (4 * j + 2) y2).set (4 * j + 3) y3 = bytesUp v (j + 1) := by
  have hl : v.list.length = 8 := rfl
  unfold bytesUp
  rw [show 32 - 4 * j = (32 - 4 * (j + 1)) + 1 + 1 + 1 + 1 by omega]
  simp only [List.replicate_succ]
  rw [set4 _ _ _ _ _ _ _ _ _ _ _ (by rw [flat_length, List.length_take, hl]; omega), List.take_add_one, List.getElem?_eq_getElem (by omega), List.flatMap_append, List.append_assoc]
  congr 2
  have : v.list[j]'(by omega) = v.list.getD j 0 := by simp [List.getD, hl, hj]
  simp only [Option.toList_some, List.flatMap_cons, List.flatMap_nil, List.append_nil, this, h]

theorem hsum_cell {w w3 : World} {o1 o2 o3 : Obj} {b n : Nat} {v : S8} {tail : List Int} (hblk : Blk 154 w b (hashCells v tail n)) (htl : tail.length = 64) (hbut3 : But (w.heap.size + 1 + 1) (((w.alloc o1).alloc o2).alloc o3) w3) :
    w3.cell? ⟨b, 72, none⟩ = some (.int .u64 (n : Int)) := by
  have := hblk.lt
  rw [((((hblk.alloc o1).alloc o2).alloc o3).but hbut3 (by omega)).cell]
  exact hashCells_size _ _ _ htl

theorem hsum_facts {w w3 w4 : World} {t1 t2 : TypeId} {vs1 vs2 : List Value} {c1 c2 : Array Value} {o3 : Obj} {xs : List Int} {n : Nat} (h1 : c1 = vs1.toArray) (h2 : c2 = vs2.toArray) {cs : List Value} (hb3 : Blk 154 w3 (w.heap.size + 1 + 1) cs)
    (hbut3 : But (w.heap.size + 1 + 1) (((w.alloc (.cells c1 t1)).alloc (.cells c2 t2)).alloc o3) w3) (hrow4 : Row 5 w4 w3.heap.size (padOf n)) (hbel4 : Below w3.heap.size w3 w4) (hV : Vars w)
    (hH : ∀ u, Blk 154 u (w.heap.size + 1 + 1) cs → HashAt u (w.heap.size + 1 + 1) xs) :
    HashAt w4 (w.heap.size + 1 + 1) xs ∧ Bs w4 (some ⟨w3.heap.size, 0, none⟩) (padOf n).length (padOf n) ∧ Vars w4 ∧ Below w.heap.size w w4 ∧ Blk t1 w4 w.heap.size vs1 ∧ Blk t2 w4 (w.heap.size + 1) vs2 ∧ w.heap.size + 1 + 1 < w3.heap.size := by
  have hsz := hV.size
  have hs3 := hbut3.size
  simp at hs3
  have e0 : Below w.heap.size w (((w.alloc (.cells c1 t1)).alloc (.cells c2 t2)).alloc o3) := (((Below.refl _ _).alloc (Nat.le_refl _) _).alloc (by simp) _).alloc (by simp; omega) _
  have e1 : Below w.heap.size w w3 := e0.trans (hbut3.below (by omega) (by simp; omega))
  have e2 : Below w.heap.size w w4 := e1.trans (hbel4.mono (by omega))
  have b1 : Blk t1 (((w.alloc (.cells c1 t1)).alloc (.cells c2 t2)).alloc o3) w.heap.size vs1 := ((Blk.newAt rfl h1).alloc _).alloc _
  have b2 : Blk t2 (((w.alloc (.cells c1 t1)).alloc (.cells c2 t2)).alloc o3) (w.heap.size + 1) vs2 := (Blk.newAt (by simp) h2).alloc _
  refine ⟨hH _ (hb3.stays hbel4), hrow4.bs (padOf_rng n) ?_, hV.below e2 hsz, e2, (b1.but hbut3 (by omega)).stays hbel4, (b2.but hbut3 (by omega)).stays hbel4, by omega⟩
  rw [padOf_length]
  have : (119 - n % 64) % 64 < 64 := Nat.mod_lt _ (by decide)
  unfold maxLen
  omega

set_option maxRecDepth 100000 in
set_option maxHeartbeats 600000 in
theorem hsum_run (b : Nat) (xs : List Int) (w : World) (hH : HashAt w b xs) (hlen : xs.length < 1000000000000000000) (hV : Vars w) :
    Calls Tryd.prog 75 #[.pointer (some ⟨b, 0, none⟩)] w fun e w' => e = .returned (.agg ((shaOf xs).map (Value.int .u8)).toArray) ∧ Below w.heap.size w w' := by
  obtain ⟨v, tail, hblk, hok, htl, htr, hcut, hnum⟩ := hH
  have hsz : w.cell? ⟨b, 72, none⟩ = some (.int .u64 (xs.length : Int)) := by rw [hblk.cell]; exact hashCells_size _ _ _ htl
  obtain ⟨n, hn⟩ : ∃ n, n = xs.length := ⟨_, rfl⟩
  obtain ⟨cs, hcs⟩ : ∃ cs, cs = hashCells v tail xs.length := ⟨_, rfl⟩
  have hcl : cs.length = 73 := by rw [hcs]; exact hashCells_length _ _ _ htl
  rw [← hn] at hsz
  rw [← hcs] at hblk
  have hc0 : Hid (cs = (cs.drop 0).take 73) := by unfold Hid; rw [List.drop_zero, List.take_of_length_le (by omega)]
  have hc2 : Hid (cs = (hashCells zero8 (List.replicate 64 0) 0).take 0 ++ cs ++ (hashCells zero8 (List.replicate 64 0) 0).drop (0 + 73)) := by
    unfold Hid; rw [List.take_zero, List.nil_append, List.drop_eq_nil_of_le (by decide), List.append_nil]
  have hc1 : ∀ v ∈ cs, v.oneCell' = true := by
    rw [hcs]
    intro u hu
    unfold hashCells at hu
    simp only [List.mem_append] at hu
    rcases hu with (hu | hu) | hu
    · exact int_oneCell _ _ u hu
    · exact int_oneCell _ _ u hu
    · rw [List.mem_singleton.1 hu]; rfl
  have HN : Hid (n = xs.length) := hn
  have HC : Hid (cs = hashCells v tail xs.length) := hcs
  have hblk0 : Hid (Blk 154 w b (hashCells v tail n)) := by unfold Hid; rw [hn, ← hcs]; exact hblk
  have hnl : n < 1152921504606846976 := by omega
  have hbig : xs.length + (padOf n).length < 1152921504606846976 := by rw [padOf_length]; have : (119 - n % 64) % 64 < 64 := Nat.mod_lt _ (by decide); omega
  have hsz2 := hV.size
  have hne1 : w.heap.size + 1 + 1 ≠ 1 := by omega
  have hne2 : w.heap.size + 1 + 1 ≠ 0 := by omega
  have hH : ∀ u, Blk 154 u (w.heap.size + 1 + 1) cs → HashAt u (w.heap.size + 1 + 1) xs := fun u hu => ⟨v, tail, hcs ▸ hu, hok, htl, htr, hcut, hnum⟩
  clear hn hcs hcut hnum
  go_enter Tryd.func75, Tryd.ntmps75
  have hz := zero_hash
  go_wp2_with (first
    | (refine wpList_load_blk (by rfl) (.tmp 11) 154 (by rfl) b 0 73 (by rfl) agg_hash (sizeOf_run (by kernel_rfl)) ((hblk.alloc _).alloc _) cs hc0.out hcl ?_)
    | (refine wpList_store_blk (by rfl) (.tmp 4) (.tmp 12) 154 (by rfl) (w.heap.size + 1 + 1) 0 73 (by rfl) cs (by rfl) (sizeOf_run (by kernel_rfl)) (e := 154) (vs := hashCells zero8 (List.replicate 64 0) 0) (Blk.newAt (by simp) (by rfl)) hcl (by decide) hc1 cs hc2.out ?_
       intro w3 hb3 hbut3 hsz3
       have hs3 := hsum_cell hblk0.out htl hbut3))
  refine (padding_run n hnl _).mono ?_
  rintro e w4 ⟨rfl, hrow4, hbel4⟩
  obtain ⟨hH4, hB4, hV4, hbelw, hR4, hO4, hlt4⟩ := hsum_facts (vs1 := (List.replicate 32 (0 : Int)).map (Value.int .u8)) (vs2 := (List.replicate 32 (0 : Int)).map (Value.int .u8)) rfl rfl hb3 hbut3 hrow4 hbel4 hV hH
  have hw := write_run (w.heap.size + 1 + 1) xs _ _ (padOf n) w4 hH4 hB4 (fun _ x hx => by cases hx; exact Nat.ne_of_gt hlt4) hbig hV4.steps hV4.firsts hne1 hne2
  clear hsz hb3 hbut3 hrow4 hbel4 hH4 hB4 hblk hs3 hsz3
  go_wp2_with (first
    | (go_at_call 74; go_must (refine hw.mono ?_); rintro e w5 ⟨rfl, ⟨v5, tail5, hblk5, hst5⟩, hbut5⟩)
    | (refine wpList_load_blk (by rfl) (.tmp 19) 146 (by rfl) (w.heap.size + 1 + 1) 0 8 (by rfl) (isAgg_array Tryd.underlying146) (sizeOf_run (by kernel_rfl)) hblk5 v5.val (hashCells_numbers _ _ _) rfl ?_))
  have hR5 : Blk 39 w5 w.heap.size ((List.replicate 32 (0 : Int)).map (Value.int .u8)) := hR4.but hbut5 (by omega)
  have hO5 : Arr .u8 39 w5 (w.heap.size + 1) (bytesUp v5 0) := (hO4.but hbut5 (by omega)).arr
  have hbel5 : Below w.heap.size w w5 := hbelw.trans (hbut5.below (by omega) (by have := hbelw.size; omega))
  have hok5 : v5.Ok := hst5.num ▸ hashed_ok _
  have HV5 : Hid (v5.bytes = shaOf xs) := by unfold Hid shaOf; rw [hst5.num, HN.out]
  obtain ⟨vs, hvs⟩ : ∃ vs, vs = v5.val := ⟨_, rfl⟩
  have hix : ∀ j, j < 8 → vs.toArray[j]? = some (.int .u32 ((v5.list.getD j 0 : Nat) : Int)) := fun j hj => by
    have hl : v5.list.length = 8 := rfl
    rw [hvs, List.getElem?_toArray]
    unfold S8.val ints
    simp [List.getD, hl, hj]
  have hx32 : ∀ j, j < 8 → v5.list.getD j 0 < 4294967296 := fun j hj => getD_lt (fun x hx => by
    simp only [S8.list, List.mem_cons, List.not_mem_nil, or_false] at hx
    rcases hx with rfl | rfl | rfl | rfl | rfl | rfl | rfl | rfl
    · exact hok5.a
    · exact hok5.b
    · exact hok5.c
    · exact hok5.d
    · exact hok5.e
    · exact hok5.f
    · exact hok5.g
    · exact hok5.h) j
  rw [← hvs]
  clear hR4 hO4 hbelw hw hblk5 hst5 hbut5 hvs hok5 hV4 hH
  go_loopw [21] (fun i wr => ∃ j : Nat, j ≤ 8 ∧ i = .int .i64 j ∧ Below w.heap.size w wr ∧ Arr .u8 39 wr (w.heap.size + 1) (bytesUp v5 j) ∧ Blk 39 wr w.heap.size ((List.replicate 32 (0 : Int)).map (Value.int .u8))) (fun i _ => 8 - (intOf i).toNat)
  case atStart => exact ⟨0, by omega, rfl, hbel5, hO5, hR5⟩
  case round =>
    clear hbel5 hO5 hR5
    rename_i hrel
    obtain ⟨j, hj, rfl, hbel, hO, hR⟩ := hrel
    by_cases hlj : j < 8
    · obtain ⟨x, hx⟩ : ∃ x, x = v5.list.getD j 0 := ⟨_, rfl⟩
      have hin := index_agg (P := Tryd.prog) Tryd.underlying146 Tryd.underlying34 (by kernel_rfl) hlj (hix j hlj) .i64
      have lx : x < 4294967296 := hx ▸ hx32 j hlj
      rw [← hx] at hin
      obtain ⟨y0, hy0⟩ : ∃ y, y = x / 16777216 := ⟨_, rfl⟩
      obtain ⟨y1, hy1⟩ : ∃ y, y = x / 65536 % 256 := ⟨_, rfl⟩
      obtain ⟨y2, hy2⟩ : ∃ y, y = x / 256 % 256 := ⟨_, rfl⟩
      obtain ⟨y3, hy3⟩ : ∃ y, y = x % 256 := ⟨_, rfl⟩
      have e0 : (x : Int) / 16777216 = (y0 : Int) := by omega
      have e00 : (y0 : Int) % 256 = (y0 : Int) := by omega
      obtain ⟨s1, hs1⟩ : ∃ s, s = x / 65536 := ⟨_, rfl⟩
      obtain ⟨s2, hs2⟩ : ∃ s, s = x / 256 := ⟨_, rfl⟩
      have e10 : (x : Int) / 65536 = (s1 : Int) := by omega
      have e20 : (x : Int) / 256 = (s2 : Int) := by omega
      have ly0 : y0 < 256 := by omega
      have e1 : (s1 : Int) % 256 = (y1 : Int) := by omega
      have e2 : (s2 : Int) % 256 = (y2 : Int) := by omega
      clear hs1 hs2
      have e3 : (x : Int) % 256 = (y3 : Int) := by omega
      have HB : Hid (bytes4 (v5.list.getD j 0) = [(y0 : Int), (y1 : Int), (y2 : Int), (y3 : Int)]) := by unfold Hid bytes4; rw [← hx, hy0, hy1, hy2, hy3]
      obtain ⟨p0, hp0⟩ : ∃ p, p = 4 * j := ⟨_, rfl⟩
      obtain ⟨p1, hp1⟩ : ∃ p, p = 4 * j + 1 := ⟨_, rfl⟩
      obtain ⟨p2, hp2⟩ : ∃ p, p = 4 * j + 2 := ⟨_, rfl⟩
      obtain ⟨p3, hp3⟩ : ∃ p, p = 4 * j + 3 := ⟨_, rfl⟩
      have f0 : 4 * (j : Int) = (p0 : Int) := by omega
      have f1 : (p0 : Int) + 1 = (p1 : Int) := by omega
      have f2 : (p0 : Int) + 2 = (p2 : Int) := by omega
      have f3 : (p0 : Int) + 3 = (p3 : Int) := by omega
      have b0 : (p0 : Int) < 32 := by omega
      have b1 : (p1 : Int) < 32 := by omega
      have b2 : (p2 : Int) < 32 := by omega
      have b3 : (p3 : Int) < 32 := by omega
      have n10 : (p1 = p0) = False := eq_false (by omega)
      have n01 : (p0 = p1) = False := eq_false (by omega)
      have n20 : (p2 = p0) = False := eq_false (by omega)
      have n02 : (p0 = p2) = False := eq_false (by omega)
      have n21 : (p2 = p1) = False := eq_false (by omega)
      have n12 : (p1 = p2) = False := eq_false (by omega)
      have n30 : (p3 = p0) = False := eq_false (by omega)
      have n03 : (p0 = p3) = False := eq_false (by omega)
      have n31 : (p3 = p1) = False := eq_false (by omega)
      have n13 : (p1 = p3) = False := eq_false (by omega)
      have n32 : (p3 = p2) = False := eq_false (by omega)
      have n23 : (p2 = p3) = False := eq_false (by omega)
      have hbl := bytesUp_length v5 j hj
      have hO0 := hO
      have hO1 := hO0.set p0 (y0 : Int)
      have hO2 := hO1.set p1 (y1 : Int)
      have hO3 := hO2.set p2 (y2 : Int)
      have hO4 := hO3.set p3 (y3 : Int)
      obtain ⟨z0, c0⟩ : ∃ z, wr.cell? ⟨w.heap.size + 1, p0, none⟩ = some (.int .u8 z) := ⟨_, hO0.cell p0 (by omega)⟩
      obtain ⟨z1, c1⟩ : ∃ z, wr.cell? ⟨w.heap.size + 1, p1, none⟩ = some (.int .u8 z) := ⟨_, hO0.cell p1 (by omega)⟩
      obtain ⟨z2, c2⟩ : ∃ z, wr.cell? ⟨w.heap.size + 1, p2, none⟩ = some (.int .u8 z) := ⟨_, hO0.cell p2 (by omega)⟩
      obtain ⟨z3, c3⟩ : ∃ z, wr.cell? ⟨w.heap.size + 1, p3, none⟩ = some (.int .u8 z) := ⟨_, hO0.cell p3 (by omega)⟩
      have z0f := hO0.free p0
      have z1f := hO0.free p1
      have z2f := hO0.free p2
      have z3f := hO0.free p3
      clear hO1 hO2 hO3 hO4
      have HP : Hid (p0 = 4 * j ∧ p1 = 4 * j + 1 ∧ p2 = 4 * j + 2 ∧ p3 = 4 * j + 3) := ⟨hp0, hp1, hp2, hp3⟩
      clear hne1 hne2 hlt4 hsz2 hnl hlen hbig
      clear hx hy0 hy1 hy2 hy3 hp0 hp1 hp2 hp3 hix hx32 hbl
      go_wp2
      go_roundw
      case rel =>
        obtain ⟨hp0, hp1, hp2, hp3⟩ := HP.out
        refine ⟨j + 1, by omega, by go_num, ?_, ?_, ?_⟩
        · exact (((hbel.setCell (by simp) _).setCell (by simp) _).setCell (by simp) _).setCell (by simp) _
        · have h4 := (((hO0.set p0 (y0 : Int)).set p1 (y1 : Int)).set p2 (y2 : Int)).set p3 (y3 : Int)
          have h5 := bytesUp_next v5 j hlj _ _ _ _ HB.out
          rw [← hp0, show p0 + 1 = p1 by omega, show p0 + 2 = p2 by omega, show p0 + 3 = p3 by omega] at h5
          rw [h5] at h4
          exact h4
        · exact hR.but (((((But.refl (w.heap.size + 1) wr).setCell p0 _).setCell p1 _).setCell p2 _).setCell p3 _) (by omega)
      case measure => simp [intOf]; omega
    · have h8 : Arr .u8 39 wr (w.heap.size + 1) (shaOf xs) := by
        have e : j = 8 := by omega
        have h9 : bytesUp v5 8 = v5.bytes := by simp [bytesUp, S8.bytes, S8.list]
        rw [e, h9, HV5.out] at hO
        exact hO
      obtain ⟨us, hus⟩ : ∃ us, us = (shaOf xs).map (Value.int .u8) := ⟨_, rfl⟩
      have hul : us.length = 32 := by rw [hus, List.length_map, shaOf_length]
      have hu1 : ∀ v ∈ us, v.oneCell' = true := hus ▸ int_oneCell _ _
      have hu0 : Hid (us = (us.drop 0).take 32) := by unfold Hid; rw [List.drop_zero, List.take_of_length_le (by omega)]
      have hu2 : Hid (us = ((List.replicate 32 (0 : Int)).map (Value.int .u8)).take 0 ++ us ++ ((List.replicate 32 (0 : Int)).map (Value.int .u8)).drop (0 + 32)) := by
        unfold Hid; rw [List.take_zero, List.nil_append, List.drop_eq_nil_of_le (by simp), List.append_nil]
      have h8b := h8.blk
      rw [← hus] at h8b
      have HUS : Hid (us = (shaOf xs).map (Value.int .u8)) := hus
      have hbs := hbel.size
      clear hus h8 hO hne1 hne2 hix hx32
      go_wp2_with (first
        | (refine wpList_load_blk (by rfl) (.tmp 3) 39 (by rfl) (w.heap.size + 1) 0 32 (by rfl) (isAgg_array Tryd.underlying39) (sizeOf_run (by kernel_rfl)) h8b us hu0.out hul ?_)
        | (refine wpList_store_blk (by rfl) (.tmp 2) (.tmp 52) 39 (by rfl) w.heap.size 0 32 (by rfl) us (by rfl) (sizeOf_run (by kernel_rfl)) hR hul (by simp) hu1 us hu2.out ?_
           intro w6 hb6 hbut6 hsz6))
      go_wp2
      refine bodyPost_ret_blk (by rfl) (by rfl) (by rfl) (isAgg_array Tryd.underlying39) (sizeOf_run (by kernel_rfl)) hb6 hul ?_
      exact ⟨by rw [HUS.out], hbel.trans (hbut6.below (Nat.le_refl _) hbs)⟩
end Go.Proofs.YtjfoidilecognaaDoor

/-
  The document's answer for package sha: Sum.
-/

namespace Go.Proofs.YtjfoidilecognaaDoor
set_option linter.unusedSimpArgs false
set_option linter.unusedVariables false
set_option maxRecDepth 100000
open Go.RowKit

/-- Sixty-four bytes of a slice. -/
theorem cut64 {P : Program} {t e : TypeId} (ht : P.underlying t = some (.slice e)) (hs : (P.info? e).map (·.size) = some 1) (he : P.elem t = e) (b off n c : Nat) (i : Nat) (hi : i + 64 ≤ n) (hc : n ≤ c) (w : World) :
    (Instr.slice t (.slice (some ⟨b, off, none⟩) n c) (some (.int .i64 (i : Int))) (some (.int .i64 ((i + 64 : Nat) : Int))) none).run P w = .ok (.slice (some ⟨b, off + i, none⟩) 64 (c - i)) w := by
  have hz := sizeOf_run hs w
  have hadd : (⟨b, off, none⟩ : Addr).add i = ⟨b, off + i, none⟩ := by unfold Addr.add; split <;> simp_all
  have hne : ¬ c = i := by omega
  rw [run_slice_lh w t (some ⟨b, off, none⟩) n c (by rw [he]; exact ht) .i64 .i64 i ((i + 64 : Nat) : Int) (by omega) (by omega) (by omega), he, hz]
  simp [Result.andThen, sliced, hne, hadd]
  omega

theorem Bs.part64 {w : World} {b off c : Nat} {xs : List Int} (h : Bs w (some ⟨b, off, none⟩) c xs) (q : Nat) (hq : q + 64 ≤ xs.length) : Bs w (some ⟨b, off + q, none⟩) (c - q) ((xs.drop q).take 64) := by
  have hl : ((xs.drop q).take 64).length = 64 := by simp; omega
  have hc := h.cap
  have hm := h.capm
  refine ⟨fun x hx => h.rng x (List.mem_of_mem_drop (List.mem_of_mem_take hx)), by omega, by omega, (fun h => by cases h), .inr ⟨b, off + q, rfl, fun i hi => ?_⟩⟩
  rw [hl] at hi
  obtain ⟨b1, o1, he, hc1⟩ := h.cell (by omega)
  cases he
  rw [Nat.add_assoc, hc1 (q + i) (by omega)]
  simp [List.getD, List.getElem?_take, List.getElem?_drop, hi]

theorem flat_at : ∀ (l : List Nat) (k : Nat), k < 4 * l.length → (l.flatMap bytes4).getD k 0 = (bytes4 (l.getD (k / 4) 0)).getD (k % 4) 0
  | [], k, h => by simp at h
  | x :: l, k, h => by
    rw [List.flatMap_cons]
    by_cases hk : k < 4
    · have h4 : (bytes4 x).length = 4 := rfl
      rw [Nat.div_eq_of_lt hk, Nat.mod_eq_of_lt hk]
      simp [List.getD, List.getElem?_append, h4, hk]
    · have ih := flat_at l (k - 4) (by simp at h; omega)
      have h4 : (bytes4 x).length = 4 := rfl
      have e1 : k / 4 = (k - 4) / 4 + 1 := by omega
      have e2 : k % 4 = (k - 4) % 4 := by omega
      rw [e1, e2, List.getD_cons_succ, ← ih]
      simp [List.getD, List.getElem?_append, h4, hk]

theorem bytes4_at (n : Nat) (hn : n < 4294967296) (r : Nat) (hr : r < 4) : (bytes4 n).getD r 0 = ((n / 2 ^ (24 - 8 * r) % 256 : Nat) : Int) := by
  have : r = 0 ∨ r = 1 ∨ r = 2 ∨ r = 3 := by omega
  rcases this with rfl | rfl | rfl | rfl
  · simp [bytes4]; omega
  · simp [bytes4]
  · simp [bytes4]
  · simp [bytes4]

theorem list_lt (v : S8) (hv : v.Ok) (j : Nat) : v.list.getD j 0 < 4294967296 := getD_lt (fun x hx => by
  simp only [S8.list, List.mem_cons, List.not_mem_nil, or_false] at hx
  rcases hx with rfl | rfl | rfl | rfl | rfl | rfl | rfl | rfl
  · exact hv.a
  · exact hv.b
  · exact hv.c
  · exact hv.d
  · exact hv.e
  · exact hv.f
  · exact hv.g
  · exact hv.h) j

/-- The first k bytes of a hash. -/
def outUp (v : S8) (k : Nat) : List Int := v.bytes.take k ++ List.replicate (32 - k) 0
theorem outUp_length (v : S8) (k : Nat) (hk : k ≤ 32) : (outUp v k).length = 32 := by
  have : v.bytes.length = 32 := rfl
  simp [outUp, this]; omega
theorem outUp_next (v : S8) (k : Nat) (hk : k < 32) : (outUp v k).set k (v.bytes.getD k 0) = outUp v (k + 1) := by
  have hl : v.bytes.length = 32 := rfl
  unfold outUp
  rw [show 32 - k = (32 - (k + 1)) + 1 by omega, List.replicate_succ, set_at _ _ _ _ _ (by simp [hl]; omega), List.take_add_one, List.getElem?_eq_getElem (by omega)]
  simp [List.getD, hl, hk]

/-- What stays while the blocks are taken. -/
structure SumAt (w wr : World) (H S : Nat) (a : Option Addr) (c : Nat) (PB : List Int) : Prop where
  bel : Below w.heap.size w wr
  res : Blk 39 wr w.heap.size ((List.replicate 32 (0 : Int)).map (Value.int .u8))
  keys : Tab .u32 wr S (ints stepNums)
  bytes : Bs wr a c PB

theorem SumAt.but {w wr w' : World} {H S : Nat} {a : Option Addr} {c : Nat} {PB : List Int} (h : SumAt w wr H S a c PB) (hb : But H wr w') (h1 : w.heap.size < H) (h2 : S ≠ H) (h3 : ∀ x, a = some x → x.block ≠ H) : SumAt w w' H S a c PB :=
  ⟨h.bel.trans (hb.below (by omega) h.bel.size), h.res.but hb (by omega), h.keys.but hb h2, h.bytes.but hb (fun _ => h3)⟩
theorem SumAt.stays {w wr w' : World} {H S : Nat} {a : Option Addr} {c : Nat} {PB : List Int} (h : SumAt w wr H S a c PB) (hb : Below wr.heap.size wr w') : SumAt w w' H S a c PB :=
  ⟨h.bel.trans (hb.mono h.bel.size), h.res.stays hb, h.keys.stays hb, h.bytes.stays hb⟩

theorem rsum_facts {w w1 w2 w3 : World} {cs : Array Value} {o2 : Obj} (hcs : cs = ((List.replicate 32 (0 : Int)).map (Value.int .u8)).toArray)
    (hb1 : Below (w.alloc (.cells cs 39)).heap.size (w.alloc (.cells cs 39)) w1) (hb2 : Blk 146 w2 w1.heap.size firsts8.val) (hbut2 : But w1.heap.size (w1.alloc o2) w2) (hsz2 : w2.heap.size = (w1.alloc o2).heap.size) (hb3 : Below w2.heap.size w2 w3) :
    Below w.heap.size w w3 ∧ Blk 39 w3 w.heap.size ((List.replicate 32 (0 : Int)).map (Value.int .u8)) ∧ Blk 146 w3 w1.heap.size firsts8.val ∧ w.heap.size < w1.heap.size ∧ w2.heap.size = w1.heap.size + 1 ∧ w1.heap.size + 1 ≤ w3.heap.size := by
  have h1 := hb1.size
  simp at h1 hsz2
  have h3 := hb3.size
  have e1 : Below w.heap.size w w1 := ((Below.refl w.heap.size w).alloc (Nat.le_refl _) _).trans (hb1.mono (by simp))
  have r1 : Blk 39 w1 w.heap.size ((List.replicate 32 (0 : Int)).map (Value.int .u8)) := (Blk.newAt rfl hcs).stays hb1
  have e2 : Below w.heap.size w w2 := (e1.alloc (by omega) o2).trans (hbut2.below (by omega) (by simp; omega))
  exact ⟨e2.trans (hb3.mono (by omega)), ((r1.alloc o2).but hbut2 (by omega)).stays hb3, hb2.stays hb3, by omega, hsz2, by omega⟩

set_option maxRecDepth 100000 in
set_option maxHeartbeats 4000000 in
theorem rsum_run (a : Option Addr) (c : Nat) (xs : List Int) (w : World) (hB : Bs w a c xs) (hlen : xs.length < 1000000000000) :
    Calls Tryd.prog 63 #[.slice a xs.length c] w fun e w' => e = .returned (.agg ((shaOf xs).map (Value.int .u8)).toArray) ∧ Below w.heap.size w w' := by
  obtain ⟨PB, hPB⟩ : ∃ PB, PB = xs ++ padOf xs.length := ⟨_, rfl⟩
  have hPl : PB.length % 64 = 0 := by rw [hPB, List.length_append]; exact padded_whole _
  have hPp : 0 < PB.length := by rw [hPB, List.length_append, padOf_length]; omega
  have hPm : PB.length < 1000000000200 := by rw [hPB, List.length_append, padOf_length]; have : (119 - xs.length % 64) % 64 < 64 := Nat.mod_lt _ (by decide); omega
  have HP : Hid (PB = xs ++ padOf xs.length) := hPB
  have hpad := fun u hu => padded_run a c xs u (hB.stays hu) hlen
  rw [← hPB] at hpad
  clear hPB
  go_enter Tryd.func63, Tryd.ntmps63
  go_wp2_with (first
    | (go_at_call 85; go_must (refine (start_run _).mono ?_); rintro e w1 ⟨rfl, hb1⟩)
    | (refine wpList_store_blk (by rfl) (.tmp 3) (.tmp 9) 146 (by rfl) w1.heap.size 0 8 (by rfl) firsts8.val (by rfl) (sizeOf_run (by kernel_rfl)) (e := 146) (vs := (List.replicate 8 (0 : Int)).map (Value.int .u32)) (Blk.newAt rfl (by rfl)) rfl (by decide) (int_oneCell _ _) firsts8.val rfl ?_
       intro w2 hb2 hbut2 hsz2)
    | (go_at_call 86; go_must (refine (steps_run _).mono ?_); rintro e w3 ⟨rfl, hT3, hb3⟩))
  obtain ⟨hbel3, hR3, hH3, hwH, hs2, hs3⟩ := rsum_facts rfl hb1 hb2 hbut2 hsz2 hb3
  obtain ⟨H, hH⟩ : ∃ H, H = w1.heap.size := ⟨_, rfl⟩
  rw [hs2] at hT3
  rw [← hH] at hH3 hwH hs3 hT3 ⊢
  clear hb1 hb2 hbut2 hsz2 hb3 hs2 hH
  refine (hpad w3 hbel3).mono ?_
  rintro e w4 ⟨a', c', rfl, hB4, hge4, hb4⟩
  have hS4 : SumAt w w4 H (H + 1) a' c' PB := ⟨hbel3.trans (hb4.mono hbel3.size), hR3.stays hb4, hT3.stays hb4, hB4⟩
  have hH4 : Blk 146 w4 H (folded firsts8 PB 0).val := hH3.stays hb4
  obtain ⟨pb, poff, hpa, hpc⟩ := hB4.cell hPp
  have hpH : H + 1 ≤ pb := by have := hge4 _ hpa; simp at this; omega
  subst hpa
  obtain ⟨T, hT⟩ : ∃ T, T = PB.length := ⟨_, rfl⟩
  rw [← hT]
  have hcap := hB4.cap
  have HT : Hid (T = PB.length) := hT
  have hTl : T % 64 = 0 := by rw [hT]; exact hPl
  have hTm : T < 1000000000200 := by rw [hT]; exact hPm
  have hTc : T ≤ c' := by rw [hT]; exact hcap
  clear hpad hbel3 hR3 hH3 hT3 hge4 hb4 hB4 hpc hT hPl hPm hcap
  go_wp2
  go_loopw [6] (fun i wr => ∃ j q : Nat, q = 64 * j ∧ q ≤ T ∧ i = .int .i64 q ∧ SumAt w wr H (H + 1) (some ⟨pb, poff, none⟩) c' PB ∧ Blk 146 wr H (folded firsts8 PB j).val) (fun i _ => T - (intOf i).toNat)
  case atStart => exact ⟨0, 0, rfl, by omega, rfl, hS4, hH4⟩
  case round =>
    clear hS4 hH4
    rename_i hrel
    obtain ⟨j, q, hq, hqT, rfl, hS, hHv⟩ := hrel
    by_cases hlt : q < T
    · obtain ⟨q2, hq2⟩ : ∃ q2, q2 = q + 64 := ⟨_, rfl⟩
      have hq64 : q + 64 ≤ T := by omega
      obtain ⟨bs, hbs⟩ : ∃ bs, bs = (PB.drop q).take 64 := ⟨_, rfl⟩
      have hPT := HT.out
      have hbl : bs.length = 64 := by rw [hbs]; simp; omega
      have hBb : Bs wr.drew (some ⟨pb, poff + q, none⟩) (c' - q) bs := hbs ▸ (hS.bytes.part64 q (by omega)).stays (Below.refl _ _).drew
      have hcut : ∀ w, (Instr.slice 43 (.slice (some ⟨pb, poff, none⟩) T c') (some (.int .i64 (q : Int))) (some (.int .i64 (q2 : Int))) none).run Tryd.prog w = .ok (.slice (some ⟨pb, poff + q, none⟩) 64 (c' - q)) w := fun w => by
        rw [hq2]; exact cut64 Tryd.underlying43 (by kernel_rfl) (by kernel_rfl) pb poff T c' q hq64 hTc w
      have e1 : IntKind.i64.wrap ((q : Int) + 64) = (q2 : Int) := by rw [IntKind.wrap_i64]; omega
      have hok := folded_ok firsts8 firsts8_ok PB j
      have hcall := block_run (folded firsts8 PB j) hok pb (poff + q) (c' - q) bs hbl (H + 1) wr.drew hBb hS.keys
      have HF : Hid (takenOf (folded firsts8 PB j) bs = folded firsts8 PB (j + 1)) := by unfold Hid; rw [hbs, hq]; rfl
      obtain ⟨vs, hvs⟩ : ∃ vs, vs = (folded firsts8 PB j).val := ⟨_, rfl⟩
      obtain ⟨us, hus⟩ : ∃ us, us = (takenOf (folded firsts8 PB j) bs).val := ⟨_, rfl⟩
      rw [← hvs] at hcall hHv
      rw [← hus] at hcall
      have hvl : vs.length = 8 := by rw [hvs]; rfl
      have hul : us.length = 8 := by rw [hus]; rfl
      have hv0 : vs = (vs.drop 0).take 8 := by rw [List.drop_zero, List.take_of_length_le (by omega)]
      have hu1 : ∀ v ∈ us, v.oneCell' = true := hus ▸ int_oneCell _ _
      have hu2 : us = vs.take 0 ++ us ++ vs.drop (0 + 8) := by rw [List.take_zero, List.nil_append, List.drop_eq_nil_of_le (by omega), List.append_nil]
      have HV0 : Hid (vs = (vs.drop 0).take 8) := hv0
      have HU2 : Hid (us = vs.take 0 ++ us ++ vs.drop (0 + 8)) := hu2
      have HUS : Hid (us = (takenOf (folded firsts8 PB j) bs).val) := hus
      have HQ : Hid (q = 64 * j ∧ q2 = q + 64) := ⟨hq, hq2⟩
      clear hv0 hu2 hus hvs hbs hq hq2 hPT
      go_wp2
      refine wp_region_any (by kernel_rfl) ?_
      change wpAny _ _ _ _ _ _ _ (World.drew _)
      refine any_take 1 rfl (some 20) rfl (.slice (some ⟨pb, poff, none⟩) T c') (by kernel_rfl) (by kernel_rfl) (by kernel_rfl) (fun _ _ _ h => h) (Or.inl ⟨by rfl, fun w => by go_simp⟩) ?_
      simp only [Act.put, List.setIfInBounds_toArray, List.set_cons_succ, List.set_cons_zero]
      refine any_take 2 rfl (some 21) rfl (.int .i64 (q : Int)) (by kernel_rfl) (by kernel_rfl) (by kernel_rfl) (fun _ _ _ h => h) (Or.inl ⟨by rfl, fun w => by go_simp⟩) ?_
      simp only [Act.put, List.setIfInBounds_toArray, List.set_cons_succ, List.set_cons_zero]
      refine any_take 3 rfl (some 22) rfl (.int .i64 (q : Int)) (by kernel_rfl) (by kernel_rfl) (by kernel_rfl) (fun _ _ _ h => h) (Or.inl ⟨by rfl, fun w => by go_simp⟩) ?_
      simp only [Act.put, List.setIfInBounds_toArray, List.set_cons_succ, List.set_cons_zero]
      refine any_take 4 rfl (some 23) rfl (.int .i64 (q2 : Int)) (by kernel_rfl) (by kernel_rfl) (by kernel_rfl) (fun _ _ _ h => h) (Or.inl ⟨by rfl, fun w => by go_simp⟩) ?_
      simp only [Act.put, List.setIfInBounds_toArray, List.set_cons_succ, List.set_cons_zero]
      refine any_take 5 rfl (some 24) rfl (.slice (some ⟨pb, poff + q, none⟩) 64 (c' - q)) (by kernel_rfl) (by kernel_rfl) (by kernel_rfl) (fun _ _ _ h => h) (Or.inl ⟨by rfl, fun w => by go_simp⟩) ?_
      simp only [Act.put, List.setIfInBounds_toArray, List.set_cons_succ, List.set_cons_zero]
      refine any_take 6 rfl (some 25) rfl (.slice (some ⟨H + 1, 0, none⟩) 64 64) (by kernel_rfl) (by kernel_rfl) (by kernel_rfl) (fun _ _ _ h => h) (Or.inl ⟨by rfl, fun w => by go_simp⟩) ?_
      simp only [Act.put, List.setIfInBounds_toArray, List.set_cons_succ, List.set_cons_zero]
      refine any_load 0 (by kernel_rfl) rfl rfl (some 19) rfl (.tmp 3) 146 rfl H 0 8 rfl (isAgg_array Tryd.underlying146) (sizeOf_run (by kernel_rfl)) hHv.drew vs HV0.out hvl ?_
      simp only [Act.put, List.setIfInBounds_toArray, List.set_cons_succ, List.set_cons_zero]
      refine any_call 7 (by kernel_rfl) rfl rfl (some 26) rfl 88 #[.agg vs.toArray, .slice (some ⟨pb, poff + q, none⟩) 64 (c' - q), .slice (some ⟨H + 1, 0, none⟩) 64 64] (by go_simp) hcall ?_
      rintro e w5 ⟨rfl, hb5⟩
      refine ⟨_, rfl, ?_⟩
      simp only [Act.put, List.setIfInBounds_toArray, List.set_cons_succ, List.set_cons_zero]
      refine any_store 8 (by kernel_rfl) rfl rfl none rfl (.tmp 3) (.tmp 26) 146 rfl H 0 8 rfl us rfl (sizeOf_run (by kernel_rfl)) (hHv.drew.stays hb5) hul (by rw [hvl]; omega) hu1 us HU2.out ?_
      intro w6 hb6 hbut6 hsz6
      refine wpAny_done (by kernel_rfl) ?_ _
      simp only [Act.put]
      go_wp2
      go_roundw
      case rel =>
        obtain ⟨hq, hq2⟩ := HQ.out
        refine ⟨j + 1, q2, by omega, by omega, by go_num, ?_, ?_⟩
        · exact ((hS.stays (Below.refl _ _).drew).stays hb5).but hbut6 hwH (by omega) (fun x hx => by cases hx; show pb ≠ H; omega)
        · rw [← HF.out, ← HUS.out]; exact hb6
      case measure => obtain ⟨hq, hq2⟩ := HQ.out; simp [intOf]; omega
    · have hlt' : ¬ ((q : Int) < (T : Int)) := by omega
      have hj : j = PB.length / 64 := by have := HT.out; omega
      obtain ⟨v, hv⟩ : ∃ v, v = hashed PB := ⟨_, rfl⟩
      have hHh : Blk 146 wr H v.val := by rw [hv]; unfold hashed; rw [← hj]; exact hHv
      have hok : v.Ok := hv ▸ hashed_ok _
      have HV : Hid (v.bytes = shaOf xs) := by unfold Hid shaOf; rw [hv, HP.out]
      have hHl := hHh.lt
      obtain ⟨O, hO⟩ : ∃ O, O = wr.heap.size := ⟨_, rfl⟩
      have hz1 : ∀ v ∈ (List.replicate 32 (0 : Int)).map (Value.int .u8), v.oneCell' = true := int_oneCell _ _
      clear hHv hj hv hq hTl hlt hqT
      go_wp2_with (refine wpList_store_blk (by rfl) (.tmp 7) (.tmp 27) 39 (by rfl) wr.heap.size 0 32 (by rfl) ((List.replicate 32 (0 : Int)).map (Value.int .u8)) (by rfl) (sizeOf_run (by kernel_rfl)) (e := 39) (vs := (List.replicate 32 (0 : Int)).map (Value.int .u8)) (Blk.newAt rfl (by rfl)) rfl (by decide) hz1 ((List.replicate 32 (0 : Int)).map (Value.int .u8)) rfl ?_
                   intro w5 hb5 hbut5 hsz5)
      have hgrow : ∀ o, Below wr.heap.size wr (wr.alloc o) := fun o => (Below.refl _ _).alloc (Nat.le_refl _) _
      have hbo : Below wr.heap.size wr w5 := (hgrow _).trans (hbut5.below (Nat.le_refl _) (by simp))
      have hS5 := hS.stays hbo
      have hH5 := hHh.stays hbo
      have hO5 : Arr .u8 39 w5 O (outUp v 0) := by rw [hO]; exact hb5
      have hHO : H < O := by rw [hO]; exact hHl
      rw [← hO]
      clear hgrow hbo hbut5 hsz5 hb5 hS hHh hO
      go_loopw [8] (fun i wr => ∃ k : Nat, k ≤ 32 ∧ i = .int .i64 k ∧ Below w.heap.size w wr ∧ Blk 39 wr w.heap.size ((List.replicate 32 (0 : Int)).map (Value.int .u8)) ∧ Blk 146 wr H v.val ∧ Arr .u8 39 wr O (outUp v k)) (fun i _ => 32 - (intOf i).toNat)
      case atStart => exact ⟨0, by omega, rfl, hS5.bel, hS5.res, hH5, hO5⟩
      case round =>
        clear hS5 hH5 hO5 hlt' hHl
        rename_i hrel
        obtain ⟨k, hk, rfl, hbel, hR, hHb, hA⟩ := hrel
        by_cases hlk : k < 32
        · obtain ⟨p, hp⟩ : ∃ p, p = k / 4 := ⟨_, rfl⟩
          obtain ⟨r, hr⟩ : ∃ r, r = k % 4 := ⟨_, rfl⟩
          obtain ⟨sh, hsh⟩ : ∃ r, r = 24 - 8 * (k % 4) := ⟨_, rfl⟩
          obtain ⟨x, hx⟩ : ∃ x, x = v.list.getD p 0 := ⟨_, rfl⟩
          have lx : x < 4294967296 := hx ▸ list_lt v hok p
          obtain ⟨y, hy⟩ : ∃ y, y = x / 2 ^ sh := ⟨_, rfl⟩
          obtain ⟨z, hz⟩ : ∃ z, z = y % 256 := ⟨_, rfl⟩
          have cx : wr.cell? ⟨H, p, none⟩ = some (.int .u32 (x : Int)) := by
            have hl : v.list.length = 8 := rfl
            rw [hHb.cell, hx]
            unfold S8.val ints
            have : p < 8 := by omega
            simp [List.getD, hl, this]
          obtain ⟨z0, cz⟩ : ∃ z, wr.cell? ⟨O, k, none⟩ = some (.int .u8 z) := ⟨_, hA.cell k (by rw [outUp_length _ _ hk]; exact hlk)⟩
          have fz := hA.free k
          have bp : (p : Int) < 8 := by omega
          have bk : (k : Int) < 32 := by omega
          have e1 : (k : Int).tdiv 4 = (p : Int) := by rw [Int.tdiv_eq_ediv_of_nonneg (by omega)]; omega
          have e1' : (k : Int) / 4 = (p : Int) := by omega
          have e2 : (k : Int).tmod 4 = (r : Int) := by rw [Int.tmod_eq_emod_of_nonneg (by omega)]; omega
          have e2' : (k : Int) % 4 = (r : Int) := by omega
          have e3 : (24 : Int) - 8 * (r : Int) = (sh : Int) := by omega
          have lr : r < 4 := by omega
          have lsh : sh ≤ 24 := by omega
          have e4 : (x : Int) / 2 ^ sh = (y : Int) := by rw [hy, Int.natCast_ediv, Int.natCast_pow]; rfl
          have e5 : (y : Int) % 256 = (z : Int) := by omega
          have HZ : Hid (v.bytes.getD k 0 = (z : Int)) := by
            unfold Hid S8.bytes
            have hl : v.list.length = 8 := rfl
            rw [flat_at v.list k (by omega), ← hp, ← hx, bytes4_at x lx _ (Nat.mod_lt _ (by decide)), hz, hy, hsh]
          clear hp hr hsh hx hy hz
          go_wp2
          go_roundw
          case rel =>
            refine ⟨k + 1, by omega, by go_num, hbel.setCell (by simp; omega) _, hR.but ((But.refl O wr).setCell k _) (by omega), hHb.but ((But.refl O wr).setCell k _) (by omega), ?_⟩
            have h1 := hA.set k (z : Int)
            rw [← HZ.out, outUp_next v k hlk, HZ.out] at h1
            exact h1
          case measure => simp [intOf]; omega
        · obtain ⟨us, hus⟩ : ∃ us, us = (shaOf xs).map (Value.int .u8) := ⟨_, rfl⟩
          have h8 : Blk 39 wr O us := by
            have e : k = 32 := by omega
            have h9 : outUp v 32 = v.bytes := by
              have hl : v.bytes.length = 32 := rfl
              unfold outUp
              rw [List.take_of_length_le (by omega), Nat.sub_self, List.replicate_zero, List.append_nil]
            rw [e, h9, HV.out] at hA
            rw [hus]
            exact hA
          have hul : us.length = 32 := by rw [hus, List.length_map, shaOf_length]
          have hu1 : ∀ v ∈ us, v.oneCell' = true := hus ▸ int_oneCell _ _
          have hu0 : Hid (us = (us.drop 0).take 32) := by unfold Hid; rw [List.drop_zero, List.take_of_length_le (by omega)]
          have hu2 : Hid (us = ((List.replicate 32 (0 : Int)).map (Value.int .u8)).take 0 ++ us ++ ((List.replicate 32 (0 : Int)).map (Value.int .u8)).drop (0 + 32)) := by
            unfold Hid; rw [List.take_zero, List.nil_append, List.drop_eq_nil_of_le (by simp), List.append_nil]
          have HUS : Hid (us = (shaOf xs).map (Value.int .u8)) := hus
          have hbs := hbel.size
          clear hus hA hz1
          go_wp2_with (first
            | (refine wpList_load_blk (by rfl) (.tmp 7) 39 (by rfl) O 0 32 (by rfl) (isAgg_array Tryd.underlying39) (sizeOf_run (by kernel_rfl)) h8 us hu0.out hul ?_)
            | (refine wpList_store_blk (by rfl) (.tmp 2) (.tmp 45) 39 (by rfl) w.heap.size 0 32 (by rfl) us (by rfl) (sizeOf_run (by kernel_rfl)) hR hul (by simp) hu1 us hu2.out ?_
               intro w6 hb6 hbut6 hsz6))
          go_wp2
          refine bodyPost_ret_blk (by rfl) (by rfl) (by rfl) (isAgg_array Tryd.underlying39) (sizeOf_run (by kernel_rfl)) hb6 hul ?_
          exact ⟨by rw [HUS.out], hbel.trans (hbut6.below (Nat.le_refl _) hbs)⟩
end Go.Proofs.YtjfoidilecognaaDoor

/-
  Package sha: All and Sum.
-/

namespace Go.Proofs.YtjfoidilecognaaDoor
set_option linter.unusedSimpArgs false
set_option linter.unusedVariables false
set_option maxRecDepth 100000
open Go.RowKit

/-- Bytes that lie somewhere. -/
structure Part where
  a : Option Addr
  c : Nat
  xs : List Int

def joined (ps : List Part) : List Int := ps.flatMap (·.xs)

/-- A slice of slices. -/
structure Parts (w : World) (pa : Option Addr) (ps : List Part) : Prop where
  lay : ps = [] ∨ ∃ b off, pa = some ⟨b, off, none⟩ ∧ ∀ (i : Nat) (p : Part), ps[i]? = some p → w.cell? ⟨b, off + i, none⟩ = some (.slice p.a p.xs.length p.c)
  bytes : ∀ p ∈ ps, Bs w p.a p.c p.xs

theorem Bs.blk_lt {w : World} {a : Option Addr} {c : Nat} {xs : List Int} (h : Bs w a c xs) (h0 : xs ≠ []) (x : Addr) (hx : a = some x) : x.block < w.heap.size := by
  obtain ⟨b, off, rfl, hc⟩ := h.cell (List.length_pos_iff.2 h0)
  cases hx
  have h1 := hc 0 (List.length_pos_iff.2 h0)
  rcases Nat.lt_or_ge b w.heap.size with h2 | h2
  · exact h2
  · simp [World.cell?, Array.getElem?_eq_none h2] at h1

theorem joined_take (ps : List Part) (k : Nat) (p : Part) (hp : ps[k]? = some p) : joined (ps.take (k + 1)) = joined (ps.take k) ++ p.xs := by
  unfold joined
  rw [List.take_add_one, hp]
  simp

theorem joined_le (ps : List Part) (k : Nat) (p : Part) (hp : ps[k]? = some p) : (joined (ps.take k)).length + p.xs.length ≤ (joined ps).length := by
  have h := joined_take ps k p hp
  have h1 : joined ps = joined (ps.take (k + 1)) ++ joined (ps.drop (k + 1)) := by
    unfold joined
    rw [← List.flatMap_append, List.take_append_drop]
  rw [h1, h]
  simp

set_option maxRecDepth 100000 in
set_option maxHeartbeats 2000000 in
theorem all_run (pa : Option Addr) (pc : Nat) (ps : List Part) (w : World) (hP : Parts w pa ps) (hV : Vars w) (hlen : (joined ps).length < 1000000000000000000) (hpn : ps.length ≤ 9223372036854775807) :
    Calls Tryd.prog 47 #[.slice pa ps.length pc] w fun e w' => e = .returned (.agg ((shaOf (joined ps)).map (Value.int .u8)).toArray) ∧ Below w.heap.size w w' := by
  obtain ⟨N, hN⟩ : ∃ N, N = ps.length := ⟨_, rfl⟩
  have HN : Hid (N = ps.length) := hN
  have hsz := hV.size
  rw [← hN]
  clear hN
  go_enter Tryd.func47, Tryd.ntmps47
  go_wp2_with (go_at_call 73; go_must (refine (new_run _).mono ?_); rintro e w1 ⟨rfl, hH1, hb1, hs1⟩)
  have hN2 : N ≤ 9223372036854775807 := by rw [HN.out]; exact hpn
  have hb0 : ∀ o, Below w.heap.size w (w.alloc o) := fun o => (Below.refl _ _).alloc (Nat.le_refl _) _
  have hR1 : Blk 39 w1 w.heap.size ((List.replicate 32 (0 : Int)).map (Value.int .u8)) := (Blk.newAt rfl rfl).stays hb1
  have hbel1 : Below w.heap.size w w1 := (hb0 _).trans (hb1.mono (by simp))
  have hV1 : Vars w1 := hV.stays hbel1
  have hH2 : HashAt w1 (w.heap.size + 1) (joined (ps.take 0)) := by simpa [joined] using hH1
  clear hH1 hb1 hs1 hb0 hpn
  go_loopw [9] (fun i wr => ∃ k : Nat, k ≤ N ∧ i = .int .i64 k ∧ Below w.heap.size w wr ∧ HashAt wr (w.heap.size + 1) (joined (ps.take k)) ∧ Blk 39 wr w.heap.size ((List.replicate 32 (0 : Int)).map (Value.int .u8))) (fun i _ => N - (intOf i).toNat)
  case atStart => exact ⟨0, by omega, rfl, hbel1, hH2, hR1⟩
  case round =>
    clear hbel1 hH2 hR1 hV1
    rename_i hrel
    obtain ⟨k, hk, rfl, hbel, hH, hR⟩ := hrel
    have hVr : Vars wr := hV.stays hbel
    by_cases hlt : k < N
    · obtain ⟨p, hp⟩ : ∃ p, ps[k]? = some p := ⟨_, List.getElem?_eq_getElem (by rw [← HN.out]; exact hlt)⟩
      have hpm : p ∈ ps := List.mem_of_getElem? hp
      have hBp := hP.bytes p hpm
      obtain ⟨b, off, hpa, hc⟩ := hP.lay.resolve_left (fun h => by rw [h] at hpm; cases hpm)
      have hcell : wr.cell? ⟨b, off + k, none⟩ = some (.slice p.a p.xs.length p.c) := by
        have h1 := hc k p hp
        have hlb : b < w.heap.size := by
          rcases Nat.lt_or_ge b w.heap.size with h2 | h2
          · exact h2
          · simp [World.cell?, Array.getElem?_eq_none h2] at h1
        rw [hbel.cell hlb]
        exact h1
      have hidx : ∀ w, (Instr.indexAt 137 (.slice pa N pc) (.int .i64 (k : Int))).run Tryd.prog w = .ok (.pointer (some ⟨b, off + k, none⟩)) w := by
        rw [hpa]
        exact fun w => index_run (P := Tryd.prog) 137 43 Tryd.underlying137 (by kernel_rfl) (by kernel_rfl) b off N pc .i64 k hlt w
      have hw := write_run (w.heap.size + 1) (joined (ps.take k)) p.a p.c p.xs wr hH (hBp.stays hbel) (fun h0 x hx => by have := hBp.blk_lt h0 x hx; omega) (by have := joined_le ps k p hp; omega) hVr.steps hVr.firsts (by omega) (by omega)
      have HJ : Hid (joined (ps.take (k + 1)) = joined (ps.take k) ++ p.xs) := joined_take ps k p hp
      clear hpa hc hp hP
      go_wp2_with (go_at_call 74; go_must (refine hw.mono ?_); rintro e w2 ⟨rfl, hst2, hbut2⟩)
      go_roundw
      case rel =>
        refine ⟨k + 1, by omega, by go_num, hbel.trans (hbut2.below (by omega) hbel.size), ?_, hR.but hbut2 (by omega)⟩
        rw [HJ.out]; exact hst2.at
      case measure => simp [intOf]; omega
    · have hJ : joined (ps.take k) = joined ps := by rw [List.take_of_length_le (by rw [← HN.out]; omega)]
      rw [hJ] at hH
      have hs := hsum_run (w.heap.size + 1) (joined ps) wr hH hlen hVr
      obtain ⟨us, hus⟩ : ∃ us, us = (shaOf (joined ps)).map (Value.int .u8) := ⟨_, rfl⟩
      rw [← hus] at hs
      have HUS : Hid (us = (shaOf (joined ps)).map (Value.int .u8)) := hus
      have hul : us.length = 32 := by rw [hus, List.length_map, shaOf_length]
      have hu1 : ∀ v ∈ us, v.oneCell' = true := hus ▸ int_oneCell _ _
      have hu2 : Hid (us = ((List.replicate 32 (0 : Int)).map (Value.int .u8)).take 0 ++ us ++ ((List.replicate 32 (0 : Int)).map (Value.int .u8)).drop (0 + 32)) := by
        unfold Hid; rw [List.take_zero, List.nil_append, List.drop_eq_nil_of_le (by simp), List.append_nil]
      have hbs := hbel.size
      clear hus hJ hH hP
      go_wp2_with (first
        | (go_at_call 75; go_must (refine hs.mono ?_); rintro e w2 ⟨rfl, hb2⟩)
        | (refine wpList_store_blk (by rfl) (.tmp 2) (.tmp 18) 39 (by rfl) w.heap.size 0 32 (by rfl) us (by rfl) (sizeOf_run (by kernel_rfl)) (hR.stays hb2) hul (by simp) hu1 us hu2.out ?_
           intro w6 hb6 hbut6 hsz6))
      go_wp2
      refine bodyPost_ret_blk (by rfl) (by rfl) (by rfl) (isAgg_array Tryd.underlying39) (sizeOf_run (by kernel_rfl)) hb6 hul ?_
      exact ⟨by rw [HUS.out], (hbel.trans (hb2.mono hbs)).trans (hbut6.below (Nat.le_refl _) (by have := hb2.size; omega))⟩

set_option maxRecDepth 100000 in
theorem sum_run (a : Option Addr) (c : Nat) (xs : List Int) (w : World) (hB : Bs w a c xs) (hV : Vars w) (hlen : xs.length < 1000000000000000000) :
    Calls Tryd.prog 18 #[.slice a xs.length c] w fun e w' => e = .returned (.agg ((shaOf xs).map (Value.int .u8)).toArray) ∧ Below w.heap.size w w' := by
  obtain ⟨us, hus⟩ : ∃ us, us = (shaOf xs).map (Value.int .u8) := ⟨_, rfl⟩
  have hul : us.length = 32 := by rw [hus, List.length_map, shaOf_length]
  have hu1 : ∀ v ∈ us, v.oneCell' = true := hus ▸ int_oneCell _ _
  have hu2 : Hid (us = ((List.replicate 32 (0 : Int)).map (Value.int .u8)).take 0 ++ us ++ ((List.replicate 32 (0 : Int)).map (Value.int .u8)).drop (0 + 32)) := by
    unfold Hid; rw [List.take_zero, List.nil_append, List.drop_eq_nil_of_le (by simp), List.append_nil]
  have hall : ∀ (o1 o2 : Obj), o2 = .cells #[.slice a xs.length c] 43 → Calls Tryd.prog 47 #[.slice (some ⟨w.heap.size + 1, 0, none⟩) 1 1] ((w.alloc o1).alloc o2) fun e w' => e = .returned (.agg us.toArray) ∧ Below ((w.alloc o1).alloc o2).heap.size ((w.alloc o1).alloc o2) w' := fun o1 o2 ho => by
    have hb : Below w.heap.size w ((w.alloc o1).alloc o2) := ((Below.refl _ _).alloc (Nat.le_refl _) _).alloc (by simp) _
    have h := all_run (some ⟨w.heap.size + 1, 0, none⟩) 1 [⟨a, c, xs⟩] ((w.alloc o1).alloc o2) ⟨.inr ⟨_, 0, rfl, fun i p hp => ?_⟩, fun p hp => ?_⟩ (hV.stays hb) (by simpa [joined] using hlen) (by simp)
    · rw [hus]; simpa [joined] using h
    · obtain ⟨rfl, rfl⟩ : i = 0 ∧ p = ⟨a, c, xs⟩ := by
        rcases i with _ | i
        · simpa [eq_comm] using hp
        · simp at hp
      subst ho
      simp
    · obtain rfl := List.mem_singleton.1 hp
      exact hB.stays hb
  have HUS : Hid (us = (shaOf xs).map (Value.int .u8)) := hus
  clear hus
  go_enter Tryd.func18, Tryd.ntmps18
  go_wp2_with (first
    | (go_at_call 47; go_must (refine (hall _ _ rfl).mono ?_); rintro e w2 ⟨rfl, hb2⟩)
    | (refine wpList_store_blk (by rfl) (.tmp 2) (.tmp 5) 39 (by rfl) w.heap.size 0 32 (by rfl) us (by rfl) (sizeOf_run (by kernel_rfl)) (e := 39) (vs := (List.replicate 32 (0 : Int)).map (Value.int .u8)) (((Blk.newAt rfl (by rfl)).alloc _).stays hb2) hul (by simp) hu1 us hu2.out ?_
       intro w6 hb6 hbut6 hsz6))
  go_wp2
  refine bodyPost_ret_blk (by rfl) (by rfl) (by rfl) (isAgg_array Tryd.underlying39) (sizeOf_run (by kernel_rfl)) hb6 hul ?_
  refine ⟨by rw [HUS.out], ?_⟩
  have hs := hb2.size
  simp at hs
  exact ((((Below.refl _ _).alloc (Nat.le_refl _) _).alloc (by simp) _).trans (hb2.mono (by simp; omega))).trans (hbut6.below (Nat.le_refl _) (by omega))
end Go.Proofs.YtjfoidilecognaaDoor
