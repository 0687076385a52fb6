/-
  Whole numbers: the walks over the document's Put32, TakeBytes and Take32.
-/
import Derived.Test.YthbcphalokoknaaDoorG06
import Derived.Test.YthbcphalokoknaaDoorG08
namespace Go.Proofs.YthbcphalokoknaaDoor
set_option linter.unusedSimpArgs false
set_option linter.unusedVariables false
open Go.RowKit

theorem rput32_bs (a : Option Addr) (c l : Nat) (xs : List Int) (n : Nat) (x : Int) (hx : x = n) (hn : n < 4294967296) (w : World) (ys : List Int) (hy : xs ++ b32 n = ys) (hl : l = xs.length) (hB : Bs w a c xs) (hlen : xs.length ≤ 100000) :
    Calls Tryd.prog 38 #[.slice a l c, .int .u32 x] w fun e w' => ∃ a' c', e = .returned (.slice a' ys.length c') ∧ Bs w' a' c' ys ∧ Below w.heap.size w w' := by
  subst hy hl hx
  obtain ⟨i0, hi, hz0, hz1, hz2⟩ := info_parts Tryd.info5
  have hrng : ∀ y ∈ xs ++ b32 n, 0 ≤ y ∧ y ≤ 255 := by
    intro y hy
    rcases List.mem_append.1 hy with hy | hy
    · exact hB.rng y hy
    · exact b32_rng n hn y hy
  have HR : Hid (∀ y ∈ xs ++ b32 n, 0 ≤ y ∧ y ≤ 255) := hrng
  clear hrng
  go_enter Tryd.func38, Tryd.ntmps38
  go_wp2_with (first
    | (at_builtin; refine wpList_append_bytes (w0 := w) (by rfl) (.tmp 6) (.tmp 7) 27 (by rfl) w.heap.size 5 i0 Tryd.underlying27 hi hz0 hz1 hz2 _ [] (by rfl) (World.ownsRow_made w #[] 0 (Nat.le_refl _) (by decide) rfl) a xs.length c xs (by rfl) rfl (hB.stays ((Below.refl _ _).alloc (Nat.le_refl _) _)) (by simp; omega) (by simp) ((Below.refl _ _).alloc (Nat.le_refl _) _) ?_; rw [List.nil_append]; intro v1 w1 hown1 hb1)
    | (at_builtin; refine wpList_append_bytes (w0 := w) (by rfl) (.tmp 9) (.tmp 21) 27 (by rfl) w.heap.size 5 i0 Tryd.underlying27 hi hz0 hz1 hz2 _ xs (by rfl) (hown1.alloc _) (some ⟨w1.heap.size, 0, none⟩) 4 4 (b32 n) (by rfl) (by rfl) (b32_bs n hn w1) (by simp [b32]; omega) (by have := hb1.size; simp; omega) (hb1.alloc hb1.size _) ?_; intro v2 w2 hown2 hb2))
  obtain ⟨a', c', rfl, hB'⟩ := Bs.of_owns hown2 HR.out
  go_ret
  exact ⟨a', c', rfl, hB', hb2⟩

def NParts (w : World) (e : Ending) (w' : World) (r : List Int × List Int × Nat) : Prop :=
  ∃ a1 c1 a2 c2, e = .returned (.tuple #[.slice a1 r.1.length c1, .slice a2 r.2.1.length c2, .int .i64 r.2.2]) ∧ Bs w' a1 c1 r.1 ∧ Bs w' a2 c2 r.2.1 ∧ Below w.heap.size w w'

theorem NParts.nothing (w : World) (k : Nat) : NParts w (.returned (.tuple #[.slice none 0 0, .slice none 0 0, .int .i64 k])) w ([], [], k) :=
  ⟨none, 0, none, 0, rfl, Bs.empty _, Bs.empty _, Below.refl _ _⟩

def cutL (xs : List Int) (n : Nat) : List Int × List Int × Nat := if n ≤ xs.length then (xs.take n, xs.drop n, 0) else ([], [], 2)

def bytesL (xs : List Int) (n : Int) : List Int × List Int × Nat := if n < 0 then ([], [], 1) else cutL xs n.toNat

theorem rtakeBytes_any (a : Option Addr) (c : Nat) (xs : List Int) (n : Int) (w : World) (hB : Bs w a c xs) (hlen : xs.length ≤ 1000000) :
    Calls Tryd.prog 70 #[.slice a xs.length c, .int .i64 n] w fun e w' => NParts w e w' (bytesL xs n) := by
  unfold bytesL
  by_cases hn : n < 0
  · rw [if_pos hn]
    go_enter Tryd.func70, Tryd.ntmps70
    go_wp2
    go_ret3
    exact NParts.nothing _ 1
  · rw [if_neg hn]
    obtain ⟨k, rfl⟩ : ∃ k : Nat, n = k := ⟨n.toNat, by omega⟩
    rw [Int.toNat_natCast]
    unfold cutL
    by_cases hk : k ≤ xs.length
    · rw [if_pos hk]
      obtain ⟨hrun1, hB1⟩ := hB.upto (P := Tryd.prog) 27 5 Tryd.underlying27 Tryd.size5 Tryd.elem27 k hk
      obtain ⟨a', c', hrun2, hB2⟩ := hB.from (P := Tryd.prog) 27 5 Tryd.underlying27 Tryd.size5 Tryd.elem27 k hk
      have hs1 : ∀ w', (Instr.slice 27 (.slice a xs.length c) none (some (.int .i64 k)) none).run Tryd.prog w' = .ok (.slice a k c) w' := fun w' => hrun1 w' _ .i64 k rfl
      have hs2 : ∀ w', (Instr.slice 27 (.slice a xs.length c) (some (.int .i64 k)) none none).run Tryd.prog w' = .ok (.slice a' (xs.length - k) c') w' := fun w' => hrun2 w' _ .i64 k rfl rfl
      clear hrun1 hrun2
      go_enter Tryd.func70, Tryd.ntmps70
      go_wp2
      go_quiet (fail)
      go_wp2
      go_ret3
      refine ⟨a, c, a', c', ?_, hB1.stays (below_drewN (Below.refl _ _) _), hB2.stays (below_drewN (Below.refl _ _) _), below_drewN (Below.refl _ _) _⟩
      rw [List.length_take, List.length_drop, Nat.min_eq_left hk]; rfl
    · rw [if_neg hk]
      go_enter Tryd.func70, Tryd.ntmps70
      go_wp2
      go_ret3
      exact NParts.nothing _ 2

theorem rtake32_any (a : Option Addr) (c : Nat) (xs : List Int) (w : World) (hB : Bs w a c xs) (hlen : xs.length ≤ 1000000) :
    Calls Tryd.prog 46 #[.slice a xs.length c] w fun e w' => ∃ a1 c1, e = .returned (.tuple #[.int .u32 (take32L xs).1, .slice a1 (take32L xs).2.1.length c1, .int .i64 (take32L xs).2.2]) ∧ Bs w' a1 c1 (take32L xs).2.1 ∧ Below w.heap.size w w' := by
  have hcon := rtakeBytes_any a c xs 4 w hB hlen
  unfold take32L
  by_cases h4 : xs.length < 4
  · rw [if_pos h4]
    have : bytesL xs 4 = ([], [], 2) := by unfold bytesL cutL; rw [if_neg (by decide), if_neg (by simp; omega)]
    rw [this] at hcon
    go_enter Tryd.func46, Tryd.ntmps46
    go_wp2_with (go_at_call 70; go_must (refine hcon.mono ?_); rintro e w1 ⟨a1, c1, a2, c2, rfl, h1, h2, h3⟩)
    go_ret3
    exact ⟨none, 0, rfl, Bs.empty _, h3⟩
  rw [if_neg h4]
  have hbl : bytesL xs 4 = (xs.take 4, xs.drop 4, 0) := by unfold bytesL cutL; rw [if_neg (by decide), if_pos (by simp; omega)]; rfl
  rw [hbl] at hcon
  obtain ⟨x0, x1, x2, x3, ys, rfl⟩ : ∃ x0 x1 x2 x3 ys, xs = x0 :: x1 :: x2 :: x3 :: ys := by
    match xs, h4 with
    | x0 :: x1 :: x2 :: x3 :: ys, _ => exact ⟨_, _, _, _, _, rfl⟩
    | [], h => exact absurd (by simp) h
    | [_], h => exact absurd (by simp) h
    | [_, _], h => exact absurd (by simp) h
    | [_, _, _], h => exact absurd (by simp) h
  obtain ⟨p0, q0⟩ := hB.rng x0 (by simp)
  obtain ⟨p1, q1⟩ := hB.rng x1 (by simp)
  obtain ⟨p2, q2⟩ := hB.rng x2 (by simp)
  obtain ⟨p3, q3⟩ := hB.rng x3 (by simp)
  have ht4 : (x0 :: x1 :: x2 :: x3 :: ys).take 4 = [x0, x1, x2, x3] := rfl
  have hd4 : (x0 :: x1 :: x2 :: x3 :: ys).drop 4 = ys := rfl
  rw [ht4, hd4] at hcon
  rw [hd4]
  obtain ⟨N, hN⟩ : ∃ N, (x0 :: x1 :: x2 :: x3 :: ys).length = N := ⟨_, rfl⟩
  rw [hN] at hcon ⊢
  clear hbl ht4 hd4 hB h4 hN
  go_enter Tryd.func46, Tryd.ntmps46
  go_wp2_with (go_at_call 70; go_must (refine hcon.mono ?_); rintro e w1 ⟨a1, c1, a2, c2, rfl, h1, h2, h3⟩; obtain ⟨b, off, hab, hc⟩ := h1.cell (by simp); have k0 : w1.cell? ⟨b, off, none⟩ = some (.int .u8 x0) := hc 0 (by simp); have k1 : w1.cell? ⟨b, off + 1, none⟩ = some (.int .u8 x1) := hc 1 (by simp); have k2 : w1.cell? ⟨b, off + 2, none⟩ = some (.int .u8 x2) := hc 2 (by simp); have k3 : w1.cell? ⟨b, off + 3, none⟩ = some (.int .u8 x3) := hc 3 (by simp); rw [hab])
  go_quiet (fail)
  go_wp2
  go_ret3
  exact ⟨a2, c2, rfl, h2.stays (below_drewN (Below.refl _ _) _), below_then h3 (below_drewN (Below.refl _ _) _)⟩

end Go.Proofs.YthbcphalokoknaaDoor

/-
  The walk over the document's Encode.
-/

namespace Go.Proofs.YthbcphalokoknaaDoor
set_option linter.unusedSimpArgs false
set_option linter.unusedVariables false
open Go.RowKit

theorem rput32_at (a : Option Addr) (c l m : Nat) (xs : List Int) (n : Nat) (hn : n < 4294967296) (w : World) (hl : l = xs.length) (hm : m = l + 4) (hB : Bs w a c xs) (hlen : xs.length ≤ 100000) :
    Calls Tryd.prog 38 #[.slice a l c, .int .u32 (n : Int)] w fun e w' => ∃ a' c', e = .returned (.slice a' m c') ∧ Bs w' a' c' (xs ++ b32 n) ∧ Below w.heap.size w w' := by
  refine (rput32_bs a c l xs n n rfl hn w (xs ++ b32 n) rfl hl hB hlen).mono ?_
  rintro e w' ⟨a', c', rfl, h1, h2⟩
  exact ⟨a', c', by rw [List.length_append, b32_len, hm, hl], h1, h2⟩

set_option maxHeartbeats 1000000 in
set_option maxRecDepth 100000 in
theorem rencode_run (p : Pt) (hp : p.ok) (w : World) : Calls Tryd.prog 39 #[.agg p.vs.toArray] w fun e w' => ∃ a c, e = .returned (.slice a 44 c) ∧ Bs w' a c p.enc ∧ Below w.heap.size w w' := by
  obtain ⟨i0, hi, hz0, hz1, hz2⟩ := info_parts Tryd.info5
  have hlen : p.h.length = 32 := hp.len
  have hvl := Pt.vs_len hp
  have hx := hp.x
  have hy := hp.y
  have hbb := hp.b
  have hl1 : (p.h ++ b32 p.b).length = 36 := by rw [List.length_append, hlen]; rfl
  have hl2 : ((p.h ++ b32 p.b) ++ b32 p.x).length = 40 := by rw [List.length_append, hl1]; rfl
  have HE : Hid (p.enc = ((p.h ++ b32 p.b) ++ b32 p.x) ++ b32 p.y) := by show _ = _; unfold Pt.enc; simp
  have hPB : ∀ u g, Blk 26 u g p.vs → Bs u (some ⟨g, 0, none⟩) 32 p.h := fun u g hP => by
    refine ⟨hp.rng, by omega, by decide, by simp, .inr ⟨_, 0, rfl, fun i hi => ?_⟩⟩
    rw [hP.cell]
    have := Pt.vs_hash hp
    simp only [List.drop_zero] at this
    have h2 : p.vs[0 + i]? = (p.vs.take 32)[i]? := by rw [Nat.zero_add, List.getElem?_take_of_lt (by omega)]
    rw [h2, ← this]
    simp [List.getD, hi]
  have HPB : Hid (∀ u g, Blk 26 u g p.vs → Bs u (some ⟨g, 0, none⟩) 32 p.h) := hPB
  have HCB : Hid (∀ u g, Blk 26 u g p.vs → u.cell? ⟨g, 32, none⟩ = some (.int .u32 (p.b : Int)) ∧ u.cell? ⟨g, 33, none⟩ = some (.int .u32 (p.x : Int)) ∧ u.cell? ⟨g, 34, none⟩ = some (.int .u32 (p.y : Int))) := fun u g hP => ⟨(hP.cell 32).trans (Pt.vs_birth hp), (hP.cell 33).trans (Pt.vs_x hp), (hP.cell 34).trans (Pt.vs_y hp)⟩
  clear hPB hp
  go_enter Tryd.func39, Tryd.ntmps39
  go_wp2_with (first
    | (refine wpList_box0 (by rfl) 26 (.tmp 0) (by rfl) p.vs (by rfl) ?_; intro w1 hP1 hb1 hs1)
    | (at_builtin; go_must (refine wpList_append_bytes (w0 := w1) (by rfl) (.tmp 4) (.tmp 6) 27 (by rfl) w1.heap.size 5 i0 Tryd.underlying27 hi hz0 hz1 hz2 _ [] (by rfl) (by rw [← hs1]; exact World.ownsRow_made w1 #[] 0 (Nat.le_refl _) (by decide) rfl) (some ⟨w.heap.size, 0, none⟩) 32 32 p.h (by rfl) hlen.symm (HPB.out _ _ (hP1.alloc _)) (by simp; omega) (by simp) ((Below.refl _ _).alloc (Nat.le_refl _) _) ?_); rw [List.nil_append]; intro v1 w2 hown2 hb2
       obtain ⟨a2, c2, rfl, hB2⟩ := Bs.of_owns hown2 (HPB.out _ _ hP1).rng
       have hP2 := hP1.stays hb2
       obtain ⟨q1, q2, q3⟩ := HCB.out _ _ hP2
       rw [hlen]
       have hc3 := rput32_at a2 c2 32 36 p.h p.b hbb w2 hlen.symm rfl hB2 (by omega))
    | (go_at_call_of 38 (Value.slice a2 32 c2); go_must (refine hc3.mono ?_); rintro e w3 ⟨a3, c3, rfl, hB3, hb3⟩
       have hP3 := hP2.stays hb3; obtain ⟨r1, r2, r3⟩ := HCB.out _ _ hP3
       have hc4 := rput32_at a3 c3 36 40 _ p.x hx w3 hl1.symm rfl hB3 (by omega))
    | (go_at_call_of 38 (Value.slice a3 36 c3); go_must (refine hc4.mono ?_); rintro e w4 ⟨a4, c4, rfl, hB4, hb4⟩
       have hP4 := hP3.stays hb4; obtain ⟨s1, s2, s3⟩ := HCB.out _ _ hP4
       have hc5 := rput32_at a4 c4 40 44 _ p.y hy w4 hl2.symm rfl hB4 (by omega))
    | (go_at_call_of 38 (Value.slice a4 40 c4); go_must (refine hc5.mono ?_); rintro e w5 ⟨a5, c5, rfl, hB5, hb5⟩))
  go_ret
  refine ⟨a5, c5, rfl, by rw [HE.out]; exact hB5, ?_⟩
  exact below_then (below_then (below_then (below_then hb1 hb2) hb3) hb4) hb5

end Go.Proofs.YthbcphalokoknaaDoor

/-
  The walk over the document's Decode.
-/

namespace Go.Proofs.YthbcphalokoknaaDoor
set_option linter.unusedSimpArgs false
set_option linter.unusedVariables false
open Go.RowKit

theorem rtake32_nat (a : Option Addr) (c n : Nat) (xs : List Int) (w : World) (hB : Bs w a c xs) (hn : n = xs.length) (hm : 4 ≤ n) (hlen : xs.length ≤ 1000000) :
    Calls Tryd.prog 46 #[.slice a n c] w fun e w' => ∃ a1 c1, e = .returned (.tuple #[.int .u32 (n32 xs : Int), .slice a1 (n - 4) c1, .int .i64 0]) ∧ Below w.heap.size w w' := by
  subst hn
  refine (rtake32_any a c xs w hB hlen).mono ?_
  rintro e w' ⟨a1, c1, rfl, h1, h2⟩
  have hi := (take32_int hB.rng).1
  have ht : (take32L xs).2.1 = xs.drop 4 ∧ (take32L xs).2.2 = 0 := by unfold take32L; rw [if_neg (by omega)]; exact ⟨rfl, rfl⟩
  rw [ht.1, ht.2, hi]
  refine ⟨a1, c1, ?_, h2⟩
  rw [List.length_drop]; rfl

theorem Pt.vs_seth (xs : List Int) (k : Nat) (hk : k < 32) (hx : 32 ≤ xs.length) : (Pt.vs ⟨xs.take k ++ List.replicate (32 - k) 0, 0, 0, 0⟩).set k (.int .u8 (xs.getD k 0)) = Pt.vs ⟨xs.take (k + 1) ++ List.replicate (32 - (k + 1)) 0, 0, 0, 0⟩ := by
  have hl : (xs.take k).length = k := by simp; omega
  have h1 : xs.take (k + 1) = xs.take k ++ [xs.getD k 0] := by
    rw [List.take_succ_eq_append_getElem (by omega), List.getD_eq_getElem?_getD, List.getElem?_eq_getElem (by omega)]; rfl
  have h2 : List.replicate (32 - k) (0 : Int) = 0 :: List.replicate (32 - (k + 1)) 0 := by rw [show 32 - k = (32 - (k + 1)) + 1 by omega, List.replicate_succ]
  unfold Pt.vs
  simp only
  rw [h2, h1, List.set_append_left _ _ (by simp; omega), ← List.map_set, List.set_append_right _ _ (by omega), hl, Nat.sub_self, List.set_cons_zero]
  simp

theorem Pt.vs_setat {h : List Int} (hl : h.length = 32) (b x y m n : Nat) : Pt.vs ⟨h, b, m, n⟩ = (Pt.vs ⟨h, b, x, y⟩).take 33 ++ [.int .u32 (m : Int), .int .u32 (n : Int)] ++ (Pt.vs ⟨h, b, x, y⟩).drop (33 + 2) := by
  unfold Pt.vs
  have h1 : (h.map (Value.int .u8)).take 33 = h.map (Value.int .u8) := List.take_of_length_le (by simp; omega)
  have h2 : (h.map (Value.int .u8)).drop 35 = [] := List.drop_eq_nil_of_le (by simp; omega)
  simp [List.take_append, List.drop_append, hl, h1, h2]

theorem size_u8 (w : World) : (sizeOf 5).run Tryd.prog w = .ok 1 w := sizeOf_run sizes5 w

set_option maxHeartbeats 2000000 in
set_option maxRecDepth 100000 in
theorem rdecode_run (a : Option Addr) (c n : Nat) (xs : List Int) (w : World) (hn : n = xs.length) (hB : Bs w a c xs) (hlen : n ≤ 1000000) :
    Calls Tryd.prog 47 #[.slice a n c] w fun e w' => e = .returned (.tuple #[.agg (decodeL xs).1.vs.toArray, .int .i64 ((decodeL xs).2 : Int)]) ∧ Below w.heap.size w w' := by
  have hzl : Pt.zero.vs.length = 35 := Pt.vs_len Pt.zero_ok
  by_cases h : n < 44
  · unfold decodeL
    rw [← hn, if_pos h]
    have h' : (n : Int) < 44 := by omega
    clear hn hB
    go_enter Tryd.func47, Tryd.ntmps47
    go_wp2_with (first
      | (refine wpList_alloc0 (by rfl) 26 (by rfl) (some 2) (by rfl) Pt.zero.vs alloc_ptr0 ?_; intro w1 hR1 hb1 hs1)
      | (refine wpList_build0 (by rfl) 26 (by rfl) _ build_ptr0 ?_)
      | (refine wpList_store_blk (by rfl) (.tmp 2) (.tmp 18) 26 (by rfl) _ 0 35 (by rfl) _ (by rfl) size_ptr hR1 hzl (by omega) (Pt.vs_one _) _ (whole_store hzl) ?_
         intro w2 hR2 hbut2 hs2))
    refine bodyPost_ret_blk2 rfl rfl (by rfl) (by rfl) agg_ptr size_ptr hR2 hzl ⟨rfl, ?_⟩
    exact hb1.trans (hbut2.below (Nat.le_refl _) (by omega))
  · have h' : ¬ (n : Int) < 44 := by omega
    obtain ⟨b, off, rfl, hc⟩ := hB.cell (by omega)
    have hcap := hB.cap
    have hrng := hB.rng
    have HBS : Hid (∀ q u, q < n → Below w.heap.size w u → Bs u (some ⟨b, off + q, none⟩) (c - q) (xs.drop q)) := fun q u hq hu => by
      have := (hB.mid q (xs.length - q) (by omega) (by omega)).stays hu
      rwa [List.take_of_length_le (by simp)] at this
    have HSL : Hid (∀ q : Nat, q < 44 → ∀ u : World, (Instr.slice 27 (.slice (some ⟨b, off, none⟩) n c) (some (.int .i64 (q : Int))) none none).run Tryd.prog u = .ok (.slice (some ⟨b, off + q, none⟩) (n - q) (c - q)) u) := fun q hq u => by
      have hz := sizeOf_run sizes5 u
      have hadd : (⟨b, off, none⟩ : Addr).add q = ⟨b, off + q, none⟩ := by unfold Addr.add; split <;> simp_all
      have hne : ¬ c = q := by omega
      rw [run_slice_l u 27 (some ⟨b, off, none⟩) n c (by rw [Tryd.elem27]; exact Tryd.underlying27) .i64 q (by omega) (by omega), Tryd.elem27, hz]
      simp [Result.andThen, sliced, hne, hadd]
    have HCE : Hid (∀ k u, k < n → Below w.heap.size w u → u.cell? ⟨b, off + k, none⟩ = some (.int .u8 (xs.getD k 0))) := fun k u hk hu => by
      rw [hu.cell (World.block_lt_of_cell? w _ (hc k (by omega)))]; exact hc k (by omega)
    have HN : Hid (n = xs.length) := hn
    have hxl : 44 ≤ xs.length := by omega
    clear hB hc hn
    go_enter Tryd.func47, Tryd.ntmps47
    go_wp2_with (first
      | (refine wpList_alloc0 (by rfl) 26 (by rfl) (some 2) (by rfl) Pt.zero.vs alloc_ptr0 ?_; intro w1 hR1 hb1 hs1)
      | (refine wpList_build0 (by rfl) 26 (by rfl) _ build_ptr0 ?_)
      | (refine wpList_alloc0 (by rfl) 26 (by rfl) (some 4) (by rfl) Pt.zero.vs alloc_ptr0 ?_; intro w2 hP2 hb2 hs2; have hR2 := hR1.stays hb2)
      | (refine wpList_store_blk (by rfl) (.tmp 4) (.tmp 19) 26 (by rfl) _ 0 35 (by rfl) _ (by rfl) size_ptr hP2 hzl (by omega) (Pt.vs_one _) _ (whole_store hzl) ?_
         intro w3 hP3 hbut3 hs3; rw [hs1] at hP3 hbut3 hs2; have hR3 := hR2.but hbut3 (by omega)))
    have hX3 : Below w.heap.size w w3 := (below_then hb1 hb2).trans (hbut3.below (by omega) (by omega))
    go_loopw [5] (fun i wr => ∃ k : Nat, k ≤ 32 ∧ i = .int .i64 k ∧ Blk 26 wr w.heap.size Pt.zero.vs ∧ Blk 26 wr (w.heap.size + 1) (Pt.vs ⟨xs.take k ++ List.replicate (32 - k) 0, 0, 0, 0⟩) ∧ Below w.heap.size w wr) (fun i _ => 32 - (intOf i).toNat)
    case atStart => exact ⟨0, by omega, rfl, hR3, hP3, hX3⟩
    case round =>
      rename_i hrel
      obtain ⟨k, hk, rfl, hR, hP, hbr⟩ := hrel
      clear hR1 hb1 hs1 hP2 hb2 hs2 hR2 hP3 hbut3 hs3 hR3 hX3
      have hsz := hbr.size
      have hPl := hP.lt
      by_cases hlt : k < 32
      · have hcell := HCE.out k wr (by omega) hbr
        have hix : ∀ u : World, (Instr.indexAt 27 (.slice (some ⟨b, off, none⟩) n c) (.int .i64 k)).run Tryd.prog u = .ok (.pointer (some ⟨b, off + k, none⟩)) u := fun u =>
          index_run 27 5 Tryd.underlying27 sizes5 Tryd.elem27 b off n c .i64 k (by omega) u
        have hix2 : ∀ u : World, (Instr.indexAt 23 (.pointer (some ⟨w.heap.size + 1, 0, none⟩)) (.int .i64 (k : Int))).run Tryd.prog u = .ok (.pointer (some ⟨w.heap.size + 1, k, none⟩)) u := fun u => by
          have := index_ptr (P := Tryd.prog) (g := w.heap.size + 1) (off := 0) (K := .i64) Tryd.underlying23 sizes5 hlt u
          rw [Nat.zero_add, Nat.mul_one] at this
          exact this
        have HS := Pt.vs_seth xs k hlt (by omega)
        have hvl : (Pt.vs ⟨xs.take k ++ List.replicate (32 - k) 0, 0, 0, 0⟩).length = 35 := by simp [Pt.vs]; omega
        obtain ⟨x, hx⟩ : ∃ x, x = xs.getD k 0 := ⟨_, rfl⟩
        obtain ⟨ps, hps⟩ : ∃ ps, ps = Pt.vs ⟨xs.take k ++ List.replicate (32 - k) 0, 0, 0, 0⟩ := ⟨_, rfl⟩
        rw [← hx] at hcell HS
        rw [← hps] at hP HS hvl
        have HS' : Hid (ps.set k (.int .u8 x) = Pt.vs ⟨xs.take (k + 1) ++ List.replicate (32 - (k + 1)) 0, 0, 0, 0⟩) := HS
        clear hx hps HS
        go_wp2_with (first
          | (refine wpList_store_int (by rfl) (.tmp 30) (.tmp 28) 5 (by rfl) _ k (by rfl) .u8 x (by rfl) size_u8 hP (by omega) ?_
             intro w5 hP5 hbut5 hs5; rw [HS'.out] at hP5))
        have hR5 := hR.but hbut5 (by omega)
        go_roundw
        case rel => exact ⟨k + 1, by omega, by go_num, hR5, hP5, hbr.trans (hbut5.below (by omega) (by omega))⟩
        case measure => simp [intOf]; omega
      · have hk32 : k = 32 := by omega
        subst hk32
        have hh : (xs.take 32).length = 32 := by simp; omega
        have hP0 : Blk 26 wr (w.heap.size + 1) (Pt.vs ⟨xs.take 32, 0, 0, 0⟩) := by
          have : xs.take 32 ++ List.replicate (32 - 32) (0 : Int) = xs.take 32 := by simp
          rw [this] at hP; exact hP
        obtain ⟨hd, hhd⟩ : ∃ hd, hd = xs.take 32 := ⟨_, rfl⟩
        obtain ⟨n0, hn0⟩ : ∃ n, n = n32 (xs.drop 32) := ⟨_, rfl⟩
        obtain ⟨n1, hn1⟩ : ∃ n, n = n32 (xs.drop 36) := ⟨_, rfl⟩
        obtain ⟨n2, hn2⟩ : ∃ n, n = n32 (xs.drop 40) := ⟨_, rfl⟩
        have HT : Hid (∀ q m : Nat, q = 32 ∧ m = n0 ∨ q = 36 ∧ m = n1 ∨ q = 40 ∧ m = n2 → ∀ u, Below w.heap.size w u → Calls Tryd.prog 46 #[.slice (some ⟨b, off + q, none⟩) (n - q) (c - q)] u fun e w' => ∃ a1 c1, e = .returned (.tuple #[.int .u32 (m : Int), .slice a1 (n - q - 4) c1, .int .i64 0]) ∧ Below u.heap.size u w') := fun q m hq u hu => by
          have hqn : q < n := by omega
          have hm : m = n32 (xs.drop q) := by rcases hq with ⟨rfl, rfl⟩ | ⟨rfl, rfl⟩ | ⟨rfl, rfl⟩ <;> assumption
          rw [hm]
          exact rtake32_nat _ _ (n - q) (xs.drop q) u (HBS.out q u hqn hu) (by have := HN.out; simp; omega) (by omega) (by have := HN.out; simp; omega)
        obtain ⟨S32, e32⟩ : ∃ v, v = Value.slice (some ⟨b, off + 32, none⟩) (n - 32) (c - 32) := ⟨_, rfl⟩
        have hs32 : ∀ u : World, (Instr.slice 27 (.slice (some ⟨b, off, none⟩) n c) (some (.int .i64 32)) none none).run Tryd.prog u = .ok S32 u := fun u => by rw [e32]; exact HSL.out 32 (by omega) u
        have HT32 : Hid (∀ u, Below w.heap.size w u → Calls Tryd.prog 46 #[S32] u fun e w' => ∃ v, e = .returned (.tuple #[.int .u32 (n0 : Int), v, .int .i64 0]) ∧ Below u.heap.size u w') := fun u hu => by
          rw [e32]; exact (HT.out 32 n0 (.inl ⟨rfl, rfl⟩) u hu).mono fun e w' ⟨a1, c1, h1, h2⟩ => ⟨_, h1, h2⟩
        obtain ⟨S36, e36⟩ : ∃ v, v = Value.slice (some ⟨b, off + 36, none⟩) (n - 36) (c - 36) := ⟨_, rfl⟩
        have hs36 : ∀ u : World, (Instr.slice 27 (.slice (some ⟨b, off, none⟩) n c) (some (.int .i64 36)) none none).run Tryd.prog u = .ok S36 u := fun u => by rw [e36]; exact HSL.out 36 (by omega) u
        have HT36 : Hid (∀ u, Below w.heap.size w u → Calls Tryd.prog 46 #[S36] u fun e w' => ∃ v, e = .returned (.tuple #[.int .u32 (n1 : Int), v, .int .i64 0]) ∧ Below u.heap.size u w') := fun u hu => by
          rw [e36]; exact (HT.out 36 n1 (.inr (.inl ⟨rfl, rfl⟩)) u hu).mono fun e w' ⟨a1, c1, h1, h2⟩ => ⟨_, h1, h2⟩
        obtain ⟨S40, e40⟩ : ∃ v, v = Value.slice (some ⟨b, off + 40, none⟩) (n - 40) (c - 40) := ⟨_, rfl⟩
        have hs40 : ∀ u : World, (Instr.slice 27 (.slice (some ⟨b, off, none⟩) n c) (some (.int .i64 40)) none none).run Tryd.prog u = .ok S40 u := fun u => by rw [e40]; exact HSL.out 40 (by omega) u
        have HT40 : Hid (∀ u, Below w.heap.size w u → Calls Tryd.prog 46 #[S40] u fun e w' => ∃ v, e = .returned (.tuple #[.int .u32 (n2 : Int), v, .int .i64 0]) ∧ Below u.heap.size u w') := fun u hu => by
          rw [e40]; exact (HT.out 40 n2 (.inr (.inr ⟨rfl, rfl⟩)) u hu).mono fun e w' ⟨a1, c1, h1, h2⟩ => ⟨_, h1, h2⟩
        have HPt : Hid ((⟨hd, n0, n1, n2⟩ : Pt) = decP xs) := by show _ = _; unfold decP; rw [hhd, hn0, hn1, hn2]
        have hok : (⟨hd, n0, n1, n2⟩ : Pt).ok := by rw [HPt.out]; exact decP_ok hrng (by omega)
        rw [← hhd] at hP0 hh
        have hvl : ∀ b x y, (Pt.vs ⟨hd, b, x, y⟩).length = 35 := fun b x y => by rw [Pt.vs, List.length_append, List.length_map]; simp only; rw [hh]; rfl
        have HAT : Hid (∀ m n, Pt.vs ⟨hd, n0, m, n⟩ = (Pt.vs ⟨hd, n0, 0, 0⟩).take 33 ++ [.int .u32 (m : Int), .int .u32 (n : Int)] ++ (Pt.vs ⟨hd, n0, 0, 0⟩).drop (33 + 2)) := fun m n => Pt.vs_setat hh n0 0 0 m n
        obtain ⟨p, hp⟩ : ∃ p : Pt, p = ⟨hd, n0, n1, n2⟩ := ⟨_, rfl⟩
        have hpl : p.vs.length = 35 := by rw [hp]; exact hvl _ _ _
        have HMA : Hid (∀ u, Calls Tryd.prog 37 #[.agg p.vs.toArray] u fun e w' => e = .returned (.bool p.may) ∧ Below u.heap.size u w') := rmay_run p (hp ▸ hok)
        have HPD : Hid (p = decP xs) := hp.trans HPt.out
        have HPE : Hid (p = ⟨hd, n0, n1, n2⟩) := hp
        clear hP hn0 hn1 hn2 hp hhd HPt hok HSL HBS HCE HT e32 e36 e40
        by_cases hgt : 44 < n
        · have hgt' : (44 : Int) < (n : Int) := by omega
          have HDL : Hid (decodeL xs = (Pt.zero, 3)) := by show _ = _; unfold decodeL; have := HN.out; rw [if_neg (by omega), if_pos (by omega)]
          go_wp2_with (first
            | (go_at_call_of 46 S32; go_must (refine (HT32.out _ hbr).mono ?_); rintro e w4 ⟨v4, rfl, hb4⟩; have hX4 := hbr.trans (hb4.mono hbr.size); have hP4 := hP0.stays hb4; have hR4 := hR.stays hb4)
            | (go_at_call_of 46 S36; go_must (refine (HT36.out _ hX4).mono ?_); rintro e w5 ⟨v5, rfl, hb5⟩; have hX5 := hX4.trans (hb5.mono hX4.size); have hP5 := hP4.stays hb5; have hR5 := hR4.stays hb5)
            | (go_at_call_of 46 S40; go_must (refine (HT40.out _ hX5).mono ?_); rintro e w6 ⟨v6, rfl, hb6⟩; have hX6 := hX5.trans (hb6.mono hX5.size); have hP6 := hP5.stays hb6; have hR6 := hR5.stays hb6)
            | (refine wpList_store_int (by rfl) (.tmp 53) (.tmp 52) 22 (by rfl) _ 32 (by rfl) .u32 n0 (by rfl) size_u32 hP6 (by rw [hvl]; omega) ?_
               intro w7 hP7 hbut7 hs7; rw [Pt.vs_setb hh] at hP7; have hR7 := hR6.but hbut7 (by omega))
            | (refine wpList_store_blk (by rfl) (.tmp 57) (.tmp 56) 24 (by rfl) _ 33 2 (by rfl) [.int .u32 (n1 : Int), .int .u32 (n2 : Int)] (by rfl) size_at hP7 rfl (by rw [hvl]; omega) (by simp; exact ⟨rfl, rfl⟩) _ (HAT.out n1 n2) ?_
               intro w8 hP8 hbut8 hs8; rw [← HPE.out] at hP8; have hR8 := hR7.but hbut8 (by omega))
            | (refine wpList_build0 (by rfl) 26 (by rfl) _ build_ptr0 ?_)
            | (refine wpList_store_blk (by rfl) (.tmp 2) (.tmp 66) 26 (by rfl) _ 0 35 (by rfl) _ (by rfl) size_ptr hR8 hzl (by omega) (Pt.vs_one _) _ (whole_store hzl) ?_
               intro w9 hR9 hbut9 hs9))
          refine bodyPost_ret_blk2 rfl rfl (by rfl) (by rfl) agg_ptr size_ptr hR9 hzl ⟨by rw [HDL.out]; rfl, ?_⟩
          have z6 := hX6.size
          exact ((hX6.trans (hbut7.below (by omega) (by omega))).trans (hbut8.below (by omega) (by omega))).trans (hbut9.below (by omega) (by omega))
        · have hn44 : n = 44 := by omega
          subst hn44
          have hl44 : xs.length = 44 := HN.out.symm
          have hdl := decodeL_at hl44
          rw [← HPD.out] at hdl
          have HDL : Hid (decodeL xs = if p.may then (p, 0) else (Pt.zero, 3)) := hdl
          clear hdl
          cases hmv : p.may
          · have hm := HMA.out
            rw [hmv] at hm
            have HM : Hid (∀ u, Calls Tryd.prog 37 #[.agg p.vs.toArray] u fun e w' => e = .returned (.bool false) ∧ Below u.heap.size u w') := hm
            clear hm HMA
            go_wp2_with (first
              | (go_at_call_of 46 S32; go_must (refine (HT32.out _ hbr).mono ?_); rintro e w4 ⟨v4, rfl, hb4⟩; have hX4 := hbr.trans (hb4.mono hbr.size); have hP4 := hP0.stays hb4; have hR4 := hR.stays hb4)
              | (go_at_call_of 46 S36; go_must (refine (HT36.out _ hX4).mono ?_); rintro e w5 ⟨v5, rfl, hb5⟩; have hX5 := hX4.trans (hb5.mono hX4.size); have hP5 := hP4.stays hb5; have hR5 := hR4.stays hb5)
              | (go_at_call_of 46 S40; go_must (refine (HT40.out _ hX5).mono ?_); rintro e w6 ⟨v6, rfl, hb6⟩; have hX6 := hX5.trans (hb6.mono hX5.size); have hP6 := hP5.stays hb6; have hR6 := hR5.stays hb6)
              | (refine wpList_store_int (by rfl) (.tmp 53) (.tmp 52) 22 (by rfl) _ 32 (by rfl) .u32 n0 (by rfl) size_u32 hP6 (by rw [hvl]; omega) ?_
                 intro w7 hP7 hbut7 hs7; rw [Pt.vs_setb hh] at hP7; have hR7 := hR6.but hbut7 (by omega))
              | (refine wpList_store_blk (by rfl) (.tmp 57) (.tmp 56) 24 (by rfl) _ 33 2 (by rfl) [.int .u32 (n1 : Int), .int .u32 (n2 : Int)] (by rfl) size_at hP7 rfl (by rw [hvl]; omega) (by simp; exact ⟨rfl, rfl⟩) _ (HAT.out n1 n2) ?_
                 intro w8 hP8 hbut8 hs8; rw [← HPE.out] at hP8; have hR8 := hR7.but hbut8 (by omega))
              | (refine wpList_load_blk_guard (by rfl) (.tmp 4) 26 (by rfl) _ 0 35 (by rfl) agg_ptr size_ptr hP8 _ (whole_load hpl) hpl ?_)
              | (go_at_call 37; go_must (refine (HM.out _).mono ?_); rintro e wA ⟨rfl, hbA⟩; have hRA := hR8.stays hbA)
              | (refine wpList_build0 (by rfl) 26 (by rfl) _ build_ptr0 ?_)
              | (refine wpList_store_blk (by rfl) (.tmp 2) (.tmp 66) 26 (by rfl) _ 0 35 (by rfl) _ (by rfl) size_ptr hRA hzl (by omega) (Pt.vs_one _) _ (whole_store hzl) ?_
                 intro w9 hR9 hbut9 hs9))
            have hdl := HDL.out
            rw [hmv, if_neg (by simp)] at hdl
            refine bodyPost_ret_blk2 rfl rfl (by rfl) (by rfl) agg_ptr size_ptr hR9 hzl ⟨by rw [hdl]; rfl, ?_⟩
            have z6 := hX6.size
            have zA := hbA.size
            exact (((hX6.trans (hbut7.below (by omega) (by omega))).trans (hbut8.below (by omega) (by omega))).trans (hbA.mono (by omega))).trans (hbut9.below (by omega) (by omega))
          · have hm := HMA.out
            rw [hmv] at hm
            have HM : Hid (∀ u, Calls Tryd.prog 37 #[.agg p.vs.toArray] u fun e w' => e = .returned (.bool true) ∧ Below u.heap.size u w') := hm
            clear hm HMA
            go_wp2_with (first
              | (go_at_call_of 46 S32; go_must (refine (HT32.out _ hbr).mono ?_); rintro e w4 ⟨v4, rfl, hb4⟩; have hX4 := hbr.trans (hb4.mono hbr.size); have hP4 := hP0.stays hb4; have hR4 := hR.stays hb4)
              | (go_at_call_of 46 S36; go_must (refine (HT36.out _ hX4).mono ?_); rintro e w5 ⟨v5, rfl, hb5⟩; have hX5 := hX4.trans (hb5.mono hX4.size); have hP5 := hP4.stays hb5; have hR5 := hR4.stays hb5)
              | (go_at_call_of 46 S40; go_must (refine (HT40.out _ hX5).mono ?_); rintro e w6 ⟨v6, rfl, hb6⟩; have hX6 := hX5.trans (hb6.mono hX5.size); have hP6 := hP5.stays hb6; have hR6 := hR5.stays hb6)
              | (refine wpList_store_int (by rfl) (.tmp 53) (.tmp 52) 22 (by rfl) _ 32 (by rfl) .u32 n0 (by rfl) size_u32 hP6 (by rw [hvl]; omega) ?_
                 intro w7 hP7 hbut7 hs7; rw [Pt.vs_setb hh] at hP7; have hR7 := hR6.but hbut7 (by omega))
              | (refine wpList_store_blk (by rfl) (.tmp 57) (.tmp 56) 24 (by rfl) _ 33 2 (by rfl) [.int .u32 (n1 : Int), .int .u32 (n2 : Int)] (by rfl) size_at hP7 rfl (by rw [hvl]; omega) (by simp; exact ⟨rfl, rfl⟩) _ (HAT.out n1 n2) ?_
                 intro w8 hP8 hbut8 hs8; rw [← HPE.out] at hP8; have hR8 := hR7.but hbut8 (by omega))
              | (refine wpList_load_blk_guard (by rfl) (.tmp 4) 26 (by rfl) _ 0 35 (by rfl) agg_ptr size_ptr hP8 _ (whole_load hpl) hpl ?_)
              | (go_at_call 37; go_must (refine (HM.out _).mono ?_); rintro e wA ⟨rfl, hbA⟩; have hRA := hR8.stays hbA; have hPA := hP8.stays hbA)
              | (refine wpList_load_blk (by rfl) (.tmp 4) 26 (by rfl) _ 0 35 (by rfl) agg_ptr size_ptr hPA _ (whole_load hpl) hpl ?_)
              | (refine wpList_store_blk (by rfl) (.tmp 2) (.tmp 67) 26 (by rfl) _ 0 35 (by rfl) _ (by rfl) size_ptr hRA hpl (by omega) (Pt.vs_one _) _ (whole_store hzl) ?_
                 intro w9 hR9 hbut9 hs9))
            have hdl := HDL.out
            rw [hmv, if_pos rfl] at hdl
            refine bodyPost_ret_blk2 rfl rfl (by rfl) (by rfl) agg_ptr size_ptr hR9 hpl ⟨by rw [hdl]; rfl, ?_⟩
            have z6 := hX6.size
            have zA := hbA.size
            exact (((hX6.trans (hbut7.below (by omega) (by omega))).trans (hbut8.below (by omega) (by omega))).trans (hbA.mono (by omega))).trans (hbut9.below (by omega) (by omega))

end Go.Proofs.YthbcphalokoknaaDoor
