/-
 A row of integers, made.
-/
import Derived.Test.YthbldjnpnligpaaDoorB03
import Derived.Test.YthbldjnpnligpaaDoorB17
import Derived.Deep.RegionWith
namespace Go.Proofs.YthbldjnpnligpaaDoor
set_option linter.unusedSimpArgs false
set_option linter.unusedVariables false
set_option maxRecDepth 100000
open Go.RowKit
theorem wpList_make_ints {P : Program} {w w0 : World} {ops : Array Oper} {rest : List Oper} {o : Oper} {a : Act} {Q : Exit → Act → World → Prop} {K : IntKind}
 (hg : o.guard = none) (l c : Operand) (t : TypeId) (hop : o.op = Op.makeSlice t l c)
 (base : Nat) (e : TypeId) (i : TypeInfo) (ht : P.underlying t = some (.slice e)) (hi : P.info? e = some i) (hz : i.zero = some (.int K 0)) (hsize : i.size = 1) (hby : i.bytes ≤ 8)
 (kl kc : IntKind) (L C : Int) (n : Nat) (hl : a.eval l = .int kl L) (hc : a.eval c = .int kc C) (hL : L = (n : Int)) (hC : C = (n : Int)) (b2 : n ≤ 35184372088832) (hbase : base ≤ w.heap.size) (hb : Below base w0 w)
 (hK : ∀ w', Arr K e w' w.heap.size (List.replicate n 0) → Below w.heap.size w w' → Below base w0 w' → w.heap.size < w'.heap.size → wpList P ops Q rest (a.put o.dst (.slice (some ⟨w.heap.size, 0, none⟩) n n)) w') :
 wpList P ops Q (o :: rest) a w := by
 have hbn : i.bytes * n ≤ 281474976710656 := Nat.le_trans (Nat.mul_le_mul hby b2) (by decide)
 refine wpList_make_full w hg l c t hop w.heap.size e i (.int K 0) 1 ht hi hz hsize kl kc L C n hl hc hL hC hbn (by unfold maxLen; omega) (Nat.le_refl _) ?_
 intro w' hown hgr
 have hbw : Below w.heap.size w w' := (Below.refl _ _).grown hgr (Nat.le_refl _) (by simp)
 have harr : Arr K e w' w.heap.size (List.replicate n 0) := by
  rcases hown.2 with ⟨h, _⟩ | ⟨g, cap, cur, hv, hg, hh, h1, h2, h3, h4⟩
  · simp at h
  · simp only [Value.slice.injEq, Option.some.injEq, Addr.mk.injEq, and_true, true_and] at hv
    obtain ⟨h5, h6⟩ := hv
    subst h5 h6
    unfold Arr
    rw [hh]
    congr 2
    have hcs : cur.toList = List.replicate n (Value.int K 0) := by
        have e1 : cur.toList.take (n * 1) = cur.toList := List.take_of_length_le (by simp [h3])
        rw [← e1, h4]
        have e2 : (Value.int K 0).cells = #[.int K 0] := rfl
        rw [e2, Nat.mul_one, toList_madeCells_one]
    rw [List.map_replicate, ← hcs]
 exact hK w' harr hbw (hb.trans (hbw.mono hbase)) harr.lt
end Go.Proofs.YthbldjnpnligpaaDoor

/-
 The document's answer for package sha: a block.
-/

namespace Go.Proofs.YthbldjnpnligpaaDoor
set_option linter.unusedSimpArgs false
set_option linter.unusedVariables false
set_option maxRecDepth 100000
open Go.RowKit
theorem Bs.block_lt {w : World} {a : Option Addr} {c : Nat} {xs : List Int} (h : Bs w a c xs) (h0 : xs ≠ []) (x : Addr) (hx : a = some x) : x.block < w.heap.size := by
 obtain ⟨b, off, rfl, hc⟩ := h.cell (List.length_pos_iff.2 h0)
 cases hx
 have h1 := hc 0 (List.length_pos_iff.2 h0)
 rcases Nat.lt_or_ge b w.heap.size with h2 | h2
 · exact h2
 · simp [World.cell?, Array.getElem?_eq_none h2] at h1
theorem add32_comm (a b : Nat) : add32 a b = add32 b a := by unfold add32; rw [Nat.add_comm]
theorem S8.ext8 (v u : S8) : (List.zipWith add32 u.list v.list) = (v.add u).list := by
 simp only [S8.list, S8.add, List.zipWith_cons_cons, List.zipWith_nil_left]
 rw [add32_comm u.a, add32_comm u.b, add32_comm u.c, add32_comm u.d, add32_comm u.e, add32_comm u.f, add32_comm u.g, add32_comm u.h]
structure BlockAt (w wr : World) (v : S8) (a : Option Addr) (c : Nat) (bs : List Int) (kg : Nat) : Prop where
 bel : Below w.heap.size w wr
 old : Blk 217 wr w.heap.size v.val
 res : Blk 217 wr (w.heap.size + 1) ((List.replicate 8 (0 : Int)).map (Value.int .u32))
 bytes : Bs wr a c bs
 keys : Tab .u32 wr kg (ints stepNums)
theorem BlockAt.but {w wr w' : World} {v : S8} {a : Option Addr} {c : Nat} {bs : List Int} {kg g : Nat} (h : BlockAt w wr v a c bs kg) (hb : But g wr w') (hg : w.heap.size + 1 < g) (ha : ∀ x, a = some x → x.block < w.heap.size) (hk : kg < w.heap.size) : BlockAt w w' v a c bs kg :=
 ⟨h.bel.trans (hb.below (by omega) h.bel.size), h.old.but hb (by omega), h.res.but hb (by omega), h.bytes.but hb (fun _ x hx => by have := ha x hx; omega), h.keys.but hb (by omega)⟩
theorem BlockAt.drew {w wr : World} {v : S8} {a : Option Addr} {c : Nat} {bs : List Int} {kg : Nat} (h : BlockAt w wr v a c bs kg) : BlockAt w wr.drew v a c bs kg :=
 ⟨h.bel.drew, h.old, h.res, h.bytes.stays (Below.refl _ _).drew, h.keys⟩
theorem BlockAt.drewN {w wr : World} {v : S8} {a : Option Addr} {c : Nat} {bs : List Int} {kg : Nat} (h : BlockAt w wr v a c bs kg) (n : Nat) : BlockAt w (wr.drewN n) v a c bs kg :=
 ⟨below_drewN h.bel n, h.old, h.res, h.bytes.stays (below_drewN (Below.refl _ _) n), h.keys⟩
theorem BlockAt.stays {w wr w' : World} {v : S8} {a : Option Addr} {c : Nat} {bs : List Int} {kg : Nat} (h : BlockAt w wr v a c bs kg) (hb : Below wr.heap.size wr w') : BlockAt w w' v a c bs kg :=
 ⟨h.bel.trans (hb.mono h.bel.size), h.old.stays hb, h.res.stays hb, h.bytes.stays hb, h.keys.stays hb⟩
set_option maxRecDepth 100000 in
set_option maxHeartbeats 8000000 in
theorem block_run (v : S8) (hv : v.Ok) (ab : Nat) (aoff : Nat) (c : Nat) (bs : List Int) (hl : bs.length = 64) (kg : Nat) (w : World) (hB : Bs w (some ⟨ab, aoff, none⟩) c bs) (hK : Tab .u32 w kg (ints stepNums)) :
 Calls Tryd.prog 152 #[.agg v.val.toArray, .slice (some ⟨ab, aoff, none⟩) 64 c, .slice (some ⟨kg, 0, none⟩) 64 64] w fun e w' => e = .returned (.agg (takenOf v bs).val.toArray) ∧ Below w.heap.size w w' := by
 obtain ⟨i0, hi, hz0, hz1, hz2⟩ : ∃ i, Tryd.prog.info? 34 = some i ∧ i.zero = some (.int .u32 0) ∧ i.size = 1 ∧ i.bytes ≤ 8 := ⟨_, rfl, rfl, rfl, by decide⟩
 have hb := hB.rng
 have hkl : kg < w.heap.size := hK.lt (by decide)
 have hal : ∀ x, (some ⟨ab, aoff, none⟩ : Option Addr) = some x → x.block < w.heap.size := fun x hx => hB.block_lt (fun h => by rw [h] at hl; cases hl) x hx
 obtain ⟨vs, hvs⟩ : ∃ vs, vs = v.val := ⟨_, rfl⟩
 have hvl : vs.length = 8 := by rw [hvs]; rfl
 have hv1 : ∀ u ∈ vs, u.oneCell' = true := hvs ▸ int_oneCell _ _
 have hst : ∀ c3 o2, c3 = vs.toArray → o2 = .cells ((List.replicate 8 (0 : Int)).map (Value.int .u32)).toArray 217 → BlockAt w ((w.alloc (.cells c3 217)).alloc o2) v (some ⟨ab, aoff, none⟩) c bs kg := fun c3 o2 h3 h2 => by
  have h1 : Below w.heap.size w ((w.alloc (.cells c3 217)).alloc o2) := ((Below.refl _ _).alloc (Nat.le_refl _) _).alloc (by simp) _
  refine ⟨h1, (Blk.newAt rfl (hvs ▸ h3)).alloc _, ?_, hB.stays h1, hK.stays h1⟩
  rw [h2]
  exact Blk.newAt (by simp) rfl
 have HVS : Hid (vs = v.val) := hvs
 have hal0 : Hid (∀ x, (some ⟨ab, aoff, none⟩ : Option Addr) = some x → x.block < w.heap.size) := hal
 have hkl0 : Hid (kg < w.heap.size) := hkl
 rw [← hvs]
 clear hvs
 go_enter Tryd.func152, Tryd.ntmps152
 go_wp2_with (at_make; go_must (refine wpList_make_ints (K := .u32) (w0 := w) (by rfl) _ _ 169 (by rfl) w.heap.size 34 i0 Tryd.underlying169 hi hz0 hz1 hz2 _ _ _ _ 64 (by rfl) (by rfl) (by omega) (by omega) (by omega) (by simp; omega) (((Below.refl _ _).alloc (Nat.le_refl _) _).alloc (by simp) _) ?_)
              intro w1 harr1 hbw1 hb1 hlt1)
 have hS1 := (hst _ _ rfl rfl).stays hbw1
 have harr1' : Arr .u32 34 w1 (w.heap.size + 1 + 1) (ints (grow bs 0) ++ List.replicate (64 - 0) 0) := by simpa [grow, ints] using harr1
 clear harr1 hbw1 hb1 hlt1 hst
 go_loopw [8] (fun i wr => ∃ k : Nat, k ≤ 64 ∧ i = .int .i64 k ∧ BlockAt w wr v (some ⟨ab, aoff, none⟩) c bs kg ∧ Arr .u32 34 wr (w.heap.size + 1 + 1) (ints (grow bs k) ++ List.replicate (64 - k) 0)) (fun i _ => 64 - (intOf i).toNat)
 case atStart => exact ⟨0, by omega, rfl, hS1, harr1'⟩
 case round =>
  clear hS1 harr1'
  rename_i hrel
  obtain ⟨k, hk, rfl, hS, hm⟩ := hrel
  by_cases hlt64 : k < 64
  · by_cases hlt : k < 16
    · have hcb : ∀ q, q < 64 → wr.cell? ⟨ab, aoff + q, none⟩ = some (.int .u8 (bs.getD q 0)) := fun q hq => by
       obtain ⟨b1, o1, he, hc1⟩ := hS.bytes.cell (by omega)
       cases he
       exact hc1 q (by omega)
      obtain ⟨x0, hx0⟩ : ∃ x, x = byteAt bs (4 * k) := ⟨_, rfl⟩
      obtain ⟨x1, hx1⟩ : ∃ x, x = byteAt bs (4 * k + 1) := ⟨_, rfl⟩
      obtain ⟨x2, hx2⟩ : ∃ x, x = byteAt bs (4 * k + 2) := ⟨_, rfl⟩
      obtain ⟨x3, hx3⟩ : ∃ x, x = byteAt bs (4 * k + 3) := ⟨_, rfl⟩
      obtain ⟨p0, hp0⟩ : ∃ p, p = 4 * k := ⟨_, rfl⟩
      obtain ⟨p1, hp1⟩ : ∃ p, p = 4 * k + 1 := ⟨_, rfl⟩
      obtain ⟨p2, hp2⟩ : ∃ p, p = 4 * k + 2 := ⟨_, rfl⟩
      obtain ⟨p3, hp3⟩ : ∃ p, p = 4 * k + 3 := ⟨_, rfl⟩
      have c0 := hcb p0 (by omega)
      have c1 := hcb p1 (by omega)
      have c2 := hcb p2 (by omega)
      have c3 := hcb p3 (by omega)
      rw [(byteAt_eq bs hb _).1, hp0, ← hx0, ← hp0] at c0
      rw [(byteAt_eq bs hb _).1, hp1, ← hx1, ← hp1] at c1
      rw [(byteAt_eq bs hb _).1, hp2, ← hx2, ← hp2] at c2
      rw [(byteAt_eq bs hb _).1, hp3, ← hx3, ← hp3] at c3
      have e0 : IntKind.i64.wrap (4 * (k : Int)) = (p0 : Int) := by rw [IntKind.wrap_i64]; omega
      have e1 : IntKind.i64.wrap ((p0 : Int) + 1) = (p1 : Int) := by rw [IntKind.wrap_i64]; omega
      have e2 : IntKind.i64.wrap ((p0 : Int) + 2) = (p2 : Int) := by rw [IntKind.wrap_i64]; omega
      have e3 : IntKind.i64.wrap ((p0 : Int) + 3) = (p3 : Int) := by rw [IntKind.wrap_i64]; omega
      have b0 : (p0 : Int) < 64 := by omega
      have b1 : (p1 : Int) < 64 := by omega
      have b2 : (p2 : Int) < 64 := by omega
      have b3 : (p3 : Int) < 64 := by omega
      have bk : (k : Int) < 64 := by omega
      have l0 : x0 < 256 := hx0 ▸ (byteAt_eq bs hb _).2
      have l1 : x1 < 256 := hx1 ▸ (byteAt_eq bs hb _).2
      have l2 : x2 < 256 := hx2 ▸ (byteAt_eq bs hb _).2
      have l3 : x3 < 256 := hx3 ▸ (byteAt_eq bs hb _).2
      have fz := hm.free k
      obtain ⟨z, hz⟩ : ∃ z, wr.cell? ⟨w.heap.size + 1 + 1, k, none⟩ = some (.int .u32 z) := ⟨_, hm.cell k (by simp [ints_length, grow_length]; omega)⟩
      obtain ⟨q0, hq0⟩ : ∃ q, q = x0 * 16777216 := ⟨_, rfl⟩
      obtain ⟨q1, hq1⟩ : ∃ q, q = x1 * 65536 := ⟨_, rfl⟩
      obtain ⟨q2, hq2⟩ : ∃ q, q = x2 * 256 := ⟨_, rfl⟩
      obtain ⟨r1, hr1⟩ : ∃ q, q = q0 ||| q1 := ⟨_, rfl⟩
      obtain ⟨r2, hr2⟩ : ∃ q, q = r1 ||| q2 := ⟨_, rfl⟩
      obtain ⟨r3, hr3⟩ : ∃ q, q = r2 ||| x3 := ⟨_, rfl⟩
      have f0 : IntKind.u32.wrap (x0 : Int) = x0 := by rw [IntKind.wrap_u32]; omega
      have f1 : IntKind.u32.wrap (x1 : Int) = x1 := by rw [IntKind.wrap_u32]; omega
      have f2 : IntKind.u32.wrap (x2 : Int) = x2 := by rw [IntKind.wrap_u32]; omega
      have f3 : IntKind.u32.wrap (x3 : Int) = x3 := by rw [IntKind.wrap_u32]; omega
      have f4 : IntKind.u32.wrap ((x0 : Int) * 16777216) = q0 := by rw [IntKind.wrap_u32]; omega
      have f5 : IntKind.u32.wrap ((x1 : Int) * 65536) = q1 := by rw [IntKind.wrap_u32]; omega
      have f6 : IntKind.u32.wrap ((x2 : Int) * 256) = q2 := by rw [IntKind.wrap_u32]; omega
      have m1 : r1 < 4294967296 := hr1 ▸ or_lt' _ _ (by omega) (by omega)
      have m2 : r2 < 4294967296 := hr2 ▸ or_lt' _ _ (by omega) (by omega)
      have o1 : bits .or .u32 (q0 : Int) (q1 : Int) = (r1 : Int) := by rw [u32_or_nat _ _ (by omega) (by omega), hr1]
      have o2 : bits .or .u32 (r1 : Int) (q2 : Int) = (r2 : Int) := by rw [u32_or_nat _ _ m1 (by omega), hr2]
      have o3 : bits .or .u32 (r2 : Int) (x3 : Int) = (r3 : Int) := by rw [u32_or_nat _ _ m2 (by omega), hr3]
      have HX : Hid (word bs k = r3) := by rw [hr3, hr2, hr1, hq0, hq1, hq2, hx0, hx1, hx2, hx3]; rfl
      clear hx0 hx1 hx2 hx3 hp0 hp1 hp2 hp3 hq0 hq1 hq2 hr1 hr2 hr3
      clear hcb hal hkl hvl
      go_wp2
      go_still_tail 36, (by kernel_rfl)
      go_wp2
      go_roundw
      case rel =>
       refine ⟨k + 1, by omega, by go_num, (hS.but ((But.refl (w.heap.size + 1 + 1) wr).setCell k _) (by omega) hal0.out hkl0.out).drew, ?_⟩
       have h1 := hm.set k (r3 : Int)
       rw [show 64 - k = (64 - (k + 1)) + 1 by omega, List.replicate_succ, set_at _ _ _ _ _ (by simp [ints_length, grow_length])] at h1
       have h2 : grow bs (k + 1) = grow bs k ++ [r3] := by simp only [grow, grown, if_pos hlt, HX.out]
       rw [h2, ints_append]
       exact h1.drew
      case measure => simp [intOf]; omega
    · have hk16 : 16 ≤ k := by omega
      obtain ⟨i2, hi2⟩ : ∃ i, i = k - 2 := ⟨_, rfl⟩
      obtain ⟨i7, hi7⟩ : ∃ i, i = k - 7 := ⟨_, rfl⟩
      obtain ⟨i15, hi15⟩ : ∃ i, i = k - 15 := ⟨_, rfl⟩
      obtain ⟨i16, hi16⟩ : ∃ i, i = k - 16 := ⟨_, rfl⟩
      obtain ⟨a2, ha2⟩ : ∃ a, a = (grow bs k).getD (k - 2) 0 := ⟨_, rfl⟩
      obtain ⟨a7, ha7⟩ : ∃ a, a = (grow bs k).getD (k - 7) 0 := ⟨_, rfl⟩
      obtain ⟨a15, ha15⟩ : ∃ a, a = (grow bs k).getD (k - 15) 0 := ⟨_, rfl⟩
      obtain ⟨a16, ha16⟩ : ∃ a, a = (grow bs k).getD (k - 16) 0 := ⟨_, rfl⟩
      have hcell : ∀ i, i < k → wr.cell? ⟨w.heap.size + 1 + 1, i, none⟩ = some (.int .u32 (((grow bs k).getD i 0 : Nat) : Int)) := fun i hi => by
       rw [hm.cell i (by simp [ints_length, grow_length]; omega), ← ints_getD]
       simp [List.getD, List.getElem?_append, ints_length, grow_length, hi]
      have c2 := hcell i2 (by omega)
      have c7 := hcell i7 (by omega)
      have c15 := hcell i15 (by omega)
      have c16 := hcell i16 (by omega)
      rw [hi2, ← ha2, ← hi2] at c2
      rw [hi7, ← ha7, ← hi7] at c7
      rw [hi15, ← ha15, ← hi15] at c15
      rw [hi16, ← ha16, ← hi16] at c16
      have e2 : IntKind.i64.wrap ((k : Int) - 2) = (i2 : Int) := by rw [IntKind.wrap_i64]; omega
      have e7 : IntKind.i64.wrap ((k : Int) - 7) = (i7 : Int) := by rw [IntKind.wrap_i64]; omega
      have e15 : IntKind.i64.wrap ((k : Int) - 15) = (i15 : Int) := by rw [IntKind.wrap_i64]; omega
      have e16 : IntKind.i64.wrap ((k : Int) - 16) = (i16 : Int) := by rw [IntKind.wrap_i64]; omega
      have b2 : (i2 : Int) < 64 := by omega
      have b7 : (i7 : Int) < 64 := by omega
      have b15 : (i15 : Int) < 64 := by omega
      have b16 : (i16 : Int) < 64 := by omega
      have bk : (k : Int) < 64 := by omega
      have l2 : a2 < 4294967296 := ha2 ▸ getD_lt (grow_lt bs hb k) _
      have l15 : a15 < 4294967296 := ha15 ▸ getD_lt (grow_lt bs hb k) _
      have fz := hm.free k
      obtain ⟨z, hz⟩ : ∃ z, wr.cell? ⟨w.heap.size + 1 + 1, k, none⟩ = some (.int .u32 z) := ⟨_, hm.cell k (by simp [ints_length, grow_length]; omega)⟩
      obtain ⟨u17, hu17⟩ : ∃ t, t = rotr a2 17 := ⟨_, rfl⟩
      obtain ⟨u19, hu19⟩ : ∃ t, t = rotr a2 19 := ⟨_, rfl⟩
      obtain ⟨y1, hy1⟩ : ∃ t, t = u17 ^^^ u19 := ⟨_, rfl⟩
      obtain ⟨y10, hy10⟩ : ∃ t, t = a2 / 1024 := ⟨_, rfl⟩
      obtain ⟨t1, ht1⟩ : ∃ t, t = y1 ^^^ y10 := ⟨_, rfl⟩
      obtain ⟨u7, hu7⟩ : ∃ t, t = rotr a15 7 := ⟨_, rfl⟩
      obtain ⟨u18, hu18⟩ : ∃ t, t = rotr a15 18 := ⟨_, rfl⟩
      obtain ⟨y2, hy2⟩ : ∃ t, t = u7 ^^^ u18 := ⟨_, rfl⟩
      obtain ⟨y3, hy3⟩ : ∃ t, t = a15 / 8 := ⟨_, rfl⟩
      obtain ⟨t2, ht2⟩ : ∃ t, t = y2 ^^^ y3 := ⟨_, rfl⟩
      have lu17 : u17 < 4294967296 := hu17 ▸ rotr_lt _ _ l2
      have lu19 : u19 < 4294967296 := hu19 ▸ rotr_lt _ _ l2
      have lu7 : u7 < 4294967296 := hu7 ▸ rotr_lt _ _ l15
      have lu18 : u18 < 4294967296 := hu18 ▸ rotr_lt _ _ l15
      have ly1 : y1 < 4294967296 := hy1 ▸ xor_lt _ _ lu17 lu19
      have ly2 : y2 < 4294967296 := hy2 ▸ xor_lt _ _ lu7 lu18
      have ly10 : y10 < 4294967296 := hy10 ▸ div_lt' _ _ l2
      have ly3 : y3 < 4294967296 := hy3 ▸ div_lt' _ _ l15
      have k17 : ((rotr a2 17 : Nat) : Int) = (u17 : Int) := by rw [hu17]
      have m17 : ((rotr a2 (Int.toNat 17) : Nat) : Int) = (u17 : Int) := by rw [hu17]; rfl
      have k19 : ((rotr a2 19 : Nat) : Int) = (u19 : Int) := by rw [hu19]
      have m19 : ((rotr a2 (Int.toNat 19) : Nat) : Int) = (u19 : Int) := by rw [hu19]; rfl
      have k7 : ((rotr a15 7 : Nat) : Int) = (u7 : Int) := by rw [hu7]
      have m7 : ((rotr a15 (Int.toNat 7) : Nat) : Int) = (u7 : Int) := by rw [hu7]; rfl
      have k18 : ((rotr a15 18 : Nat) : Int) = (u18 : Int) := by rw [hu18]
      have m18 : ((rotr a15 (Int.toNat 18) : Nat) : Int) = (u18 : Int) := by rw [hu18]; rfl
      have g1 : bits .xor .u32 (u17 : Int) (u19 : Int) = (y1 : Int) := by rw [u32_xor_nat _ _ lu17 lu19, hy1]
      have g2 : (a2 : Int) / 1024 = (y10 : Int) := by omega
      have g3 : bits .xor .u32 (y1 : Int) (y10 : Int) = (t1 : Int) := by rw [u32_xor_nat _ _ ly1 ly10, ht1]
      have g4 : bits .xor .u32 (u7 : Int) (u18 : Int) = (y2 : Int) := by rw [u32_xor_nat _ _ lu7 lu18, hy2]
      have g5 : (a15 : Int) / 8 = (y3 : Int) := by omega
      have g6 : bits .xor .u32 (y2 : Int) (y3 : Int) = (t2 : Int) := by rw [u32_xor_nat _ _ ly2 ly3, ht2]
      obtain ⟨r1, hr1⟩ : ∃ r, r = add32 t1 a7 := ⟨_, rfl⟩
      obtain ⟨r2, hr2⟩ : ∃ r, r = add32 r1 t2 := ⟨_, rfl⟩
      obtain ⟨r3, hr3⟩ : ∃ r, r = add32 r2 a16 := ⟨_, rfl⟩
      have o1 : IntKind.u32.wrap ((t1 : Int) + (a7 : Int)) = (r1 : Int) := by rw [hr1]; exact wrap_add32 _ _
      have o2 : IntKind.u32.wrap ((r1 : Int) + (t2 : Int)) = (r2 : Int) := by rw [hr2]; exact wrap_add32 _ _
      have o3 : IntKind.u32.wrap ((r2 : Int) + (a16 : Int)) = (r3 : Int) := by rw [hr3]; exact wrap_add32 _ _
      have HX : Hid (grow bs (k + 1) = grow bs k ++ [r3]) := by
       have hn : ¬ k < 16 := by omega
       unfold Hid
       simp only [grow, grown, if_neg hn, nextWord, s0, s1, hr3, hr2, hr1, ht1, ht2, hy1, hy2, hy3, hy10, hu7, hu17, hu18, hu19, ha2, ha7, ha15, ha16]
      clear hi2 hi7 hi15 hi16 ha2 ha7 ha15 ha16 hcell ht1 ht2 hr1 hr2 hr3 hy1 hy2 hy3 hy10 hu7 hu17 hu18 hu19 hal hkl hvl
      go_wp2
      go_quiet (fail)
      go_wp2
      generalize hwq : wr.drewN nq = wq
      have hSq : BlockAt w wq v (some ⟨ab, aoff, none⟩) c bs kg := hwq ▸ hS.drewN nq
      have hmq : Arr .u32 34 wq (w.heap.size + 1 + 1) (ints (grow bs k) ++ List.replicate (64 - k) 0) := by rw [← hwq]; exact hm
      have c7q : wq.cell? ⟨w.heap.size + 1 + 1, i7, none⟩ = some (.int .u32 (a7 : Int)) := by rw [← hwq]; exact c7
      have c16q : wq.cell? ⟨w.heap.size + 1 + 1, i16, none⟩ = some (.int .u32 (a16 : Int)) := by rw [← hwq]; exact c16
      have fzq := hmq.free k
      have hzq : wq.cell? ⟨w.heap.size + 1 + 1, k, none⟩ = some (.int .u32 z) := by rw [← hwq]; exact hz
      clear hwq c2 c7 c15 c16 fz hz
      refine wp_region_still_tail 32 (by kernel_rfl) (by kernel_rfl) ?_
      simp only [List.take_succ_cons, List.take_zero, List.drop_succ_cons, List.drop_zero]
      repeat (first | still_step | still_call (turn_run _ _ (by assumption) (by decide) (by decide) _))
      try refine wpStill_nil ?_
      go_wp2
      go_roundw
      case rel =>
       refine ⟨k + 1, by omega, by go_num, (hSq.but ((But.refl (w.heap.size + 1 + 1) wq).setCell k _) (by omega) hal0.out hkl0.out).drew, ?_⟩
       have h1 := hmq.set k (r3 : Int)
       rw [show 64 - k = (64 - (k + 1)) + 1 by omega, List.replicate_succ, set_at _ _ _ _ _ (by simp [ints_length, grow_length])] at h1
       rw [HX.out, ints_append]
       exact h1.drew
      case measure => simp [intOf]; omega
  · have hG : Tab .u32 wr (w.heap.size + 1 + 1) (ints (grow bs 64)) := fun i hi => by
        have e : k = 64 := by omega
        rw [e, Nat.sub_self, List.replicate_zero, List.append_nil] at hm
        exact hm.cell i hi
    have hGl := hm.lt
    obtain ⟨V, hV⟩ : ∃ V, V = wr.heap.size := ⟨_, rfl⟩
    have hold : Blk 217 wr w.heap.size vs := by rw [HVS.out]; exact hS.old
    have hv0 : Hid (vs = (vs.drop 0).take 8) := by unfold Hid; rw [List.drop_zero, List.take_of_length_le (by omega)]
    have hv2 : Hid (vs = ((List.replicate 8 (0 : Int)).map (Value.int .u32)).take 0 ++ vs ++ ((List.replicate 8 (0 : Int)).map (Value.int .u32)).drop (0 + 8)) := by
        unfold Hid; rw [List.take_zero, List.nil_append, List.drop_eq_nil_of_le (by simp), List.append_nil]
    clear hkl hal
    go_wp2_with (first
        | (refine wpList_load_blk (by rfl) (.tmp 3) 217 (by rfl) w.heap.size 0 8 (by rfl) (isAgg_array Tryd.underlying217) (sizeOf_run (by kernel_rfl)) hold vs hv0.out hvl ?_)
        | (refine wpList_store_blk (by rfl) (.tmp 11) (.tmp 103) 217 (by rfl) wr.heap.size 0 8 (by rfl) vs (by rfl) (sizeOf_run (by kernel_rfl)) (e := 217) (vs := (List.replicate 8 (0 : Int)).map (Value.int .u32)) (Blk.newAt rfl (by rfl)) hvl (by simp) hv1 vs hv2.out ?_
           intro w2 hb2 hbut2 hsz2))
    have hgrow : ∀ o, Below wr.heap.size wr (wr.alloc o) := fun o => (Below.refl _ _).alloc (Nat.le_refl _) _
    have hS2 : BlockAt w w2 v (some ⟨ab, aoff, none⟩) c bs kg := (hS.stays (hgrow _)).but hbut2 (by omega) hal0.out hkl0.out
    have hG2 : Tab .u32 w2 (w.heap.size + 1 + 1) (ints (grow bs 64)) := (hG.stays (hgrow _)).but hbut2 (by omega)
    have hV2 : Blk 217 w2 V (rounds stepNums (grow bs 64) v 0).val := by rw [hV]; show Blk _ w2 _ v.val; rw [← HVS.out]; exact hb2
    have hVg : w.heap.size + 1 + 1 < V := by rw [hV]; exact hGl
    rw [← hV]
    clear hV hGl
    clear hgrow hbut2 hsz2 hb2 hS hG hold hm
    go_loopw [12] (fun i wr => ∃ k : Nat, k ≤ 64 ∧ i = .int .i64 k ∧ BlockAt w wr v (some ⟨ab, aoff, none⟩) c bs kg ∧ Tab .u32 wr (w.heap.size + 1 + 1) (ints (grow bs 64)) ∧ Blk 217 wr V (rounds stepNums (grow bs 64) v k).val) (fun i _ => 64 - (intOf i).toNat)
    case atStart => exact ⟨0, by omega, rfl, hS2, hG2, hV2⟩
    case round =>
        clear hS2 hG2 hV2
        rename_i hrel
        obtain ⟨k, hk, rfl, hS, hG, hVr⟩ := hrel
        by_cases hlt : k < 64
        · obtain ⟨s, hss⟩ : ∃ s, s = rounds stepNums (grow bs 64) v k := ⟨_, rfl⟩
          have hok : s.Ok := hss ▸ rounds_ok _ _ _ hv k
          obtain ⟨kk, hkk⟩ : ∃ x, x = stepNums.getD k 0 := ⟨_, rfl⟩
          obtain ⟨ww, hww⟩ : ∃ x, x = (grow bs 64).getD k 0 := ⟨_, rfl⟩
          have ck : wr.cell? ⟨kg, k, none⟩ = some (.int .u32 (kk : Int)) := by
           rw [hS.keys k (by rw [ints_length]; exact hlt), ints_getD, ← hkk]
          have cw : wr.cell? ⟨w.heap.size + 1 + 1, k, none⟩ = some (.int .u32 (ww : Int)) := by
           rw [hG k (by rw [ints_length, grow_length]; exact hlt), ints_getD, ← hww]
          have bk : (k : Int) < 64 := by omega
          have HR : Hid (rounds stepNums (grow bs 64) v (k + 1) = round1 s kk ww) := by
           unfold Hid
           rw [hss, hkk, hww]
           rfl
          rw [← hss] at hVr
          clear hss hkk hww
          obtain ⟨a, b, c9, d, e, f, g, h⟩ := s
          obtain ⟨oa, ob, oc, od, oe, of, og, oh⟩ := hok
          dsimp only at *
          have c0 : wr.cell? ⟨V, 0, none⟩ = some (.int .u32 (a : Int)) := hVr.cell 0
          have c1 : wr.cell? ⟨V, 1, none⟩ = some (.int .u32 (b : Int)) := hVr.cell 1
          have c2 : wr.cell? ⟨V, 2, none⟩ = some (.int .u32 (c9 : Int)) := hVr.cell 2
          have c3 : wr.cell? ⟨V, 3, none⟩ = some (.int .u32 (d : Int)) := hVr.cell 3
          have c4 : wr.cell? ⟨V, 4, none⟩ = some (.int .u32 (e : Int)) := hVr.cell 4
          have c5 : wr.cell? ⟨V, 5, none⟩ = some (.int .u32 (f : Int)) := hVr.cell 5
          have c6 : wr.cell? ⟨V, 6, none⟩ = some (.int .u32 (g : Int)) := hVr.cell 6
          have c7 : wr.cell? ⟨V, 7, none⟩ = some (.int .u32 (h : Int)) := hVr.cell 7
          obtain ⟨z60, hz60'⟩ : ∃ x, x = rotr e 6 := ⟨_, rfl⟩
          have lz60 : z60 < 4294967296 := hz60' ▸ rotr_lt _ _ oe
          have d6 : ∀ w, Calls Tryd.prog 167 #[.int .u32 (e : Int), .int .u64 6] w fun e w' => e = .returned (.int .u32 (z60 : Int)) ∧ w' = w := fun w => hz60' ▸ turn_run e 6 oe (by decide) (by decide) w
          obtain ⟨z110, hz110'⟩ : ∃ x, x = rotr e 11 := ⟨_, rfl⟩
          have lz110 : z110 < 4294967296 := hz110' ▸ rotr_lt _ _ oe
          have d11 : ∀ w, Calls Tryd.prog 167 #[.int .u32 (e : Int), .int .u64 11] w fun e w' => e = .returned (.int .u32 (z110 : Int)) ∧ w' = w := fun w => hz110' ▸ turn_run e 11 oe (by decide) (by decide) w
          obtain ⟨z250, hz250'⟩ : ∃ x, x = rotr e 25 := ⟨_, rfl⟩
          have lz250 : z250 < 4294967296 := hz250' ▸ rotr_lt _ _ oe
          have d25 : ∀ w, Calls Tryd.prog 167 #[.int .u32 (e : Int), .int .u64 25] w fun e w' => e = .returned (.int .u32 (z250 : Int)) ∧ w' = w := fun w => hz250' ▸ turn_run e 25 oe (by decide) (by decide) w
          obtain ⟨v6, hv6⟩ : ∃ x, x = z60 ^^^ z110 := ⟨_, rfl⟩
          have lv6 : v6 < 4294967296 := hv6 ▸ xor_lt _ _ lz60 lz110
          obtain ⟨q1, hq1⟩ : ∃ x, x = v6 ^^^ z250 := ⟨_, rfl⟩
          have r6 : bits .xor .u32 (z60 : Int) (z110 : Int) = (v6 : Int) := by rw [u32_xor_nat _ _ lz60 lz110, hv6]
          have s6 : bits .xor .u32 (v6 : Int) (z250 : Int) = (q1 : Int) := by rw [u32_xor_nat _ _ lv6 lz250, hq1]
          obtain ⟨z20, hz20'⟩ : ∃ x, x = rotr a 2 := ⟨_, rfl⟩
          have lz20 : z20 < 4294967296 := hz20' ▸ rotr_lt _ _ oa
          have d2 : ∀ w, Calls Tryd.prog 167 #[.int .u32 (a : Int), .int .u64 2] w fun e w' => e = .returned (.int .u32 (z20 : Int)) ∧ w' = w := fun w => hz20' ▸ turn_run a 2 oa (by decide) (by decide) w
          obtain ⟨z130, hz130'⟩ : ∃ x, x = rotr a 13 := ⟨_, rfl⟩
          have lz130 : z130 < 4294967296 := hz130' ▸ rotr_lt _ _ oa
          have d13 : ∀ w, Calls Tryd.prog 167 #[.int .u32 (a : Int), .int .u64 13] w fun e w' => e = .returned (.int .u32 (z130 : Int)) ∧ w' = w := fun w => hz130' ▸ turn_run a 13 oa (by decide) (by decide) w
          obtain ⟨z220, hz220'⟩ : ∃ x, x = rotr a 22 := ⟨_, rfl⟩
          have lz220 : z220 < 4294967296 := hz220' ▸ rotr_lt _ _ oa
          have d22 : ∀ w, Calls Tryd.prog 167 #[.int .u32 (a : Int), .int .u64 22] w fun e w' => e = .returned (.int .u32 (z220 : Int)) ∧ w' = w := fun w => hz220' ▸ turn_run a 22 oa (by decide) (by decide) w
          obtain ⟨v2, hv2⟩ : ∃ x, x = z20 ^^^ z130 := ⟨_, rfl⟩
          have lv2 : v2 < 4294967296 := hv2 ▸ xor_lt _ _ lz20 lz130
          obtain ⟨q2, hq2⟩ : ∃ x, x = v2 ^^^ z220 := ⟨_, rfl⟩
          have r2 : bits .xor .u32 (z20 : Int) (z130 : Int) = (v2 : Int) := by rw [u32_xor_nat _ _ lz20 lz130, hv2]
          have s2 : bits .xor .u32 (v2 : Int) (z220 : Int) = (q2 : Int) := by rw [u32_xor_nat _ _ lv2 lz220, hq2]
          obtain ⟨p1, hp1⟩ : ∃ x, x = add32 h q1 := ⟨_, rfl⟩
          obtain ⟨x1, hx1⟩ : ∃ x, x = e &&& f := ⟨_, rfl⟩
          obtain ⟨ne, hne⟩ : ∃ x, x = 4294967295 ^^^ e := ⟨_, rfl⟩
          obtain ⟨x2, hx2⟩ : ∃ x, x = ne &&& g := ⟨_, rfl⟩
          obtain ⟨x3, hx3⟩ : ∃ x, x = x1 ^^^ x2 := ⟨_, rfl⟩
          obtain ⟨p2, hp2⟩ : ∃ x, x = add32 p1 x3 := ⟨_, rfl⟩
          obtain ⟨p3, hp3⟩ : ∃ x, x = add32 p2 kk := ⟨_, rfl⟩
          obtain ⟨p4, hp4⟩ : ∃ x, x = add32 p3 ww := ⟨_, rfl⟩
          have lne : ne < 4294967296 := hne ▸ xor_lt _ _ (by decide) oe
          have lx1 : x1 < 4294967296 := hx1 ▸ and_lt' _ _ oe
          have lx2 : x2 < 4294967296 := hx2 ▸ and_lt' _ _ lne
          have e1 : bits .and .u32 (e : Int) (f : Int) = (x1 : Int) := by rw [u32_and_nat _ _ oe of, hx1]
          have e2 : bits .xor .u32 (e : Int) 4294967295 = (ne : Int) := by
           have := u32_xor_nat e 4294967295 oe (by decide)
           rw [hne, Nat.xor_comm]; exact this
          have e3 : bits .and .u32 (ne : Int) (g : Int) = (x2 : Int) := by rw [u32_and_nat _ _ lne og, hx2]
          have e4 : bits .xor .u32 (x1 : Int) (x2 : Int) = (x3 : Int) := by rw [u32_xor_nat _ _ lx1 lx2, hx3]
          have e5 : IntKind.u32.wrap ((h : Int) + (q1 : Int)) = (p1 : Int) := by rw [hp1]; exact wrap_add32 _ _
          have e6 : IntKind.u32.wrap ((p1 : Int) + (x3 : Int)) = (p2 : Int) := by rw [hp2]; exact wrap_add32 _ _
          have e7 : IntKind.u32.wrap ((p2 : Int) + (kk : Int)) = (p3 : Int) := by rw [hp3]; exact wrap_add32 _ _
          have e8 : IntKind.u32.wrap ((p3 : Int) + (ww : Int)) = (p4 : Int) := by rw [hp4]; exact wrap_add32 _ _
          obtain ⟨y1, hy1⟩ : ∃ x, x = a &&& b := ⟨_, rfl⟩
          obtain ⟨y2, hy2⟩ : ∃ x, x = a &&& c9 := ⟨_, rfl⟩
          obtain ⟨y3, hy3⟩ : ∃ x, x = y1 ^^^ y2 := ⟨_, rfl⟩
          obtain ⟨y4, hy4⟩ : ∃ x, x = b &&& c9 := ⟨_, rfl⟩
          obtain ⟨y5, hy5⟩ : ∃ x, x = y3 ^^^ y4 := ⟨_, rfl⟩
          obtain ⟨y6, hy6⟩ : ∃ x, x = add32 q2 y5 := ⟨_, rfl⟩
          obtain ⟨z1, hz1⟩ : ∃ x, x = add32 p4 y6 := ⟨_, rfl⟩
          obtain ⟨z2, hz2⟩ : ∃ x, x = add32 d p4 := ⟨_, rfl⟩
          have ly1 : y1 < 4294967296 := hy1 ▸ and_lt' _ _ oa
          have ly2 : y2 < 4294967296 := hy2 ▸ and_lt' _ _ oa
          have ly3 : y3 < 4294967296 := hy3 ▸ xor_lt _ _ ly1 ly2
          have ly4 : y4 < 4294967296 := hy4 ▸ and_lt' _ _ ob
          have f1 : bits .and .u32 (a : Int) (b : Int) = (y1 : Int) := by rw [u32_and_nat _ _ oa ob, hy1]
          have f2 : bits .and .u32 (a : Int) (c9 : Int) = (y2 : Int) := by rw [u32_and_nat _ _ oa oc, hy2]
          have f3 : bits .xor .u32 (y1 : Int) (y2 : Int) = (y3 : Int) := by rw [u32_xor_nat _ _ ly1 ly2, hy3]
          have f4 : bits .and .u32 (b : Int) (c9 : Int) = (y4 : Int) := by rw [u32_and_nat _ _ ob oc, hy4]
          have f5 : bits .xor .u32 (y3 : Int) (y4 : Int) = (y5 : Int) := by rw [u32_xor_nat _ _ ly3 ly4, hy5]
          have f6 : IntKind.u32.wrap ((q2 : Int) + (y5 : Int)) = (y6 : Int) := by rw [hy6]; exact wrap_add32 _ _
          have f7 : ((p4 : Int) + (y6 : Int)) % 4294967296 = (z1 : Int) := by rw [hz1, ← wrap_add32, IntKind.wrap_u32]
          have f8 : ((d : Int) + (p4 : Int)) % 4294967296 = (z2 : Int) := by rw [hz2, ← wrap_add32, IntKind.wrap_u32]
          have HZ : Hid (round1 ⟨a, b, c9, d, e, f, g, h⟩ kk ww = ⟨z1, a, b, c9, z2, e, f, g⟩) := by
           unfold Hid round1 stepped tOne tTwo chosen most3
           dsimp only
           rw [hz1, hz2, hy6, hy5, hy4, hy3, hy2, hy1, hq2, hp4, hp3, hp2, hp1, hx3, hx2, hne, hx1, hq1, hv2, hv6, hz20', hz130', hz220', hz60', hz110', hz250']
           rfl
          clear hq1 hp1 hx1 hne hx2 hx3 hp2 hp3 hp4 hq2 hy1 hy2 hy3 hy4 hy5 hy6 hz1 hz2 hv2 hv6 hz20' hz130' hz220' hz60' hz110' hz250' hvl
          go_wp2
          go_quiet (fail)
          go_wp2
          generalize hwq : wr.drewN nq = wq
          replace hS : BlockAt w wq v (some ⟨ab, aoff, none⟩) c bs kg := hwq ▸ hS.drewN nq
          replace hG : Tab .u32 wq (w.heap.size + 1 + 1) (ints (grow bs 64)) := by rw [← hwq]; exact hG
          replace hVr : Blk 217 wq V (S8.mk a b c9 d e f g h).val := by rw [← hwq]; exact hVr
          replace ck : wq.cell? ⟨kg, k, none⟩ = some (.int .u32 (kk : Int)) := by rw [← hwq]; exact ck
          replace cw : wq.cell? ⟨w.heap.size + 1 + 1, k, none⟩ = some (.int .u32 (ww : Int)) := by rw [← hwq]; exact cw
          replace c0 : wq.cell? ⟨V, 0, none⟩ = some (.int .u32 (a : Int)) := hVr.cell 0
          replace c1 : wq.cell? ⟨V, 1, none⟩ = some (.int .u32 (b : Int)) := hVr.cell 1
          replace c2 : wq.cell? ⟨V, 2, none⟩ = some (.int .u32 (c9 : Int)) := hVr.cell 2
          replace c3 : wq.cell? ⟨V, 3, none⟩ = some (.int .u32 (d : Int)) := hVr.cell 3
          replace c4 : wq.cell? ⟨V, 4, none⟩ = some (.int .u32 (e : Int)) := hVr.cell 4
          replace c5 : wq.cell? ⟨V, 5, none⟩ = some (.int .u32 (f : Int)) := hVr.cell 5
          replace c6 : wq.cell? ⟨V, 6, none⟩ = some (.int .u32 (g : Int)) := hVr.cell 6
          replace c7 : wq.cell? ⟨V, 7, none⟩ = some (.int .u32 (h : Int)) := hVr.cell 7
          clear hwq
          go_quiet (first | (go_at_call_of 167 (Value.int .u64 6); refine Calls.quiet_of_same (d6 _)) | (go_at_call_of 167 (Value.int .u64 11); refine Calls.quiet_of_same (d11 _)) | (go_at_call_of 167 (Value.int .u64 25); refine Calls.quiet_of_same (d25 _)))
          go_wp2
          generalize hwq : wq.drewN nq = wq2
          replace hS : BlockAt w wq2 v (some ⟨ab, aoff, none⟩) c bs kg := hwq ▸ hS.drewN nq
          replace hG : Tab .u32 wq2 (w.heap.size + 1 + 1) (ints (grow bs 64)) := by rw [← hwq]; exact hG
          replace hVr : Blk 217 wq2 V (S8.mk a b c9 d e f g h).val := by rw [← hwq]; exact hVr
          replace ck : wq2.cell? ⟨kg, k, none⟩ = some (.int .u32 (kk : Int)) := by rw [← hwq]; exact ck
          replace cw : wq2.cell? ⟨w.heap.size + 1 + 1, k, none⟩ = some (.int .u32 (ww : Int)) := by rw [← hwq]; exact cw
          replace c0 : wq2.cell? ⟨V, 0, none⟩ = some (.int .u32 (a : Int)) := hVr.cell 0
          replace c1 : wq2.cell? ⟨V, 1, none⟩ = some (.int .u32 (b : Int)) := hVr.cell 1
          replace c2 : wq2.cell? ⟨V, 2, none⟩ = some (.int .u32 (c9 : Int)) := hVr.cell 2
          replace c3 : wq2.cell? ⟨V, 3, none⟩ = some (.int .u32 (d : Int)) := hVr.cell 3
          replace c4 : wq2.cell? ⟨V, 4, none⟩ = some (.int .u32 (e : Int)) := hVr.cell 4
          replace c5 : wq2.cell? ⟨V, 5, none⟩ = some (.int .u32 (f : Int)) := hVr.cell 5
          replace c6 : wq2.cell? ⟨V, 6, none⟩ = some (.int .u32 (g : Int)) := hVr.cell 6
          replace c7 : wq2.cell? ⟨V, 7, none⟩ = some (.int .u32 (h : Int)) := hVr.cell 7
          clear hwq
          go_quiet (first | (go_at_call_of 167 (Value.int .u64 2); refine Calls.quiet_of_same (d2 _)) | (go_at_call_of 167 (Value.int .u64 13); refine Calls.quiet_of_same (d13 _)) | (go_at_call_of 167 (Value.int .u64 22); refine Calls.quiet_of_same (d22 _)))
          generalize hwq : wq2.drewN nq = wq3
          replace hS : BlockAt w wq3 v (some ⟨ab, aoff, none⟩) c bs kg := hwq ▸ hS.drewN nq
          replace hG : Tab .u32 wq3 (w.heap.size + 1 + 1) (ints (grow bs 64)) := by rw [← hwq]; exact hG
          replace hVr : Blk 217 wq3 V (S8.mk a b c9 d e f g h).val := by rw [← hwq]; exact hVr
          replace ck : wq3.cell? ⟨kg, k, none⟩ = some (.int .u32 (kk : Int)) := by rw [← hwq]; exact ck
          replace cw : wq3.cell? ⟨w.heap.size + 1 + 1, k, none⟩ = some (.int .u32 (ww : Int)) := by rw [← hwq]; exact cw
          replace c0 : wq3.cell? ⟨V, 0, none⟩ = some (.int .u32 (a : Int)) := hVr.cell 0
          replace c1 : wq3.cell? ⟨V, 1, none⟩ = some (.int .u32 (b : Int)) := hVr.cell 1
          replace c2 : wq3.cell? ⟨V, 2, none⟩ = some (.int .u32 (c9 : Int)) := hVr.cell 2
          replace c3 : wq3.cell? ⟨V, 3, none⟩ = some (.int .u32 (d : Int)) := hVr.cell 3
          replace c4 : wq3.cell? ⟨V, 4, none⟩ = some (.int .u32 (e : Int)) := hVr.cell 4
          replace c5 : wq3.cell? ⟨V, 5, none⟩ = some (.int .u32 (f : Int)) := hVr.cell 5
          replace c6 : wq3.cell? ⟨V, 6, none⟩ = some (.int .u32 (g : Int)) := hVr.cell 6
          replace c7 : wq3.cell? ⟨V, 7, none⟩ = some (.int .u32 (h : Int)) := hVr.cell 7
          clear hwq
          go_wp2_with (refine wpList_store_blk (by rfl) (.tmp 11) (.tmp 187) 217 (by rfl) V 0 8 (by rfl) (S8.mk z1 a b c9 z2 e f g).val (by rfl) (sizeOf_run (by kernel_rfl)) hVr rfl (Nat.le_refl 8) (int_oneCell _ _) (S8.mk z1 a b c9 z2 e f g).val rfl ?_
                       intro w5 hb5 hbut5 hsz5)
          go_wp2
          go_roundw
          case rel =>
           refine ⟨k + 1, by omega, by go_num, hS.but hbut5 (by omega) hal0.out hkl0.out, hG.but hbut5 (by omega), ?_⟩
           rw [HR.out, HZ.out]
           exact hb5
          case measure => simp [intOf]; omega
        · obtain ⟨u, hu⟩ : ∃ u, u = rounds stepNums (grow bs 64) v 64 := ⟨_, rfl⟩
          have hVu : Arr .u32 217 wr V (ints (addTo u.list v.list 0)) := by
           have e : k = 64 := by omega
           rw [e, ← hu] at hVr
           exact hVr
          have HU : Hid (v.add u = takenOf v bs) := by unfold Hid takenOf; rw [hu]
          have hul8 : u.list.length = 8 := rfl
          have hvl8 : v.list.length = 8 := rfl
          clear hu hVr hG
          go_wp2
          go_loopw [17] (fun i wr => ∃ j : Nat, j ≤ 8 ∧ i = .int .i64 j ∧ BlockAt w wr v (some ⟨ab, aoff, none⟩) c bs kg ∧ Arr .u32 217 wr V (ints (addTo u.list v.list j))) (fun i _ => 8 - (intOf i).toNat)
          case atStart => exact ⟨0, by omega, rfl, hS, hVu⟩
          case round =>
           clear hS hVu
           rename_i hrel
           obtain ⟨j, hj, rfl, hS, hA⟩ := hrel
           have hal8 : (addTo u.list v.list j).length = 8 := addTo_length _ _ (by rw [hul8, hvl8]) j
           by_cases hlj : j < 8
           · obtain ⟨x, hx⟩ : ∃ x, x = v.list.getD j 0 := ⟨_, rfl⟩
             obtain ⟨y, hy⟩ : ∃ x, x = u.list.getD j 0 := ⟨_, rfl⟩
             have hat : (addTo u.list v.list j).getD j 0 = u.list.getD j 0 := addTo_at _ _ (by rw [hul8, hvl8]) j (by omega)
             have cy : wr.cell? ⟨V, j, none⟩ = some (.int .u32 (y : Int)) := by
              rw [hA.cell j (by rw [ints_length, hal8]; exact hlj), ints_getD, hat, ← hy]
             have cx : wr.cell? ⟨w.heap.size, j, none⟩ = some (.int .u32 (x : Int)) := by
              rw [hS.old.cell, hx]
              unfold S8.val ints
              simp [List.getD, hvl8, hlj]
             have fz := hA.free j
             obtain ⟨z, hz⟩ : ∃ z, z = add32 y x := ⟨_, rfl⟩
             have e1 : IntKind.u32.wrap ((y : Int) + (x : Int)) = (z : Int) := by rw [hz]; exact wrap_add32 _ _
             have HZ : Hid (z = add32 (u.list.getD j 0) (v.list.getD j 0)) := by unfold Hid; rw [hz, hx, hy]
             have bj : (j : Int) < 8 := by omega
             clear hx hy hz hat hvl
             go_wp2
             go_still_tail 9, (by kernel_rfl)
             go_wp2
             go_roundw
             case rel =>
              refine ⟨j + 1, by omega, by go_num, (hS.but ((But.refl V wr).setCell j _) (by omega) hal0.out hkl0.out).drew, ?_⟩
              have h1 := hA.set j (z : Int)
              have h2 : (ints (addTo u.list v.list j)).set j (z : Int) = ints (addTo u.list v.list (j + 1)) := by
                  rw [← addTo_set _ _ (by rw [hul8, hvl8]) j (by omega), HZ.out]
                  unfold ints
                  rw [List.map_set]
              rw [h2] at h1
              exact h1.drew
             case measure => simp [intOf]; omega
           · obtain ⟨us, hus⟩ : ∃ us, us = (takenOf v bs).val := ⟨_, rfl⟩
             have h8 : Blk 217 wr V us := by
              have e : j = 8 := by omega
              have h9 : addTo u.list v.list 8 = (takenOf v bs).list := by
                  rw [← HU.out, ← S8.ext8]
                  unfold addTo
                  rw [List.drop_eq_nil_of_le (by omega), List.append_nil, List.take_of_length_le (by simp [hul8, hvl8])]
              rw [e, h9] at hA
              rw [hus]
              exact hA
             have husl : us.length = 8 := by rw [hus]; rfl
             have hus1 : ∀ v ∈ us, v.oneCell' = true := hus ▸ int_oneCell _ _
             have hus0 : Hid (us = (us.drop 0).take 8) := by unfold Hid; rw [List.drop_zero, List.take_of_length_le (by omega)]
             have hus2 : Hid (us = ((List.replicate 8 (0 : Int)).map (Value.int .u32)).take 0 ++ us ++ ((List.replicate 8 (0 : Int)).map (Value.int .u32)).drop (0 + 8)) := by
              unfold Hid; rw [List.take_zero, List.nil_append, List.drop_eq_nil_of_le (by simp), List.append_nil]
             have HUS : Hid (us = (takenOf v bs).val) := hus
             have hres := hS.res
             have hbs := hS.bel.size
             clear hus hA
             go_wp2_with (first
              | (refine wpList_load_blk (by rfl) (.tmp 11) 217 (by rfl) V 0 8 (by rfl) (isAgg_array Tryd.underlying217) (sizeOf_run (by kernel_rfl)) h8 us hus0.out husl ?_)
              | (refine wpList_store_blk (by rfl) (.tmp 6) (.tmp 201) 217 (by rfl) (w.heap.size + 1) 0 8 (by rfl) us (by rfl) (sizeOf_run (by kernel_rfl)) hres husl (by simp) hus1 us hus2.out ?_
                 intro w6 hb6 hbut6 hsz6))
             go_wp2
             refine bodyPost_ret_blk (by rfl) (by rfl) (by rfl) (isAgg_array Tryd.underlying217) (sizeOf_run (by kernel_rfl)) hb6 husl ?_
             exact ⟨by rw [HUS.out], hS.bel.trans (hbut6.below (by omega) hbs)⟩
end Go.Proofs.YthbldjnpnligpaaDoor

/-
 Package sha: the padding.
-/

namespace Go.Proofs.YthbldjnpnligpaaDoor
set_option linter.unusedSimpArgs false
set_option linter.unusedVariables false
set_option maxRecDepth 100000
open Go.RowKit
def padByte (n k : Nat) : Nat := n * 8 / 2 ^ (8 * k) % 256
def lastBytes (n : Nat) : List Int := (List.range 8).map fun i => ((padByte n (7 - i) : Nat) : Int)
def padUp (n k : Nat) : List Int := (128 :: List.replicate ((119 - n % 64) % 64) 0) ++ (List.replicate (8 - k) 0 ++ (lastBytes n).drop (8 - k))
theorem padUp_length (n k : Nat) (hk : k ≤ 8) : (padUp n k).length = (119 - n % 64) % 64 + 9 := by simp [padUp, lastBytes]; try omega
theorem padUp_all (n : Nat) : padUp n 8 = padOf n := by simp [padUp, padOf, lastBytes, padByte]
theorem padUp_none (n : Nat) : padUp n 0 = (List.replicate ((119 - n % 64) % 64 + 9) 0).set 0 128 := by
 have h : (lastBytes n).drop 8 = [] := List.drop_eq_nil_of_le (by simp [lastBytes])
 have e : List.replicate ((119 - n % 64) % 64 + 9) (0 : Int) = 0 :: (List.replicate ((119 - n % 64) % 64) 0 ++ List.replicate 8 0) := by
  rw [List.replicate_append_replicate]; rfl
 rw [e]
 simp only [padUp, Nat.sub_zero, h, List.append_nil, List.set_cons_zero, List.cons_append]
theorem padUp_next (n k : Nat) (hk : k < 8) : (padUp n k).set ((119 - n % 64) % 64 + 8 - k) ((padByte n k : Nat) : Int) = padUp n (k + 1) := by
 have h1 : (lastBytes n).drop (8 - (k + 1)) = ((padByte n k : Nat) : Int) :: (lastBytes n).drop (8 - k) := by
  rw [show 8 - k = 8 - (k + 1) + 1 by omega]
  rw [List.drop_eq_getElem_cons (by simp [lastBytes]; omega)]
  congr 1
  simp only [lastBytes, List.getElem_map, List.getElem_range]
  rw [show 7 - (8 - (k + 1)) = k by omega]
 unfold padUp
 rw [h1, show 8 - k = (8 - (k + 1)) + 1 by omega, List.replicate_succ', List.append_assoc, List.set_append_right _ _ (by simp; omega)]
 congr 1
 rw [List.set_append_right _ _ (by simp; omega)]
 congr 1
 rw [show (119 - n % 64) % 64 + 8 - k - (128 :: List.replicate ((119 - n % 64) % 64) (0 : Int)).length - (List.replicate (8 - (k + 1)) (0 : Int)).length = 0 by simp; omega]
 rfl
set_option maxRecDepth 100000 in
set_option maxHeartbeats 2000000 in
theorem padding_run (n : Nat) (hn : n < 1152921504606846976) (w : World) :
 Calls Tryd.prog 170 #[.int .u64 (n : Int)] w fun e w' => e = .returned (.slice (some ⟨w.heap.size, 0, none⟩) (padOf n).length (padOf n).length) ∧ Row 5 w' w.heap.size (padOf n) ∧ Below w.heap.size w w' := by
 obtain ⟨i0, hi, hz0, hz1, hz2⟩ : ∃ i, Tryd.prog.info? 5 = some i ∧ i.zero = some (.int .u8 0) ∧ i.size = 1 ∧ i.bytes = 1 := ⟨_, rfl, rfl, rfl, rfl⟩
 obtain ⟨nz, hnz⟩ : ∃ z, z = (119 - n % 64) % 64 := ⟨_, rfl⟩
 obtain ⟨r, hr⟩ : ∃ z, z = n % 64 := ⟨_, rfl⟩
 have e1 : (n : Int) % 64 = (r : Int) := by omega
 have e2 : ((119 : Int) - (r : Int)) % 64 = (nz : Int) := by omega
 have lr : r < 64 := by omega
 have lz : nz < 64 := by omega
 have hsr := index_run (P := Tryd.prog) 43 5 Tryd.underlying43 (by kernel_rfl) (by kernel_rfl) w.heap.size 0 (nz + 9) (nz + 9) .i64
 have HN : Hid (nz = (119 - n % 64) % 64) := hnz
 have HL : Hid ((padOf n).length = nz + 9) := by unfold Hid; rw [hnz, padOf_length]
 clear hnz hr
 go_enter Tryd.func170, Tryd.ntmps170
 go_wp2_with (at_make; go_must (refine wpList_make_bytes (w0 := w) (by rfl) _ _ 43 (by rfl) w.heap.size 5 i0 Tryd.underlying43 hi hz0 hz1 hz2 _ _ _ _ (nz + 9) (by rfl) (by rfl) (by omega) (by omega) (by omega) (Nat.le_refl _) (Below.refl _ _) ?_); intro w1 hrow1 hb1; obtain ⟨z, hz⟩ : ∃ z, w1.cell? ⟨w.heap.size, 0, none⟩ = some (.int .u8 z) := ⟨_, hrow1.cell 0 (by simp)⟩; have hf1 := hrow1.free 0)
 have hrow2 : Row 5 (w1.setCell ⟨w.heap.size, 0, none⟩ (.int .u8 128)) w.heap.size (padUp n 0) := by
  rw [padUp_none, ← HN.out]
  exact hrow1.set 0 128
 have hb2 : Below w.heap.size w (w1.setCell ⟨w.heap.size, 0, none⟩ (.int .u8 128)) := hb1.setCell (Nat.le_refl _) _
 go_loopw [16] (fun i wr => ∃ k : Nat, k ≤ 8 ∧ i = .int .i64 k ∧ Row 5 wr w.heap.size (padUp n k) ∧ Below w.heap.size w wr) (fun i _ => 8 - (intOf i).toNat)
 case atStart => exact ⟨0, by omega, rfl, hrow2, hb2⟩
 case round =>
  clear hrow1 hrow2 hb1 hb2 hz hf1
  rename_i hrel
  obtain ⟨k, hk, rfl, hrow, hb⟩ := hrel
  by_cases hlt : k < 8
  · obtain ⟨m, hm⟩ : ∃ m, m = nz + 8 - k := ⟨_, rfl⟩
    obtain ⟨x, hx⟩ : ∃ x, x = padByte n k := ⟨_, rfl⟩
    obtain ⟨y, hy⟩ : ∃ x, x = n * 8 / 2 ^ (8 * k) := ⟨_, rfl⟩
    obtain ⟨z, hz⟩ : ∃ z, wr.cell? ⟨w.heap.size, m, none⟩ = some (.int .u8 z) := ⟨_, hrow.cell m (by rw [padUp_length _ _ hk, ← HN.out]; omega)⟩
    have fz := hrow.free m
    have hx1 := hsr m (by omega)
    rw [Nat.zero_add] at hx1
    have e3 : (nz : Int) + 9 - 1 - (k : Int) = (m : Int) := by omega
    have e4 : (n : Int) * 8 / 2 ^ (8 * k) = (y : Int) := by
        rw [hy, Int.natCast_ediv, Int.natCast_mul, Int.natCast_pow]; rfl
    have e5 : (y : Int) % 256 = (x : Int) := by rw [hx, padByte, ← hy]; omega
    have HM : Hid (m = (119 - n % 64) % 64 + 8 - k) := by unfold Hid; rw [← HN.out]; exact hm
    have HX : Hid (x = padByte n k) := hx
    clear hm hx hy hsr
    go_wp2
    go_roundw
    case rel =>
        refine ⟨k + 1, by omega, by go_num, ?_, hb.setCell (Nat.le_refl _) _⟩
        have h1 := hrow.set m (x : Int)
        rw [HM.out, HX.out, padUp_next n k hlt, ← HM.out, ← HX.out] at h1
        exact h1
    case measure => simp [intOf]; omega
  · have h8 : Row 5 wr w.heap.size (padOf n) := by
        have e : k = 8 := by omega
        rw [← padUp_all, ← e]; exact hrow
    go_wp2
    go_ret
    exact ⟨by rw [HL.out]; rfl, h8, hb⟩
end Go.Proofs.YthbldjnpnligpaaDoor
