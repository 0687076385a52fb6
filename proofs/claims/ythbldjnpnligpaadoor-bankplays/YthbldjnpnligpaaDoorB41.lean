/-
 Disks whose power is on and that have no fuse: what calls leave of them; plain data, no function here.
-/
import Derived.Test.YthbldjnpnligpaaDoorB33
import Derived.Test.YthbldjnpnligpaaDoorB34
import Derived.Test.YthbldjnpnligpaaDoorB27
import Derived.Test.YthbldjnpnligpaaDoorB37
namespace Go.Proofs.YthbldjnpnligpaaDoor
set_option linter.unusedSimpArgs false
set_option linter.unusedVariables false
set_option maxRecDepth 100000
open Go.RowKit
structure Live (S : DS) (n : Nat) : Prop where
 ok : S.Ok n
 off : S.off = false
 fuse : S.fused = false
theorem Live.new {n : Nat} (h1 : 16 ≤ n) (h2 : n ≤ 512) : Live (DS.new n) n := ⟨⟨List.length_replicate, h1, h2, rng_zeros _, fun q hq => by simp [DS.new] at hq, by simp [DS.new]⟩, rfl, rfl⟩
theorem Live.write {S : DS} {n x : Nat} {xs : List Int} (h : Live S n) (hx : x < n) (hl : xs.length = 256) (hr : ∀ y ∈ xs, 0 ≤ y ∧ y ≤ 255) : (S.write (x : Int) xs).2 = 0 ∧ Live (S.write (x : Int) xs).1 n ∧ (S.write (x : Int) xs).1.ws = S.ws ++ [(x, xs)] := by
 have hh : S.has (x : Int) := (DS.has_nat h.ok).2 hx
 unfold DS.write
 rw [h.off, if_neg (by decide), if_neg (by simpa using ⟨hh, hl⟩), h.fuse]
 refine ⟨rfl, ⟨⟨h.ok.len, h.ok.lo, h.ok.hi, h.ok.rng, fun q hq => ?_, ?_⟩, rfl, rfl⟩, rfl⟩
 · rcases List.mem_append.1 hq with h1 | h1
   · exact h.ok.ws q h1
   · simp only [List.mem_singleton] at h1; subst h1; exact ⟨by simpa using hx, hl, hr⟩
 · show DS.left' S < _
   unfold DS.left'; rw [h.fuse]; exact h.ok.left
theorem Live.flush {S : DS} {n : Nat} (h : Live S n) : S.flush.2 = 0 ∧ Live S.flush.1 n ∧ S.flush.1.ws = [] ∧ S.flush.1.laid = layW S.laid S.ws (fun _ => 256) S.ws.length := by
 have hw : ∀ q ∈ S.ws, q.1 < n ∧ q.2.length = 256 := fun q hq => ⟨(h.ok.ws q hq).1, (h.ok.ws q hq).2.1⟩
 unfold DS.flush
 rw [h.off, if_neg (by decide), h.fuse]
 refine ⟨rfl, ⟨⟨?_, h.ok.lo, h.ok.hi, ?_, fun q hq => by simp [may] at hq, ?_⟩, rfl, rfl⟩, rfl, rfl⟩
 · show (layW _ _ _ _).length = _
   rw [layW_length h.ok.len hw _ _ (Nat.le_refl _)]; exact h.ok.len
 · exact layW_rng h.ok _ _ (Nat.le_refl _)
 · show DS.left' S < _
   unfold DS.left'; rw [h.fuse]; exact h.ok.left
theorem Live.rot {S : DS} {n : Nat} (h : Live S n) (i : Int) (ms : List Int) : Live (S.rot i ms).1 n ∧ (S.rot i ms).1.ws = S.ws := by
 unfold DS.rot
 split
 · exact ⟨h, rfl⟩
 · exact ⟨⟨⟨by simp only; rw [xorTo_length]; exact h.ok.len, h.ok.lo, h.ok.hi, xorTo_rng h.ok.rng _, h.ok.ws, h.ok.left⟩, h.off, h.fuse⟩, rfl⟩
def cntR (a b : Bool) : Nat := (if a then 0 else 1) + (if b then 0 else 1)
theorem stepR_live {S : DS} {n x : Nat} {b h : List Int} {m : Nat} (hl : Live S n) (hx : x < n) (hx0 : x ≠ 0) (hb : b.length = 256) (hr : ∀ y ∈ b, 0 ≤ y ∧ y ≤ 255) (hs : shaOf b = h) :
 ∃ S', stepR b h x (S, m) = ((S', m + if rightL S x h then 0 else 1), 0) ∧ Live S' n ∧ rightL S' x h = true ∧ S'.ws.length ≤ S.ws.length + 1 ∧ ∀ y, y ≠ x → rightL S' y h = rightL S y h := by
 unfold stepR
 simp only
 cases hc : rightL S x h
 · obtain ⟨h1, h2, h3⟩ := hl.write hx hb hr
   rw [if_neg (by simp [hx0]), if_pos h1]
   exact ⟨_, rfl, h2, rightL_write_same h1 hx0 hs, by rw [h3]; simp, fun y hy => rightL_write S b h (Ne.symm hy)⟩
 · rw [if_pos (.inl rfl)]
   exact ⟨S, by simp, hl, hc, by omega, fun y _ => rfl⟩
theorem restK_live {S : DS} {n : Nat} {p : Pt} {b : List Int} (hl : Live S n) (hx : p.x < n) (hy : p.y < n) (hx0 : p.x ≠ 0) (hy0 : p.y ≠ 0) (hxy : p.x ≠ p.y) (hb : b.length = 256) (hr : ∀ y ∈ b, 0 ≤ y ∧ y ≤ 255) (hs : shaOf b = p.h) :
 ∃ S', restK S p b = ((S', cntR (rightL S p.x p.h) (rightL S p.y p.h)), 0) ∧ Live S' n ∧ rightL S' p.x p.h = true ∧ rightL S' p.y p.h = true ∧ S'.ws.length ≤ S.ws.length + 2 := by
 obtain ⟨S1, h1, h2, h3, h4, h5⟩ := stepR_live (m := 0) hl hx hx0 hb hr hs
 obtain ⟨S2, k1, k2, k3, k4, k5⟩ := stepR_live (m := 0 + if rightL S p.x p.h then 0 else 1) h2 hy hy0 hb hr hs
 refine ⟨S2, ?_, k2, ?_, k3, by omega⟩
 · unfold restK
   rw [h1, if_neg (by simp), k1, h5 p.y (Ne.symm hxy)]
   unfold cntR
   simp only [Nat.zero_add]
 · rw [k5 p.x hxy]; exact h3
theorem okK_live {S : DS} {n : Nat} {p : Pt} (hl : Live S n) (hm : p.may = true) : okK S p = 0 := by unfold okK; rw [hl.off, hm]; rfl
def pt45 (h : List Int) : Pt := ⟨h, 7, 4, 5⟩
theorem pt45_ok {b : List Int} : (pt45 (shaOf b)).ok := ⟨shaOf_length b, shaOf_rng b, by show (7 : Nat) < _; omega, by show (4 : Nat) < _; omega, by show (5 : Nat) < _; omega⟩
theorem pt45_may (h : List Int) : (pt45 h).may = true := rfl
theorem pt45_hole (h : List Int) : (pt45 h).hole = false := by
 unfold Pt.hole
 refine Pt.same_not (fun e => ?_)
 have := congrArg Pt.x e
 simp [pt45, Pt.zero] at this
theorem take16 : (takeL (lab 16 4) 2).2 = ([4, 5], 0) := by decide +kernel
theorem putK_live {S : DS} {n : Nat} {l : List Bool} {B : List Int} (hl : Live S n) (hn : 16 ≤ n) (ht : (takeL l 2).2 = ([4, 5], 0)) (hb : B.length = 256) (hr : ∀ y ∈ B, 0 ≤ y ∧ y ≤ 255) :
 ∃ S' l', putK S l 7 B 2 = ((S', l'), pt45 (shaOf B), 0) ∧ Live S' n ∧ S'.ws = S.ws ++ [(4, B)] ++ [(5, B)] ∧ S'.laid = S.laid := by
 obtain ⟨a1, a2, a3⟩ := hl.write (x := 4) (by omega) hb hr
 obtain ⟨b1, b2, b3⟩ := a2.write (x := 5) (by omega) hb hr
 have e1 : (takeL l 2).2.1 = [4, 5] := by rw [ht]
 have e2 : (takeL l 2).2.2 = 0 := by rw [ht]
 have hw : wrK B S [4, 5] = (((S.write ((4 : Nat) : Int) B).1.write ((5 : Nat) : Int) B).1, 0) := by
  simp only [wrK]
  rw [if_pos a1, if_pos b1]
 refine ⟨_, (takeL l 2).1, ?_, b2, by rw [b3, a3], by rw [write_laid, write_laid]⟩
 unfold putK
 rw [hl.off, if_neg (by decide), if_neg (by omega), e1, e2, if_neg (by simp), hw, if_neg (by simp)]
 rfl
theorem sha_unlike : ¬ (shaOf (List.replicate 256 1) = shaOf (0 :: List.replicate 255 1)) := by decide +kernel
theorem whole_one : wholeL [1] = List.replicate 256 1 := by decide +kernel
theorem xor_one : xorS (List.replicate 256 1) [1] 1 = 0 :: List.replicate 255 1 := by decide +kernel
theorem alive_pure : ∃ S1 l1 S2 S3 S4, putK (DS.new 16) (lab 16 4) 7 (wholeL [1]) 2 = ((S1, l1), pt45 (shaOf (wholeL [1])), 0) ∧ S1.flush = (S2, 0) ∧ (S2.rot 4 [1]).1 = S3 ∧ healK S3 (pt45 (shaOf (wholeL [1]))) = ((S4, 1), 0) ∧ S1.ws.length ≤ 2 ∧ S2.ws.length ≤ 2 ∧ S3.ws.length ≤ 2 := by
 have hBl : (wholeL [1]).length = 256 := wholeL_len (by decide)
 have hBr : ∀ y ∈ wholeL [1], 0 ≤ y ∧ y ≤ 255 := wholeL_rng (by decide) _
 obtain ⟨S1, l1, h1, h2, h3, h4⟩ := putK_live (Live.new (n := 16) (by omega) (by omega)) (by omega) take16 hBl hBr
 obtain ⟨f1, f2, f3, f4⟩ := h2.flush
 obtain ⟨r1, r2⟩ := f2.rot 4 [1]
 rw [h3] at f4
 have hnl : (DS.new 16).laid.length = 4096 := List.length_replicate
 have hlen4 : (layAt (DS.new 16).laid 4 (wholeL [1])).length = 4096 := by rw [layAt_length (by rw [hBl, hnl]; omega), hnl]
 have hlaid : S1.flush.1.laid = layAt (layAt (DS.new 16).laid 4 (wholeL [1])) 5 (wholeL [1]) := by
  rw [f4, h4]
  have ht : (wholeL [1]).take 256 = wholeL [1] := List.take_of_length_le (by omega)
  have hc : clamp 256 = 256 := by decide
  show layAt (layAt _ 4 ((wholeL [1]).take (clamp 256))) 5 ((wholeL [1]).take (clamp 256)) = _
  rw [hc, ht]
 have hs4 : secOf S1.flush.1.laid 4 = wholeL [1] := by
  rw [hlaid, secOf_other (by rw [hBl, hlen4]; omega) (by omega) (by omega), secOf_same (by rw [hnl]; omega) (by omega), List.drop_eq_nil_of_le (by rw [secOf_length (by rw [hnl]; omega), hBl]; omega), List.append_nil]
 have hs5 : secOf S1.flush.1.laid 5 = wholeL [1] := by
  rw [hlaid, secOf_same (by rw [hlen4]; omega) (by omega), List.drop_eq_nil_of_le (by rw [secOf_length (by rw [hlen4]; omega), hBl]; omega), List.append_nil]
 have hrot : (S1.flush.1.rot 4 [1]).1.laid = xorTo S1.flush.1.laid 4 [1] 1 := by
  unfold DS.rot
  rw [if_neg (by simpa using (DS.has_nat f2.ok (x := 4)).2 (by omega))]
  rfl
 have hws : (S1.flush.1.rot 4 [1]).1.ws = [] := by rw [r2, f3]
 have hr4 : readW (S1.flush.1.rot 4 [1]).1.laid (S1.flush.1.rot 4 [1]).1.ws 4 = 0 :: List.replicate 255 1 := by
  rw [hws, hrot]
  show secOf _ 4 = _
  rw [secOf_xorTo _ _ _ _ _ (by omega), if_pos rfl, hs4, whole_one, xor_one]
 have hr5 : readW (S1.flush.1.rot 4 [1]).1.laid (S1.flush.1.rot 4 [1]).1.ws 5 = wholeL [1] := by
  rw [hws, hrot]
  show secOf _ 5 = _
  rw [secOf_xorTo _ _ _ _ _ (by omega), if_neg (by omega), hs5]
 have g4 : rightL (S1.flush.1.rot 4 [1]).1 (pt45 (shaOf (wholeL [1]))).x (pt45 (shaOf (wholeL [1]))).h = false := by
  show rightL _ 4 (shaOf (wholeL [1])) = false
  have hne : decide (shaOf (0 :: List.replicate 255 1) = shaOf (wholeL [1])) = false := decide_eq_false (fun e => sha_unlike (by rw [← whole_one]; exact e.symm))
  unfold rightL
  rw [hr4, hne]
  simp
 have g5 : rightL (S1.flush.1.rot 4 [1]).1 (pt45 (shaOf (wholeL [1]))).y (pt45 (shaOf (wholeL [1]))).h = true := by
  show rightL _ 5 (shaOf (wholeL [1])) = true
  unfold rightL
  rw [hr5, r1.ok.secs]
  simp
 obtain ⟨S4, q1, q2, _⟩ := restK_live (p := pt45 (shaOf (wholeL [1]))) (b := wholeL [1]) r1 (by decide) (by decide) (by decide) (by decide) (by decide) hBl hBr rfl
 refine ⟨S1, l1, S1.flush.1, _, S4, h1, by rw [← f1], rfl, ?_, by rw [h3]; simp [DS.new], by rw [f3]; simp, by rw [hws]; simp⟩
 have hrd : readK (S1.flush.1.rot 4 [1]).1 (pt45 (shaOf (wholeL [1]))) = (wholeL [1], 0) := by
  unfold readK
  rw [okK_live r1 (pt45_may _), if_neg (by simp), pt45_hole, if_neg (by simp)]
  rw [g4, if_neg (by simp), g5, if_pos rfl]
  show (readW _ _ 5, (0 : Int)) = _
  rw [hr5]
 unfold healK
 rw [hrd, if_neg (by simp), q1]
 rw [g4, g5]
 rfl
end Go.Proofs.YthbldjnpnligpaaDoor

/-
 The live question of package bank's laws.
-/

namespace Go.Proofs.YthbldjnpnligpaaDoor
set_option linter.unusedSimpArgs false
set_option linter.unusedVariables false
set_option maxRecDepth 100000
open Go.RowKit
theorem whole_lit (x : Int) (hx : 0 ≤ x ∧ x ≤ 255) (u : World) : Calls Tryd.prog 68 #[.slice (some ⟨u.heap.size, 0, none⟩) 1 1] (u.alloc (.cells #[.int .u8 x] 5)) fun e w' => ∃ a c, e = .returned (.slice a 256 c) ∧ NewB u.heap.size w' a c (wholeL [x]) ∧ Below u.heap.size u w' := by
 have hb : Below u.heap.size u (u.alloc (.cells #[.int .u8 x] 5)) := (Below.refl _ _).alloc (Nat.le_refl _) _
 have h := whole_run (some ⟨u.heap.size, 0, none⟩) 1 [x] (u.alloc (.cells #[.int .u8 x] 5)) (Bs.one u x hx _) (by simp)
 rw [wholeL_len (bs := [x]) (by simp)] at h
 refine h.mono ?_
 rintro e w' ⟨a, c, rfl, hN, hb2⟩
 exact ⟨a, c, rfl, hN.mono hb.size, below_then hb hb2⟩
theorem build_45 (w : World) : (Instr.build 40 [(0, Value.int .u32 4), (1, .int .u32 5)].toArray).run Tryd.prog w = .ok (.agg [Value.int .u32 4, .int .u32 5].toArray) w := by kernel_rfl
theorem equal_45 (u : World) : (Op.equalIn 10000 40 (.agg [Value.int .u32 4, .int .u32 5].toArray) (.agg [Value.int .u32 4, .int .u32 5].toArray)).run Tryd.prog u = .ok true u := by kernel_rfl
theorem index_at0 (g : Nat) (u : World) : (Instr.indexAt 40 (.pointer (some ⟨g, 33, none⟩)) (.int .i64 0)).run Tryd.prog u = .ok (.pointer (some ⟨g, 33, none⟩)) u := by
 have := index_ptr (P := Tryd.prog) (t := 40) (e := 34) (n := 2) (m := 1) (g := g) (off := 33) (K := .i64) (j := 0) Tryd.underlying40 (by kernel_rfl) (by omega) u
 simpa using this
set_option maxHeartbeats 20000000 in
theorem balive_run (w : World) (hV : Vars w) : Calls Tryd.prog 21 #[] w fun e w' => e = .returned (.bool true) ∧ Below w.heap.size w w' := by
 obtain ⟨S1, l1, S2, S3, S4, p1, p2, p3, p4, p5, p6, p7⟩ := alive_pure
 have hfr := bs_fresh 16 w (by omega) (by omega)
 have hwh := whole_lit 1 (by omega)
 have hBl : (wholeL [1]).length = 256 := wholeL_len (by decide)
 have hpo : (pt45 (shaOf (wholeL [1]))).ok := pt45_ok
 obtain ⟨P, hP⟩ : ∃ P, P = pt45 (shaOf (wholeL [1])) := ⟨_, rfl⟩
 obtain ⟨B, hB⟩ : ∃ B, B = wholeL [1] := ⟨_, rfl⟩
 obtain ⟨S0, hS0⟩ : ∃ S0, S0 = DS.new 16 := ⟨_, rfl⟩
 obtain ⟨l0, hl0⟩ : ∃ l0, l0 = lab 16 4 := ⟨_, rfl⟩
 have h0w : S0.ws.length ≤ 2 := by rw [hS0]; simp [DS.new]
 have HX : Hid (P.vs[33]? = some (.int .u32 4) ∧ P.vs[32]? = some (.int .u32 7)) := by rw [hP]; exact ⟨Pt.vs_x hpo, Pt.vs_birth hpo⟩
 have HAT : Hid ([Value.int .u32 4, .int .u32 5] = (P.vs.drop 33).take 2) := by rw [hP]; exact Pt.vs_at hpo
 rw [← hP] at p1 p4 hpo
 rw [← hB] at p1 hwh hBl
 rw [← hS0] at p1 hfr
 rw [← hl0] at p1 hfr
 have hput : ∀ {u M k p g} (h : BS w u M k p g S0 l0 7) (a c) (hb : Bs u a c B) (hn : ∀ x, a = some x → M x.block), Calls Tryd.prog 50 #[.pointer (some ⟨k, 0, none⟩), .slice a 256 c, .int .i64 2] u fun e w' => e = .returned (.tuple #[.agg P.vs.toArray, .int .i64 0]) ∧ BS w w' M k p g S1 l1 7 ∧ Stay M u w' := fun h a c hb hn => by
  have := bs_put h hV (by omega) a c B hb (fun _ x hx => .inl (hn x hx)) 2
  rw [p1, hBl] at this
  exact this
 have hfl : ∀ {u M k p g} (h : BS w u M k p g S1 l1 7), Calls Tryd.prog 34 #[.pointer (some ⟨p, 0, none⟩)] u fun e w' => e = .returned (.int .i64 0) ∧ BS w w' M k p g S2 l1 7 ∧ Stay M u w' := fun h => by
  have := bs_flush h (by omega)
  rw [p2] at this
  exact this
 have hrt : ∀ {u : World} {M k p g} (h : BS w u M k p g S2 l1 7), Calls Tryd.prog 35 #[.pointer (some ⟨p, 0, none⟩), .int .i64 4, .slice (some ⟨u.heap.size, 0, none⟩) 1 1] (u.alloc (.cells #[.int .u8 1] 5)) fun e w' => (∃ v, e = .returned v) ∧ BS w w' M k p g S3 l1 7 ∧ Stay M u w' := fun {u M k p g} h => by
  have hb : Below u.heap.size u (u.alloc (.cells #[.int .u8 1] 5)) := (Below.refl _ _).alloc (Nat.le_refl _) _
  have h2 := h.new (N := fun j => M j ∨ j = u.heap.size) hb (fun j hj => hj.imp id (fun e => by rw [e]; simp))
  have := bs_rot h2 4 (some ⟨u.heap.size, 0, none⟩) 1 [1] (Bs.one u 1 (by omega) _) (by simp) (fun _ x hx => .inl (.inr (by cases hx; rfl)))
  rw [p3] at this
  refine this.mono ?_
  rintro e w' ⟨rfl, h3, h4⟩
  exact ⟨⟨_, rfl⟩, h3.less (fun j hj => .inl hj), (Stay.of_below hb).trans ⟨h4.size, fun j hj hl => h4.block j (.inl hj) hl⟩⟩
 have hhe : ∀ {u M k p g} (h : BS w u M k p g S3 l1 7), Calls Tryd.prog 54 #[.pointer (some ⟨k, 0, none⟩), .agg P.vs.toArray] u fun e w' => e = .returned (.tuple #[.int .i64 1, .int .i64 0]) ∧ BS w w' M k p g S4 l1 7 ∧ Stay M u w' := fun h => by
  have := bs_heal h hV (by omega) P hpo
  rw [p4] at this
  exact this
 have HAL : Hid (∀ w : World, (Instr.alloc 42 true (.tuple #[])).run Tryd.prog w = .ok (.pointer (some ⟨w.heap.size, 0, none⟩)) (w.alloc (.cells Pt.zero.vs.toArray 42))) := alloc_ptr0
 have hzl : Pt.zero.vs.length = 35 := Pt.vs_len Pt.zero_ok
 have hvl : P.vs.length = 35 := Pt.vs_len hpo
 have hvo : ∀ v ∈ P.vs, v.oneCell' = true := Pt.vs_one P
 have hbu := build_45
 have heq := equal_45
 have hi0 := index_at0
 obtain ⟨zs, hzs⟩ : ∃ zs, zs = Pt.zero.vs := ⟨_, rfl⟩
 obtain ⟨vs, hvs⟩ : ∃ vs, vs = P.vs := ⟨_, rfl⟩
 obtain ⟨fv, hfv⟩ : ∃ fv, fv = [Value.int .u32 4, .int .u32 5] := ⟨_, rfl⟩
 have hfl2 : fv.length = 2 := by rw [hfv]; rfl
 rw [← hzs] at HAL hzl
 rw [← hvs] at hput hhe HX HAT hvl hvo
 rw [← hfv] at HAT hbu heq
 clear hP hB hS0 hl0 hzs hvs hfv p1 p2 p3 p4 h0w
 go_enter Tryd.func21, Tryd.ntmps21
 go_wp2_with (first
  | (go_at_call 10; go_must (refine hfr.mono ?_); rintro e w1 ⟨k, p, g, rfl, hK1⟩)
  | (go_at_call 68; go_must (refine (hwh w1).mono ?_); rintro e w2 ⟨a2, c2, rfl, hN2, hb2⟩
     have hK2 := hK1.new (N := fun j => j < w2.heap.size ∧ w1.heap.size ≤ j) hb2 (fun j hj => .inr ⟨hj.2, hj.1⟩)
     have hn2 : ∀ x, a2 = some x → x.block < w2.heap.size ∧ w1.heap.size ≤ x.block := fun x hx => ⟨hN2.1.lt (by intro e; rw [e] at hBl; simp at hBl) hx, hN2.2 x hx⟩
     have hp2 := hput hK2 a2 c2 hN2.1 hn2)
  | (go_at_call 50; go_must (refine hp2.mono ?_); rintro e w3 ⟨rfl, hK3, _⟩)
  | ((with_reducible show wpList _ _ _ (Oper.mk _ (Op.alloc _) _ _ _ _ :: _) _ _); refine wpList_alloc0 (by rfl) 42 (by rfl) (some 3) (by rfl) _ HAL.out ?_; intro w4 hR4 hb4 hs4
     have hK4 := hK3.new (N := fun j => j = w3.heap.size) hb4 (fun j hj => .inr (by rw [hj]; exact ⟨Nat.le_refl _, by omega⟩))
     clear hs4)
  | ((with_reducible show wpList _ _ _ (Oper.mk _ (Op.store 42 _ _) _ _ _ _ :: _) _ _); refine wpList_store_blk (by rfl) (.tmp 3) (.tmp 19) 42 (by rfl) _ 0 35 (by rfl) vs (by rfl) size_ptr hR4 hvl (by omega) hvo _ (whole_store hzl) ?_
     intro w5 hR5 hbut5 hs5
     have hK5 := hK4.set hbut5 rfl hK3.bel.size
     have hf5 := hfl hK5
     clear hs5)
  | (go_at_call 34; go_must (refine hf5.mono ?_); rintro e w6 ⟨rfl, hK6, hy6⟩
     have hR6 := hy6.blk hR5 rfl
     have hc6 : w6.cell? ⟨w3.heap.size, 33, none⟩ = some (.int .u32 4) := (hR6.cell 33).trans HX.out.1
     have hr6 := hrt hK6)
  | (go_at_call 35; go_must (refine hr6.mono ?_); rintro e w7 ⟨⟨v7, rfl⟩, hK7, hy7⟩
     have hR7 := hy7.blk hR6 rfl
     have hh7 := hhe hK7)
  | ((with_reducible show wpList _ _ _ (Oper.mk _ (Op.load 42 _) _ _ _ _ :: _) _ _); refine wpList_load_blk (by rfl) (.tmp 3) 42 (by rfl) _ 0 35 (by rfl) agg_ptr size_ptr hR7 _ (whole_load hvl) hvl ?_)
  | (go_at_call 54; go_must (refine hh7.mono ?_); rintro e w8 ⟨rfl, hK8, hy8⟩
     have hR8 := hy8.blk hR7 rfl
     have hc8 : w8.cell? ⟨w3.heap.size, 32, none⟩ = some (.int .u32 7) := (hR8.cell 32).trans HX.out.2)
  | ((with_reducible show wpList _ _ _ (Oper.mk _ (Op.load 40 _) _ _ _ _ :: _) _ _); refine wpList_load_blk_guard (by kernel_rfl) (.tmp 51) 40 (by rfl) _ 33 2 (by rfl) agg_at size_at hR8 _ HAT.out hfl2 ?_)
  | ((with_reducible show wpList _ _ _ (Oper.mk _ (Op.build 40 _) _ _ _ _ :: _) _ _); refine wpList_build (by kernel_rfl) 40 [(0, .const (.int .u32 4)), (1, .const (.int .u32 5))] (by rfl) [(0, .int .u32 4), (1, .int .u32 5)] (by rfl) _ hbu ?_))
 go_ret
 exact ⟨rfl, hK8.bel⟩
end Go.Proofs.YthbldjnpnligpaaDoor

/-
 What an act of package bank's laws tells, as plain data and as cells.
-/

namespace Go.Proofs.YthbldjnpnligpaaDoor
set_option linter.unusedSimpArgs false
set_option linter.unusedVariables false
set_option maxRecDepth 100000
open Go.RowKit
structure Told where
 p : Pt
 b : List Int
 g0 : Bool
 g1 : Bool
 n : Nat
 e : Int
def Told.zero : Told := ⟨Pt.zero, [], false, false, 0, 0⟩
def Told.rest (t : Told) : List Value := [.string (strOfNums t.b), .bool t.g0, .bool t.g1, .int .i64 (t.n : Int), .int .i64 t.e]
def Told.vs (t : Told) : List Value := t.p.vs ++ t.rest
theorem Told.vs_len {t : Told} (h : t.p.ok) : t.vs.length = 40 := by
 have := Pt.vs_len h
 unfold Told.vs Told.rest
 simp [this]
theorem Told.vs_one (t : Told) : ∀ v ∈ t.vs, v.oneCell' = true := by
 intro v hv
 unfold Told.vs Told.rest at hv
 simp only [List.mem_append, List.mem_cons, List.not_mem_nil, or_false] at hv
 rcases hv with hv | rfl | rfl | rfl | rfl | rfl
 all_goals first | rfl | exact Pt.vs_one _ v hv
section
variable {t : Told}
theorem Told.put_p (h : t.p.ok) {q : Pt} (hq : q.ok) : ({ t with p := q } : Told).vs = t.vs.take 0 ++ q.vs ++ t.vs.drop (0 + 35) := by
 have h1 := Pt.vs_len h
 unfold Told.vs
 simp only [List.take_zero, List.nil_append, Nat.zero_add]
 rw [← h1, List.drop_left]
 rfl
theorem Told.put_b (h : t.p.ok) (b : List Int) : ({ t with b := b } : Told).vs = t.vs.set 35 (.string (strOfNums b)) := by
 have h1 := Pt.vs_len h
 unfold Told.vs
 rw [List.set_append_right _ _ (by omega), h1]
 rfl
theorem Told.put_g (h : t.p.ok) (x y : Bool) : ({ t with g0 := x, g1 := y } : Told).vs = t.vs.take 36 ++ twoB x y ++ t.vs.drop (36 + 2) := by
 have h1 := Pt.vs_len h
 unfold Told.vs
 rw [List.take_append, List.drop_append, h1, List.take_of_length_le (by omega), List.drop_eq_nil_of_le (by omega)]
 simp [Told.rest, twoB]
theorem Told.put_n (h : t.p.ok) (n : Nat) : ({ t with n := n } : Told).vs = t.vs.set 38 (.int .i64 (n : Int)) := by
 have h1 := Pt.vs_len h
 unfold Told.vs
 rw [List.set_append_right _ _ (by omega), h1]
 rfl
theorem Told.put_e (h : t.p.ok) (e : Int) : ({ t with e := e } : Told).vs = t.vs.set 39 (.int .i64 e) := by
 have h1 := Pt.vs_len h
 unfold Told.vs
 rw [List.set_append_right _ _ (by omega), h1]
 rfl
theorem Told.at_e (h : t.p.ok) : t.vs[39]? = some (.int .i64 t.e) := by
 have h1 := Pt.vs_len h
 unfold Told.vs
 rw [List.getElem?_append_right (by omega), h1]
 rfl
theorem Told.at_p (h : t.p.ok) : t.p.vs = (t.vs.drop 0).take 35 := by
 have h1 := Pt.vs_len h
 unfold Told.vs
 rw [List.drop_zero, ← h1, List.take_left]
end
theorem alloc_told (w : World) : (Instr.alloc 49 true (.tuple #[])).run Tryd.prog w = .ok (.pointer (some ⟨w.heap.size, 0, none⟩)) (w.alloc (.cells Told.zero.vs.toArray 49)) := by kernel_rfl
theorem build_told (w : World) : (Instr.build 49 #[]).run Tryd.prog w = .ok (.agg Told.zero.vs.toArray) w := by kernel_rfl
theorem agg_told (w : World) : (isAgg 49).run Tryd.prog w = .ok true w := isAgg_struct (show Tryd.prog.underlying 49 = some (.struct (Tryd.prog.fieldsOf 49)) by kernel_rfl) w
theorem size_told (w : World) : (sizeOf 49).run Tryd.prog w = .ok 40 w := sizeOf_run (by kernel_rfl) w
theorem agg_actK (w : World) : (isAgg 45).run Tryd.prog w = .ok true w := isAgg_struct (show Tryd.prog.underlying 45 = some (.struct (Tryd.prog.fieldsOf 45)) by kernel_rfl) w
theorem size_actK (w : World) : (sizeOf 45).run Tryd.prog w = .ok 40 w := sizeOf_run (by kernel_rfl) w
theorem size_err1 (w : World) : (sizeOf 47).run Tryd.prog w = .ok 1 w := sizeOf_run (by kernel_rfl) w
theorem size_int1 (w : World) : (sizeOf 3).run Tryd.prog w = .ok 1 w := sizeOf_run (by kernel_rfl) w
theorem size_str1 (w : World) : (sizeOf 9).run Tryd.prog w = .ok 1 w := sizeOf_run (by kernel_rfl) w
def ActK.blk (x : ActK) : List Int := if 5 < x.copies then x.bs else wholeL x.bs
theorem ActK.blk_len {x : ActK} (h : x.bs.length ≤ 300) : x.blk.length ≤ 300 := by
 unfold ActK.blk
 split
 · exact h
 · exact wholeL_most _ h
def doK (S : DS) (l : List Bool) (x : ActK) (q : Pt) : (DS × List Bool) × Told :=
 if x.kind = 1 then ((putK S l 7 x.blk x.copies).1, { Told.zero with p := (putK S l 7 x.blk x.copies).2.1, e := (putK S l 7 x.blk x.copies).2.2 })
 else if x.kind = 2 then ((S, l), { Told.zero with b := (readK S q).1, e := (readK S q).2 })
 else if x.kind = 3 then ((S, l), { Told.zero with g0 := (lookK S q).1.1, g1 := (lookK S q).1.2, e := (lookK S q).2 })
 else if x.kind = 4 then (((healK S q).1.1, l), { Told.zero with n := (healK S q).1.2, e := (healK S q).2 })
 else if x.kind = 5 then (((fixK S q x.blk).1.1, l), { Told.zero with n := (fixK S q x.blk).1.2, e := (fixK S q x.blk).2 })
 else if x.kind = 6 then (((S.rot x.at' x.bs).1, l), { Told.zero with e := (S.rot x.at' x.bs).2 })
 else if x.kind = 7 then ((S.fuse x.at', l), Told.zero)
 else if x.kind = 8 then ((S.crash [], l), Told.zero)
 else if x.kind = 9 then ((S.flush.1, l), { Told.zero with e := S.flush.2 })
 else ((S, l), Told.zero)
end Go.Proofs.YthbldjnpnligpaaDoor
