/-
  The walk over the document's Encode of a label.
-/
import Derived.Test.YthbcphalokoknaaDoorG22
import Derived.Lib.SlBytesConst
namespace Go.Proofs.YthbcphalokoknaaDoor
set_option linter.unusedSimpArgs false
set_option linter.unusedVariables false
set_option maxRecDepth 100000
open Go.RowKit

theorem rput32_own (a : Option Addr) (c l : Nat) (xs : List Int) (n : Nat) (x : Int) (hx : x = n) (hn : n < 4294967296) (w : World) (ys : List Int) (hy : xs ++ b32 n = ys) (hl : l = xs.length) (hB : Bs w a c xs) (hlen : xs.length ≤ 100000) :
    Calls Tryd.prog 38 #[.slice a l c, .int .u32 x] w fun e w' => ∃ v, e = .returned v ∧ w'.ownsRow w.heap.size 5 1 v ys.length (ys.map (Value.int .u8)) ∧ Below w.heap.size w w' := by
  subst hy hl hx
  obtain ⟨i0, hi, hz0, hz1, hz2⟩ := info_parts Tryd.info5
  have hrng : ∀ y ∈ xs ++ b32 n, 0 ≤ y ∧ y ≤ 255 := by
    intro y hy
    rcases List.mem_append.1 hy with hy | hy
    · exact hB.rng y hy
    · exact b32_rng n hn y hy
  have HR : Hid (∀ y ∈ xs ++ b32 n, 0 ≤ y ∧ y ≤ 255) := hrng
  clear hrng
  go_enter Tryd.func38, Tryd.ntmps38
  go_wp2_with (first
    | (at_builtin; refine wpList_append_bytes (w0 := w) (by rfl) (.tmp 6) (.tmp 7) 27 (by rfl) w.heap.size 5 i0 Tryd.underlying27 hi hz0 hz1 hz2 _ [] (by rfl) (World.ownsRow_made w #[] 0 (Nat.le_refl _) (by decide) rfl) a xs.length c xs (by rfl) rfl (hB.stays ((Below.refl _ _).alloc (Nat.le_refl _) _)) (by simp; omega) (by simp) ((Below.refl _ _).alloc (Nat.le_refl _) _) ?_; rw [List.nil_append]; intro v1 w1 hown1 hb1)
    | (at_builtin; refine wpList_append_bytes (w0 := w) (by rfl) (.tmp 9) (.tmp 21) 27 (by rfl) w.heap.size 5 i0 Tryd.underlying27 hi hz0 hz1 hz2 _ xs (by rfl) (hown1.alloc _) (some ⟨w1.heap.size, 0, none⟩) 4 4 (b32 n) (by rfl) (by rfl) (b32_bs n hn w1) (by simp [b32]; omega) (by have := hb1.size; simp; omega) (hb1.alloc hb1.size _) ?_; intro v2 w2 hown2 hb2))
  go_ret
  exact ⟨v2, rfl, hown2, hb2⟩

set_option maxHeartbeats 4000000 in
theorem lrencode_bad (l : Lb) (hl : l.ok) (a : Option Addr) (c : Nat) (w : World) (hlen : l.m.length ≤ 9223372036854775807) (hm : l.may = false) :
    Calls Tryd.prog 10 #[.agg (l.vs a c).toArray] w fun e w' => e = .returned (.tuple #[.slice none 0 0, .int .i64 1]) ∧ Below w.heap.size w w' := by
  obtain ⟨vs, hvs⟩ : ∃ vs, vs = l.vs a c := ⟨_, rfl⟩
  have hvl : vs.length = 37 := by rw [hvs]; exact Lb.vs_len hl.p a c
  have HR : Hid (l.p.vs = (vs.drop 1).take 35) := by show _ = _; rw [hvs]; exact Lb.vs_root hl.p a c
  have HM : Hid (vs[36]? = some (.slice a l.m.length c)) := by show _ = _; rw [hvs]; exact Lb.vs_map hl.p a c
  have hpl := Pt.vs_len hl.p
  have hmay := rmay_run l.p hl.p
  obtain ⟨n, hn⟩ : ∃ n, n = l.m.length := ⟨_, rfl⟩
  obtain ⟨b, hb⟩ : ∃ b, b = l.p.may := ⟨_, rfl⟩
  have hor : b = false ∨ b = true ∧ ((n : Int) == 64) = false := by
    rw [hb, hn]
    unfold Lb.may at hm
    cases h : l.p.may
    · exact .inl rfl
    · right; refine ⟨rfl, ?_⟩; rw [h] at hm; simp at hm; simp; omega
  rw [← hvs]
  rw [← hb] at hmay
  rw [← hn] at HM hlen
  clear hvs hb hn hm
  go_enter Tryd.func10, Tryd.ntmps10
  rcases hor with rfl | ⟨rfl, h64⟩
  · go_wp2_with (first
      | (refine wpList_box0 (by rfl) 29 (.tmp 0) (by rfl) vs (by rfl) ?_; intro w1 hL1 hb1 hs1
         have hc36 : w1.cell? ⟨w.heap.size, 36, none⟩ = some (.slice a n c) := (hL1.cell 36).trans HM.out)
      | (refine wpList_load_blk (by rfl) (.tmp 6) 26 (by rfl) _ 1 35 (by rfl) agg_ptr size_ptr hL1 _ HR.out hpl ?_)
      | (go_at_call 37; go_must (refine (hmay _).mono ?_); rintro e w2 ⟨rfl, hb2⟩))
    go_ret2
    exact ⟨rfl, below_then hb1 hb2⟩
  · go_wp2_with (first
      | (refine wpList_box0 (by rfl) 29 (.tmp 0) (by rfl) vs (by rfl) ?_; intro w1 hL1 hb1 hs1
         have hc36 : w1.cell? ⟨w.heap.size, 36, none⟩ = some (.slice a n c) := (hL1.cell 36).trans HM.out)
      | (refine wpList_load_blk (by rfl) (.tmp 6) 26 (by rfl) _ 1 35 (by rfl) agg_ptr size_ptr hL1 _ HR.out hpl ?_)
      | (go_at_call 37; go_must (refine (hmay _).mono ?_); rintro e w2 ⟨rfl, hb2⟩
         have hc36' : w2.cell? ⟨w.heap.size, 36, none⟩ = some (.slice a n c) := ((hL1.stays hb2).cell 36).trans HM.out))
    go_ret2
    exact ⟨rfl, below_then hb1 hb2⟩

theorem lenV7 {a : Option Addr} {n c : Nat} : lenV (.slice a n c) = n := rfl

theorem owns_form {w : World} {base n : Nat} {e : TypeId} {v : Value} {xs : List Value} (h : w.ownsRow base e 1 v n xs) : ∃ a c, v = .slice a n c := by
  rcases h.2 with ⟨rfl, rfl⟩ | ⟨g, cap, cur, rfl, _⟩
  · exact ⟨_, _, rfl⟩
  · exact ⟨_, _, rfl⟩

theorem magic_bs (w : World) : Bs (w.alloc (.cells #[.int .u8 67, .int .u8 65, .int .u8 85, .int .u8 84] 5 (4, 5))) (some ⟨w.heap.size, 0, none⟩) 4 magicL := by
  refine ⟨magic_rng, by decide, by decide, by simp, .inr ⟨_, 0, rfl, fun i hi => ?_⟩⟩
  have hh := World.alloc_heap_new w (.cells #[.int .u8 67, .int .u8 65, .int .u8 85, .int .u8 84] 5 (4, 5))
  have hi4 : i < 4 := hi
  unfold World.cell?
  simp only [hh]
  rcases (by omega : i = 0 ∨ i = 1 ∨ i = 2 ∨ i = 3) with rfl | rfl | rfl | rfl <;> rfl
theorem zero_bs (w : World) : Bs (w.alloc (.cells #[.int .u8 0] 5)) (some ⟨w.heap.size, 0, none⟩) 1 [0] :=
  Row.bs (e := 5) (g := w.heap.size) (cur := [0]) (Blk.newAt (vs := [Value.int .u8 0]) rfl rfl) (by decide) (by decide)

theorem conv_same (w : World) : (convert 27 27 (.slice (some ⟨w.heap.size, 0, none⟩) 4 4)).run Tryd.prog (w.alloc (.cells #[.int .u8 67, .int .u8 65, .int .u8 85, .int .u8 84] 5)) = .ok (.slice (some ⟨w.heap.size, 0, none⟩) 4 4) (w.alloc (.cells #[.int .u8 67, .int .u8 65, .int .u8 85, .int .u8 84] 5 (4, 5))) :=
  Go.Lib.run_convert_bytes_const w 27 5 #[.int .u8 67, .int .u8 65, .int .u8 85, .int .u8 84] 4 4 Tryd.underlying27 Tryd.underlying5

set_option maxHeartbeats 20000000 in
theorem lrencode_ok (l : Lb) (hl : l.ok) (a : Option Addr) (c : Nat) (w : World) (hB : Bs w a c l.m) (hm : l.may = true) :
    Calls Tryd.prog 10 #[.agg (l.vs a c).toArray] w fun e w' => ∃ v, e = .returned (.tuple #[v, .int .i64 0]) ∧ w'.ownsRow w.heap.size 5 1 v 256 (l.bytes.map (Value.int .u8)) ∧ Below w.heap.size w w' := by
  obtain ⟨i0, hi, hz0, hz1, hz2⟩ := info_parts Tryd.info5
  obtain ⟨hpm, hm64⟩ := Lb.may_parts hm
  obtain ⟨vs, hvs⟩ : ∃ vs, vs = l.vs a c := ⟨_, rfl⟩
  have hvl : vs.length = 37 := by rw [hvs]; exact Lb.vs_len hl.p a c
  have HR : Hid (l.p.vs = (vs.drop 1).take 35) := by show _ = _; rw [hvs]; exact Lb.vs_root hl.p a c
  have HM : Hid (vs[36]? = some (.slice a 64 c)) := by show _ = _; rw [hvs, ← hm64]; exact Lb.vs_map hl.p a c
  have HT : Hid (vs[0]? = some (.int .u32 (l.t : Int))) := by show _ = _; rw [hvs]; exact Lb.vs_txg l a c
  have hpl := Pt.vs_len hl.p
  have hel := Pt.enc_len hl.p
  have hmay := rmay_run l.p hl.p
  rw [hpm] at hmay
  have henc := rencode_run l.p hl.p
  rw [← hvs]
  clear hvs hpm
  have HM64 : Hid (l.m.length = 64) := hm64
  have hx8 : (magicL ++ b32 l.t).length = 8 := by simp [magicL, b32_len]
  have hx52 : ((magicL ++ b32 l.t) ++ l.p.enc).length = 52 := by rw [List.length_append, hx8, hel]
  have hx116 : (((magicL ++ b32 l.t) ++ l.p.enc) ++ l.m).length = 116 := by rw [List.length_append, hx52, hm64]
  obtain ⟨X8, hX8⟩ : ∃ X, X = magicL ++ b32 l.t := ⟨_, rfl⟩
  rw [← hX8] at hx8 hx52 hx116
  have HX8 : Hid (X8 = magicL ++ b32 l.t) := hX8
  clear hX8
  obtain ⟨X52, hX52⟩ : ∃ X, X = X8 ++ l.p.enc := ⟨_, rfl⟩
  rw [← hX52] at hx52 hx116
  have HX52 : Hid (X52 = X8 ++ l.p.enc) := hX52
  clear hX52
  obtain ⟨X116, hX116⟩ : ∃ X, X = X52 ++ l.m := ⟨_, rfl⟩
  rw [← hX116] at hx116
  have HX116 : Hid (X116 = X52 ++ l.m) := hX116
  clear hX116 hm64
  have HBODY : Hid (l.body = X116 ++ List.replicate 108 0) := by show _ = _; rw [HX116.out, HX52.out, HX8.out]; rfl
  have hcs := conv_same
  go_enter Tryd.func10, Tryd.ntmps10
  go_wp2_with (first
      | (refine wpList_box0 (by rfl) 29 (.tmp 0) (by rfl) vs (by rfl) ?_; intro w1 hL1 hb1 hs1)
      | (refine wpList_load_blk (by rfl) (.tmp 6) 26 (by rfl) _ 1 35 (by rfl) agg_ptr size_ptr hL1 _ HR.out hpl ?_)
      | (go_at_call 37; go_must (refine (hmay _).mono ?_); rintro e w2 ⟨rfl, hb2⟩
         have hL2 := hL1.stays hb2
         have hc36 : w2.cell? ⟨w.heap.size, 36, none⟩ = some (.slice a 64 c) := (hL2.cell 36).trans HM.out
         have hL3 : Blk 29 (w2.alloc (.cells #[.int .u8 67, .int .u8 65, .int .u8 85, .int .u8 84] 5 (4, 5))) w.heap.size vs := hL2.alloc _
         have hc0 : (w2.alloc (.cells #[.int .u8 67, .int .u8 65, .int .u8 85, .int .u8 84] 5 (4, 5))).cell? ⟨w.heap.size, 0, none⟩ = some (.int .u32 (l.t : Int)) := (hL3.cell 0).trans HT.out
         have hput := rput32_own (some ⟨w2.heap.size, 0, none⟩) 4 4 magicL l.t (l.t : Int) rfl hl.t (w2.alloc (.cells #[.int .u8 67, .int .u8 65, .int .u8 85, .int .u8 84] 5 (4, 5))) X8 HX8.out.symm rfl (magic_bs w2) (by decide))
      | (go_at_call 38; go_must (refine hput.mono ?_); rintro e w4 ⟨v4, rfl, hown4, hb4⟩
         have hL4 := hL3.stays hb4
         rw [hx8] at hown4)
      | (refine wpList_load_blk (by rfl) (.tmp 22) 26 (by rfl) _ 1 35 (by rfl) agg_ptr size_ptr hL4 _ HR.out hpl ?_)
      | (go_at_call 39; go_must (refine (henc _).mono ?_); rintro e w5 ⟨a5, c5, rfl, hB5, hb5⟩
         have hL5 := hL4.stays hb5
         have hbW : Below w1.heap.size w1 w5 := below_then (below_then (hb2.alloc hb2.size _) hb4) hb5
         have hown5 : w5.ownsRow w1.heap.size 5 1 v4 X8.length (X8.map (Value.int .u8)) := by
           rw [hx8]
           exact owns_mono (owns_keep hown4 (fun k hk => hb5.block k (World.ownsRow.lt hown4 k hk).2)) (by have := hb2.size; simp; omega))
      | (at_builtin; (refine wpList_append_bytes (w0 := w1) (by rfl) (.tmp 21) (.tmp 24) 27 (by rfl) w1.heap.size 5 i0 Tryd.underlying27 hi hz0 hz1 hz2 _ X8 (by rfl) hown5 a5 44 c5 l.p.enc (by rfl) hel.symm hB5 (by omega) hbW.size hbW ?_)
         intro v6 w6 hown6 hb6
         rw [← HX52.out] at hown6
         have hc36' : w6.cell? ⟨w.heap.size, 36, none⟩ = some (.slice a 64 c) := ((hL1.stays hb6).cell 36).trans HM.out)
      | (at_builtin; (refine wpList_append_bytes (w0 := w1) (by rfl) (.tmp 26) (.tmp 28) 27 (by rfl) w1.heap.size 5 i0 Tryd.underlying27 hi hz0 hz1 hz2 _ X52 (by rfl) hown6 a 64 c l.m (by rfl) HM64.out.symm (hB.stays (below_then hb1 hb6)) (by have := HM64.out; omega) hb6.size hb6 ?_)
         intro v7 w7 hown7 hb7
         rw [← HX116.out] at hown7))
  clear hc36 hc36' hL1 hL2 hL3 hL4 hL5 hc0 hput hown4 hown5 hown6 hB5 henc hmay hcs
  have h116 : (X116 ++ List.replicate 0 (0 : Int)).length = 116 := by rw [List.replicate_zero, List.append_nil]; exact hx116
  go_loopw [4] (fun v wr => ∃ k : Nat, k ≤ 108 ∧ wr.ownsRow w1.heap.size 5 1 v (116 + k) ((X116 ++ List.replicate k 0).map (Value.int .u8)) ∧ Below w1.heap.size w1 wr) (fun v _ => 224 - lenV v)
  case atStart => exact ⟨0, by omega, by rw [hx116] at hown7; simpa using hown7, hb7⟩
  case round =>
    rename_i hrel
    obtain ⟨k, hk, hownr, hbr⟩ := hrel
    obtain ⟨av, cv, rfl⟩ := owns_form hownr
    have hlk : (X116 ++ List.replicate k (0 : Int)).length = 116 + k := by rw [List.length_append, hx116, List.length_replicate]
    obtain ⟨N, hN⟩ : ∃ N, N = 116 + k := ⟨_, rfl⟩
    rw [← hN] at hownr hlk ⊢
    have HN : Hid (N = 116 + k) := hN
    have hN1 : N ≤ 224 := by omega
    clear hN
    by_cases hlt : N < 224
    · have hd : decide ((N : Int) < 224) = true := by simp; omega
      have hownr' : ∀ o, (wr.alloc o).ownsRow w1.heap.size 5 1 (.slice av N cv) (X116 ++ List.replicate k (0 : Int)).length ((X116 ++ List.replicate k 0).map (Value.int .u8)) := fun o => by rw [hlk]; exact hownr.alloc o
      have HLK : Hid ((X116 ++ List.replicate k (0 : Int)).length = N) := hlk
      clear hlk hownr
      go_wp2_with (first
        | (at_builtin; (refine wpList_append_bytes (w0 := w1) (by rfl) (.tmp 33) (.tmp 34) 27 (by rfl) w1.heap.size 5 i0 Tryd.underlying27 hi hz0 hz1 hz2 _ (X116 ++ List.replicate k 0) (by rfl) (hownr' _) (some ⟨wr.heap.size, 0, none⟩) 1 1 [0] (by rfl) rfl (zero_bs wr) (by have := HLK.out; simp only [List.length_singleton]; omega) (by have := hbr.size; simp; omega) (hbr.alloc hbr.size _) ?_)
           intro v8 w8 hown8 hb8))
      have hl8 : ((X116 ++ List.replicate k (0 : Int)) ++ [0]).length = 116 + (k + 1) := by rw [List.length_append, HLK.out, HN.out]; rfl
      have hx8' : (X116 ++ List.replicate k (0 : Int)) ++ [0] = X116 ++ List.replicate (k + 1) 0 := by rw [List.append_assoc, List.replicate_succ' (n := k)]
      rw [hl8, hx8'] at hown8
      obtain ⟨a8, c8, rfl⟩ := owns_form hown8
      exact ⟨⟨k + 1, by have := HN.out; omega, hown8, hb8⟩, by have := HN.out; simp only [lenV]; omega⟩
    · have hd : decide ((N : Int) < 224) = false := by simp; omega
      have hN224 : N = 224 := by omega
      have hk108 : k = 108 := by have := HN.out; omega
      subst hN224 hk108
      rw [← HBODY.out] at hownr hlk
      obtain ⟨av', cv', hve, hBr⟩ := Bs.of_owns hownr (Lb.body_rng hl)
      rw [hlk] at hve
      cases hve
      have hsum := rsum_run av cv l.body wr hBr (by omega)
      rw [hlk] at hsum
      obtain ⟨us, hus⟩ : ∃ us, us = (shaOf l.body).map (Value.int .u8) := ⟨_, rfl⟩
      have hul : us.length = 32 := by rw [hus, List.length_map, shaOf_length]
      have huo : ∀ v ∈ us, v.oneCell' = true := by rw [hus]; exact int_oneCell _ _
      have HUS : Hid (us = (shaOf l.body).map (Value.int .u8)) := hus
      rw [← hus] at hsum
      have hzl : ((List.replicate 32 (0 : Int)).map (Value.int .u8)).length = 32 := rfl
      have HLK : Hid (l.body.length = 224) := hlk
      clear hus hlk hBr
      go_wp2_with (first
        | (go_at_call 40; go_must (refine hsum.mono ?_); rintro e wE ⟨rfl, hbE⟩)
        | (refine wpList_alloc0 (by rfl) 23 (by rfl) (some 5) (by rfl) _ (fun w => alloc_32y w) ?_; intro wF hSF hbF hsF)
        | (refine wpList_store_blk (by rfl) (.tmp 5) (.tmp 37) 23 (by rfl) _ 0 32 (by rfl) us (by rfl) size_32 hSF hul (by rw [hzl]; omega) huo us (whole_store hzl) ?_
           intro wG hSG hbutG hsG
           have hownE := owns_keep hownr (fun k hk => (below_then hbE hbF).block k (World.ownsRow.lt hownr k hk).2)
           have hownG : wG.ownsRow w1.heap.size 5 1 (.slice av 224 cv) l.body.length (l.body.map (Value.int .u8)) := by
             rw [HLK.out]
             exact owns_keep hownE (fun k hk => hbutG.block k (by have := (World.ownsRow.lt hownr k hk).2; have := hbE.size; omega) (World.ownsRow.lt hownE k hk).2)
           have hbG : Below w1.heap.size w1 wG := by
             have h1 := below_then (below_then hbr hbE) hbF
             exact h1.trans (hbutG.below (B := w1.heap.size) (by have := hbr.size; have := hbE.size; omega) h1.size)
           have hSB : Bs wG (some ⟨wE.heap.size, 0, none⟩) 32 (shaOf l.body) := by
             have h1 := hSG
             rw [HUS.out] at h1
             exact Row.bs (e := 23) (w := wG) (g := wE.heap.size) (cur := shaOf l.body) h1 (shaOf_rng _) (by rw [shaOf_length]; decide))
        | (at_builtin; (refine wpList_append_bytes (w0 := w1) (by rfl) (.tmp 38) (.tmp 39) 27 (by rfl) w1.heap.size 5 i0 Tryd.underlying27 hi hz0 hz1 hz2 _ l.body (by rfl) hownG (some ⟨wE.heap.size, 0, none⟩) 32 32 (shaOf l.body) (by rfl) (shaOf_length _).symm hSB (by have := HLK.out; rw [shaOf_length]; omega) hbG.size hbG ?_)
           intro vH wH hownH hbH))
      go_ret2
      refine ⟨vH, rfl, ?_, below_then hb1 hbH⟩
      have h256 : (l.body ++ shaOf l.body).length = 256 := by rw [List.length_append, HLK.out, shaOf_length]
      rw [h256] at hownH
      exact owns_mono hownH (by have := hb1.size; omega)

end Go.Proofs.YthbcphalokoknaaDoor

/-
  Labels and bytes: lists alone.
-/

namespace Go.Proofs.YthbcphalokoknaaDoor
set_option linter.unusedSimpArgs false
set_option linter.unusedVariables false
set_option maxRecDepth 100000
open Go.RowKit

theorem n32_take4 (xs : List Int) (h : 4 ≤ xs.length) : n32 (xs.take 4) = n32 xs := by
  match xs, h with
  | a :: b :: c :: d :: r, _ => unfold n32 take32L; rw [if_neg (by simp), if_neg (by simp)]; rfl

theorem parts224 (xs : List Int) : xs.take 224 = (((xs.take 4 ++ (xs.drop 4).take 4) ++ (xs.drop 8).take 44) ++ (xs.drop 52).take 64) ++ (xs.drop 116).take 108 := by
  rw [← List.take_add, ← List.take_add, ← List.take_add, ← List.take_add]

theorem lbOf_body {xs : List Int} (hr : ∀ x ∈ xs, 0 ≤ x ∧ x ≤ 255) (hl : xs.length = 256) : (lbOf xs).body = (((magicL ++ (xs.drop 4).take 4) ++ (xs.drop 8).take 44) ++ (xs.drop 52).take 64) ++ List.replicate 108 0 := by
  unfold Lb.body lbOf
  simp only
  rw [n32_take4 _ (by simp; omega), b32_n32 (rng_drop hr 4) (by simp; omega), enc_decP (rng_take (rng_drop hr 8) 44) (by simp; omega)]

theorem lbOf_body_iff {xs : List Int} (hr : ∀ x ∈ xs, 0 ≤ x ∧ x ≤ 255) (hl : xs.length = 256) : (lbOf xs).body = xs.take 224 ↔ xs.take 4 = magicL ∧ (xs.drop 116).take 108 = List.replicate 108 0 := by
  rw [lbOf_body hr hl, parts224]
  constructor
  · intro h
    obtain ⟨h1, h2⟩ := List.append_inj' h (by simp; omega)
    obtain ⟨h3, _⟩ := List.append_inj' h1 rfl
    obtain ⟨h4, _⟩ := List.append_inj' h3 rfl
    obtain ⟨h5, _⟩ := List.append_inj' h4 rfl
    exact ⟨h5.symm, h2.symm⟩
  · rintro ⟨h1, h2⟩
    rw [h1, h2]

theorem lbOf_len {xs : List Int} (hl : xs.length = 256) : (lbOf xs).m.length = 64 := by simp [lbOf]; omega

theorem lbOf_bytes_iff {xs : List Int} (hr : ∀ x ∈ xs, 0 ≤ x ∧ x ≤ 255) (hl : xs.length = 256) (hs : sumL xs = true) : (lbOf xs).bytes = xs ↔ xs.take 4 = magicL ∧ (xs.drop 116).take 108 = List.replicate 108 0 := by
  rw [← lbOf_body_iff hr hl]
  have hsum : shaOf (xs.take 224) = xs.drop 224 := of_decide_eq_true hs
  unfold Lb.bytes
  constructor
  · intro h
    have h1 : (lbOf xs).body ++ shaOf (lbOf xs).body = xs.take 224 ++ xs.drop 224 := by rw [h, List.take_append_drop]
    exact (List.append_inj' h1 (by rw [shaOf_length]; simp; omega)).1
  · intro h
    rw [h, hsum, List.take_append_drop]

/-- A label that is written is read as it was. -/
theorem lbOf_of {l : Lb} (hl : l.ok) (hm : l.m.length = 64) (rest : List Int) : lbOf (l.body ++ rest) = l := by
  have he := Pt.enc_len hl.p
  have hb : l.body ++ rest = magicL ++ (b32 l.t ++ (l.p.enc ++ (l.m ++ (List.replicate 108 0 ++ rest)))) := by unfold Lb.body; simp only [List.append_assoc]
  have h4 : magicL.length = 4 := rfl
  have d4 : (l.body ++ rest).drop 4 = b32 l.t ++ (l.p.enc ++ (l.m ++ (List.replicate 108 0 ++ rest))) := by rw [hb, List.drop_left' h4]
  have d8 : (l.body ++ rest).drop 8 = l.p.enc ++ (l.m ++ (List.replicate 108 0 ++ rest)) := by
    rw [show 8 = 4 + 4 from rfl, ← List.drop_drop, d4, List.drop_left' (b32_len _)]
  have d52 : (l.body ++ rest).drop 52 = l.m ++ (List.replicate 108 0 ++ rest) := by
    rw [show 52 = 8 + 44 from rfl, ← List.drop_drop, d8, List.drop_left' he]
  unfold lbOf
  rw [d4, d8, d52, List.take_left' (b32_len _), List.take_left' he, List.take_left' hm, decP_enc hl.p]
  have := n32_b32 l.t hl.t []
  rw [List.append_nil] at this
  rw [this]

theorem okL_of {l : Lb} (hl : l.ok) (hm : l.may = true) (rest : List Int) : okL (l.body ++ rest) = true := by
  obtain ⟨hpm, hm64⟩ := Lb.may_parts hm
  have h1 := lbOf_of hl hm64 rest
  have hp : decP (((l.body ++ rest).drop 8).take 44) = l.p := congrArg Lb.p h1
  have he := Pt.enc_len hl.p
  have hb : l.body ++ rest = magicL ++ (b32 l.t ++ (l.p.enc ++ (l.m ++ (List.replicate 108 0 ++ rest)))) := by unfold Lb.body; simp only [List.append_assoc]
  have hd : (l.body ++ rest).drop 116 = List.replicate 108 0 ++ rest := by
    have : l.body ++ rest = (((magicL ++ b32 l.t) ++ l.p.enc) ++ l.m) ++ (List.replicate 108 0 ++ rest) := by unfold Lb.body; simp only [List.append_assoc]
    rw [this, List.drop_left' (by simp [magicL, b32_len, he, hm64])]
  unfold okL
  rw [hp, hpm, hd, List.take_left' (List.length_replicate), hb, @List.take_left' _ magicL _ 4 rfl]
  simp

theorem decL_bytes {l : Lb} (hl : l.ok) (hm : l.may = true) : decL l.bytes = (l, 0) := by
  obtain ⟨hpm, hm64⟩ := Lb.may_parts hm
  have hb := Lb.body_len hl.p hm64
  have hs : sumL l.bytes = true := by
    unfold sumL Lb.bytes
    rw [List.take_left' hb, List.drop_left' hb]
    simp
  unfold decL
  rw [if_neg (by rw [Lb.bytes_len hl.p hm64]; omega), if_neg (by rw [hs]; decide), if_pos (by unfold Lb.bytes; exact okL_of hl hm _)]
  unfold Lb.bytes
  rw [lbOf_of hl hm64]

/-- Bytes that are a label are its bytes. -/
theorem decL_only {xs : List Int} (hr : ∀ x ∈ xs, 0 ≤ x ∧ x ≤ 255) (h : (decL xs).2 = 0) : xs.length = 256 ∧ sumL xs = true ∧ okL xs = true ∧ (decL xs).1 = lbOf xs ∧ (lbOf xs).bytes = xs := by
  unfold decL at h ⊢
  by_cases h1 : xs.length = 256
  · rw [if_neg (by omega)] at h ⊢
    by_cases h2 : sumL xs = false
    · rw [if_pos h2] at h; cases h
    · rw [if_neg h2] at h ⊢
      have hs : sumL xs = true := by simpa using h2
      by_cases h3 : okL xs = true
      · rw [if_pos h3]
        refine ⟨h1, hs, h3, rfl, (lbOf_bytes_iff hr h1 hs).2 ?_⟩
        unfold okL at h3
        simp only [Bool.and_eq_true, decide_eq_true_eq] at h3
        exact h3.2
      · rw [if_neg h3] at h; cases h
  · rw [if_pos h1] at h; cases h

end Go.Proofs.YthbcphalokoknaaDoor
