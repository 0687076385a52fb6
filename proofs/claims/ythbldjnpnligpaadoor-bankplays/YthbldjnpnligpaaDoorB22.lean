/-
 Package disk: Rot, Fuse, Dump, New; no disk.
-/
import Derived.Test.YthbldjnpnligpaaDoorB10
import Derived.Laws.Closers25b
namespace Go.Proofs.YthbldjnpnligpaaDoor
set_option linter.unusedSimpArgs false
set_option linter.unusedVariables false
set_option maxRecDepth 100000
open Go.RowKit
section
variable {p bl : Nat} {v : Value} {bufs : List Buf} {laid : List Int} {off fused : Bool} {left : Nat}
theorem rot_arg (i : Int) (a : Option Addr) (n c : Nat) (w : World) (hD : DkAt w p bl v bufs laid off fused left) (hn63 : n ≤ 140737488351232) (hi : ¬ ((0 ≤ i ∧ i < ((laid.length / 256 : Nat) : Int)) ∧ n ≤ 256)) :
 Calls Tryd.prog 35 #[.pointer (some ⟨p, 0, none⟩), .int .i64 i, .slice a n c] w fun e w' => e = .returned (.int .i64 1) ∧ w' = w := by
 have hcall := has_run i w hD
 by_cases hh : 0 ≤ i ∧ i < ((laid.length / 256 : Nat) : Int)
 · rw [decide_eq_true hh] at hcall
   have hn : (256 : Int) < (n : Int) := by omega
   clear hi hh
   go_enter Tryd.func35, Tryd.ntmps35
   go_wp2_with (first
    | (go_at_call 92; refine hcall.mono ?_; rintro e w' ⟨rfl, rfl⟩))
   go_ret
   exact ⟨rfl, rfl⟩
 · rw [decide_eq_false hh] at hcall
   clear hi hh
   go_enter Tryd.func35, Tryd.ntmps35
   go_wp2_with (first
    | (go_at_call 92; refine hcall.mono ?_; rintro e w' ⟨rfl, rfl⟩))
   go_ret
   exact ⟨rfl, rfl⟩
theorem fuse_run (f : Int) (w : World) (hD : DkAt w p bl v bufs laid off fused left) (hf : f ≤ 9223372036854775807) :
 Calls Tryd.prog 56 #[.pointer (some ⟨p, 0, none⟩), .int .i64 f] w fun e w' => (∃ v, e = .returned v) ∧ DkAt w' p bl v bufs laid off true (max f 0).toNat ∧ But p w w' := by
 obtain ⟨h0, h1, h2, h3, h4⟩ := hD.fields
 have f3 := hD.free 3
 have f4 := hD.free 4
 go_enter Tryd.func56, Tryd.ntmps56
 go_wp2
 · go_end0
   have e : ((max f 0).toNat : Int) = 0 := by omega
   exact ⟨⟨_, rfl⟩, hD.flags (by omega) (((But.refl _ _).setCell _ _).setCell _ _) (by rw [e]; exact (hD.blk.set 3 _).set 4 _), ((But.refl _ _).setCell _ _).setCell _ _⟩
 · go_end0
   have e : ((max f 0).toNat : Int) = f := by omega
   exact ⟨⟨_, rfl⟩, hD.flags (by omega) (((But.refl _ _).setCell _ _).setCell _ _) (by rw [e]; exact (hD.blk.set 3 _).set 4 _), ((But.refl _ _).setCell _ _).setCell _ _⟩
theorem dump_run (w : World) (hD : DkAt w p bl v bufs laid off fused left) :
 Calls Tryd.prog 14 #[.pointer (some ⟨p, 0, none⟩)] w fun e w' => ∃ g cap, e = .returned (.slice (some ⟨g, 0, none⟩) laid.length cap) ∧ w'.ownsRow w.heap.size 5 1 (.slice (some ⟨g, 0, none⟩) laid.length cap) laid.length (laid.map (Value.int .u8)) ∧ Below w.heap.size w w' := by
 obtain ⟨h0, h1, h2, h3, h4⟩ := hD.fields
 obtain ⟨n, hn, hn1, hn2⟩ := hD.siz
 have hcl := clone_run ⟨bl, 0, none⟩ _ _ w (hD.row.bs hD.rng (by unfold maxLen; omega)) (by omega) (by omega)
 obtain ⟨L, hL⟩ : ∃ L, L = laid.length := ⟨_, rfl⟩
 rw [← hL] at h0 hcl ⊢
 clear hL hn
 go_enter Tryd.func14, Tryd.ntmps14
 go_wp2_with (go_at_call 67; refine hcl.mono ?_; rintro e w2 ⟨g, cap, rfl, hown, hb2⟩)
 go_ret
 exact ⟨g, cap, rfl, hown, hb2⟩
theorem dnew_run (n : Nat) (w : World) (hn1 : 16 ≤ n) (hn2 : n ≤ 512) :
 Calls Tryd.prog 45 #[.int .i64 (n : Int)] w fun e w' => ∃ p, e = .returned (.tuple #[.pointer (some ⟨p, 0, none⟩), .int .i64 0]) ∧ ∃ bl, DkAt w' p bl (.slice none 0 0) [] (List.replicate (256 * n) 0) false false 0 ∧ w.heap.size ≤ p ∧ w.heap.size ≤ bl ∧ Below w.heap.size w w' := by
 have hi : (Tryd.prog.info? 5).map (fun i => (i.zero, i.size, i.bytes)) = some (some (.int .u8 0), 1, 1) := by kernel_rfl
 obtain ⟨i0, hi0, hz0, hz1, hz2⟩ := info_parts hi
 have h1 : ¬ ((n : Int) < 16) := by omega
 have h2 : ¬ ((512 : Int) < (n : Int)) := by omega
 go_enter Tryd.func45, Tryd.ntmps45
 go_wp2_with (refine wpList_make_bytes (w0 := w) (by rfl) (.tmp 11) (.tmp 11) 43 (by rfl) w.heap.size 5 i0 Tryd.underlying43 hi0 hz0 hz1 hz2 .i64 .i64 ((n : Int) * 256) ((n : Int) * 256) (256 * n) (by rfl) (by rfl) (by omega) (by omega) (by omega) (Nat.le_refl _) (Below.refl _ _) ?_; intro w1 hrow hb1)
 refine bodyPost_ret (results_tmp2 rfl _ _ _) rfl ?_
 refine ⟨w1.heap.size, rfl, w.heap.size, ?_, hb1.size, Nat.le_refl _, hb1.alloc hb1.size _⟩
 have hl : (List.replicate (256 * n) (0 : Int)).length = 256 * n := List.length_replicate
 refine ⟨by rw [hl]; exact Blk.newAt rfl rfl, ?_, World.ownsRow_nil _ _ _ _, fun f hf => by simp at hf, ?_, ⟨n, hl, hn1, hn2⟩, by omega⟩
 · have h3 := hrow.lt
   unfold Row at *
   rw [Below.heap_alloc _ _ _ h3]
   exact hrow
 · intro x hx
   obtain ⟨_, rfl⟩ := List.mem_replicate.1 hx
   omega
def xorB (x y : Int) : Int := bits BinOp.xor IntKind.u8 x y
def xorTo (laid : List Int) (s : Nat) (ms : List Int) (k : Nat) : List Int := (List.range k).foldl (fun l j => l.set (256 * s + j) (xorB (l.getD (256 * s + j) 0) (ms.getD j 0))) laid
theorem xorTo_succ (laid : List Int) (s : Nat) (ms : List Int) (k : Nat) : xorTo laid s ms (k + 1) = (xorTo laid s ms k).set (256 * s + k) (xorB ((xorTo laid s ms k).getD (256 * s + k) 0) (ms.getD k 0)) := by
 simp [xorTo, List.range_succ]
theorem xorTo_length (laid : List Int) (s : Nat) (ms : List Int) (k : Nat) : (xorTo laid s ms k).length = laid.length := by
 induction k with
 | zero => rfl
 | succ k ih => rw [xorTo_succ, List.length_set, ih]
theorem xorTo_rng {laid : List Int} {s : Nat} {ms : List Int} (h : ∀ x ∈ laid, 0 ≤ x ∧ x ≤ 255) (k : Nat) : ∀ x ∈ xorTo laid s ms k, 0 ≤ x ∧ x ≤ 255 := by
 induction k with
 | zero => exact h
 | succ k ih =>
   intro x hx
   rw [xorTo_succ] at hx
   rcases List.mem_or_eq_of_mem_set hx with hx | rfl
   · exact ih x hx
   · exact bits_within .xor .u8 _ _
set_option maxHeartbeats 1000000 in
theorem rot_run (s : Nat) (a : Option Addr) (c : Nat) (ms : List Int) (w : World) (hD : DkAt w p bl v bufs laid off fused left) (hs : 256 * s + 256 ≤ laid.length) (hB : Bs w a c ms) (hm : ms.length ≤ 256) (hne : ms ≠ [] → ∀ x, a = some x → x.block ≠ bl) :
 Calls Tryd.prog 35 #[.pointer (some ⟨p, 0, none⟩), .int .i64 (s : Int), .slice a ms.length c] w fun e w' => e = .returned (.int .i64 0) ∧ DkAt w' p bl v bufs (xorTo laid s ms ms.length) off fused left ∧ But bl w w' := by
 have hcall := has_run (s : Int) w hD
 rw [decide_eq_true (by omega)] at hcall
 have hsec := sector_run s w hD hs
 have hm' : ¬ ((256 : Int) < (ms.length : Int)) := by omega
 go_enter Tryd.func35, Tryd.ntmps35
 go_wp2_with (first
  | (go_at_call 92; refine hcall.mono ?_; rintro e w' ⟨rfl, rfl⟩)
  | (go_at_call 93; refine hsec.mono ?_; rintro e w' ⟨rfl, rfl⟩))
 go_loopw [26] (fun x wr => ∃ k : Nat, x = .int .i64 k ∧ k ≤ ms.length ∧ Row 5 wr bl (xorTo laid s ms k) ∧ But bl w' wr) (fun x _ => ms.length - (intOf x).toNat)
 case atStart => exact ⟨0, rfl, Nat.zero_le _, hD.row, But.refl _ _⟩
 case round =>
  rename_i hrel
  obtain ⟨k, rfl, hk, hrow, hbut⟩ := hrel
  by_cases hlt : k < ms.length
  · obtain ⟨b, o, ha, hc⟩ := (hB.but hbut (fun h0 x hx => hne h0 x hx)).cell (by omega)
    have hck := hc k hlt
    have hcl := hrow.cell (256 * s + k) (by rw [xorTo_length]; omega)
    have hfl := hrow.free (256 * s + k)
    obtain ⟨X, hX⟩ : ∃ X, X = (xorTo laid s ms k).getD (256 * s + k) 0 := ⟨_, rfl⟩
    obtain ⟨M, hM⟩ : ∃ M, M = ms.getD k 0 := ⟨_, rfl⟩
    rw [← hX] at hcl
    rw [← hM] at hck
    have HX : Hid (xorTo laid s ms (k + 1) = (xorTo laid s ms k).set (256 * s + k) (bits BinOp.xor IntKind.u8 X M)) := by
        have := xorTo_succ laid s ms k
        rw [← hX, ← hM] at this
        exact this
    subst ha
    clear hX hM hc
    have hlt' : (k : Int) < (ms.length : Int) := by omega
    have hlt2 : (k : Int) < 256 := by omega
    go_wp2
    go_roundw
    case rel =>
        refine ⟨k + 1, by go_num, by omega, ?_, hbut.setCell _ _⟩
        rw [HX.out]
        exact hrow.set _ _
    case measure => simp [intOf]; omega
  · have hk2 : k = ms.length := by omega
    have hlt' : ¬ ((k : Int) < (ms.length : Int)) := by omega
    go_wp2
    go_ret
    rw [hk2] at hrow
    exact ⟨rfl, hD.relaid (xorTo_length _ _ _ _) (xorTo_rng hD.rng _) hbut hrow, hbut⟩
end
section
attribute [local go_sem] Oper.semAt_some wide_fn wide_depth round_fn round_depth
end
end Go.Proofs.YthbldjnpnligpaaDoor

/-
 Package disk: what is read of no writes and of one.
-/

namespace Go.Proofs.YthbldjnpnligpaaDoor
set_option linter.unusedSimpArgs false
set_option linter.unusedVariables false
set_option maxRecDepth 100000
open Go.RowKit
end Go.Proofs.YthbldjnpnligpaaDoor

/-
 Package disk: a disk as it is seen from outside, and its calls.
-/

namespace Go.Proofs.YthbldjnpnligpaaDoor
set_option linter.unusedSimpArgs false
set_option linter.unusedVariables false
set_option maxRecDepth 100000
open Go.RowKit
structure DS where
 laid : List Int
 ws : List (Nat × List Int)
 off : Bool
 fused : Bool
 left : Nat
def Buf.pair (f : Buf) : Nat × List Int := (f.at', f.xs)
def Dk (w : World) (F : Nat → Prop) (p : Nat) (S : DS) : Prop :=
 ∃ bl v bufs, DkAt w p bl v bufs S.laid S.off S.fused S.left ∧ bufs.map Buf.pair = S.ws ∧ ∀ k, Foot p bl v bufs k → F k
theorem Dk.keep {w w' : World} {F : Nat → Prop} {p : Nat} {S : DS} (h : Dk w F p S) (hk : ∀ k, F k → k < w.heap.size → w'.heap[k]? = w.heap[k]?) : Dk w' F p S := by
 obtain ⟨bl, v, bufs, hD, hw, hf⟩ := h
 exact ⟨bl, v, bufs, hD.keep (fun k hk' => hk k (hf k hk') (hD.foot_lt k hk')), hw, hf⟩
theorem Dk.stays {w w' : World} {F : Nat → Prop} {p : Nat} {S : DS} (h : Dk w F p S) (hb : Below w.heap.size w w') : Dk w' F p S := h.keep (fun k _ hk => hb.block k hk)
theorem Dk.mono {w : World} {F G : Nat → Prop} {p : Nat} {S : DS} (h : Dk w F p S) (hg : ∀ k, F k → k < w.heap.size → G k) : Dk w G p S := by
 obtain ⟨bl, v, bufs, hD, hw, hf⟩ := h
 exact ⟨bl, v, bufs, hD, hw, fun k hk => hg k (hf k hk) (hD.foot_lt k hk)⟩
theorem Dk.own {w : World} {F : Nat → Prop} {p : Nat} {S : DS} (h : Dk w F p S) : F p := by
 obtain ⟨bl, v, bufs, hD, hw, hf⟩ := h
 exact hf p (.inl rfl)
structure DS.Ok (S : DS) (n : Nat) : Prop where
 len : S.laid.length = 256 * n
 lo : 16 ≤ n
 hi : n ≤ 512
 rng : ∀ x ∈ S.laid, 0 ≤ x ∧ x ≤ 255
 ws : ∀ q ∈ S.ws, q.1 < n ∧ q.2.length = 256 ∧ ∀ x ∈ q.2, 0 ≤ x ∧ x ≤ 255
 left : S.left < 9223372036854775808
theorem Dk.ok {w : World} {F : Nat → Prop} {p : Nat} {S : DS} (h : Dk w F p S) : ∃ n, S.Ok n := by
 obtain ⟨bl, v, bufs, hD, hw, hf⟩ := h
 obtain ⟨n, hn, h1, h2⟩ := hD.siz
 refine ⟨n, hn, h1, h2, hD.rng, fun q hq => ?_, hD.lft⟩
 rw [← hw] at hq
 obtain ⟨f, hf', rfl⟩ := List.mem_map.1 hq
 obtain ⟨hb, _, hl⟩ := hD.buf f hf'
 exact ⟨by simp only [Buf.pair]; omega, hb.len, hb.bs.rng⟩
def DS.has (S : DS) (i : Int) : Prop := 0 ≤ i ∧ i < ((S.laid.length / 256 : Nat) : Int)
instance (S : DS) (i : Int) : Decidable (S.has i) := by unfold DS.has; exact inferInstance
def layW (laid : List Int) (ws : List (Nat × List Int)) (keep : Nat → Int) (i : Nat) : List Int := (List.range i).foldl (fun l k => layAt l (ws.getD k (0, [])).1 ((ws.getD k (0, [])).2.take (clamp (keep k)))) laid
theorem laidTo_layW (laid : List Int) (bufs : List Buf) (keep : Nat → Int) (i : Nat) : laidTo laid bufs keep i = layW laid (bufs.map Buf.pair) keep i := by
 unfold laidTo layW
 congr 1
 funext l k
 have h1 : (bufs.map Buf.pair).getD k (0, []) = (bufs.getD k noBuf).pair := by
  simp only [List.getD_eq_getElem?_getD, List.getElem?_map]
  cases bufs[k]? <;> rfl
 rw [h1]
 rfl
def readW (laid : List Int) (ws : List (Nat × List Int)) (s : Nat) : List Int := ((ws.reverse.find? fun q => q.1 == s).map (·.2)).getD (secOf laid s)
theorem readOf_readW (laid : List Int) (bufs : List Buf) (s : Nat) : readOf laid bufs s = readW laid (bufs.map Buf.pair) s := by
 unfold readOf readW
 rw [← List.map_reverse, List.find?_map]
 cases h : bufs.reverse.find? ((fun q => q.1 == s) ∘ Buf.pair) with
 | none =>
   have h2 : bufs.reverse.find? (fun f => f.at' == s) = none := h
   rw [h2]; rfl
 | some f =>
   have h2 : bufs.reverse.find? (fun f => f.at' == s) = some f := h
   rw [h2]; rfl
def DS.left' (S : DS) : Nat := if S.fused then S.left - 1 else S.left
def DS.dead (S : DS) : DS := { S with off := true }
def DS.write (S : DS) (i : Int) (xs : List Int) : DS × Int :=
 if S.off then (S, 8)
 else if ¬ (S.has i ∧ xs.length = 256) then (S, 1)
 else if may S.fused S.left then ({ S with ws := S.ws ++ [(i.toNat, xs)], left := S.left' }, 0)
 else (S.dead, 8)
def DS.flush (S : DS) : DS × Int :=
 if S.off then (S, 8)
 else if may S.fused S.left then ({ S with laid := layW S.laid S.ws (fun _ => 256) S.ws.length, ws := [], left := S.left' }, 0)
 else (S.dead, 8)
def DS.crash (S : DS) (ks : List Int) : DS := { laid := layW S.laid S.ws (fun k => ks.getD k 0) (min S.ws.length ks.length), ws := [], off := false, fused := false, left := 0 }
def DS.read (S : DS) (i : Int) : List Int × Int :=
 if S.off then ([], 8) else if ¬ S.has i then ([], 1) else (readW S.laid S.ws i.toNat, 0)
def DS.rot (S : DS) (i : Int) (ms : List Int) : DS × Int :=
 if ¬ (S.has i ∧ ms.length ≤ 256) then (S, 1) else ({ S with laid := xorTo S.laid i.toNat ms ms.length }, 0)
def DS.fuse (S : DS) (f : Int) : DS := { S with fused := true, left := (max f 0).toNat }
def Then (F : Nat → Prop) (w w' : World) (p : Nat) (S' : DS) : Prop := Dk w' (fun k => F k ∨ w.heap.size ≤ k) p S' ∧ Frm F w w'
theorem then_same {F : Nat → Prop} {w w' : World} {p : Nat} {S : DS} (h : Dk w F p S) (hb : Below w.heap.size w w') : Then F w w' p S :=
 ⟨(h.stays hb).mono (fun k hk _ => .inl hk), Frm.of_below hb⟩
theorem may_dead {fused : Bool} {left : Nat} (h : ¬ may fused left = true) : fused = true ∧ left = 0 := by
 unfold may at h
 cases fused <;> simp_all
section
variable {w : World} {F : Nat → Prop} {p : Nat} {S : DS}
theorem dk_write (h : Dk w F p S) (i : Int) (a : Option Addr) (c : Nat) (xs : List Int) (hB : Bs w a c xs) (hne : ∀ x, a = some x → ¬ F x.block) (hl : S.ws.length ≤ 1000000) :
 Calls Tryd.prog 144 #[.pointer (some ⟨p, 0, none⟩), .int .i64 i, .slice a xs.length c] w fun e w' => e = .returned (.int .i64 (S.write i xs).2) ∧ Then F w w' p (S.write i xs).1 := by
 have h0 := h
 obtain ⟨bl, v, bufs, hD, hw, hf⟩ := h
 obtain ⟨n, hok⟩ := h0.ok
 unfold DS.write
 by_cases h1 : S.off = true
 · rw [if_pos h1]
   rw [h1] at hD
   refine (write_off i _ w hD).mono ?_
   rintro e w' ⟨rfl, rfl⟩
   exact ⟨rfl, then_same h0 (Below.refl _ _)⟩
 · rw [if_neg h1]
   have hoff : S.off = false := by simpa using h1
   rw [hoff] at hD
   by_cases h2 : S.has i ∧ xs.length = 256
   · rw [if_neg (by simpa using h2)]
     obtain ⟨⟨hi0, hi1⟩, hx⟩ := h2
     rw [hx]
     by_cases h3 : may S.fused S.left = true
     · rw [if_pos h3]
       obtain ⟨s, rfl⟩ : ∃ s : Nat, i = (s : Int) := ⟨i.toNat, by omega⟩
       obtain ⟨ab, ao, rfl, hc⟩ := hB.cell (by omega)
       have hs : 256 * s + 256 ≤ S.laid.length := by have := hok.len; omega
       refine (write_done s ⟨ab, ao, none⟩ c xs w hD h3 hs hB hx (fun e => hne _ rfl ((show ab = p from e) ▸ hf p (.inl rfl))) (by rw [← hw] at hl; simpa using hl)).mono ?_
       rintro e w' ⟨rfl, v', f, hD', hfa, hfx, hfb, hv', hF⟩
       refine ⟨rfl, ⟨bl, v', bufs ++ [f], by simp only [hoff]; exact hD', ?_, ?_⟩, hF.mono ?_⟩
       · simp [hw, Buf.pair, hfa, hfx]
       · rintro k (rfl | rfl | e | ⟨g, hg, rfl⟩)
         · exact .inl (hf _ (.inl rfl))
         · exact .inl (hf _ (.inr (.inl rfl)))
         · rcases hv' k e with h | h
           · exact .inl (hf _ (.inr (.inr (.inl h))))
           · exact .inr h
         · rcases List.mem_append.1 hg with hg | hg
           · exact .inl (hf _ (.inr (.inr (.inr ⟨g, hg, rfl⟩))))
           · simp at hg; subst hg; exact .inr hfb
       · rintro k (rfl | e)
         · exact hf _ (.inl rfl)
         · exact hf _ (.inr (.inr (.inl e)))
     · rw [if_neg h3]
       obtain ⟨hfu, hle⟩ := may_dead h3
       rw [hfu, hle] at hD
       refine (write_blown i _ c w hD ⟨hi0, hi1⟩).mono ?_
       rintro e w' ⟨rfl, hD', hb⟩
       refine ⟨rfl, ⟨bl, v, bufs, by simp only [DS.dead, hfu, hle]; exact hD', hw, fun k hk => .inl (hf k hk)⟩, Frm.of_but hb (hf _ (.inl rfl))⟩
   · rw [if_pos (by simpa using h2)]
     refine (write_arg i a xs.length c w hD (by simpa [DS.has] using h2)).mono ?_
     rintro e w' ⟨rfl, rfl⟩
     exact ⟨rfl, then_same h0 (Below.refl _ _)⟩
theorem dk_flush (h : Dk w F p S) (hl : S.ws.length ≤ 1000000) :
 Calls Tryd.prog 34 #[.pointer (some ⟨p, 0, none⟩)] w fun e w' => e = .returned (.int .i64 S.flush.2) ∧ Then F w w' p S.flush.1 := by
 have h0 := h
 obtain ⟨bl, v, bufs, hD, hw, hf⟩ := h
 have hln : bufs.length = S.ws.length := by rw [← hw]; simp
 have htwo : ∀ k, Two p bl k → F k := by
  rintro k (rfl | rfl)
  · exact hf _ (.inl rfl)
  · exact hf _ (.inr (.inl rfl))
 unfold DS.flush
 by_cases h1 : S.off = true
 · rw [if_pos h1]
   rw [h1] at hD
   refine (flush_off w hD).mono ?_
   rintro e w' ⟨rfl, hb⟩
   exact ⟨rfl, then_same h0 hb⟩
 · rw [if_neg h1]
   have hoff : S.off = false := by simpa using h1
   rw [hoff] at hD
   by_cases h3 : may S.fused S.left = true
   · rw [if_pos h3]
     refine (flush_done w hD h3 (by omega)).mono ?_
     rintro e w' ⟨rfl, hD', hF⟩
     rw [laidTo_layW, hw, hln] at hD'
     refine ⟨rfl, ⟨bl, _, [], by simp only [hoff]; exact hD', rfl, ?_⟩, hF.mono htwo⟩
     rintro k (rfl | rfl | e | ⟨g, hg, rfl⟩)
     · exact .inl (hf _ (.inl rfl))
     · exact .inl (hf _ (.inr (.inl rfl)))
     · simp [Value.ownBlock] at e
     · simp at hg
   · rw [if_neg h3]
     obtain ⟨hfu, hle⟩ := may_dead h3
     rw [hfu, hle] at hD
     refine (flush_blown w hD).mono ?_
     rintro e w' ⟨rfl, hD', hF⟩
     exact ⟨rfl, ⟨bl, v, bufs, by simp only [DS.dead, hfu, hle]; exact hD', hw, fun k hk => .inl (hf k hk)⟩, hF.mono htwo⟩
theorem dk_crash (h : Dk w F p S) (hl : S.ws.length ≤ 1000000) (a : Option Addr) (c : Nat) (ks : List Int) (hK : Is w a ks) (hkl : ks.length ≤ 140737488351232) (hne : ks ≠ [] → ∀ x, a = some x → ¬ F x.block) :
 Calls Tryd.prog 57 #[.pointer (some ⟨p, 0, none⟩), .slice a ks.length c] w fun e w' => (∃ v, e = .returned v) ∧ Then F w w' p (S.crash ks) := by
 obtain ⟨bl, v, bufs, hD, hw, hf⟩ := h
 have hln : bufs.length = S.ws.length := by rw [← hw]; simp
 have htwo : ∀ k, Two p bl k → F k := by
  rintro k (rfl | rfl)
  · exact hf _ (.inl rfl)
  · exact hf _ (.inr (.inl rfl))
 refine (crash_run w a c ks hD (by omega) hK hkl (fun h0 x hx ht => hne h0 x hx (htwo _ ht))).mono ?_
 rintro e w' ⟨he, hD', hF⟩
 rw [laidTo_layW, hw, hln] at hD'
 refine ⟨he, ⟨bl, _, [], hD', rfl, ?_⟩, hF.mono htwo⟩
 rintro k (rfl | rfl | e | ⟨g, hg, rfl⟩)
 · exact .inl (hf _ (.inl rfl))
 · exact .inl (hf _ (.inr (.inl rfl)))
 · simp [Value.ownBlock] at e
 · simp at hg
def Out (base : Nat) (w : World) (v : Value) (xs : List Int) : Prop := w.ownsRow base 5 1 v xs.length (xs.map (Value.int .u8))
theorem readW_ok {n : Nat} (hok : S.Ok n) {s : Nat} (hs : s < n) : (readW S.laid S.ws s).length = 256 ∧ ∀ x ∈ readW S.laid S.ws s, 0 ≤ x ∧ x ≤ 255 := by
 unfold readW
 cases h : S.ws.reverse.find? (fun q => q.1 == s) with
 | none =>
   refine ⟨secOf_length (by have := hok.len; omega), fun x hx => hok.rng x (List.mem_of_mem_drop (List.mem_of_mem_take hx))⟩
 | some q =>
   have hq : q ∈ S.ws := by simpa using List.mem_of_find?_eq_some h
   exact ⟨(hok.ws q hq).2.1, (hok.ws q hq).2.2⟩
theorem dk_read (h : Dk w F p S) (hl : S.ws.length ≤ 1000000) (i : Int) :
 Calls Tryd.prog 142 #[.pointer (some ⟨p, 0, none⟩), .int .i64 i] w fun e w' => ∃ a c, e = .returned (.tuple #[.slice a (S.read i).1.length c, .int .i64 (S.read i).2]) ∧ Out w.heap.size w' (.slice a (S.read i).1.length c) (S.read i).1 ∧ Below w.heap.size w w' := by
 have h0 := h
 obtain ⟨bl, v, bufs, hD, hw, hf⟩ := h
 have hln : bufs.length = S.ws.length := by rw [← hw]; simp
 obtain ⟨n, hok⟩ := h0.ok
 unfold DS.read
 by_cases h1 : S.off = true
 · rw [if_pos h1]
   rw [h1] at hD
   refine (read_off i w hD).mono ?_
   rintro e w' ⟨rfl, hb⟩
   exact ⟨none, 0, rfl, World.ownsRow_nil _ _ _ _, hb⟩
 · rw [if_neg h1]
   have hoff : S.off = false := by simpa using h1
   rw [hoff] at hD
   by_cases h2 : S.has i
   · rw [if_neg (by simpa using h2)]
     obtain ⟨hi0, hi1⟩ := h2
     obtain ⟨s, rfl⟩ : ∃ s : Nat, i = (s : Int) := ⟨i.toNat, by omega⟩
     have hln2 := hok.len
     have hr := readW_ok hok (s := s) (by omega)
     refine (read_done s w hD (by omega) (by omega)).mono ?_
     rintro e w' ⟨g, cap, rfl, hown, hb⟩
     rw [readOf_readW, hw] at hown
     simp only [Int.toNat_natCast]
     unfold Out
     rw [hr.1]
     exact ⟨_, _, rfl, hown, hb⟩
   · rw [if_pos (by simpa using h2)]
     refine (read_arg i w hD h2).mono ?_
     rintro e w' ⟨rfl, hb⟩
     exact ⟨none, 0, rfl, World.ownsRow_nil _ _ _ _, hb⟩
theorem dk_rot (h : Dk w F p S) (i : Int) (a : Option Addr) (c : Nat) (ms : List Int) (hB : Bs w a c ms) (hm : ms.length ≤ 140737488351232) (hne : ms ≠ [] → ∀ x, a = some x → ¬ F x.block) :
 Calls Tryd.prog 35 #[.pointer (some ⟨p, 0, none⟩), .int .i64 i, .slice a ms.length c] w fun e w' => e = .returned (.int .i64 (S.rot i ms).2) ∧ Then F w w' p (S.rot i ms).1 := by
 have h0 := h
 obtain ⟨bl, v, bufs, hD, hw, hf⟩ := h
 obtain ⟨n, hok⟩ := h0.ok
 have hbl : F bl := hf _ (.inr (.inl rfl))
 unfold DS.rot
 by_cases h2 : S.has i ∧ ms.length ≤ 256
 · rw [if_neg (by simpa using h2)]
   obtain ⟨⟨hi0, hi1⟩, hx⟩ := h2
   obtain ⟨s, rfl⟩ : ∃ s : Nat, i = (s : Int) := ⟨i.toNat, by omega⟩
   have hln2 := hok.len
   refine (rot_run s a c ms w hD (by omega) hB hx (fun h0 x hx e => hne h0 x hx (e ▸ hbl))).mono ?_
   rintro e w' ⟨rfl, hD', hb⟩
   exact ⟨rfl, ⟨bl, v, bufs, by simpa using hD', hw, fun k hk => .inl (hf k hk)⟩, Frm.of_but hb hbl⟩
 · rw [if_pos (by simpa using h2)]
   refine (rot_arg i a ms.length c w hD hm (by simpa [DS.has] using h2)).mono ?_
   rintro e w' ⟨rfl, rfl⟩
   exact ⟨rfl, then_same h0 (Below.refl _ _)⟩
theorem dk_fuse (h : Dk w F p S) (f : Int) (hf' : f ≤ 9223372036854775807) :
 Calls Tryd.prog 56 #[.pointer (some ⟨p, 0, none⟩), .int .i64 f] w fun e w' => (∃ v, e = .returned v) ∧ Then F w w' p (S.fuse f) := by
 obtain ⟨bl, v, bufs, hD, hw, hf⟩ := h
 refine (fuse_run f w hD hf').mono ?_
 rintro e w' ⟨he, hD', hb⟩
 exact ⟨he, ⟨bl, v, bufs, hD', hw, fun k hk => .inl (hf k hk)⟩, Frm.of_but hb (hf _ (.inl rfl))⟩
theorem dk_dump (h : Dk w F p S) :
 Calls Tryd.prog 14 #[.pointer (some ⟨p, 0, none⟩)] w fun e w' => ∃ a c, e = .returned (.slice a S.laid.length c) ∧ Out w.heap.size w' (.slice a S.laid.length c) S.laid ∧ Below w.heap.size w w' := by
 obtain ⟨bl, v, bufs, hD, hw, hf⟩ := h
 refine (dump_run w hD).mono ?_
 rintro e w' ⟨g, cap, rfl, hown, hb⟩
 exact ⟨_, _, rfl, hown, hb⟩
theorem dk_waits (h : Dk w F p S) : Calls Tryd.prog 16 #[.pointer (some ⟨p, 0, none⟩)] w fun e w' => e = .returned (.int .i64 (S.ws.length : Int)) ∧ w' = w := by
 obtain ⟨bl, v, bufs, hD, hw, hf⟩ := h
 rw [← hw, List.length_map]
 exact waits_run w hD
theorem dk_len (h : Dk w F p S) : Calls Tryd.prog 135 #[.pointer (some ⟨p, 0, none⟩)] w fun e w' => e = .returned (.int .i64 ((S.laid.length / 256 : Nat) : Int)) ∧ w' = w := by
 obtain ⟨bl, v, bufs, hD, hw, hf⟩ := h
 exact len_run w hD
end
def DS.new (n : Nat) : DS := ⟨List.replicate (256 * n) 0, [], false, false, 0⟩
theorem dk_new (n : Nat) (w : World) (hn1 : 16 ≤ n) (hn2 : n ≤ 512) :
 Calls Tryd.prog 45 #[.int .i64 (n : Int)] w fun e w' => ∃ p, e = .returned (.tuple #[.pointer (some ⟨p, 0, none⟩), .int .i64 0]) ∧ Dk w' (fun k => w.heap.size ≤ k) p (DS.new n) ∧ Below w.heap.size w w' := by
 refine (dnew_run n w hn1 hn2).mono ?_
 rintro e w' ⟨p, rfl, bl, hD, hp, hbl, hb⟩
 refine ⟨p, rfl, ⟨bl, _, [], hD, rfl, ?_⟩, hb⟩
 rintro k (rfl | rfl | e | ⟨g, hg, rfl⟩)
 · exact hp
 · exact hbl
 · simp [Value.ownBlock] at e
 · simp at hg
end Go.Proofs.YthbldjnpnligpaaDoor
