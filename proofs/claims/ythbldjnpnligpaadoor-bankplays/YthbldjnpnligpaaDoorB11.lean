/-
 General laws: whole values built, boxed, laid, loaded and stored; calls in regions that draw; what holds behind a region.
-/
import Derived.Test.YthbldjnpnligpaaDoorB07
import Derived.Test.YthbldjnpnligpaaDoorB10
import Derived.Test.YthbldjnpnligpaaDoorB05
import Derived.StillTailTactics
import Derived.Deep.RegionLaw
namespace Go.Proofs.YthbldjnpnligpaaDoor
set_option linter.unusedSimpArgs false
set_option linter.unusedVariables false
set_option maxRecDepth 100000
open Go.RowKit
theorem wpList_build {P : Program} {w : World} {ops : Array Oper} {rest : List Oper} {o : Oper} {a : Act} {Q : Exit → Act → World → Prop} (hw : Region.wanted o (yielded ops a.tmps) = true) (t : TypeId) (ps : List (Nat × Operand)) (ho : o.op = Op.build t ps.toArray) (qs : List (Nat × Value)) (hq : ps.map (fun q => (q.1, a.eval q.2)) = qs) (V : Value) (hr : ∀ w, (Instr.build t qs.toArray).run P w = .ok V w)
 (h : wpList P ops Q rest (a.put o.dst V) w) : wpList P ops Q (o :: rest) a w := by
 refine wpList_step fun K hK => ?_
 rw [if_pos hw]
 have e : ps.toArray.map (fun (i, x) => (i, a.eval x)) = qs.toArray := by rw [List.map_toArray, ← hq]
 unfold Oper.wp execOp
 simp only [ho, Sem.run_bind, Sem.run_pure, Result.andThen_ok, e, hr]
 exact hK _ _ h
theorem exec_load {P : Program} {a : Act} {o : Oper} {w : World} {t : TypeId} {x : Operand} {p : Addr} {v : Value} (ho : o.op = Op.load t x) (hx : a.eval x = .pointer (some p)) (hr : (Instr.loadAt t (.pointer (some p))).run P w = .ok v w) :
 (execOp a.eval o).run P w = .ok (.value v) w := by
 unfold execOp
 simp only [ho, hx, Sem.run_bind, Sem.run_pure, Result.andThen_ok, hr]
def midQ (Mid : Act → World → Prop) : Exit → Act → World → Prop
 | .normal, a, w => Mid a w
 | _, _, _ => False
theorem wp_mid {P : Program} {c : Code} {Q : Exit → Act → World → Prop} {a : Act} {w : World} (Mid : Act → Act → World → Prop) (h : c.wp P (midQ (Mid a)) a w) (hq : ∀ a' w', Mid a a' w' → Q .normal a' w') : c.wp P Q a w :=
 Code.wp_mono (fun e a' w' hh => by
  cases e with
  | normal => exact hq a' w' hh
  | _ => exact False.elim hh) h
theorem index_slice {P : Program} (t e : TypeId) (m : Nat) (ht : P.underlying t = some (.slice e)) (hs : (P.info? e).map (·.size) = some m) (he : P.elem t = e) (b off n c : Nat) (K : IntKind) (k : Nat) (hk : k < n) (w : World) :
 (Instr.indexAt t (.slice (some ⟨b, off, none⟩) n c) (.int K (k : Int))).run P w = .ok (.pointer (some ⟨b, off + k * m, none⟩)) w := by
 have hz := sizeOf_run hs w
 have hb : (0 : Int) ≤ (k : Int) ∧ (k : Int) < (n : Int) := by omega
 have hadd : (⟨b, off, none⟩ : Addr).add (k * m) = ⟨b, off + k * m, none⟩ := by unfold Addr.add; split <;> simp_all
 simp [Instr.indexAt, asIntOf, run_underlying ht, hz, hb, hadd, Sem.run_bind, Instr.sureAddr]
 omega
end Go.Proofs.YthbldjnpnligpaaDoor

/-
 Package space: a map in memory, its bits read and set.
-/

namespace Go.Proofs.YthbldjnpnligpaaDoor
set_option linter.unusedSimpArgs false
set_option linter.unusedVariables false
set_option maxRecDepth 100000
open Go.RowKit
def wordsV (l : List Bool) : List Value := (List.range 8).map (fun k => .int .u64 ((W l k : Nat) : Int))
def mapV (l : List Bool) : List Value := .int .i64 ((l.length : Nat) : Int) :: wordsV l
theorem wordsV_len (l : List Bool) : (wordsV l).length = 8 := by simp [wordsV]
theorem mapV_len (l : List Bool) : (mapV l).length = 9 := by simp [mapV, wordsV_len]
theorem wordsV_at (l : List Bool) (k : Nat) (hk : k < 8) : (wordsV l)[k]? = some (.int .u64 ((W l k : Nat) : Int)) := by
 simp [wordsV, hk]
theorem words_set (l : List Bool) (i : Nat) (b : Bool) (hi : i < l.length) (hl : l.length ≤ 512) : (wordsV l).set (i / 64) (.int .u64 ((W (l.set i b) (i / 64) : Nat) : Int)) = wordsV (l.set i b) := by
 refine List.ext_getElem? fun k => ?_
 rw [List.getElem?_set]
 by_cases hk : k < 8
 · rw [wordsV_at l k hk, wordsV_at (l.set i b) k hk]
   split
   · next h => rw [wordsV_len, if_pos (by omega), h]
   · next h =>
     cases b
     · rw [W_free l i k hi, if_neg (by omega)]
     · rw [W_use l i k hi, if_neg (by omega)]
 · rw [if_neg (by omega), List.getElem?_eq_none (by rw [wordsV_len]; omega), List.getElem?_eq_none (by rw [wordsV_len]; omega)]
theorem map_set (l : List Bool) (i : Nat) (b : Bool) (hi : i < l.length) (hl : l.length ≤ 512) : (mapV l).set (1 + i / 64) (.int .u64 ((W (l.set i b) (i / 64) : Nat) : Int)) = mapV (l.set i b) := by
 rw [mapV, Nat.add_comm, List.set_cons_succ, words_set l i b hi hl, mapV, List.length_set]
structure Mp (w : World) (g : Nat) (l : List Bool) : Prop where
 blk : Blk 136 w g (mapV l)
 lo : 16 ≤ l.length
 hi : l.length ≤ 512
theorem Mp.stays {w w' : World} {g : Nat} {l : List Bool} (h : Mp w g l) (hb : Below w.heap.size w w') : Mp w' g l := ⟨h.blk.stays hb, h.lo, h.hi⟩
theorem Mp.len {w : World} {g : Nat} {l : List Bool} (h : Mp w g l) : w.cell? ⟨g, 0, none⟩ = some (.int .i64 ((l.length : Nat) : Int)) := h.blk.cell 0
theorem Mp.word {w : World} {g : Nat} {l : List Bool} (h : Mp w g l) (k : Nat) (hk : k < 8) : w.cell? ⟨g, 1 + k, none⟩ = some (.int .u64 ((W l k : Nat) : Int)) := by
 have hb := h.blk
 unfold Blk at hb
 unfold World.cell?
 simp only [hb]
 have := wordsV_at l k hk
 simp only [mapV, Nat.add_comm 1 k, List.getElem?_toArray, List.getElem?_cons_succ]
 exact this
section
variable {g : Nat} {l : List Bool}
theorem slen_run (w : World) (h : Mp w g l) : Calls Tryd.prog 165 #[.pointer (some ⟨g, 0, none⟩)] w fun e w' => e = .returned (.int .i64 ((l.length : Nat) : Int)) ∧ w' = w := by
 have h0 := h.len
 go_enter Tryd.func165, Tryd.ntmps165
 go_wp2
 go_ret
 exact ⟨rfl, rfl⟩
theorem shas_run (i : Nat) (hi : i < 4294967296) (w : World) (h : Mp w g l) : Calls Tryd.prog 141 #[.pointer (some ⟨g, 0, none⟩), .int .u32 (i : Int)] w fun e w' => e = .returned (.bool (decide (i < l.length))) ∧ w' = w := by
 have h1 := h.hi
 go_enter Tryd.func141, Tryd.ntmps141
 go_wp2_with (go_at_call 165; refine (slen_run _ h).mono ?_; rintro e w' ⟨rfl, rfl⟩)
 go_ret
 refine ⟨?_, rfl⟩
 simp
theorem used_word (l : List Bool) (i : Nat) : (bits .and .u64 ((W l (i / 64) : Nat) : Int) (2 ^ (i % 64)) != 0) = l.getD i false := by
 have hp : 2 ^ (i % 64) < 18446744073709551616 := Nat.lt_of_lt_of_le (Nat.pow_lt_pow_right (by decide) (show i % 64 < 64 by omega)) (by decide)
 have h := u64_and_nat (W l (i / 64)) (2 ^ (i % 64)) (W_lt _ _) hp
 rw [Int.natCast_pow, show ((2 : Nat) : Int) = 2 from rfl] at h
 rw [h, W_used]
 have h0 : 0 < 2 ^ (i % 64) := Nat.two_pow_pos _
 cases l.getD i false
 · rfl
 · simp only [if_true]
   rw [bne_iff_ne]
   omega
theorem used_drew (i : Nat) (w : World) (h : Mp w g l) (ho : i < l.length) : Calls Tryd.prog 143 #[.pointer (some ⟨g, 0, none⟩), .int .i64 (i : Int)] w fun e w' => e = .returned (.bool (l.getD i false)) ∧ ∃ m, w' = w.drewN m := by
 have h1 := h.hi
 have hw := h.word (i / 64) (by omega)
 have hb := fun u => bit_run i (by omega) u
 have hlt := W_lt l (i / 64)
 have hu := used_word l i
 go_enter Tryd.func143, Tryd.ntmps143
 go_wp2_with (go_at_call 165; refine (slen_run _ h).mono ?_; rintro e w' ⟨rfl, rfl⟩)
 go_quiet (first | (go_at_call 146; refine Calls.quiet_of_same (hb _)))
 go_wp2
 go_ret
 refine ⟨?_, _, rfl⟩
 simp [ho]
theorem below_drewW (w : World) (m : Nat) : Below w.heap.size w (w.drewN m) := ⟨rfl, rfl, rfl, Nat.le_refl _, fun _ _ => rfl⟩
theorem Mp.drewN {w : World} (h : Mp w g l) (m : Nat) : Mp (w.drewN m) g l := h.stays (below_drewW w m)
theorem used_in (i : Nat) (w : World) (h : Mp w g l) (ho : i < l.length) : Calls Tryd.prog 143 #[.pointer (some ⟨g, 0, none⟩), .int .i64 (i : Int)] w fun e w' => e = .returned (.bool (l.getD i false)) ∧ Below w.heap.size w w' :=
 (used_drew i w h ho).mono fun e w' ⟨h1, m, h2⟩ => ⟨h1, h2 ▸ below_drewW w m⟩
theorem or_word (l : List Bool) (i : Nat) (hi : i < l.length) : bits .or .u64 ((W l (i / 64) : Nat) : Int) (2 ^ (i % 64)) = ((W (l.set i true) (i / 64) : Nat) : Int) := by
 have hp : 2 ^ (i % 64) < 18446744073709551616 := Nat.lt_of_lt_of_le (Nat.pow_lt_pow_right (by decide) (show i % 64 < 64 by omega)) (by decide)
 have h := u64_or_nat (W l (i / 64)) (2 ^ (i % 64)) (W_lt _ _) hp
 rw [Int.natCast_pow, show ((2 : Nat) : Int) = 2 from rfl] at h
 rw [h, W_use l i _ hi, if_pos rfl]
theorem clr_word (l : List Bool) (i : Nat) (hi : i < l.length) : bits .andNot .u64 ((W l (i / 64) : Nat) : Int) (2 ^ (i % 64)) = ((W (l.set i false) (i / 64) : Nat) : Int) := by
 have hp : 2 ^ (i % 64) < 18446744073709551616 := Nat.lt_of_lt_of_le (Nat.pow_lt_pow_right (by decide) (show i % 64 < 64 by omega)) (by decide)
 have h := u64_andNot_nat (W l (i / 64)) (2 ^ (i % 64)) (W_lt _ _) hp
 rw [Int.natCast_pow, show ((2 : Nat) : Int) = 2 from rfl] at h
 rw [h, W_free l i _ hi, if_pos rfl]
theorem Mp.put {w : World} (h : Mp w g l) (i : Nat) (b : Bool) (hi : i < l.length) : Mp (w.setCell ⟨g, 1 + i / 64, none⟩ (.int .u64 ((W (l.set i b) (i / 64) : Nat) : Int))) g (l.set i b) := by
 have := h.blk.set (1 + i / 64) (.int .u64 ((W (l.set i b) (i / 64) : Nat) : Int))
 rw [map_set l i b hi h.hi] at this
 exact ⟨this, by simpa using h.lo, by simpa using h.hi⟩
theorem use_run (i : Nat) (w : World) (h : Mp w g l) (ho : i < l.length) : Calls Tryd.prog 140 #[.pointer (some ⟨g, 0, none⟩), .int .i64 (i : Int)] w fun e w' => e = .returned (.tuple #[]) ∧ Mp w' g (l.set i true) ∧ But g w w' ∧ w'.heap.size = w.heap.size := by
 have h1 := h.hi
 have hw := h.word (i / 64) (by omega)
 have hfr := h.blk.free (1 + i / 64)
 have hb := fun u => bit_run i (by omega) u
 have hlt := W_lt l (i / 64)
 have hor := or_word l i ho
 have HM : ∀ u : World, Mp u g l → Hid (Mp (u.setCell ⟨g, 1 + i / 64, none⟩ (.int .u64 ((W (l.set i true) (i / 64) : Nat) : Int))) g (l.set i true)) := fun u hu => hu.put i true ho
 have hq0 : (0 : Int) ≤ (i : Int) / 64 := by omega
 have hq1 : (i : Int) / 64 < 8 := by omega
 have hq2 : ((i : Int) / 64).toNat = i / 64 := by omega
 have hwr : IntKind.i64.wrap ((i : Int) / 64) = (i : Int) / 64 := by simp [IntKind.wrap, IntKind.bits, IntKind.signed]; omega
 go_enter Tryd.func140, Tryd.ntmps140
 go_region_law (refine step_call rfl 146 #[.int .i64 (i : Int)] (by go_simp) (hb _) ?_; rintro e w' ⟨rfl, rfl⟩; refine ⟨_, rfl, ?_⟩)
 all_goals go_end0
 all_goals exact ⟨rfl, ⟨(h.put i true ho).blk, (h.put i true ho).lo, (h.put i true ho).hi⟩, ((But.refl g w).setCell _ _).drew, by simp [World.setCell, World.drew]⟩
end
end Go.Proofs.YthbldjnpnligpaaDoor

/-
 Package space: Free, Bytes, Copy.
-/

namespace Go.Proofs.YthbldjnpnligpaaDoor
set_option linter.unusedSimpArgs false
set_option linter.unusedVariables false
set_option maxRecDepth 100000
open Go.RowKit
theorem ssizes5 : (Tryd.prog.info? 5).map (·.size) = some 1 := by kernel_rfl
theorem selem5 : Tryd.prog.elem 43 = 5 := by kernel_rfl
theorem ssize_u8 (w : World) : (sizeOf 5).run Tryd.prog w = .ok 1 w := sizeOf_run ssizes5 w
theorem sizes64 : (Tryd.prog.info? 84).map (·.size) = some 1 := by kernel_rfl
theorem agg_words (w : World) : (isAgg 134).run Tryd.prog w = .ok true w := isAgg_array Tryd.underlying134 w
theorem size_words (w : World) : (sizeOf 134).run Tryd.prog w = .ok 8 w := sizeOf_run (by kernel_rfl) w
theorem map_words (l : List Bool) : wordsV l = ((mapV l).drop 1).take 8 := by
 rw [mapV, List.drop_one, List.tail_cons, List.take_of_length_le (by rw [wordsV_len]; omega)]
section
variable {g : Nat} {l : List Bool}
theorem free_run (w : World) (h : Mp w g l) : Calls Tryd.prog 30 #[.pointer (some ⟨g, 0, none⟩)] w fun e w' => e = .returned (.int .i64 ((freeN l : Nat) : Int)) ∧ w' = w := by
 have h0 := h.len
 have h1 := h.hi
 obtain ⟨ws, hws⟩ : ∃ ws, ws = wordsV l := ⟨_, rfl⟩
 have hwl : ws.length = 8 := by rw [hws]; exact wordsV_len l
 have HW : Hid (ws = ((mapV l).drop 1).take 8) := by rw [hws]; exact map_words l
 have HWA : Hid (∀ k, k < 8 → ws.toArray[k]? = some (.int .u64 ((W l k : Nat) : Int))) := fun k hk => by rw [hws, List.getElem?_toArray]; exact wordsV_at l k hk
 have HFR : Hid ((l.length : Int) - (pop (64 * 8) (pack l) : Nat) = (freeN l : Nat)) := free_eq l h1
 have hbl := h.blk
 obtain ⟨F, hF⟩ : ∃ F, F = freeN l := ⟨_, rfl⟩
 obtain ⟨pc, hpc⟩ : ∃ pc : Nat → Nat, pc = fun k => pop (64 * k) (pack l) := ⟨_, rfl⟩
 have HPC : Hid (∀ k, pc (k + 1) = pc k + pop 64 (W l k)) := fun k => by rw [hpc]; exact pop_next l k
 have HPL : Hid (∀ k, pc k ≤ l.length) := fun k => by rw [hpc]; exact pop_len l _
 have HP0 : Hid (pc 0 = 0) := by rw [hpc]; rfl
 have HP8 : Hid ((l.length : Int) - (pc 8 : Nat) = F) := by rw [hpc, hF]; exact HFR.out
 rw [← hF]
 clear hws hF hpc HFR
 go_enter Tryd.func30, Tryd.ntmps30
 go_wp2_with (refine wpList_load_blk (by rfl) (.tmp 14) 134 (by rfl) g 1 8 (by rfl) agg_words size_words hbl ws HW.out hwl ?_)
 go_loopw [3, 16] (fun v i wr => ∃ k : Nat, k ≤ 8 ∧ i = .int .i64 k ∧ v = .int .i64 ((l.length : Int) - (pc k : Nat)) ∧ wr = w) (fun _ i _ => 8 - (intOf i).toNat)
 case atStart => exact ⟨0, by omega, rfl, by rw [HP0.out]; simp, rfl⟩
 case round =>
  rename_i hrel
  obtain ⟨k, hk, rfl, rfl, rfl⟩ := hrel
  have b1 := HPL.out k
  by_cases hlt : k < 8
  · have hix : ∀ u : World, (Instr.index 134 (.agg ws.toArray) (.int .i64 (k : Int))).run Tryd.prog u = .ok (.int .u64 ((W l k : Nat) : Int)) u := fun u => index_agg Tryd.underlying134 Tryd.underlying84 sizes64 hlt (HWA.out k hlt) .i64 u
    obtain ⟨x, hx⟩ : ∃ x, x = W l k := ⟨_, rfl⟩
    obtain ⟨y, hy⟩ : ∃ y, y = pop 64 x := ⟨_, rfl⟩
    have hxl : x < 18446744073709551616 := by rw [hx]; exact W_lt l k
    have HON : Hid (∀ u : World, Calls Tryd.prog 77 #[.int .u64 (x : Int)] u fun e w' => e = .returned (.int .i64 (y : Int)) ∧ w' = u) := fun u => by rw [hy]; exact ones_run x hxl u
    have HY : Hid (pc (k + 1) = pc k + y) := by show _ = _; rw [hy, hx]; exact HPC.out k
    have b2 : pc k + y ≤ l.length := by rw [← HY.out]; exact HPL.out (k + 1)
    rw [← hx] at hix
    clear hx hy
    obtain ⟨p, hp⟩ : ∃ p, p = pc k := ⟨_, rfl⟩
    rw [← hp] at b1 b2 ⊢
    have HP : Hid (p = pc k) := hp
    clear hp
    go_wp2_with (go_at_call 77; refine (HON.out _).mono ?_; rintro e w' ⟨rfl, rfl⟩)
    go_roundw
    case rel => exact ⟨k + 1, by omega, by go_num, by rw [HY.out, ← HP.out]; go_num, trivial⟩
    case measure => simp [intOf]; omega
  · have hk8 : k = 8 := by omega
    subst hk8
    rw [HP8.out]
    go_wp2
    go_ret
    exact ⟨rfl, rfl⟩
def bytesM (l : List Bool) : List Int := (List.range 64).map (fun k => ((Bt l k : Nat) : Int))
theorem bytesL_len (l : List Bool) : (bytesM l).length = 64 := by simp [bytesM]
theorem bytesL_rng (l : List Bool) : ∀ x ∈ bytesM l, 0 ≤ x ∧ x ≤ 255 := by
 intro x hx
 simp only [bytesM, List.mem_map] at hx
 obtain ⟨k, _, rfl⟩ := hx
 have := Bt_lt l k
 omega
theorem bytesL_at (l : List Bool) (k : Nat) (hk : k < 64) : (bytesM l).getD k 0 = ((Bt l k : Nat) : Int) := by
 simp [bytesM, List.getD, hk]
def bytesK (l : List Bool) (k : Nat) : List Int := (bytesM l).take k ++ List.replicate (64 - k) 0
theorem bytesK_len (l : List Bool) (k : Nat) (hk : k ≤ 64) : (bytesK l k).length = 64 := by simp [bytesK, bytesL_len]; omega
theorem bytesK_0 (l : List Bool) : bytesK l 0 = List.replicate 64 0 := by simp [bytesK]
theorem bytesK_64 (l : List Bool) : bytesK l 64 = bytesM l := by simp [bytesK, List.take_of_length_le, bytesL_len]
theorem bytesK_next (l : List Bool) (k : Nat) (hk : k < 64) : (bytesK l k).set k ((Bt l k : Nat) : Int) = bytesK l (k + 1) := by
 have hl : ((bytesM l).take k).length = k := by simp [bytesL_len]; omega
 unfold bytesK
 rw [List.set_append_right _ _ (by omega), hl, Nat.sub_self, show 64 - k = (64 - (k + 1)) + 1 by omega, List.replicate_succ, List.set_cons_zero]
 have hg := bytesL_at l k hk
 have ht : (bytesM l).take (k + 1) = (bytesM l).take k ++ [((Bt l k : Nat) : Int)] := by
  rw [List.take_succ_eq_append_getElem (by rw [bytesL_len]; omega)]
  congr 2
  rw [← hg, List.getD_eq_getElem?_getD, List.getElem?_eq_getElem (by rw [bytesL_len]; omega)]
  rfl
 rw [ht, List.append_assoc]
 rfl
theorem bytes_word (l : List Bool) (k : Nat) : ((W l (k * 8 / 64) : Nat) : Int) / 2 ^ (k * 8 % 64) % 256 = ((Bt l k : Nat) : Int) := by
 rw [← Bt_W l k, Int.natCast_emod, Int.natCast_ediv, Int.natCast_pow]; rfl
theorem bytes_run (w : World) (h : Mp w g l) : Calls Tryd.prog 18 #[.pointer (some ⟨g, 0, none⟩)] w fun e w' => e = .returned (.slice (some ⟨w.heap.size, 0, none⟩) 64 64) ∧ Row 5 w' w.heap.size (bytesM l) ∧ Below w.heap.size w w' := by
 have hi0 : (Tryd.prog.info? 5).map (fun i => (i.zero, i.size, i.bytes)) = some (some (.int .u8 0), 1, 1) := by kernel_rfl
 obtain ⟨ti, ht0, ht1, ht2, ht3⟩ := info_parts hi0
 have HM : Hid (∀ u, Below w.heap.size w u → Mp u g l) := fun u hu => h.stays hu
 have hgl := h.blk.lt
 have HI : Hid (bytesK l 0 = List.replicate 64 0) := bytesK_0 l
 have H64 : Hid (bytesK l 64 = bytesM l) := bytesK_64 l
 clear hi0 h
 go_enter Tryd.func18, Tryd.ntmps18
 go_wp2_with (refine wpList_make_bytes (by rfl) (.const (.int .i64 64)) (.const (.int .i64 64)) 43 (by rfl) w.heap.size 5 ti Tryd.underlying43 ht0 ht1 ht2 ht3 .i64 .i64 64 64 64 (by rfl) (by rfl) rfl rfl (by decide) (Nat.le_refl _) (Below.refl _ w) ?_; intro w1 hR1 hb1)
 go_loopw [10] (fun i wr => ∃ k : Nat, k ≤ 64 ∧ i = .int .i64 k ∧ Blk 5 wr w.heap.size ((bytesK l k).map (Value.int .u8)) ∧ Below w.heap.size w wr) (fun i _ => 64 - (intOf i).toNat)
 case atStart => exact ⟨0, by omega, rfl, by rw [HI.out]; exact hR1, hb1⟩
 case round =>
  rename_i hrel
  obtain ⟨k, hk, rfl, hR, hbr⟩ := hrel
  clear hR1 hb1
  by_cases hlt : k < 64
  · have hw := (HM.out wr hbr).word (k * 8 / 64) (by omega)
    have hby := bytes_word l k
    obtain ⟨x, hx⟩ : ∃ x, x = W l (k * 8 / 64) := ⟨_, rfl⟩
    obtain ⟨y, hy⟩ : ∃ y, y = Bt l k := ⟨_, rfl⟩
    have hxl : x < 18446744073709551616 := by rw [hx]; exact W_lt _ _
    have HS : Hid ((bytesK l k).set k (y : Int) = bytesK l (k + 1)) := by show _ = _; rw [hy]; exact bytesK_next l k hlt
    have hrl : (bytesK l k).length = 64 := bytesK_len l k hk
    rw [← hx, ← hy] at hby
    rw [← hx] at hw
    clear hx hy
    obtain ⟨cur, hcur⟩ : ∃ cur, cur = bytesK l k := ⟨_, rfl⟩
    rw [← hcur] at hR HS hrl
    clear hcur
    have hix : ∀ u : World, (Instr.indexAt 43 (.slice (some ⟨w.heap.size, 0, none⟩) 64 64) (.int .i64 k)).run Tryd.prog u = .ok (.pointer (some ⟨w.heap.size, k, none⟩)) u := fun u => by
        have := index_run 43 5 Tryd.underlying43 ssizes5 selem5 w.heap.size 0 64 64 .i64 k (by omega) u
        rwa [Nat.zero_add] at this
    have hcl : k < (cur.map (Value.int .u8)).length := by rw [List.length_map]; omega
    clear hrl
    go_wp2_with (refine wpList_store_int (by rfl) (.tmp 28) (.tmp 27) 5 (by rfl) w.heap.size k (by rfl) .u8 _ (by rfl) ssize_u8 hR hcl ?_; intro w2 hR2 hbut2 hs2; rw [hby] at hR2)
    have hR3 : Blk 5 w2 w.heap.size ((bytesK l (k + 1)).map (Value.int .u8)) := by
        rw [← HS.out, List.map_set]; exact hR2
    go_roundw
    case rel => exact ⟨k + 1, by omega, by go_num, hR3, hbr.trans (hbut2.below (Nat.le_refl _) hbr.size)⟩
    case measure => simp [intOf]; omega
  · have hk64 : k = 64 := by omega
    subst hk64
    rw [H64.out] at hR
    go_wp2
    go_ret
    exact ⟨rfl, hR, hbr⟩
theorem Mp.copy {w w' : World} {q : Nat} (h : Mp w g l) (hq : Blk 136 w' q (mapV l)) : Mp w' q l := ⟨hq, h.lo, h.hi⟩
end
end Go.Proofs.YthbldjnpnligpaaDoor
