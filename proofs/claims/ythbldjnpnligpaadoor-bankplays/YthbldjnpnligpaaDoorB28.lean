/-
 What a bank's calls tell, as plain data; no function here.
-/
import Derived.Test.YthbldjnpnligpaaDoorB27
import Derived.Test.YthbldjnpnligpaaDoorB06
namespace Go.Proofs.YthbldjnpnligpaaDoor
set_option linter.unusedSimpArgs false
set_option linter.unusedVariables false
set_option maxRecDepth 100000
open Go.RowKit
def rightL (S : DS) (x : Nat) (h : List Int) : Bool := !(x == 0) && (decide (x < S.laid.length / 256) && decide (shaOf (readW S.laid S.ws x) = h))
def okK (S : DS) (p : Pt) : Int := if S.off then 8 else if p.may then 0 else 1
def zeros256 : List Int := List.replicate 256 0
def readK (S : DS) (p : Pt) : List Int × Int :=
 if okK S p ≠ 0 then ([], okK S p) else if p.hole = true then (zeros256, 0)
 else if rightL S p.x p.h = true then (readW S.laid S.ws p.x, 0) else if rightL S p.y p.h = true then (readW S.laid S.ws p.y, 0) else ([], 9)
def lookK (S : DS) (p : Pt) : (Bool × Bool) × Int := if okK S p ≠ 0 then ((false, false), okK S p) else ((rightL S p.x p.h, rightL S p.y p.h), 0)
def stepR (b h : List Int) (x : Nat) (s : DS × Nat) : (DS × Nat) × Int :=
 if rightL s.1 x h = true ∨ x = 0 then (s, 0)
 else if (s.1.write (x : Int) b).2 = 0 then (((s.1.write (x : Int) b).1, s.2 + 1), 0)
 else if (s.1.write (x : Int) b).2 = 1 then (((s.1.write (x : Int) b).1, s.2), 0)
 else (((s.1.write (x : Int) b).1, 0), (s.1.write (x : Int) b).2)
def restK (S : DS) (p : Pt) (b : List Int) : (DS × Nat) × Int :=
 if (stepR b p.h p.x (S, 0)).2 ≠ 0 then stepR b p.h p.x (S, 0) else stepR b p.h p.y (stepR b p.h p.x (S, 0)).1
def healK (S : DS) (p : Pt) : (DS × Nat) × Int := if (readK S p).2 ≠ 0 then ((S, 0), (readK S p).2) else restK S p (readK S p).1
def fixK (S : DS) (p : Pt) (b : List Int) : (DS × Nat) × Int :=
 if okK S p ≠ 0 then ((S, 0), okK S p) else if p.hole = true ∨ b.length ≠ 256 then ((S, 0), 1) else if shaOf b ≠ p.h then ((S, 0), 14) else restK S p b
def wrK (b : List Int) : DS → List Nat → DS × Int
 | S, [] => (S, 0)
 | S, x :: xs => if (S.write (x : Int) b).2 = 0 then wrK b (S.write (x : Int) b).1 xs else S.write (x : Int) b
def putK (S : DS) (l : List Bool) (t : Nat) (b : List Int) (c : Int) : (DS × List Bool) × Pt × Int :=
 if S.off then ((S, l), Pt.zero, 8)
 else if b.length ≠ 256 ∨ c < 1 ∨ 2 < c then ((S, l), Pt.zero, 1)
 else if (takeL l c).2.2 ≠ 0 then ((S, l), Pt.zero, ((takeL l c).2.2 : Int))
 else if (wrK b S (takeL l c).2.1).2 ≠ 0 then (((wrK b S (takeL l c).2.1).1, l), Pt.zero, (wrK b S (takeL l c).2.1).2)
 else (((wrK b S (takeL l c).2.1).1, (takeL l c).1), ⟨shaOf b, t, (takeL l c).2.1.getD 0 0, (takeL l c).2.1.getD 1 0⟩, 0)
theorem write_code (S : DS) (i : Int) (xs : List Int) : (S.write i xs).2 = 0 ∨ (S.write i xs).2 = 1 ∨ (S.write i xs).2 = 8 := by
 unfold DS.write
 repeat' split
 all_goals simp
theorem write_laid (S : DS) (i : Int) (xs : List Int) : (S.write i xs).1.laid = S.laid := by
 unfold DS.write
 repeat' split
 all_goals rfl
theorem write_len8 (S : DS) (i : Int) (xs : List Int) : (S.write i xs).1.ws.length ≤ S.ws.length + 1 := by
 unfold DS.write
 repeat' split
 all_goals simp [DS.dead]
theorem write_on {S : DS} {i : Int} {xs : List Int} (h : (S.write i xs).2 ≠ 8) : (S.write i xs).1.off = false ∧ S.off = false := by
 unfold DS.write at *
 by_cases h1 : S.off = true
 · rw [if_pos h1] at h; simp at h
 · rw [if_neg h1] at h ⊢
   have h1' : S.off = false := by simpa using h1
   by_cases h2 : S.has i ∧ xs.length = 256
   · rw [if_neg (by simpa using h2)] at h ⊢
     by_cases h3 : may S.fused S.left = true
     · rw [if_pos h3]; exact ⟨h1', h1'⟩
     · rw [if_neg h3] at h; simp at h
   · rw [if_pos (by simpa using h2)]; exact ⟨h1', h1'⟩
theorem write_done_ws {S : DS} {i : Int} {xs : List Int} (h : (S.write i xs).2 = 0) : S.has i ∧ xs.length = 256 ∧ (S.write i xs).1.ws = S.ws ++ [(i.toNat, xs)] := by
 unfold DS.write at *
 by_cases h1 : S.off = true
 · rw [if_pos h1] at h; simp at h
 · rw [if_neg h1] at h ⊢
   by_cases h2 : S.has i ∧ xs.length = 256
   · rw [if_neg (by simpa using h2)] at h ⊢
     by_cases h3 : may S.fused S.left = true
     · rw [if_pos h3]; exact ⟨h2.1, h2.2, rfl⟩
     · rw [if_neg h3] at h; simp at h
   · rw [if_pos (by simpa using h2)] at h; simp at h
theorem write_arg_same {S : DS} {i : Int} {xs : List Int} (h : (S.write i xs).2 = 1) : (S.write i xs).1 = S ∧ ¬ (S.has i ∧ xs.length = 256) := by
 unfold DS.write at *
 by_cases h1 : S.off = true
 · rw [if_pos h1] at h; simp at h
 · rw [if_neg h1] at h ⊢
   by_cases h2 : S.has i ∧ xs.length = 256
   · rw [if_neg (by simpa using h2)] at h
     by_cases h3 : may S.fused S.left = true
     · rw [if_pos h3] at h; simp at h
     · rw [if_neg h3] at h; simp at h
   · rw [if_pos (by simpa using h2)]; exact ⟨rfl, h2⟩
theorem write_off_ws {S : DS} {i : Int} {xs : List Int} (h : (S.write i xs).2 ≠ 0) : (S.write i xs).1.ws = S.ws := by
 unfold DS.write at *
 repeat' split
 all_goals first | rfl | (exfalso; apply h; simp_all)
theorem readW_write {S : DS} {x : Nat} {xs : List Int} (h : (S.write (x : Int) xs).2 = 0) (y : Nat) : readW (S.write (x : Int) xs).1.laid (S.write (x : Int) xs).1.ws y = if x = y then xs else readW S.laid S.ws y := by
 obtain ⟨_, _, h3⟩ := write_done_ws h
 rw [write_laid, h3, readW_upto]
 simp
theorem readW_write_ne (S : DS) {x y : Nat} (xs : List Int) (hne : x ≠ y) : readW (S.write (x : Int) xs).1.laid (S.write (x : Int) xs).1.ws y = readW S.laid S.ws y := by
 by_cases h : (S.write (x : Int) xs).2 = 0
 · rw [readW_write h, if_neg hne]
 · rw [write_laid, write_off_ws h]
theorem rightL_write (S : DS) {x y : Nat} (xs h : List Int) (hne : x ≠ y) : rightL (S.write (x : Int) xs).1 y h = rightL S y h := by
 unfold rightL
 rw [readW_write_ne S xs hne, write_laid]
theorem rightL_write_same {S : DS} {x : Nat} {xs h : List Int} (hw : (S.write (x : Int) xs).2 = 0) (hx : x ≠ 0) (hh : shaOf xs = h) : rightL (S.write (x : Int) xs).1 x h = true := by
 obtain ⟨⟨h1, h2⟩, _, _⟩ := write_done_ws hw
 unfold rightL
 rw [readW_write hw, if_pos rfl, write_laid]
 simp [hh]
 omega
theorem DS.has_nat {S : DS} {n x : Nat} (h : S.Ok n) : S.has (x : Int) ↔ x < n := by
 unfold DS.has
 rw [h.len, Nat.mul_div_cancel_left _ (by omega)]
 omega
theorem DS.Ok.secs {S : DS} {n : Nat} (h : S.Ok n) : S.laid.length / 256 = n := by rw [h.len, Nat.mul_div_cancel_left _ (by omega)]
theorem DS.read_at8 {S : DS} {n k : Nat} (h : S.Ok n) (hoff : S.off = false) (hk : k < n) : S.read (k : Int) = (readW S.laid S.ws k, 0) := by
 have hh : S.has (k : Int) := (DS.has_nat h).2 hk
 unfold DS.read
 rw [hoff, if_neg (by decide), if_neg (by simpa using hh)]
 simp
theorem DS.read_no8 {S : DS} {i : Int} (hoff : S.off = false) (hk : ¬ S.has i) : S.read i = ([], 1) := by
 unfold DS.read
 rw [hoff, if_neg (by decide), if_pos hk]
theorem DS.read_off8 {S : DS} {i : Int} (hoff : S.off = true) : S.read i = ([], 8) := by
 unfold DS.read
 rw [if_pos hoff]
theorem stepR_len (b h : List Int) (x : Nat) (s : DS × Nat) : (stepR b h x s).1.1.ws.length ≤ s.1.ws.length + 1 := by
 have := write_len8 s.1 (x : Int) b
 unfold stepR
 repeat' split
 all_goals (simp only; omega)
theorem stepR_laid (b h : List Int) (x : Nat) (s : DS × Nat) : (stepR b h x s).1.1.laid = s.1.laid := by
 have := write_laid s.1 (x : Int) b
 unfold stepR
 repeat' split
 all_goals first | rfl | exact this
theorem restK_len (S : DS) (p : Pt) (b : List Int) : (restK S p b).1.1.ws.length ≤ S.ws.length + 2 := by
 have h1 := stepR_len b p.h p.x (S, 0)
 have h2 := stepR_len b p.h p.y (stepR b p.h p.x (S, 0)).1
 unfold restK
 simp only at h1
 split <;> omega
theorem restK_laid (S : DS) (p : Pt) (b : List Int) : (restK S p b).1.1.laid = S.laid := by
 have h1 := stepR_laid b p.h p.x (S, 0)
 have h2 := stepR_laid b p.h p.y (stepR b p.h p.x (S, 0)).1
 unfold restK
 split
 · exact h1
 · exact h2.trans h1
theorem healK_len (S : DS) (p : Pt) : (healK S p).1.1.ws.length ≤ S.ws.length + 2 := by
 unfold healK
 split
 · simp only; omega
 · exact restK_len _ _ _
theorem fixK_len (S : DS) (p : Pt) (b : List Int) : (fixK S p b).1.1.ws.length ≤ S.ws.length + 2 := by
 unfold fixK
 repeat' split
 all_goals first | exact restK_len _ _ _ | (simp only; omega)
theorem wrK_len (b : List Int) : ∀ (xs : List Nat) (S : DS), (wrK b S xs).1.ws.length ≤ S.ws.length + xs.length
 | [], S => by simp [wrK]
 | x :: xs, S => by
   have h1 := write_len8 S (x : Int) b
   have h2 := wrK_len b xs (S.write (x : Int) b).1
   unfold wrK
   split
   · simp only [List.length_cons]; omega
   · simp only [List.length_cons]; omega
theorem wrK_laid (b : List Int) : ∀ (xs : List Nat) (S : DS), (wrK b S xs).1.laid = S.laid
 | [], S => by simp [wrK]
 | x :: xs, S => by
   have h1 := write_laid S (x : Int) b
   have h2 := wrK_laid b xs (S.write (x : Int) b).1
   unfold wrK
   split
   · exact h2.trans h1
   · exact h1
theorem putK_len (S : DS) (l : List Bool) (t : Nat) (b : List Int) (c : Int) : (putK S l t b c).1.1.ws.length ≤ S.ws.length + 8 := by
 have h1 := wrK_len b (takeL l c).2.1 S
 have h2 := takeL_few l c
 unfold putK
 repeat' split
 all_goals (simp only; omega)
theorem zeros256_len : zeros256.length = 256 := List.length_replicate
theorem zeros256_rng : ∀ x ∈ zeros256, 0 ≤ x ∧ x ≤ 255 := rng_zeros 256
theorem rightL_lt {S : DS} {n x : Nat} {h : List Int} (hok : S.Ok n) (hr : rightL S x h = true) : x < n ∧ x ≠ 0 ∧ shaOf (readW S.laid S.ws x) = h := by
 unfold rightL at hr
 simp only [Bool.and_eq_true, decide_eq_true_eq, hok.secs] at hr
 exact ⟨hr.2.1, by simpa using hr.1, hr.2.2⟩
theorem readK_len {S : DS} {n : Nat} (hok : S.Ok n) (p : Pt) : ((readK S p).2 = 0 ∧ (readK S p).1.length = 256) ∨ ((readK S p).2 ≠ 0 ∧ (readK S p).1 = []) := by
 unfold readK
 split
 · rename_i h; exact .inr ⟨h, rfl⟩
 · split
   · exact .inl ⟨rfl, zeros256_len⟩
   · split
     · rename_i h; exact .inl ⟨rfl, (readW_ok hok (rightL_lt hok h).1).1⟩
     · split
       · rename_i h; exact .inl ⟨rfl, (readW_ok hok (rightL_lt hok h).1).1⟩
       · exact .inr ⟨by simp, rfl⟩
theorem okK_zero {S : DS} {p : Pt} (h : okK S p = 0) : S.off = false ∧ p.may = true := by
 unfold okK at h
 split at h
 · simp at h
 · split at h
   · rename_i h1 h2; exact ⟨by simpa using h1, h2⟩
   · simp at h
end Go.Proofs.YthbldjnpnligpaaDoor

/-
 A bank: its disk, its map, its number; what keeps a pointer from being followed; a copy that is right.
-/

namespace Go.Proofs.YthbldjnpnligpaaDoor
set_option linter.unusedSimpArgs false
set_option linter.unusedVariables false
set_option maxRecDepth 100000
open Go.RowKit
def NewB (base : Nat) (w : World) (a : Option Addr) (c : Nat) (xs : List Int) : Prop := Bs w a c xs ∧ ∀ x, a = some x → base ≤ x.block
theorem NewB.stays {base : Nat} {w w' : World} {a : Option Addr} {c : Nat} {xs : List Int} (h : NewB base w a c xs) (hb : Below w.heap.size w w') : NewB base w' a c xs := ⟨h.1.stays hb, h.2⟩
theorem NewB.mono {base base' : Nat} {w : World} {a : Option Addr} {c : Nat} {xs : List Int} (h : NewB base w a c xs) (hb : base' ≤ base) : NewB base' w a c xs := ⟨h.1, fun x hx => Nat.le_trans hb (h.2 x hx)⟩
theorem NewB.none (base : Nat) (w : World) : NewB base w none 0 [] := ⟨Bs.empty w, fun x hx => by cases hx⟩
def bankV (p g t : Nat) : List Value := [.pointer (some ⟨p, 0, none⟩), .pointer (some ⟨g, 0, none⟩), .int .u32 (t : Int)]
structure Bk (B : Nat) (w : World) (F : Nat → Prop) (k p g : Nat) (S : DS) (l : List Bool) (t : Nat) : Prop where
 dk : Dk w F p S
 mp : Mp w g l
 bb : Blk 133 w k (bankV p g t)
 low : ∀ j, F j → B ≤ j ∧ j < w.heap.size
 fg : ¬ F g
 fk : ¬ F k
 lg : B ≤ g
 lk : B ≤ k
 sz : l.length = S.laid.length / 256
 lab : Lab l
 tt : t < 4294967296
section
variable {B : Nat} {w w' : World} {F : Nat → Prop} {k p g : Nat} {S S' : DS} {l l' : List Bool} {t : Nat}
theorem Bk.ne (h : Bk B w F k p g S l t) : k ≠ g := blk_ne h.bb h.mp.blk (by decide)
theorem Bk.stays (h : Bk B w F k p g S l t) (hb : Below w.heap.size w w') : Bk B w' F k p g S l t :=
 ⟨h.dk.stays hb, h.mp.stays hb, h.bb.stays hb, fun j hj => ⟨(h.low j hj).1, Nat.lt_of_lt_of_le (h.low j hj).2 hb.size⟩, h.fg, h.fk, h.lg, h.lk, h.sz, h.lab, h.tt⟩
theorem Bk.but {m : Nat} (h : Bk B w F k p g S l t) (hb : But m w w') (h1 : ¬ F m) (h2 : m ≠ g) (h3 : m ≠ k) : Bk B w' F k p g S l t :=
 ⟨h.dk.keep (fun j hj hl => hb.block j (fun e => h1 (e ▸ hj)) hl), ⟨h.mp.blk.but hb (Ne.symm h2), h.mp.lo, h.mp.hi⟩, h.bb.but hb (Ne.symm h3), fun j hj => ⟨(h.low j hj).1, Nat.lt_of_lt_of_le (h.low j hj).2 hb.size⟩, h.fg, h.fk, h.lg, h.lk, h.sz, h.lab, h.tt⟩
def BThen (B : Nat) (F : Nat → Prop) (w w' : World) (k p g : Nat) (S : DS) (l : List Bool) (t : Nat) : Prop :=
 ∃ F', Bk B w' F' k p g S l t ∧ Frm (fun j => F j ∨ j = g) w w' ∧ ∀ j, F' j → F j ∨ w.heap.size ≤ j
theorem bthen_same (h : Bk B w F k p g S l t) (hb : Below w.heap.size w w') : BThen B F w w' k p g S l t := ⟨F, h.stays hb, Frm.of_below hb, fun j hj => .inl hj⟩
theorem bthen_dk (h : Bk B w F k p g S l t) (hB : B ≤ w.heap.size) (ht : Then F w w' p S') (hs : S'.laid.length = S.laid.length) : BThen B F w w' k p g S' l t := by
 refine ⟨fun j => (F j ∨ w.heap.size ≤ j) ∧ j < w'.heap.size, ⟨ht.1.mono (fun j hj hl => ⟨hj, hl⟩), ⟨box_keep ht.2 h.mp.blk h.fg, h.mp.lo, h.mp.hi⟩, box_keep ht.2 h.bb h.fk, fun j hj => ⟨?_, hj.2⟩, fun hf => ?_, fun hf => ?_, h.lg, h.lk, by rw [hs]; exact h.sz, h.lab, h.tt⟩, ht.2.mono (fun j hj => .inl hj), fun j hj => hj.1⟩
 · rcases hj.1 with h1 | h1
   · exact (h.low j h1).1
   · omega
 · rcases hf.1 with h1 | h1
   · exact h.fg h1
   · have := h.mp.blk.lt; omega
 · rcases hf.1 with h1 | h1
   · exact h.fk h1
   · have := h.bb.lt; omega
theorem bthen_map (h : Bk B w F k p g S l t) (hm : Mp w' g l') (hb : But g w w') (hs : l'.length = l.length) (hL : Lab l') : BThen B F w w' k p g S l' t :=
 ⟨F, ⟨h.dk.keep (fun j hj hl => hb.block j (fun e => h.fg (e ▸ hj)) hl), hm, h.bb.but hb h.ne, fun j hj => ⟨(h.low j hj).1, Nat.lt_of_lt_of_le (h.low j hj).2 hb.size⟩, h.fg, h.fk, h.lg, h.lk, hs.trans h.sz, hL, h.tt⟩, Frm.of_but hb (.inr rfl), fun j hj => .inl hj⟩
theorem bthen_trans {w2 : World} {S2 : DS} {l2 : List Bool} (h : BThen B F w w' k p g S l t) (hg : g < w.heap.size) (h2 : ∀ F', Bk B w' F' k p g S l t → BThen B F' w' w2 k p g S2 l2 t) : BThen B F w w2 k p g S2 l2 t := by
 obtain ⟨F1, hb1, hf1, hn1⟩ := h
 obtain ⟨F2, hb2, hf2, hn2⟩ := h2 F1 hb1
 refine ⟨F2, hb2, ⟨hf2.os.trans hf1.os, hf2.tape.trans hf1.tape, hf2.output.trans hf1.output, Nat.le_trans hf1.size hf2.size, fun j hj hl => ?_⟩, fun j hj => ?_⟩
 · refine (hf2.block j (fun e => ?_) (Nat.lt_of_lt_of_le hl hf1.size)).trans (hf1.block j hj hl)
   rcases e with e | e
   · rcases hn1 j e with h3 | h3
     · exact hj (.inl h3)
     · omega
   · exact hj (.inr e)
 · rcases hn2 j hj with h3 | h3
   · exact hn1 j h3
   · exact .inr (Nat.le_trans hf1.size h3)
theorem BThen.below (h : BThen B F w w' k p g S l t) (hB : B ≤ w.heap.size) (hF : ∀ j, F j → B ≤ j) (hg : B ≤ g) : Below B w w' := by
 obtain ⟨F1, hb1, hf1, hn1⟩ := h
 exact hf1.below hB (fun j hj => hj.elim (hF j) (fun e => e ▸ hg))
theorem bdown_false (h : Bk B w F k p g S l t) (hl : S.ws.length ≤ 900000) (hoff : S.off = false) : Calls Tryd.prog 102 #[.pointer (some ⟨k, 0, none⟩)] w fun e w' => e = .returned (.bool false) ∧ Below w.heap.size w w' := by
 have hc0 : w.cell? ⟨k, 0, none⟩ = some (.pointer (some ⟨p, 0, none⟩)) := h.bb.cell 0
 have hrd := dk_read h.dk (by omega) (-1)
 rw [DS.read_no8 hoff (by unfold DS.has; omega)] at hrd
 go_enter Tryd.func102, Tryd.ntmps102
 go_wp2_with (first
  | (go_at_call 142; go_must (refine hrd.mono ?_); rintro e w1 ⟨a1, c1, rfl, _, hb1⟩))
 go_ret
 exact ⟨rfl, hb1⟩
theorem bdown_true (h : Bk B w F k p g S l t) (hl : S.ws.length ≤ 900000) (hoff : S.off = true) : Calls Tryd.prog 102 #[.pointer (some ⟨k, 0, none⟩)] w fun e w' => e = .returned (.bool true) ∧ Below w.heap.size w w' := by
 have hc0 : w.cell? ⟨k, 0, none⟩ = some (.pointer (some ⟨p, 0, none⟩)) := h.bb.cell 0
 have hrd := dk_read h.dk (by omega) (-1)
 rw [DS.read_off8 hoff] at hrd
 go_enter Tryd.func102, Tryd.ntmps102
 go_wp2_with (first
  | (go_at_call 142; go_must (refine hrd.mono ?_); rintro e w1 ⟨a1, c1, rfl, _, hb1⟩))
 go_ret
 exact ⟨rfl, hb1⟩
theorem bdown_run (h : Bk B w F k p g S l t) (hl : S.ws.length ≤ 900000) : Calls Tryd.prog 102 #[.pointer (some ⟨k, 0, none⟩)] w fun e w' => e = .returned (.bool S.off) ∧ Below w.heap.size w w' := by
 cases hoff : S.off
 · exact bdown_false h hl hoff
 · exact bdown_true h hl hoff
set_option maxHeartbeats 2000000 in
theorem allows_run (h : Bk B w F k p g S l t) (hl : S.ws.length ≤ 900000) (q : Pt) (hq : q.ok) : Calls Tryd.prog 106 #[.pointer (some ⟨k, 0, none⟩), .agg q.vs.toArray] w fun e w' => e = .returned (.int .i64 (okK S q)) ∧ Below w.heap.size w w' := by
 have hvl := Pt.vs_len hq
 have hmay := may_run q hq
 have hdn := fun u (hu : Below w.heap.size w u) => bdown_run (h.stays hu) hl
 obtain ⟨vs, hvs⟩ : ∃ vs, vs = q.vs := ⟨_, rfl⟩
 rw [← hvs] at hvl hmay ⊢
 clear hvs
 unfold okK
 cases hoff : S.off
 · rw [hoff] at hdn
   cases hm : q.may
   · rw [hm] at hmay
     go_enter Tryd.func106, Tryd.ntmps106
     go_wp2_with (first
       | ((with_reducible show wpList _ _ _ (Oper.mk _ (Op.box _ _) _ _ _ _ :: _) _ _); refine wpList_box0 (by rfl) 42 (.tmp 1) (by rfl) vs (by rfl) ?_; intro w1 hL1 hb1 hs1
          have hd1 := hdn w1 hb1)
       | (go_at_call 102; go_must (refine hd1.mono ?_); rintro e w2 ⟨rfl, hb2⟩
          have hL2 := hL1.stays hb2)
       | ((with_reducible show wpList _ _ _ (Oper.mk _ (Op.load _ _) _ _ _ _ :: _) _ _); refine wpList_load_blk (by rfl) (.tmp 3) 42 (by rfl) _ 0 35 (by rfl) agg_ptr size_ptr hL2 _ (whole_load hvl) hvl ?_)
       | (go_at_call 147; go_must (refine (hmay _).mono ?_); rintro e w3 ⟨rfl, hb3⟩))
     go_ret
     exact ⟨rfl, below_then (below_then hb1 hb2) hb3⟩
   · rw [hm] at hmay
     go_enter Tryd.func106, Tryd.ntmps106
     go_wp2_with (first
       | ((with_reducible show wpList _ _ _ (Oper.mk _ (Op.box _ _) _ _ _ _ :: _) _ _); refine wpList_box0 (by rfl) 42 (.tmp 1) (by rfl) vs (by rfl) ?_; intro w1 hL1 hb1 hs1
          have hd1 := hdn w1 hb1)
       | (go_at_call 102; go_must (refine hd1.mono ?_); rintro e w2 ⟨rfl, hb2⟩
          have hL2 := hL1.stays hb2)
       | ((with_reducible show wpList _ _ _ (Oper.mk _ (Op.load _ _) _ _ _ _ :: _) _ _); refine wpList_load_blk (by rfl) (.tmp 3) 42 (by rfl) _ 0 35 (by rfl) agg_ptr size_ptr hL2 _ (whole_load hvl) hvl ?_)
       | (go_at_call 147; go_must (refine (hmay _).mono ?_); rintro e w3 ⟨rfl, hb3⟩))
     go_ret
     exact ⟨rfl, below_then (below_then hb1 hb2) hb3⟩
 · rw [hoff] at hdn
   go_enter Tryd.func106, Tryd.ntmps106
   go_wp2_with (first
    | ((with_reducible show wpList _ _ _ (Oper.mk _ (Op.box _ _) _ _ _ _ :: _) _ _); refine wpList_box0 (by rfl) 42 (.tmp 1) (by rfl) vs (by rfl) ?_; intro w1 hL1 hb1 hs1
       have hd1 := hdn w1 hb1)
    | (go_at_call 102; go_must (refine hd1.mono ?_); rintro e w2 ⟨rfl, hb2⟩))
   go_ret
   exact ⟨rfl, below_then hb1 hb2⟩
theorem right_zero (hs : List Value) (hl32 : hs.length = 32) (w : World) : Calls Tryd.prog 107 #[.pointer (some ⟨k, 0, none⟩), .int .u32 0, .agg hs.toArray] w fun e w' => e = .returned (.tuple #[.slice none 0 0, .bool false]) ∧ Below w.heap.size w w' := by
 go_enter Tryd.func107, Tryd.ntmps107
 go_wp2_with (first
  | ((with_reducible show wpList _ _ _ (Oper.mk _ (Op.box _ _) _ _ _ _ :: _) _ _); refine wpList_box0 (by rfl) 39 (.tmp 2) (by rfl) hs (by rfl) ?_; intro w1 hL1 hb1 hs1))
 go_ret2
 exact ⟨rfl, hb1⟩
set_option maxHeartbeats 2000000 in
theorem right_out (h : Bk B w F k p g S l t) (hln : S.ws.length ≤ 900000) (hoff : S.off = false) (x : Nat) (hx0 : x ≠ 0) (hx : x < 4294967296) (hno : ¬ x < S.laid.length / 256) (hs : List Value) (hl32 : hs.length = 32) : Calls Tryd.prog 107 #[.pointer (some ⟨k, 0, none⟩), .int .u32 (x : Int), .agg hs.toArray] w fun e w' => e = .returned (.tuple #[.slice none 0 0, .bool false]) ∧ Below w.heap.size w w' := by
 have hx0' : ¬ ((x : Int) = 0) := by omega
 have hc0 : ∀ u, Below w.heap.size w u → u.cell? ⟨k, 0, none⟩ = some (.pointer (some ⟨p, 0, none⟩)) := fun u hu => (h.stays hu).bb.cell 0
 have hwr : IntKind.i64.wrap (x : Int) = (x : Int) := by rw [IntKind.wrap_i64]; omega
 have hrd : ∀ u, Below w.heap.size w u → Calls Tryd.prog 142 #[.pointer (some ⟨p, 0, none⟩), .int .i64 (x : Int)] u fun e w' => ∃ a c, e = .returned (.tuple #[.slice a 0 c, .int .i64 1]) ∧ Below u.heap.size u w' := fun u hu => by
  refine (dk_read (h.stays hu).dk (by omega) (x : Int)).mono ?_
  rw [DS.read_no8 hoff (by unfold DS.has; omega)]
  rintro e w' ⟨a, c, rfl, _, hb⟩
  exact ⟨a, c, rfl, hb⟩
 go_enter Tryd.func107, Tryd.ntmps107
 go_wp2_with (first
  | ((with_reducible show wpList _ _ _ (Oper.mk _ (Op.box _ _) _ _ _ _ :: _) _ _); refine wpList_box0 (by rfl) 39 (.tmp 2) (by rfl) hs (by rfl) ?_; intro w1 hL1 hb1 hs1
     have hc1 := hc0 w1 hb1
     have hr1 := hrd w1 hb1)
  | (go_at_call 142; go_must (refine hr1.mono ?_); rintro e w2 ⟨a2, c2, rfl, hb2⟩))
 go_region
 go_wp2
 go_ret2
 exact ⟨rfl, below_then hb1 hb2.drew⟩
set_option maxHeartbeats 4000000 in
theorem right_yes (h : Bk B w F k p g S l t) (hln : S.ws.length ≤ 900000) (hV : Vars w) (hoff : S.off = false) (x : Nat) (hx0 : x ≠ 0) (hx : x < 4294967296) (hin : x < S.laid.length / 256) (hh : List Int) (hl32 : hh.length = 32) (hsum : (shaOf (readW S.laid S.ws x) == hh) = true) : Calls Tryd.prog 107 #[.pointer (some ⟨k, 0, none⟩), .int .u32 (x : Int), .agg (hh.map (Value.int .u8)).toArray] w fun e w' => ∃ a c, e = .returned (.tuple #[.slice a 256 c, .bool true]) ∧ NewB w.heap.size w' a c (readW S.laid S.ws x) ∧ Below w.heap.size w w' := by
 have hx0' : ¬ ((x : Int) = 0) := by omega
 have hc0 : ∀ u, Below w.heap.size w u → u.cell? ⟨k, 0, none⟩ = some (.pointer (some ⟨p, 0, none⟩)) := fun u hu => (h.stays hu).bb.cell 0
 have hwr : IntKind.i64.wrap (x : Int) = (x : Int) := by rw [IntKind.wrap_i64]; omega
 obtain ⟨n, hok⟩ := h.dk.ok
 have hxn : x < n := by rw [hok.secs] at hin; exact hin
 have hrw := readW_ok hok hxn
 have heq : ∀ u, (Op.equalIn 10000 39 (.agg ((shaOf (readW S.laid S.ws x)).map (Value.int .u8)).toArray) (.agg (hh.map (Value.int .u8)).toArray)).run Tryd.prog u = .ok (shaOf (readW S.laid S.ws x) == hh) u := fun u => equal_ints Tryd.underlying39 Tryd.underlying5 sizes5 9998 _ _ (shaOf_length _) hl32 u
 rw [hsum] at heq
 have hrd : ∀ u, Below w.heap.size w u → Calls Tryd.prog 142 #[.pointer (some ⟨p, 0, none⟩), .int .i64 (x : Int)] u fun e w' => ∃ a c, e = .returned (.tuple #[.slice a 256 c, .int .i64 0]) ∧ Out u.heap.size w' (.slice a 256 c) (readW S.laid S.ws x) ∧ Below u.heap.size u w' := fun u hu => by
  refine (dk_read (h.stays hu).dk (by omega) (x : Int)).mono ?_
  rw [DS.read_at8 hok hoff hxn]
  simp only [hrw.1]
  rintro e w' ⟨a, c, rfl, ho, hb⟩
  exact ⟨a, c, rfl, ho, hb⟩
 have hsm : ∀ u a c, Below w.heap.size w u → Bs u a c (readW S.laid S.ws x) → Calls Tryd.prog 96 #[.slice a 256 c] u fun e w' => e = .returned (.agg ((shaOf (readW S.laid S.ws x)).map (Value.int .u8)).toArray) ∧ Below u.heap.size u w' := fun u a c hu hB => by
  have := sum_run a c _ u hB (hV.stays hu) (by rw [hrw.1]; omega)
  rw [hrw.1] at this
  exact this
 obtain ⟨hs, hhs⟩ : ∃ hs, hs = hh.map (Value.int .u8) := ⟨_, rfl⟩
 obtain ⟨ss, hss⟩ : ∃ ss, ss = (shaOf (readW S.laid S.ws x)).map (Value.int .u8) := ⟨_, rfl⟩
 obtain ⟨R, hR⟩ : ∃ R, R = readW S.laid S.ws x := ⟨_, rfl⟩
 have hhl : hs.length = 32 := by rw [hhs, List.length_map, hl32]
 rw [← hss] at heq hsm
 rw [← hhs] at heq ⊢
 rw [← hR] at hrd hsm hrw ⊢
 clear hhs hss hR hsum hok
 go_enter Tryd.func107, Tryd.ntmps107
 go_wp2_with (first
  | ((with_reducible show wpList _ _ _ (Oper.mk _ (Op.box _ _) _ _ _ _ :: _) _ _); refine wpList_box0 (by rfl) 39 (.tmp 2) (by rfl) hs (by rfl) ?_; intro w1 hL1 hb1 hs1
     have hc1 := hc0 w1 hb1
     have hr1 := hrd w1 hb1)
  | (go_at_call 142; go_must (refine hr1.mono ?_); rintro e w2 ⟨a2, c2, rfl, ho2, hb2⟩
     have hL2 := hL1.stays hb2
     have hB2 := (Out.bs ho2 hrw.2).2.1))
 have hb2' := below_then hb1 hb2
 have hsum2 : ∀ u, Below w2.heap.size w2 u → Calls Tryd.prog 96 #[.slice a2 256 c2] u fun e w' => e = .returned (.agg ss.toArray) ∧ Below u.heap.size u w' := fun u hu => hsm u a2 c2 (below_then hb2' hu) (hB2.stays hu)
 have hld : ∀ u, Below w2.heap.size w2 u → (Instr.loadAt 39 (.pointer (some ⟨w.heap.size, 0, none⟩))).run Tryd.prog u = .ok (.agg hs.toArray) u := fun u hu => run_load_blk agg_hsh size_hash (hL2.stays hu) (whole_load hhl) hhl
 have HEQ : Hid (∀ u, (Op.equalIn 10000 39 (.agg ss.toArray) (.agg hs.toArray)).run Tryd.prog u = .ok true u) := heq
 clear hsm hrd hc0 hr1 heq
 refine UpT.wp_region_tail 7 (UpT.tell [(4, isV (.agg ss.toArray))]) (fun _ => false) (by kernel_rfl) (by kernel_rfl) (UpT.tell_steady _ (by
  intro p hp
  simp only [List.mem_cons, List.not_mem_nil, or_false] at hp
  rcases hp with rfl <;> first | exact isV_steady _ | exact slB_steady _ _)) ?_
 simp only [List.take_succ_cons, List.take_zero]
 refine UpT.wpUp_pu ?_
 simp only [Act.put, sTA, sT0, sT1]
 refine UpT.wpUp_pu ?_
 simp only [Act.put, sTA, sT0, sT1]
 refine UpT.wpUp_pu ?_
 simp only [Act.put, sTA, sT0, sT1]
 refine UpT.wpUp_pu ?_
 simp only [Act.put, sTA, sT0, sT1]
 refine UpT.wpUp_call _ 96 #[.slice a2 256 c2] (by rfl) (by rfl) (by rfl) (fun wz => by go_simp) (fun wz hp => calls_isV (hsum2 wz hp.1)) ?_
 rintro v ⟨u, _, hf⟩
 obtain rfl := hf.of 4 v _ rfl rfl
 clear hf
 simp only [Act.put, sTA, sT0, sT1]
 refine UpT.wpUp_pure (.agg hs.toArray) (by rfl) (by rfl) (fun wz hp => exec_load (by rfl) (by rfl) (hld wz hp.1)) ?_
 simp only [Act.put, sTA, sT0, sT1]
 have heq := HEQ.out
 refine UpT.wpUp_pu ?_
 simp only [Act.put, sTA, sT0, sT1]
 refine UpT.wpUp_end ?_
 intro w5 hb5 hf
 clear hf
 simp only [List.drop_succ_cons, List.drop_zero]
 go_wp2
 go_ret2
 exact ⟨a2, c2, rfl, ⟨hB2.stays hb5, fun x hx => Nat.le_trans hb1.size ((Out.bs ho2 hrw.2).2.2 x hx)⟩, below_then hb2' hb5⟩
set_option maxHeartbeats 4000000 in
theorem right_no (h : Bk B w F k p g S l t) (hln : S.ws.length ≤ 900000) (hV : Vars w) (hoff : S.off = false) (x : Nat) (hx0 : x ≠ 0) (hx : x < 4294967296) (hin : x < S.laid.length / 256) (hh : List Int) (hl32 : hh.length = 32) (hsum : (shaOf (readW S.laid S.ws x) == hh) = false) : Calls Tryd.prog 107 #[.pointer (some ⟨k, 0, none⟩), .int .u32 (x : Int), .agg (hh.map (Value.int .u8)).toArray] w fun e w' => e = .returned (.tuple #[.slice none 0 0, .bool false]) ∧ Below w.heap.size w w' := by
 have hx0' : ¬ ((x : Int) = 0) := by omega
 have hc0 : ∀ u, Below w.heap.size w u → u.cell? ⟨k, 0, none⟩ = some (.pointer (some ⟨p, 0, none⟩)) := fun u hu => (h.stays hu).bb.cell 0
 have hwr : IntKind.i64.wrap (x : Int) = (x : Int) := by rw [IntKind.wrap_i64]; omega
 obtain ⟨n, hok⟩ := h.dk.ok
 have hxn : x < n := by rw [hok.secs] at hin; exact hin
 have hrw := readW_ok hok hxn
 have heq : ∀ u, (Op.equalIn 10000 39 (.agg ((shaOf (readW S.laid S.ws x)).map (Value.int .u8)).toArray) (.agg (hh.map (Value.int .u8)).toArray)).run Tryd.prog u = .ok (shaOf (readW S.laid S.ws x) == hh) u := fun u => equal_ints Tryd.underlying39 Tryd.underlying5 sizes5 9998 _ _ (shaOf_length _) hl32 u
 rw [hsum] at heq
 have hrd : ∀ u, Below w.heap.size w u → Calls Tryd.prog 142 #[.pointer (some ⟨p, 0, none⟩), .int .i64 (x : Int)] u fun e w' => ∃ a c, e = .returned (.tuple #[.slice a 256 c, .int .i64 0]) ∧ Out u.heap.size w' (.slice a 256 c) (readW S.laid S.ws x) ∧ Below u.heap.size u w' := fun u hu => by
  refine (dk_read (h.stays hu).dk (by omega) (x : Int)).mono ?_
  rw [DS.read_at8 hok hoff hxn]
  simp only [hrw.1]
  rintro e w' ⟨a, c, rfl, ho, hb⟩
  exact ⟨a, c, rfl, ho, hb⟩
 have hsm : ∀ u a c, Below w.heap.size w u → Bs u a c (readW S.laid S.ws x) → Calls Tryd.prog 96 #[.slice a 256 c] u fun e w' => e = .returned (.agg ((shaOf (readW S.laid S.ws x)).map (Value.int .u8)).toArray) ∧ Below u.heap.size u w' := fun u a c hu hB => by
  have := sum_run a c _ u hB (hV.stays hu) (by rw [hrw.1]; omega)
  rw [hrw.1] at this
  exact this
 obtain ⟨hs, hhs⟩ : ∃ hs, hs = hh.map (Value.int .u8) := ⟨_, rfl⟩
 obtain ⟨ss, hss⟩ : ∃ ss, ss = (shaOf (readW S.laid S.ws x)).map (Value.int .u8) := ⟨_, rfl⟩
 obtain ⟨R, hR⟩ : ∃ R, R = readW S.laid S.ws x := ⟨_, rfl⟩
 have hhl : hs.length = 32 := by rw [hhs, List.length_map, hl32]
 rw [← hss] at heq hsm
 rw [← hhs] at heq ⊢
 rw [← hR] at hrd hsm hrw
 clear hhs hss hR hsum hok
 go_enter Tryd.func107, Tryd.ntmps107
 go_wp2_with (first
  | ((with_reducible show wpList _ _ _ (Oper.mk _ (Op.box _ _) _ _ _ _ :: _) _ _); refine wpList_box0 (by rfl) 39 (.tmp 2) (by rfl) hs (by rfl) ?_; intro w1 hL1 hb1 hs1
     have hc1 := hc0 w1 hb1
     have hr1 := hrd w1 hb1)
  | (go_at_call 142; go_must (refine hr1.mono ?_); rintro e w2 ⟨a2, c2, rfl, ho2, hb2⟩
     have hL2 := hL1.stays hb2
     have hB2 := (Out.bs ho2 hrw.2).2.1))
 have hb2' := below_then hb1 hb2
 have hsum2 : ∀ u, Below w2.heap.size w2 u → Calls Tryd.prog 96 #[.slice a2 256 c2] u fun e w' => e = .returned (.agg ss.toArray) ∧ Below u.heap.size u w' := fun u hu => hsm u a2 c2 (below_then hb2' hu) (hB2.stays hu)
 have hld : ∀ u, Below w2.heap.size w2 u → (Instr.loadAt 39 (.pointer (some ⟨w.heap.size, 0, none⟩))).run Tryd.prog u = .ok (.agg hs.toArray) u := fun u hu => run_load_blk agg_hsh size_hash (hL2.stays hu) (whole_load hhl) hhl
 have HEQ : Hid (∀ u, (Op.equalIn 10000 39 (.agg ss.toArray) (.agg hs.toArray)).run Tryd.prog u = .ok false u) := heq
 clear hsm hrd hc0 hr1 heq
 refine UpT.wp_region_tail 7 (UpT.tell [(4, isV (.agg ss.toArray))]) (fun _ => false) (by kernel_rfl) (by kernel_rfl) (UpT.tell_steady _ (by
  intro p hp
  simp only [List.mem_cons, List.not_mem_nil, or_false] at hp
  rcases hp with rfl <;> first | exact isV_steady _ | exact slB_steady _ _)) ?_
 simp only [List.take_succ_cons, List.take_zero]
 refine UpT.wpUp_pu ?_
 simp only [Act.put, sTA, sT0, sT1]
 refine UpT.wpUp_pu ?_
 simp only [Act.put, sTA, sT0, sT1]
 refine UpT.wpUp_pu ?_
 simp only [Act.put, sTA, sT0, sT1]
 refine UpT.wpUp_pu ?_
 simp only [Act.put, sTA, sT0, sT1]
 refine UpT.wpUp_call _ 96 #[.slice a2 256 c2] (by rfl) (by rfl) (by rfl) (fun wz => by go_simp) (fun wz hp => calls_isV (hsum2 wz hp.1)) ?_
 rintro v ⟨u, _, hf⟩
 obtain rfl := hf.of 4 v _ rfl rfl
 clear hf
 simp only [Act.put, sTA, sT0, sT1]
 refine UpT.wpUp_pure (.agg hs.toArray) (by rfl) (by rfl) (fun wz hp => exec_load (by rfl) (by rfl) (hld wz hp.1)) ?_
 simp only [Act.put, sTA, sT0, sT1]
 have heq := HEQ.out
 refine UpT.wpUp_pu ?_
 simp only [Act.put, sTA, sT0, sT1]
 refine UpT.wpUp_end ?_
 intro w5 hb5 hf
 clear hf
 simp only [List.drop_succ_cons, List.drop_zero]
 go_wp2
 go_ret2
 exact ⟨rfl, below_then hb2' hb5⟩
theorem right_good (h : Bk B w F k p g S l t) (hln : S.ws.length ≤ 900000) (hV : Vars w) (hoff : S.off = false) (x : Nat) (hx : x < 4294967296) (hh : List Int) (hl32 : hh.length = 32) (hr : rightL S x hh = true) : Calls Tryd.prog 107 #[.pointer (some ⟨k, 0, none⟩), .int .u32 (x : Int), .agg (hh.map (Value.int .u8)).toArray] w fun e w' => ∃ a c, e = .returned (.tuple #[.slice a 256 c, .bool true]) ∧ NewB w.heap.size w' a c (readW S.laid S.ws x) ∧ Below w.heap.size w w' := by
 obtain ⟨n, hok⟩ := h.dk.ok
 obtain ⟨h1, h2, h3⟩ := rightL_lt hok hr
 exact right_yes h hln hV hoff x h2 hx (by rw [hok.secs]; exact h1) hh hl32 (by simpa using h3)
theorem right_bad (h : Bk B w F k p g S l t) (hln : S.ws.length ≤ 900000) (hV : Vars w) (hoff : S.off = false) (x : Nat) (hx : x < 4294967296) (hh : List Int) (hl32 : hh.length = 32) (hr : rightL S x hh = false) : Calls Tryd.prog 107 #[.pointer (some ⟨k, 0, none⟩), .int .u32 (x : Int), .agg (hh.map (Value.int .u8)).toArray] w fun e w' => e = .returned (.tuple #[.slice none 0 0, .bool false]) ∧ Below w.heap.size w w' := by
 by_cases h0 : x = 0
 · subst h0
   exact right_zero _ (by simpa using hl32) w
 · by_cases h1 : x < S.laid.length / 256
   · refine right_no h hln hV hoff x h0 hx h1 hh hl32 ?_
     unfold rightL at hr
     simp [h0, h1] at hr
     simpa using hr
   · exact right_out h hln hoff x h0 hx h1 _ (by simpa using hl32)
end
end Go.Proofs.YthbldjnpnligpaaDoor

/-
 The document's bank: its disk, its map, its number.
-/

namespace Go.Proofs.YthbldjnpnligpaaDoor
set_option linter.unusedSimpArgs false
set_option linter.unusedVariables false
set_option maxRecDepth 100000
open Go.RowKit
def RB (w : World) (G : Nat → Prop) (cs : List Value) (S : DS) (l : List Bool) (t : Nat) : Prop :=
 ∃ dc q c, cs = dc ++ [.slice (some ⟨q, 0, none⟩) l.length c, .int .u32 (t : Int)] ∧ Rf w G dc S ∧ Tr w q c l ∧ G q ∧ l.length = S.laid.length / 256 ∧ Lab l
def RBThen (G : Nat → Prop) (w w' : World) (cs : List Value) (S : DS) (l : List Bool) (t : Nat) : Prop := RB w' (fun j => G j ∨ w.heap.size ≤ j) cs S l t ∧ Below w.heap.size w w'
theorem Rf.five {w : World} {G : Nat → Prop} {cs : List Value} {S : DS} (h : Rf w G cs S) : cs.length = 5 ∧ ∀ v ∈ cs, v.oneCell' = true := by
 obtain ⟨n, sa, sc, wa, wc, hok, rfl, hs, hw⟩ := h
 refine ⟨rfl, fun v hv => ?_⟩
 unfold rcells at hv
 simp only [List.mem_cons, List.not_mem_nil, or_false] at hv
 rcases hv with rfl | rfl | rfl | rfl | rfl <;> rfl
theorem Rf.ok {w : World} {G : Nat → Prop} {cs : List Value} {S : DS} (h : Rf w G cs S) : ∃ n, S.Ok n := by
 obtain ⟨n, sa, sc, wa, wc, hok, rfl, hs, hw⟩ := h
 exact ⟨n, hok⟩
theorem Rf.off {w : World} {G : Nat → Prop} {cs : List Value} {S : DS} (h : Rf w G cs S) : cs[4]? = some (.bool S.off) := by
 obtain ⟨n, sa, sc, wa, wc, hok, rfl, hs, hw⟩ := h
 rfl
theorem Rf.secs {w : World} {G : Nat → Prop} {cs : List Value} {S : DS} (h : Rf w G cs S) : ∃ sa sc, cs[0]? = some (.slice sa (S.laid.length / 256) sc) := by
 obtain ⟨n, sa, sc, wa, wc, hok, rfl, hs, hw⟩ := h
 exact ⟨sa, sc, by rw [hok.secs]; rfl⟩
theorem Rf.waits {w : World} {G : Nat → Prop} {cs : List Value} {S : DS} (h : Rf w G cs S) : ∃ wa wc, cs[1]? = some (.slice wa S.ws.length wc) := by
 obtain ⟨n, sa, sc, wa, wc, hok, rfl, hs, hw⟩ := h
 exact ⟨wa, wc, rfl⟩
section
variable {w w' : World} {G G' : Nat → Prop} {cs cs' : List Value} {S S' : DS} {l l' : List Bool} {t : Nat}
theorem RB.keep (h : RB w G cs S l t) (hk : ∀ j, G j → j < w.heap.size → w'.heap[j]? = w.heap[j]? ∧ G' j) : RB w' G' cs S l t := by
 obtain ⟨dc, q, c, he, h1, h2, h3, h4⟩ := h
 refine ⟨dc, q, c, he, h1.keep hk, ?_, (hk q h3 h2.lt).2, h4⟩
 obtain ⟨rest, k1, k2, k3⟩ := h2
 have hl := k1.lt
 refine ⟨rest, ?_, k2, k3⟩
 unfold Blk at *
 rw [(hk q h3 hl).1]
 exact k1
theorem RB.stays (h : RB w G cs S l t) (hb : Below w.heap.size w w') : RB w' G cs S l t := h.keep fun j hg hl => ⟨hb.block j hl, hg⟩
theorem RB.len (h : RB w G cs S l t) : cs.length = 7 ∧ ∀ v ∈ cs, v.oneCell' = true := by
 obtain ⟨dc, q, c, rfl, h1, h2, h3, h4⟩ := h
 obtain ⟨k1, k2⟩ := h1.five
 refine ⟨by simp [k1], fun v hv => ?_⟩
 simp only [List.mem_append, List.mem_cons, List.not_mem_nil, or_false] at hv
 rcases hv with hv | rfl | rfl
 · exact k2 v hv
 · rfl
 · rfl
theorem RB.ok (h : RB w G cs S l t) : ∃ n, S.Ok n := by
 obtain ⟨dc, q, c, rfl, h1, h2, h3, h4⟩ := h
 exact h1.ok
theorem RB.off (h : RB w G cs S l t) : cs[4]? = some (.bool S.off) := by
 obtain ⟨dc, q, c, rfl, h1, h2, h3, h4⟩ := h
 rw [List.getElem?_append_left (by rw [h1.five.1]; omega)]
 exact h1.off
theorem RB.secs (h : RB w G cs S l t) : ∃ sa sc, cs[0]? = some (.slice sa (S.laid.length / 256) sc) := by
 obtain ⟨dc, q, c, rfl, h1, h2, h3, h4⟩ := h
 obtain ⟨sa, sc, k⟩ := h1.secs
 exact ⟨sa, sc, by rw [List.getElem?_append_left (by rw [h1.five.1]; omega)]; exact k⟩
theorem RB.waits (h : RB w G cs S l t) : ∃ wa wc, cs[1]? = some (.slice wa S.ws.length wc) := by
 obtain ⟨dc, q, c, rfl, h1, h2, h3, h4⟩ := h
 obtain ⟨sa, sc, k⟩ := h1.waits
 exact ⟨sa, sc, by rw [List.getElem?_append_left (by rw [h1.five.1]; omega)]; exact k⟩
theorem RB.txg (h : RB w G cs S l t) : cs[6]? = some (.int .u32 (t : Int)) := by
 obtain ⟨dc, q, c, rfl, h1, h2, h3, h4⟩ := h
 rw [List.getElem?_append_right (by rw [h1.five.1]; omega), h1.five.1]
 rfl
theorem RB.sz (h : RB w G cs S l t) : l.length = S.laid.length / 256 := by
 obtain ⟨dc, q, c, rfl, h1, h2, h3, h4⟩ := h
 exact h4.1
theorem RB.lab (h : RB w G cs S l t) : Lab l := by
 obtain ⟨dc, q, c, rfl, h1, h2, h3, h4⟩ := h
 exact h4.2
theorem RB.mlen (h : RB w G cs S l t) : 16 ≤ l.length ∧ l.length ≤ 512 := by
 have h1 := h.sz
 obtain ⟨n, hok⟩ := h.ok
 rw [hok.secs] at h1
 rw [h1]
 exact ⟨hok.lo, hok.hi⟩
theorem RB.disk (h : RB w G cs S l t) : ∃ dc, dc = (cs.drop 0).take 5 ∧ Rf w G dc S ∧ dc.length = 5 := by
 obtain ⟨dc, q, c, rfl, h1, h2, h3, h4⟩ := h
 refine ⟨dc, ?_, h1, h1.five.1⟩
 rw [List.drop_zero, List.take_append_of_le_length (by rw [h1.five.1]; omega), List.take_of_length_le (by rw [h1.five.1]; omega)]
theorem RB.map (h : RB w G cs S l t) : ∃ q c, [Value.slice (some ⟨q, 0, none⟩) l.length c] = (cs.drop 5).take 1 ∧ Tr w q c l := by
 obtain ⟨dc, q, c, rfl, h1, h2, h3, h4⟩ := h
 refine ⟨q, c, ?_, h2⟩
 rw [← h1.five.1, List.drop_left]
 rfl
theorem RB.setDisk (h : RB w G cs S l t) {ds : List Value} (ht : RThen G w w' ds S') (hs : S'.laid.length = S.laid.length) : RBThen G w w' (cs.take 0 ++ ds ++ cs.drop (0 + 5)) S' l t := by
 obtain ⟨dc, q, c, rfl, h1, h2, h3, h4⟩ := h
 have e : (dc ++ [Value.slice (some ⟨q, 0, none⟩) l.length c, .int .u32 (t : Int)]).drop (0 + 5) = [Value.slice (some ⟨q, 0, none⟩) l.length c, .int .u32 (t : Int)] := by
  rw [Nat.zero_add, ← h1.five.1, List.drop_left]
 refine ⟨⟨ds, q, c, ?_, ht.1, h2.stays ht.2, .inl h3, by rw [hs]; exact h4.1, h4.2⟩, ht.2⟩
 rw [e]
 simp
theorem RB.setMap (h : RB w G cs S l t) {q c : Nat} (hT : Tr w q c l') (hG : G q) (hl : l'.length = l.length) (hL : Lab l') : RB w G (cs.set 5 (.slice (some ⟨q, 0, none⟩) l.length c)) S l' t := by
 obtain ⟨dc, q', c', rfl, h1, h2, h3, h4⟩ := h
 refine ⟨dc, q, c, ?_, h1, hT, hG, by rw [hl]; exact h4.1, hL⟩
 rw [List.set_append_right _ _ (by rw [h1.five.1]; omega), h1.five.1, hl]
 rfl
theorem agg_rbank (w : World) : (isAgg 36).run Tryd.prog w = .ok true w := isAgg_struct (show Tryd.prog.underlying 36 = some (.struct (Tryd.prog.fieldsOf 36)) by kernel_rfl) w
theorem size_rbank (w : World) : (sizeOf 36).run Tryd.prog w = .ok 7 w := sizeOf_run (by kernel_rfl) w
theorem agg_rdisk (w : World) : (isAgg 30).run Tryd.prog w = .ok true w := isAgg_struct (show Tryd.prog.underlying 30 = some (.struct (Tryd.prog.fieldsOf 30)) by kernel_rfl) w
theorem size_rdisk (w : World) : (sizeOf 30).run Tryd.prog w = .ok 5 w := sizeOf_run (by kernel_rfl) w
end
end Go.Proofs.YthbldjnpnligpaaDoor
