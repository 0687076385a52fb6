/-
  A bank: its disk, its map, its number; what keeps a pointer from being followed; a copy that is right.
-/
import Derived.Test.YthbldjnpnligpaaDoorG27
namespace Go.Proofs.YthbldjnpnligpaaDoor
set_option linter.unusedSimpArgs false
set_option linter.unusedVariables false
set_option maxRecDepth 100000
open Go.RowKit

/-- Bytes in new memory. -/
def NewB (base : Nat) (w : World) (a : Option Addr) (c : Nat) (xs : List Int) : Prop := Bs w a c xs ∧ ∀ x, a = some x → base ≤ x.block
theorem NewB.stays {base : Nat} {w w' : World} {a : Option Addr} {c : Nat} {xs : List Int} (h : NewB base w a c xs) (hb : Below w.heap.size w w') : NewB base w' a c xs := ⟨h.1.stays hb, h.2⟩
theorem NewB.mono {base base' : Nat} {w : World} {a : Option Addr} {c : Nat} {xs : List Int} (h : NewB base w a c xs) (hb : base' ≤ base) : NewB base' w a c xs := ⟨h.1, fun x hx => Nat.le_trans hb (h.2 x hx)⟩
theorem NewB.none (base : Nat) (w : World) : NewB base w none 0 [] := ⟨Bs.empty w, fun x hx => by cases hx⟩

/-- A bank's cells. -/
def bankV (p g t : Nat) : List Value := [.pointer (some ⟨p, 0, none⟩), .pointer (some ⟨g, 0, none⟩), .int .u32 (t : Int)]

/-- A bank at the block k, its disk at p with blocks of F, its map at g; all from B on. -/
structure Bk (B : Nat) (w : World) (F : Nat → Prop) (k p g : Nat) (S : DS) (l : List Bool) (t : Nat) : Prop where
  dk : Dk w F p S
  mp : Mp w g l
  bb : Blk 133 w k (bankV p g t)
  low : ∀ j, F j → B ≤ j ∧ j < w.heap.size
  fg : ¬ F g
  fk : ¬ F k
  lg : B ≤ g
  lk : B ≤ k
  sz : l.length = S.laid.length / 256
  lab : Lab l
  tt : t < 4294967296

section
variable {B : Nat} {w w' : World} {F : Nat → Prop} {k p g : Nat} {S S' : DS} {l l' : List Bool} {t : Nat}

theorem Bk.ne (h : Bk B w F k p g S l t) : k ≠ g := blk_ne h.bb h.mp.blk (by decide)
theorem Bk.stays (h : Bk B w F k p g S l t) (hb : Below w.heap.size w w') : Bk B w' F k p g S l t :=
  ⟨h.dk.stays hb, h.mp.stays hb, h.bb.stays hb, fun j hj => ⟨(h.low j hj).1, Nat.lt_of_lt_of_le (h.low j hj).2 hb.size⟩, h.fg, h.fk, h.lg, h.lk, h.sz, h.lab, h.tt⟩
/-- A block turns that is none of the bank's. -/
theorem Bk.but {m : Nat} (h : Bk B w F k p g S l t) (hb : But m w w') (h1 : ¬ F m) (h2 : m ≠ g) (h3 : m ≠ k) : Bk B w' F k p g S l t :=
  ⟨h.dk.keep (fun j hj hl => hb.block j (fun e => h1 (e ▸ hj)) hl), ⟨h.mp.blk.but hb (Ne.symm h2), h.mp.lo, h.mp.hi⟩, h.bb.but hb (Ne.symm h3), fun j hj => ⟨(h.low j hj).1, Nat.lt_of_lt_of_le (h.low j hj).2 hb.size⟩, h.fg, h.fk, h.lg, h.lk, h.sz, h.lab, h.tt⟩

/-- What a call leaves of a bank and of all else. -/
def BThen (B : Nat) (F : Nat → Prop) (w w' : World) (k p g : Nat) (S : DS) (l : List Bool) (t : Nat) : Prop :=
  ∃ F', Bk B w' F' k p g S l t ∧ Frm (fun j => F j ∨ j = g) w w' ∧ ∀ j, F' j → F j ∨ w.heap.size ≤ j

theorem bthen_same (h : Bk B w F k p g S l t) (hb : Below w.heap.size w w') : BThen B F w w' k p g S l t := ⟨F, h.stays hb, Frm.of_below hb, fun j hj => .inl hj⟩
theorem bthen_dk (h : Bk B w F k p g S l t) (hB : B ≤ w.heap.size) (ht : Then F w w' p S') (hs : S'.laid.length = S.laid.length) : BThen B F w w' k p g S' l t := by
  refine ⟨fun j => (F j ∨ w.heap.size ≤ j) ∧ j < w'.heap.size, ⟨ht.1.mono (fun j hj hl => ⟨hj, hl⟩), ⟨box_keep ht.2 h.mp.blk h.fg, h.mp.lo, h.mp.hi⟩, box_keep ht.2 h.bb h.fk, fun j hj => ⟨?_, hj.2⟩, fun hf => ?_, fun hf => ?_, h.lg, h.lk, by rw [hs]; exact h.sz, h.lab, h.tt⟩, ht.2.mono (fun j hj => .inl hj), fun j hj => hj.1⟩
  · rcases hj.1 with h1 | h1
    · exact (h.low j h1).1
    · omega
  · rcases hf.1 with h1 | h1
    · exact h.fg h1
    · have := h.mp.blk.lt; omega
  · rcases hf.1 with h1 | h1
    · exact h.fk h1
    · have := h.bb.lt; omega
theorem bthen_map (h : Bk B w F k p g S l t) (hm : Mp w' g l') (hb : But g w w') (hs : l'.length = l.length) (hL : Lab l') : BThen B F w w' k p g S l' t :=
  ⟨F, ⟨h.dk.keep (fun j hj hl => hb.block j (fun e => h.fg (e ▸ hj)) hl), hm, h.bb.but hb h.ne, fun j hj => ⟨(h.low j hj).1, Nat.lt_of_lt_of_le (h.low j hj).2 hb.size⟩, h.fg, h.fk, h.lg, h.lk, hs.trans h.sz, hL, h.tt⟩, Frm.of_but hb (.inr rfl), fun j hj => .inl hj⟩
theorem bthen_trans {w2 : World} {S2 : DS} {l2 : List Bool} (h : BThen B F w w' k p g S l t) (hg : g < w.heap.size) (h2 : ∀ F', Bk B w' F' k p g S l t → BThen B F' w' w2 k p g S2 l2 t) : BThen B F w w2 k p g S2 l2 t := by
  obtain ⟨F1, hb1, hf1, hn1⟩ := h
  obtain ⟨F2, hb2, hf2, hn2⟩ := h2 F1 hb1
  refine ⟨F2, hb2, ⟨hf2.os.trans hf1.os, hf2.tape.trans hf1.tape, hf2.output.trans hf1.output, Nat.le_trans hf1.size hf2.size, fun j hj hl => ?_⟩, fun j hj => ?_⟩
  · refine (hf2.block j (fun e => ?_) (Nat.lt_of_lt_of_le hl hf1.size)).trans (hf1.block j hj hl)
    rcases e with e | e
    · rcases hn1 j e with h3 | h3
      · exact hj (.inl h3)
      · omega
    · exact hj (.inr e)
  · rcases hn2 j hj with h3 | h3
    · exact hn1 j h3
    · exact .inr (Nat.le_trans hf1.size h3)
theorem BThen.below (h : BThen B F w w' k p g S l t) (hB : B ≤ w.heap.size) (hF : ∀ j, F j → B ≤ j) (hg : B ≤ g) : Below B w w' := by
  obtain ⟨F1, hb1, hf1, hn1⟩ := h
  exact hf1.below hB (fun j hj => hj.elim (hF j) (fun e => e ▸ hg))

theorem bdown_false (h : Bk B w F k p g S l t) (hl : S.ws.length ≤ 900000) (hoff : S.off = false) : Calls Tryd.prog 102 #[.pointer (some ⟨k, 0, none⟩)] w fun e w' => e = .returned (.bool false) ∧ Below w.heap.size w w' := by
  have hc0 : w.cell? ⟨k, 0, none⟩ = some (.pointer (some ⟨p, 0, none⟩)) := h.bb.cell 0
  have hrd := dk_read h.dk (by omega) (-1)
  rw [DS.read_no8 hoff (by unfold DS.has; omega)] at hrd
  go_enter Tryd.func102, Tryd.ntmps102
  go_wp2_with (first
    | (go_at_call 142; go_must (refine hrd.mono ?_); rintro e w1 ⟨a1, c1, rfl, _, hb1⟩))
  go_ret
  exact ⟨rfl, hb1⟩

theorem bdown_true (h : Bk B w F k p g S l t) (hl : S.ws.length ≤ 900000) (hoff : S.off = true) : Calls Tryd.prog 102 #[.pointer (some ⟨k, 0, none⟩)] w fun e w' => e = .returned (.bool true) ∧ Below w.heap.size w w' := by
  have hc0 : w.cell? ⟨k, 0, none⟩ = some (.pointer (some ⟨p, 0, none⟩)) := h.bb.cell 0
  have hrd := dk_read h.dk (by omega) (-1)
  rw [DS.read_off8 hoff] at hrd
  go_enter Tryd.func102, Tryd.ntmps102
  go_wp2_with (first
    | (go_at_call 142; go_must (refine hrd.mono ?_); rintro e w1 ⟨a1, c1, rfl, _, hb1⟩))
  go_ret
  exact ⟨rfl, hb1⟩

theorem bdown_run (h : Bk B w F k p g S l t) (hl : S.ws.length ≤ 900000) : Calls Tryd.prog 102 #[.pointer (some ⟨k, 0, none⟩)] w fun e w' => e = .returned (.bool S.off) ∧ Below w.heap.size w w' := by
  cases hoff : S.off
  · exact bdown_false h hl hoff
  · exact bdown_true h hl hoff

set_option maxHeartbeats 2000000 in
theorem allows_run (h : Bk B w F k p g S l t) (hl : S.ws.length ≤ 900000) (q : Pt) (hq : q.ok) : Calls Tryd.prog 106 #[.pointer (some ⟨k, 0, none⟩), .agg q.vs.toArray] w fun e w' => e = .returned (.int .i64 (okK S q)) ∧ Below w.heap.size w w' := by
  have hvl := Pt.vs_len hq
  have hmay := may_run q hq
  have hdn := fun u (hu : Below w.heap.size w u) => bdown_run (h.stays hu) hl
  obtain ⟨vs, hvs⟩ : ∃ vs, vs = q.vs := ⟨_, rfl⟩
  rw [← hvs] at hvl hmay ⊢
  clear hvs
  unfold okK
  cases hoff : S.off
  · rw [hoff] at hdn
    cases hm : q.may
    · rw [hm] at hmay
      go_enter Tryd.func106, Tryd.ntmps106
      go_wp2_with (first
        | ((with_reducible show wpList _ _ _ (Oper.mk _ (Op.box _ _) _ _ _ _ :: _) _ _); refine wpList_box0 (by rfl) 42 (.tmp 1) (by rfl) vs (by rfl) ?_; intro w1 hL1 hb1 hs1
           have hd1 := hdn w1 hb1)
        | (go_at_call 102; go_must (refine hd1.mono ?_); rintro e w2 ⟨rfl, hb2⟩
           have hL2 := hL1.stays hb2)
        | ((with_reducible show wpList _ _ _ (Oper.mk _ (Op.load _ _) _ _ _ _ :: _) _ _); refine wpList_load_blk (by rfl) (.tmp 3) 42 (by rfl) _ 0 35 (by rfl) agg_ptr size_ptr hL2 _ (whole_load hvl) hvl ?_)
        | (go_at_call 147; go_must (refine (hmay _).mono ?_); rintro e w3 ⟨rfl, hb3⟩))
      go_ret
      exact ⟨rfl, below_then (below_then hb1 hb2) hb3⟩
    · rw [hm] at hmay
      go_enter Tryd.func106, Tryd.ntmps106
      go_wp2_with (first
        | ((with_reducible show wpList _ _ _ (Oper.mk _ (Op.box _ _) _ _ _ _ :: _) _ _); refine wpList_box0 (by rfl) 42 (.tmp 1) (by rfl) vs (by rfl) ?_; intro w1 hL1 hb1 hs1
           have hd1 := hdn w1 hb1)
        | (go_at_call 102; go_must (refine hd1.mono ?_); rintro e w2 ⟨rfl, hb2⟩
           have hL2 := hL1.stays hb2)
        | ((with_reducible show wpList _ _ _ (Oper.mk _ (Op.load _ _) _ _ _ _ :: _) _ _); refine wpList_load_blk (by rfl) (.tmp 3) 42 (by rfl) _ 0 35 (by rfl) agg_ptr size_ptr hL2 _ (whole_load hvl) hvl ?_)
        | (go_at_call 147; go_must (refine (hmay _).mono ?_); rintro e w3 ⟨rfl, hb3⟩))
      go_ret
      exact ⟨rfl, below_then (below_then hb1 hb2) hb3⟩
  · rw [hoff] at hdn
    go_enter Tryd.func106, Tryd.ntmps106
    go_wp2_with (first
      | ((with_reducible show wpList _ _ _ (Oper.mk _ (Op.box _ _) _ _ _ _ :: _) _ _); refine wpList_box0 (by rfl) 42 (.tmp 1) (by rfl) vs (by rfl) ?_; intro w1 hL1 hb1 hs1
         have hd1 := hdn w1 hb1)
      | (go_at_call 102; go_must (refine hd1.mono ?_); rintro e w2 ⟨rfl, hb2⟩))
    go_ret
    exact ⟨rfl, below_then hb1 hb2⟩

/-- No copy at the sector 0. -/
theorem right_zero (hs : List Value) (hl32 : hs.length = 32) (w : World) : Calls Tryd.prog 107 #[.pointer (some ⟨k, 0, none⟩), .int .u32 0, .agg hs.toArray] w fun e w' => e = .returned (.tuple #[.slice none 0 0, .bool false]) ∧ Below w.heap.size w w' := by
  go_enter Tryd.func107, Tryd.ntmps107
  go_wp2_with (first
    | ((with_reducible show wpList _ _ _ (Oper.mk _ (Op.box _ _) _ _ _ _ :: _) _ _); refine wpList_box0 (by rfl) 39 (.tmp 2) (by rfl) hs (by rfl) ?_; intro w1 hL1 hb1 hs1))
  go_ret2
  exact ⟨rfl, hb1⟩

set_option maxHeartbeats 2000000 in
/-- No such sector. -/
theorem right_out (h : Bk B w F k p g S l t) (hln : S.ws.length ≤ 900000) (hoff : S.off = false) (x : Nat) (hx0 : x ≠ 0) (hx : x < 4294967296) (hno : ¬ x < S.laid.length / 256) (hs : List Value) (hl32 : hs.length = 32) : Calls Tryd.prog 107 #[.pointer (some ⟨k, 0, none⟩), .int .u32 (x : Int), .agg hs.toArray] w fun e w' => e = .returned (.tuple #[.slice none 0 0, .bool false]) ∧ Below w.heap.size w w' := by
  have hx0' : ¬ ((x : Int) = 0) := by omega
  have hc0 : ∀ u, Below w.heap.size w u → u.cell? ⟨k, 0, none⟩ = some (.pointer (some ⟨p, 0, none⟩)) := fun u hu => (h.stays hu).bb.cell 0
  have hwr : IntKind.i64.wrap (x : Int) = (x : Int) := by rw [IntKind.wrap_i64]; omega
  have hrd : ∀ u, Below w.heap.size w u → Calls Tryd.prog 142 #[.pointer (some ⟨p, 0, none⟩), .int .i64 (x : Int)] u fun e w' => ∃ a c, e = .returned (.tuple #[.slice a 0 c, .int .i64 1]) ∧ Below u.heap.size u w' := fun u hu => by
    refine (dk_read (h.stays hu).dk (by omega) (x : Int)).mono ?_
    rw [DS.read_no8 hoff (by unfold DS.has; omega)]
    rintro e w' ⟨a, c, rfl, _, hb⟩
    exact ⟨a, c, rfl, hb⟩
  go_enter Tryd.func107, Tryd.ntmps107
  go_wp2_with (first
    | ((with_reducible show wpList _ _ _ (Oper.mk _ (Op.box _ _) _ _ _ _ :: _) _ _); refine wpList_box0 (by rfl) 39 (.tmp 2) (by rfl) hs (by rfl) ?_; intro w1 hL1 hb1 hs1
       have hc1 := hc0 w1 hb1
       have hr1 := hrd w1 hb1)
    | (go_at_call 142; go_must (refine hr1.mono ?_); rintro e w2 ⟨a2, c2, rfl, hb2⟩))
  go_region
  go_wp2
  go_ret2
  exact ⟨rfl, below_then hb1 hb2.drew⟩

set_option maxHeartbeats 4000000 in
theorem right_yes (h : Bk B w F k p g S l t) (hln : S.ws.length ≤ 900000) (hV : Vars w) (hoff : S.off = false) (x : Nat) (hx0 : x ≠ 0) (hx : x < 4294967296) (hin : x < S.laid.length / 256) (hh : List Int) (hl32 : hh.length = 32) (hsum : (shaOf (readW S.laid S.ws x) == hh) = true) : Calls Tryd.prog 107 #[.pointer (some ⟨k, 0, none⟩), .int .u32 (x : Int), .agg (hh.map (Value.int .u8)).toArray] w fun e w' => ∃ a c, e = .returned (.tuple #[.slice a 256 c, .bool true]) ∧ NewB w.heap.size w' a c (readW S.laid S.ws x) ∧ Below w.heap.size w w' := by
  have hx0' : ¬ ((x : Int) = 0) := by omega
  have hc0 : ∀ u, Below w.heap.size w u → u.cell? ⟨k, 0, none⟩ = some (.pointer (some ⟨p, 0, none⟩)) := fun u hu => (h.stays hu).bb.cell 0
  have hwr : IntKind.i64.wrap (x : Int) = (x : Int) := by rw [IntKind.wrap_i64]; omega
  obtain ⟨n, hok⟩ := h.dk.ok
  have hxn : x < n := by rw [hok.secs] at hin; exact hin
  have hrw := readW_ok hok hxn
  have heq : ∀ u, (Op.equalIn 10000 39 (.agg ((shaOf (readW S.laid S.ws x)).map (Value.int .u8)).toArray) (.agg (hh.map (Value.int .u8)).toArray)).run Tryd.prog u = .ok (shaOf (readW S.laid S.ws x) == hh) u := fun u => equal_ints Tryd.underlying39 Tryd.underlying5 sizes5 9998 _ _ (shaOf_length _) hl32 u
  rw [hsum] at heq
  have hrd : ∀ u, Below w.heap.size w u → Calls Tryd.prog 142 #[.pointer (some ⟨p, 0, none⟩), .int .i64 (x : Int)] u fun e w' => ∃ a c, e = .returned (.tuple #[.slice a 256 c, .int .i64 0]) ∧ Out u.heap.size w' (.slice a 256 c) (readW S.laid S.ws x) ∧ Below u.heap.size u w' := fun u hu => by
    refine (dk_read (h.stays hu).dk (by omega) (x : Int)).mono ?_
    rw [DS.read_at8 hok hoff hxn]
    simp only [hrw.1]
    rintro e w' ⟨a, c, rfl, ho, hb⟩
    exact ⟨a, c, rfl, ho, hb⟩
  have hsm : ∀ u a c, Below w.heap.size w u → Bs u a c (readW S.laid S.ws x) → Calls Tryd.prog 96 #[.slice a 256 c] u fun e w' => e = .returned (.agg ((shaOf (readW S.laid S.ws x)).map (Value.int .u8)).toArray) ∧ Below u.heap.size u w' := fun u a c hu hB => by
    have := sum_run a c _ u hB (hV.stays hu) (by rw [hrw.1]; omega)
    rw [hrw.1] at this
    exact this
  obtain ⟨hs, hhs⟩ : ∃ hs, hs = hh.map (Value.int .u8) := ⟨_, rfl⟩
  obtain ⟨ss, hss⟩ : ∃ ss, ss = (shaOf (readW S.laid S.ws x)).map (Value.int .u8) := ⟨_, rfl⟩
  obtain ⟨R, hR⟩ : ∃ R, R = readW S.laid S.ws x := ⟨_, rfl⟩
  have hhl : hs.length = 32 := by rw [hhs, List.length_map, hl32]
  rw [← hss] at heq hsm
  rw [← hhs] at heq ⊢
  rw [← hR] at hrd hsm hrw ⊢
  clear hhs hss hR hsum hok
  go_enter Tryd.func107, Tryd.ntmps107
  go_wp2_with (first
    | ((with_reducible show wpList _ _ _ (Oper.mk _ (Op.box _ _) _ _ _ _ :: _) _ _); refine wpList_box0 (by rfl) 39 (.tmp 2) (by rfl) hs (by rfl) ?_; intro w1 hL1 hb1 hs1
       have hc1 := hc0 w1 hb1
       have hr1 := hrd w1 hb1)
    | (go_at_call 142; go_must (refine hr1.mono ?_); rintro e w2 ⟨a2, c2, rfl, ho2, hb2⟩
       have hL2 := hL1.stays hb2
       have hB2 := (Out.bs ho2 hrw.2).2.1))
  have hb2' := below_then hb1 hb2
  have hsum2 : ∀ u, Below w2.heap.size w2 u → Calls Tryd.prog 96 #[.slice a2 256 c2] u fun e w' => e = .returned (.agg ss.toArray) ∧ Below u.heap.size u w' := fun u hu => hsm u a2 c2 (below_then hb2' hu) (hB2.stays hu)
  have hld : ∀ u, Below w2.heap.size w2 u → (Instr.loadAt 39 (.pointer (some ⟨w.heap.size, 0, none⟩))).run Tryd.prog u = .ok (.agg hs.toArray) u := fun u hu => run_load_blk agg_hsh size_hash (hL2.stays hu) (whole_load hhl) hhl
  have HEQ : Hid (∀ u, (Op.equalIn 10000 39 (.agg ss.toArray) (.agg hs.toArray)).run Tryd.prog u = .ok true u) := heq
  clear hsm hrd hc0 hr1 heq
  refine UpT.wp_region_tail 7 (UpT.tell [(4, isV (.agg ss.toArray))]) (fun _ => false) (by kernel_rfl) (by kernel_rfl) (UpT.tell_steady _ (by
    intro p hp
    simp only [List.mem_cons, List.not_mem_nil, or_false] at hp
    rcases hp with rfl <;> first | exact isV_steady _ | exact slB_steady _ _)) ?_
  simp only [List.take_succ_cons, List.take_zero]
  apply UpT.wpUp_pure
  case hw => rfl
  case hψ => rfl
  case hv => (intro wz hp; clear hp; go_simp; try (with_reducible rfl))
  simp only [Act.put, List.setIfInBounds_toArray, List.set_cons_zero, List.set_cons_succ]
  apply UpT.wpUp_pure
  case hw => rfl
  case hψ => rfl
  case hv => (intro wz hp; clear hp; go_simp; try (with_reducible rfl))
  simp only [Act.put, List.setIfInBounds_toArray, List.set_cons_zero, List.set_cons_succ]
  apply UpT.wpUp_pure
  case hw => rfl
  case hψ => rfl
  case hv => (intro wz hp; clear hp; go_simp; try (with_reducible rfl))
  simp only [Act.put, List.setIfInBounds_toArray, List.set_cons_zero, List.set_cons_succ]
  apply UpT.wpUp_pure
  case hw => rfl
  case hψ => rfl
  case hv => (intro wz hp; clear hp; go_simp; try (with_reducible rfl))
  simp only [Act.put, List.setIfInBounds_toArray, List.set_cons_zero, List.set_cons_succ]
  refine UpT.wpUp_call _ 96 #[.slice a2 256 c2] (by rfl) (by rfl) (by rfl) (fun wz => by go_simp) (fun wz hp => calls_isV (hsum2 wz hp.1)) ?_
  rintro v ⟨u, _, hf⟩
  obtain rfl := hf.of 4 v _ rfl rfl
  clear hf
  simp only [Act.put, List.setIfInBounds_toArray, List.set_cons_zero, List.set_cons_succ]
  refine UpT.wpUp_pure (.agg hs.toArray) (by rfl) (by rfl) (fun wz hp => exec_load (by rfl) (by rfl) (hld wz hp.1)) ?_
  simp only [Act.put, List.setIfInBounds_toArray, List.set_cons_zero, List.set_cons_succ]
  have heq := HEQ.out
  apply UpT.wpUp_pure
  case hw => rfl
  case hψ => rfl
  case hv => (intro wz hp; clear hp; go_simp; try (with_reducible rfl))
  simp only [Act.put, List.setIfInBounds_toArray, List.set_cons_zero, List.set_cons_succ]
  refine UpT.wpUp_end ?_
  intro w5 hb5 hf
  clear hf
  simp only [List.drop_succ_cons, List.drop_zero]
  go_wp2
  go_ret2
  exact ⟨a2, c2, rfl, ⟨hB2.stays hb5, fun x hx => Nat.le_trans hb1.size ((Out.bs ho2 hrw.2).2.2 x hx)⟩, below_then hb2' hb5⟩

set_option maxHeartbeats 4000000 in
theorem right_no (h : Bk B w F k p g S l t) (hln : S.ws.length ≤ 900000) (hV : Vars w) (hoff : S.off = false) (x : Nat) (hx0 : x ≠ 0) (hx : x < 4294967296) (hin : x < S.laid.length / 256) (hh : List Int) (hl32 : hh.length = 32) (hsum : (shaOf (readW S.laid S.ws x) == hh) = false) : Calls Tryd.prog 107 #[.pointer (some ⟨k, 0, none⟩), .int .u32 (x : Int), .agg (hh.map (Value.int .u8)).toArray] w fun e w' => e = .returned (.tuple #[.slice none 0 0, .bool false]) ∧ Below w.heap.size w w' := by
  have hx0' : ¬ ((x : Int) = 0) := by omega
  have hc0 : ∀ u, Below w.heap.size w u → u.cell? ⟨k, 0, none⟩ = some (.pointer (some ⟨p, 0, none⟩)) := fun u hu => (h.stays hu).bb.cell 0
  have hwr : IntKind.i64.wrap (x : Int) = (x : Int) := by rw [IntKind.wrap_i64]; omega
  obtain ⟨n, hok⟩ := h.dk.ok
  have hxn : x < n := by rw [hok.secs] at hin; exact hin
  have hrw := readW_ok hok hxn
  have heq : ∀ u, (Op.equalIn 10000 39 (.agg ((shaOf (readW S.laid S.ws x)).map (Value.int .u8)).toArray) (.agg (hh.map (Value.int .u8)).toArray)).run Tryd.prog u = .ok (shaOf (readW S.laid S.ws x) == hh) u := fun u => equal_ints Tryd.underlying39 Tryd.underlying5 sizes5 9998 _ _ (shaOf_length _) hl32 u
  rw [hsum] at heq
  have hrd : ∀ u, Below w.heap.size w u → Calls Tryd.prog 142 #[.pointer (some ⟨p, 0, none⟩), .int .i64 (x : Int)] u fun e w' => ∃ a c, e = .returned (.tuple #[.slice a 256 c, .int .i64 0]) ∧ Out u.heap.size w' (.slice a 256 c) (readW S.laid S.ws x) ∧ Below u.heap.size u w' := fun u hu => by
    refine (dk_read (h.stays hu).dk (by omega) (x : Int)).mono ?_
    rw [DS.read_at8 hok hoff hxn]
    simp only [hrw.1]
    rintro e w' ⟨a, c, rfl, ho, hb⟩
    exact ⟨a, c, rfl, ho, hb⟩
  have hsm : ∀ u a c, Below w.heap.size w u → Bs u a c (readW S.laid S.ws x) → Calls Tryd.prog 96 #[.slice a 256 c] u fun e w' => e = .returned (.agg ((shaOf (readW S.laid S.ws x)).map (Value.int .u8)).toArray) ∧ Below u.heap.size u w' := fun u a c hu hB => by
    have := sum_run a c _ u hB (hV.stays hu) (by rw [hrw.1]; omega)
    rw [hrw.1] at this
    exact this
  obtain ⟨hs, hhs⟩ : ∃ hs, hs = hh.map (Value.int .u8) := ⟨_, rfl⟩
  obtain ⟨ss, hss⟩ : ∃ ss, ss = (shaOf (readW S.laid S.ws x)).map (Value.int .u8) := ⟨_, rfl⟩
  obtain ⟨R, hR⟩ : ∃ R, R = readW S.laid S.ws x := ⟨_, rfl⟩
  have hhl : hs.length = 32 := by rw [hhs, List.length_map, hl32]
  rw [← hss] at heq hsm
  rw [← hhs] at heq ⊢
  rw [← hR] at hrd hsm hrw
  clear hhs hss hR hsum hok
  go_enter Tryd.func107, Tryd.ntmps107
  go_wp2_with (first
    | ((with_reducible show wpList _ _ _ (Oper.mk _ (Op.box _ _) _ _ _ _ :: _) _ _); refine wpList_box0 (by rfl) 39 (.tmp 2) (by rfl) hs (by rfl) ?_; intro w1 hL1 hb1 hs1
       have hc1 := hc0 w1 hb1
       have hr1 := hrd w1 hb1)
    | (go_at_call 142; go_must (refine hr1.mono ?_); rintro e w2 ⟨a2, c2, rfl, ho2, hb2⟩
       have hL2 := hL1.stays hb2
       have hB2 := (Out.bs ho2 hrw.2).2.1))
  have hb2' := below_then hb1 hb2
  have hsum2 : ∀ u, Below w2.heap.size w2 u → Calls Tryd.prog 96 #[.slice a2 256 c2] u fun e w' => e = .returned (.agg ss.toArray) ∧ Below u.heap.size u w' := fun u hu => hsm u a2 c2 (below_then hb2' hu) (hB2.stays hu)
  have hld : ∀ u, Below w2.heap.size w2 u → (Instr.loadAt 39 (.pointer (some ⟨w.heap.size, 0, none⟩))).run Tryd.prog u = .ok (.agg hs.toArray) u := fun u hu => run_load_blk agg_hsh size_hash (hL2.stays hu) (whole_load hhl) hhl
  have HEQ : Hid (∀ u, (Op.equalIn 10000 39 (.agg ss.toArray) (.agg hs.toArray)).run Tryd.prog u = .ok false u) := heq
  clear hsm hrd hc0 hr1 heq
  refine UpT.wp_region_tail 7 (UpT.tell [(4, isV (.agg ss.toArray))]) (fun _ => false) (by kernel_rfl) (by kernel_rfl) (UpT.tell_steady _ (by
    intro p hp
    simp only [List.mem_cons, List.not_mem_nil, or_false] at hp
    rcases hp with rfl <;> first | exact isV_steady _ | exact slB_steady _ _)) ?_
  simp only [List.take_succ_cons, List.take_zero]
  apply UpT.wpUp_pure
  case hw => rfl
  case hψ => rfl
  case hv => (intro wz hp; clear hp; go_simp; try (with_reducible rfl))
  simp only [Act.put, List.setIfInBounds_toArray, List.set_cons_zero, List.set_cons_succ]
  apply UpT.wpUp_pure
  case hw => rfl
  case hψ => rfl
  case hv => (intro wz hp; clear hp; go_simp; try (with_reducible rfl))
  simp only [Act.put, List.setIfInBounds_toArray, List.set_cons_zero, List.set_cons_succ]
  apply UpT.wpUp_pure
  case hw => rfl
  case hψ => rfl
  case hv => (intro wz hp; clear hp; go_simp; try (with_reducible rfl))
  simp only [Act.put, List.setIfInBounds_toArray, List.set_cons_zero, List.set_cons_succ]
  apply UpT.wpUp_pure
  case hw => rfl
  case hψ => rfl
  case hv => (intro wz hp; clear hp; go_simp; try (with_reducible rfl))
  simp only [Act.put, List.setIfInBounds_toArray, List.set_cons_zero, List.set_cons_succ]
  refine UpT.wpUp_call _ 96 #[.slice a2 256 c2] (by rfl) (by rfl) (by rfl) (fun wz => by go_simp) (fun wz hp => calls_isV (hsum2 wz hp.1)) ?_
  rintro v ⟨u, _, hf⟩
  obtain rfl := hf.of 4 v _ rfl rfl
  clear hf
  simp only [Act.put, List.setIfInBounds_toArray, List.set_cons_zero, List.set_cons_succ]
  refine UpT.wpUp_pure (.agg hs.toArray) (by rfl) (by rfl) (fun wz hp => exec_load (by rfl) (by rfl) (hld wz hp.1)) ?_
  simp only [Act.put, List.setIfInBounds_toArray, List.set_cons_zero, List.set_cons_succ]
  have heq := HEQ.out
  apply UpT.wpUp_pure
  case hw => rfl
  case hψ => rfl
  case hv => (intro wz hp; clear hp; go_simp; try (with_reducible rfl))
  simp only [Act.put, List.setIfInBounds_toArray, List.set_cons_zero, List.set_cons_succ]
  refine UpT.wpUp_end ?_
  intro w5 hb5 hf
  clear hf
  simp only [List.drop_succ_cons, List.drop_zero]
  go_wp2
  go_ret2
  exact ⟨rfl, below_then hb2' hb5⟩

theorem right_good (h : Bk B w F k p g S l t) (hln : S.ws.length ≤ 900000) (hV : Vars w) (hoff : S.off = false) (x : Nat) (hx : x < 4294967296) (hh : List Int) (hl32 : hh.length = 32) (hr : rightL S x hh = true) : Calls Tryd.prog 107 #[.pointer (some ⟨k, 0, none⟩), .int .u32 (x : Int), .agg (hh.map (Value.int .u8)).toArray] w fun e w' => ∃ a c, e = .returned (.tuple #[.slice a 256 c, .bool true]) ∧ NewB w.heap.size w' a c (readW S.laid S.ws x) ∧ Below w.heap.size w w' := by
  obtain ⟨n, hok⟩ := h.dk.ok
  obtain ⟨h1, h2, h3⟩ := rightL_lt hok hr
  exact right_yes h hln hV hoff x h2 hx (by rw [hok.secs]; exact h1) hh hl32 (by simpa using h3)
theorem right_bad (h : Bk B w F k p g S l t) (hln : S.ws.length ≤ 900000) (hV : Vars w) (hoff : S.off = false) (x : Nat) (hx : x < 4294967296) (hh : List Int) (hl32 : hh.length = 32) (hr : rightL S x hh = false) : Calls Tryd.prog 107 #[.pointer (some ⟨k, 0, none⟩), .int .u32 (x : Int), .agg (hh.map (Value.int .u8)).toArray] w fun e w' => e = .returned (.tuple #[.slice none 0 0, .bool false]) ∧ Below w.heap.size w w' := by
  by_cases h0 : x = 0
  · subst h0
    exact right_zero _ (by simpa using hl32) w
  · by_cases h1 : x < S.laid.length / 256
    · refine right_no h hln hV hoff x h0 hx h1 hh hl32 ?_
      unfold rightL at hr
      simp [h0, h1] at hr
      simpa using hr
    · exact right_out h hln hoff x h0 hx h1 _ (by simpa using hl32)

end

end Go.Proofs.YthbldjnpnligpaaDoor

/-
  Laws: truths and strings stored in a block; blocks that a region makes.
-/

namespace Go.Proofs.YthbldjnpnligpaaDoor
set_option linter.unusedSimpArgs false
set_option linter.unusedVariables false
set_option maxRecDepth 100000
open Go.RowKit

theorem run_store_one {P : Program} {w : World} {t e : TypeId} {g off : Nat} {vs : List Value} {v : Value} (hc : v.cells = #[v]) (h1 : v.oneCell' = true) (hZ : ∀ w, (sizeOf t).run P w = .ok 1 w) (hb : Blk e w g vs) (hle : off < vs.length) :
    (Instr.storeAt t (.pointer (some ⟨g, off, none⟩)) v).run P w = .ok () (w.setRow g (vs.set off v).toArray) := by
  have h := run_storeCells_at (P := P) g off e [v] 0 vs.toArray w hb (by simp; omega) (by simpa using h1)
  simp only [Nat.add_zero, List.length_singleton] at h
  have hs : vs.take off ++ [v] ++ vs.drop (off + 1) = vs.set off v := by rw [List.set_eq_take_append_cons_drop, if_pos hle]; simp
  simp only [List.toList_toArray, hs] at h
  simp [Instr.storeAt, Instr.sureAddr, storeVar, hZ, h, Sem.run_bind, hc]

/-- A value of one cell, stored in a block. -/
theorem wpList_store_one {P : Program} {w : World} {ops : Array Oper} {rest : List Oper} {o : Oper} {a : Act} {Q : Exit → Act → World → Prop} (hgd : o.guard = none) (x y : Operand) (t : TypeId) (ho : o.op = Op.store t x y)
    (g off : Nat) (hx : a.eval x = .pointer (some ⟨g, off, none⟩)) (v : Value) (hy : a.eval y = v) (hc : v.cells = #[v]) (h1 : v.oneCell' = true) (hZ : ∀ w, (sizeOf t).run P w = .ok 1 w) {e : TypeId} {vs : List Value} (hb : Blk e w g vs) (hle : off < vs.length)
    (h : ∀ w', Blk e w' g (vs.set off v) → But g w w' → w'.heap.size = w.heap.size → wpList P ops Q rest (a.put o.dst undef) w') : wpList P ops Q (o :: rest) a w := by
  refine wpList_plain hgd fun K' hK => ?_
  have hr := run_store_one (P := P) (w := w) hc h1 hZ hb hle
  unfold Oper.wp execOp
  simp only [ho, hx, hy, Sem.run_bind, Sem.run_pure, Result.andThen_ok, hr]
  exact hK _ _ (h _ (setRow_heap w g _ _ e _ hb) ((But.refl g w).setRow _) (by simp [World.setRow]))

/-- A new block of these cells. -/
def blkT (t : TypeId) (B : Nat) (vs : List Value) : Value → World → Prop := fun v w => ∃ g, v = .pointer (some ⟨g, 0, none⟩) ∧ B ≤ g ∧ Blk t w g vs
theorem blkT_steady (t : TypeId) (B : Nat) (vs : List Value) : UpT.Steady (blkT t B vs) := fun v w w' hb ⟨g, h1, h2, h3⟩ => ⟨g, h1, h2, h3.stays hb⟩
theorem exec_alloc0 {P : Program} {a : Act} {o : Oper} {w : World} {t : TypeId} {zs : List Value} (ho : o.op = Op.alloc t) (hr : (Instr.alloc t true (.tuple #[])).run P w = .ok (.pointer (some ⟨w.heap.size, 0, none⟩)) (w.alloc (.cells zs.toArray t))) :
    (execOp a.eval o).run P w = .ok (.value (.pointer (some ⟨w.heap.size, 0, none⟩))) (w.alloc (.cells zs.toArray t)) := by
  unfold execOp
  simp only [ho, Sem.run_bind, Sem.run_pure, Result.andThen_ok, hr]
theorem exec_buildL {P : Program} {a : Act} {o : Oper} {w : World} {t : TypeId} (ps : List (Nat × Operand)) (ho : o.op = Op.build t ps.toArray) (qs : List (Nat × Value)) (hq : ps.map (fun q => (q.1, a.eval q.2)) = qs) {V : Value} (hr : (Instr.build t qs.toArray).run P w = .ok V w) : (execOp a.eval o).run P w = .ok (.value V) w := by
  have e : ps.toArray.map (fun (i, x) => (i, a.eval x)) = qs.toArray := by rw [List.map_toArray, ← hq]
  unfold execOp
  simp only [ho, Sem.run_bind, Sem.run_pure, Result.andThen_ok, e, hr]

end Go.Proofs.YthbldjnpnligpaaDoor

/-
  What calls leave of a disk, one behind the other.
-/

namespace Go.Proofs.YthbldjnpnligpaaDoor
set_option linter.unusedSimpArgs false
set_option linter.unusedVariables false
set_option maxRecDepth 100000
open Go.RowKit

section
variable {B : Nat} {w w' : World} {F : Nat → Prop} {k p g : Nat} {S S' : DS} {l l' : List Bool} {t : Nat}

theorem then_trans {w1 w2 : World} {S1 S2 : DS} (ht : Then F w w1 p S1) (ht2 : Then (fun j => F j ∨ w.heap.size ≤ j) w1 w2 p S2) : Then F w w2 p S2 := by
  refine ⟨ht2.1.mono (fun j hj _ => ?_), ?_⟩
  · rcases hj with (hj | hj) | hj
    · exact .inl hj
    · exact .inr hj
    · exact .inr (by have := ht.2.size; omega)
  · exact ⟨ht2.2.os.trans ht.2.os, ht2.2.tape.trans ht.2.tape, ht2.2.output.trans ht.2.output, by have := ht.2.size; have := ht2.2.size; omega,
      fun j hj hl => (ht2.2.block j (fun hh => hh.elim hj (fun h2 => by omega)) (by have := ht.2.size; omega)).trans (ht.2.block j hj hl)⟩
theorem bs_keep {a : Option Addr} {c : Nat} {xs : List Int} (hf : Frm F w w') (hB : Bs w a c xs) (hn : ∀ x, a = some x → ¬ F x.block) : Bs w' a c xs := by
  refine ⟨hB.rng, hB.cap, hB.capm, hB.nul, ?_⟩
  rcases hB.lay with h0 | ⟨b, off, hbe, hcell⟩
  · exact .inl h0
  · refine .inr ⟨b, off, hbe, fun i hi => ?_⟩
    subst hbe
    rw [World.cell?_of_block (w := w) (hf.block b (hn _ rfl) (World.block_lt_of_cell? w _ (hcell i hi)))]
    exact hcell i hi
theorem us_keep {a : Option Addr} {ks : List Nat} (hf : Frm F w w') (hB : Us w a ks) (hn : ∀ x, a = some x → ¬ F x.block) : Us w' a ks := by
  refine ⟨hB.rng, ?_⟩
  rcases hB.lay with h0 | ⟨b, off, hbe, hcell⟩
  · exact .inl h0
  · refine .inr ⟨b, off, hbe, fun i hi => ?_⟩
    subst hbe
    rw [World.cell?_of_block (w := w) (hf.block b (hn _ rfl) (World.block_lt_of_cell? w _ (hcell i hi)))]
    exact hcell i hi
theorem Bk.base (h : Bk B w F k p g S l t) : B ≤ w.heap.size := by have := h.lk; have := h.bb.lt; omega
/-- The bank behind a call of its disk. -/
theorem Bk.after (h : Bk B w F k p g S l t) (ht : Then F w w' p S') (hs : S'.laid = S.laid) : ∃ F', Bk B w' F' k p g S' l t := by
  obtain ⟨F', h1, _⟩ := bthen_dk h h.base ht (by rw [hs])
  exact ⟨F', h1⟩
theorem Bk.but_new {m : Nat} (h : Bk B w F k p g S l t) (hb : But m w w') (hm : w.heap.size ≤ m) : Bk B w' F k p g S l t :=
  h.but hb (fun hf => by have := (h.low _ hf).2; omega) (fun e => by have := h.mp.blk.lt; omega) (fun e => by have := h.bb.lt; omega)
end

end Go.Proofs.YthbldjnpnligpaaDoor
