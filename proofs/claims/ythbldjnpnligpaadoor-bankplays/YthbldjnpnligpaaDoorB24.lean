/-
 The document's disk: plain lists of strings; spend, Fuse, Put.
-/
import Derived.Test.YthbldjnpnligpaaDoorB23
import Derived.StillTailTactics
namespace Go.Proofs.YthbldjnpnligpaaDoor
set_option linter.unusedSimpArgs false
set_option linter.unusedVariables false
set_option maxRecDepth 100000
open Go.RowKit
def SsAt (w : World) (G : Nat → Prop) (a : Option Addr) (xs : List ByteArray) : Prop :=
 ∃ b off, a = some ⟨b, off, none⟩ ∧ G b ∧ ∀ i, i < xs.length → w.cell? ⟨b, off + i, none⟩ = some (.string (xs.getD i .empty))
def WsAt (w : World) (G : Nat → Prop) (a : Option Addr) (c : Nat) (ws : List (Nat × List Int)) : Prop :=
 (ws = [] ∧ (a = none → c = 0)) ∨ ∃ b off, a = some ⟨b, off, none⟩ ∧ G b ∧ ∀ i, i < ws.length → w.cell? ⟨b, off + 2 * i, none⟩ = some (.int .i64 ((ws.getD i (0, [])).1 : Int)) ∧ w.cell? ⟨b, off + 2 * i + 1, none⟩ = some (.string (strOfNums (ws.getD i (0, [])).2))
def secStrs (laid : List Int) (n : Nat) : List ByteArray := (List.range n).map fun i => strOfNums (secOf laid i)
def rcells (S : DS) (sa : Option Addr) (sc : Nat) (wa : Option Addr) (wc : Nat) (n : Nat) : List Value := [.slice sa n sc, .slice wa S.ws.length wc, .bool S.fused, .int .i64 (S.left : Int), .bool S.off]
def Rf (w : World) (G : Nat → Prop) (cs : List Value) (S : DS) : Prop :=
 ∃ n sa sc wa wc, S.Ok n ∧ cs = rcells S sa sc wa wc n ∧ SsAt w G sa (secStrs S.laid n) ∧ WsAt w G wa wc S.ws
theorem SsAt.keep {w w' : World} {G G' : Nat → Prop} {a : Option Addr} {xs : List ByteArray} (h : SsAt w G a xs) (hx : 0 < xs.length) (hk : ∀ k, G k → k < w.heap.size → w'.heap[k]? = w.heap[k]? ∧ G' k) : SsAt w' G' a xs := by
 obtain ⟨b, off, rfl, hg, hc⟩ := h
 have hlt := World.block_lt_of_cell? _ _ (hc 0 hx)
 refine ⟨b, off, rfl, (hk b hg hlt).2, fun i hi => ?_⟩
 rw [World.cell?_of_block (w := w) (hk b hg hlt).1]
 exact hc i hi
theorem WsAt.keep {w w' : World} {G G' : Nat → Prop} {a : Option Addr} {c : Nat} {ws : List (Nat × List Int)} (h : WsAt w G a c ws) (hk : ∀ k, G k → k < w.heap.size → w'.heap[k]? = w.heap[k]? ∧ G' k) : WsAt w' G' a c ws := by
 rcases h with h | ⟨b, off, rfl, hg, hc⟩
 · exact .inl h
 · by_cases h0 : ws = []
   · exact .inl ⟨h0, by simp⟩
   · have hlt := World.block_lt_of_cell? _ _ (hc 0 (by cases ws; exact absurd rfl h0; simp)).1
     refine .inr ⟨b, off, rfl, (hk b hg hlt).2, fun i hi => ?_⟩
     have h1 : w'.cell? ⟨b, off + 2 * i, none⟩ = w.cell? ⟨b, off + 2 * i, none⟩ := World.cell?_of_block (hk b hg hlt).1
     have h2 : w'.cell? ⟨b, off + 2 * i + 1, none⟩ = w.cell? ⟨b, off + 2 * i + 1, none⟩ := World.cell?_of_block (hk b hg hlt).1
     rw [h1, h2]
     exact hc i hi
theorem Rf.keep {w w' : World} {G G' : Nat → Prop} {cs : List Value} {S : DS} (h : Rf w G cs S) (hk : ∀ k, G k → k < w.heap.size → w'.heap[k]? = w.heap[k]? ∧ G' k) : Rf w' G' cs S := by
 obtain ⟨n, sa, sc, wa, wc, hok, rfl, hs, hw⟩ := h
 exact ⟨n, sa, sc, wa, wc, hok, rfl, hs.keep (by have := hok.lo; simp [secStrs]; omega) hk, hw.keep hk⟩
theorem Rf.stays {w w' : World} {G : Nat → Prop} {cs : List Value} {S : DS} (h : Rf w G cs S) (hb : Below w.heap.size w w') : Rf w' G cs S := h.keep (fun k hg hl => ⟨hb.block k hl, hg⟩)
def RThen (G : Nat → Prop) (w w' : World) (cs : List Value) (S : DS) : Prop := Rf w' (fun k => G k ∨ w.heap.size ≤ k) cs S ∧ Below w.heap.size w w'
theorem rthen_same {G : Nat → Prop} {w w' : World} {cs : List Value} {S : DS} (h : Rf w G cs S) (hb : Below w.heap.size w w') : RThen G w w' cs S :=
 ⟨h.keep (fun k hg hl => ⟨hb.block k hl, .inl hg⟩), hb⟩
theorem Rf.flags {w w' : World} {G G' : Nat → Prop} {S : DS} {sa : Option Addr} {sc : Nat} {wa : Option Addr} {wc n : Nat} (hok : S.Ok n) (hs : SsAt w G sa (secStrs S.laid n)) (hw : WsAt w G wa wc S.ws) {off fused : Bool} {left : Nat} (hl : left < 9223372036854775808) (hk : ∀ k, G k → k < w.heap.size → w'.heap[k]? = w.heap[k]? ∧ G' k) :
 Rf w' G' [.slice sa n sc, .slice wa S.ws.length wc, .bool fused, .int .i64 (left : Int), .bool off] { S with off := off, fused := fused, left := left } :=
 ⟨n, sa, sc, wa, wc, ⟨hok.len, hok.lo, hok.hi, hok.rng, hok.ws, hl⟩, rfl, hs.keep (by have := hok.lo; simp [secStrs]; omega) hk, hw.keep hk⟩
theorem results_blk_tmp {fn : Func} {p u : Tmp} {t e : TypeId} {g n : Nat} {us : List Value} (hf : fn.results = #[.cell p t, .tmp u]) (tmps : Array Value) (P : Program) (w : World) (hp : tmps.getD p undef = .pointer (some ⟨g, 0, none⟩))
 (hA : ∀ w, (isAgg t).run P w = .ok true w) (hZ : ∀ w, (sizeOf t).run P w = .ok n w) (hb : Blk e w g us) (hl : us.length = n) :
 (results fn tmps).run P w = .ok (.tuple #[.agg us.toArray, tmps.getD u undef]) w := by
 have hr := run_load_blk (P := P) (w := w) (off := 0) hA hZ hb (us := us) (by rw [List.drop_zero, List.take_of_length_le (by omega)]) hl
 simp only [Instr.loadAt, Instr.sureAddr, Sem.run_bind, Sem.run_pure, Result.andThen_ok] at hr
 rw [Array.getD_eq_getD_getElem?] at hp
 simp [results, hf, hp, asAddr, Sem.run_bind, hr]
theorem results_blk {fn : Func} {p : Tmp} {t e : TypeId} {g n : Nat} {us : List Value} (hf : fn.results = #[.cell p t]) (tmps : Array Value) (P : Program) (w : World) (hp : tmps.getD p undef = .pointer (some ⟨g, 0, none⟩))
 (hA : ∀ w, (isAgg t).run P w = .ok true w) (hZ : ∀ w, (sizeOf t).run P w = .ok n w) (hb : Blk e w g us) (hl : us.length = n) :
 (results fn tmps).run P w = .ok (.agg us.toArray) w := by
 have hr := run_load_blk (P := P) (w := w) (off := 0) hA hZ hb (us := us) (by rw [List.drop_zero, List.take_of_length_le (by omega)]) hl
 simp only [Instr.loadAt, Instr.sureAddr, Sem.run_bind, Sem.run_pure, Result.andThen_ok] at hr
 rw [Array.getD_eq_getD_getElem?] at hp
 simp [results, hf, hp, asAddr, Sem.run_bind, hr]
theorem rAgg (w : World) : (isAgg 30).run Tryd.prog w = .ok true w := isAgg_struct Tryd.underlying30 w
theorem rSize (w : World) : (sizeOf 30).run Tryd.prog w = .ok 5 w := sizeOf_run (by kernel_rfl) w
set_option maxRecDepth 100000 in
theorem rspend_run (sv wv : Value) (sa : Option Addr) (sn sc : Nat) (hsv : sv = .slice sa sn sc) (wa : Option Addr) (wn wc : Nat) (hwv : wv = .slice wa wn wc) (fused off : Bool) (left : Nat) (hl : left < 9223372036854775808) (w : World) :
 Calls Tryd.prog 117 #[.agg #[sv, wv, .bool fused, .int .i64 (left : Int), .bool off]] w fun e w' =>
  e = .returned (.tuple #[.agg #[sv, wv, .bool fused, .int .i64 ((if fused then left - 1 else left : Nat) : Int), .bool (if may fused left then off else true)], .bool (may fused left)]) ∧ Below w.heap.size w w' := by
 subst hsv hwv
 have hb : ∀ o o' : Obj, Below w.heap.size w ((w.alloc o).alloc o') := fun o o' => ((Below.refl _ _).alloc (Nat.le_refl _) _).alloc (by simp) _
 cases fused with
 | false =>
   go_enter Tryd.func117, Tryd.ntmps117
   go_wp2
   refine bodyPost_ret (results_blk_tmp rfl _ _ _ rfl rAgg rSize (Blk.newAt (by simp) rfl) rfl) rfl ?_
   exact ⟨rfl, hb _ _⟩
 | true =>
   by_cases hz : left = 0
   · subst hz
     go_enter Tryd.func117, Tryd.ntmps117
     go_wp2
     refine bodyPost_ret (results_blk_tmp rfl _ _ _ rfl rAgg rSize (Blk.newAt (by simp) rfl) rfl) rfl ?_
     exact ⟨rfl, hb _ _⟩
   · have hz' : (((left : Nat) : Int) == 0) = false := by simp; omega
     have hz'' : (((left : Nat) : Int) = 0) = False := eq_false (by omega)
     have hm : may true left = true := by simp [may, hz]
     rw [hm, if_pos rfl, if_pos rfl]
     have e1 : ((left - 1 : Nat) : Int) = (left : Int) - 1 := by omega
     rw [e1]
     go_enter Tryd.func117, Tryd.ntmps117
     go_wp2
     refine bodyPost_ret (results_blk_tmp rfl _ _ _ rfl rAgg rSize (Blk.newAt (by simp) rfl) rfl) rfl ?_
     exact ⟨rfl, hb _ _⟩
set_option maxRecDepth 100000 in
theorem rfuse_run {w : World} {G : Nat → Prop} {cs : List Value} {S : DS} (h : Rf w G cs S) (f : Int) (hf : f ≤ 9223372036854775807) :
 Calls Tryd.prog 64 #[.agg cs.toArray, .int .i64 f] w fun e w' => ∃ cs', e = .returned (.agg cs'.toArray) ∧ RThen G w w' cs' (S.fuse f) := by
 obtain ⟨n, sa, sc, wa, wc, hok, rfl, hs, hw⟩ := h
 unfold rcells
 have hb : ∀ o o' : Obj, Below w.heap.size w ((w.alloc o).alloc o') := fun o o' => ((Below.refl _ _).alloc (Nat.le_refl _) _).alloc (by simp) _
 have hfin : ∀ (o o' : Obj) (x : Int), x = ((max f 0).toNat : Int) → RThen G w ((w.alloc o).alloc o') [.slice sa n sc, .slice wa S.ws.length wc, .bool true, .int .i64 x, .bool S.off] (S.fuse f) := fun o o' x hx => by
  subst hx
  exact ⟨Rf.flags (sc := sc) (off := S.off) hok hs hw (by omega) (fun k hg hl => ⟨(hb o o').block k hl, .inl hg⟩), hb o o'⟩
 rcases (by omega : f < 0 ∨ 0 ≤ f) with h0 | h0
 · go_enter Tryd.func64, Tryd.ntmps64
   go_wp2
   refine bodyPost_ret (results_blk rfl _ _ _ rfl rAgg rSize (Blk.newAt (by simp) rfl) rfl) rfl ?_
   exact ⟨_, rfl, hfin _ _ _ (by omega)⟩
 · have h0' : ¬ (f < 0) := by omega
   go_enter Tryd.func64, Tryd.ntmps64
   go_wp2
   refine bodyPost_ret (results_blk rfl _ _ _ rfl rAgg rSize (Blk.newAt (by simp) rfl) rfl) rfl ?_
   exact ⟨_, rfl, hfin _ _ _ (by omega)⟩
end Go.Proofs.YthbldjnpnligpaaDoor

/-
 The document's disk: lists that are appended; Put.
-/

namespace Go.Proofs.YthbldjnpnligpaaDoor
set_option linter.unusedSimpArgs false
set_option linter.unusedVariables false
set_option maxRecDepth 100000
open Go.RowKit
def wcells (ws : List (Nat × List Int)) : List Value := ws.flatMap fun q => [.int .i64 (q.1 : Int), .string (strOfNums q.2)]
theorem wcells_length (ws : List (Nat × List Int)) : (wcells ws).length = ws.length * 2 := by
 induction ws with
 | nil => rfl
 | cons q r ih =>
   have : wcells (q :: r) = [.int .i64 (q.1 : Int), .string (strOfNums q.2)] ++ wcells r := rfl
   rw [this, List.length_append, ih]
   simp; omega
theorem wcells_get {ws : List (Nat × List Int)} {k : Nat} (hk : k < ws.length) : (wcells ws)[2 * k]? = some (.int .i64 ((ws.getD k (0, [])).1 : Int)) ∧ (wcells ws)[2 * k + 1]? = some (.string (strOfNums (ws.getD k (0, [])).2)) := by
 induction ws generalizing k with
 | nil => simp at hk
 | cons q r ih =>
   have e : wcells (q :: r) = (.int .i64 (q.1 : Int)) :: (.string (strOfNums q.2)) :: wcells r := rfl
   cases k with
   | zero => rw [e]; simp
   | succ k =>
     have := ih (k := k) (by simpa using hk)
     have e1 : 2 * (k + 1) = 2 * k + 2 := by omega
     rw [e, e1]
     simpa using this
theorem wcells_one (ws : List (Nat × List Int)) : ∀ u ∈ wcells ws, u.oneCell' = true := by
 intro u hu
 obtain ⟨q, _, hq⟩ := List.mem_flatMap.1 hu
 simp at hq
 rcases hq with rfl | rfl <;> rfl
theorem plain_add (b off j : Nat) : (⟨b, off, none⟩ : Addr).add j = ⟨b, off + j, none⟩ := by unfold Addr.add; split <;> simp_all
theorem wpList_append_ws {w w0 : World} {ops : Array Oper} {rest : List Oper} {o : Oper} {a : Act} {Q : Exit → Act → World → Prop} (hgd : o.guard = none) (s x : Operand)
 (ho : o.op = .call { callee := .builtin .append, args := #[s, x], argTypes := #[28, 28] })
 (base : Nat) (v : Value) (k : Nat) (xs : List Value) (hs : a.eval s = v) (hown : w.ownsRow base 181 2 v k xs)
 (G : Nat → Prop) (wa : Option Addr) (wn wc : Nat) (ws : List (Nat × List Int)) (hx : a.eval x = .slice wa wn wc) (hn : wn = ws.length) (hW : WsAt w G wa wc ws)
 (hlen : k + ws.length ≤ 1000000) (hbase : base ≤ w.heap.size) (hb : Below base w0 w)
 (h : ∀ v' w', w'.ownsRow base 181 2 v' (k + ws.length) (xs ++ wcells ws) → Below base w0 w' → wpList Tryd.prog ops Q rest (a.put o.dst v') w') : wpList Tryd.prog ops Q (o :: rest) a w := by
 subst hn
 have hi : (Tryd.prog.info? 181).map (fun i => (i.zero, i.size, i.bytes)) = some (some (.agg #[.int .i64 0, .string .empty]), 2, 24) := by kernel_rfl
 obtain ⟨i0, hi0, hz0, hz1, hz2⟩ := info_parts hi
 cases wa with
 | none =>
   have hw0 : ws = [] ∧ wc = 0 := by
    rcases hW with ⟨h1, h2⟩ | ⟨b, off, h1, _⟩
    · exact ⟨h1, h2 rfl⟩
    · cases h1
   obtain ⟨rfl, rfl⟩ := hw0
   refine wpList_append_own_none hgd s x 28 ho base 181 i0 2 Tryd.underlying28 hi0 v k xs hs hown hx ?_
   exact h v w (by simpa [wcells] using hown) hb
 | some ad =>
   have hcell : ∀ j u, (wcells ws)[j]? = some u → w.cell? (ad.add j) = some u := by
    intro j u hj
    have hjl : j < ws.length * 2 := by
        rcases Nat.lt_or_ge j (ws.length * 2) with h1 | h1
        · exact h1
        · rw [List.getElem?_eq_none (by rw [wcells_length]; exact h1)] at hj; cases hj
    rcases hW with ⟨rfl, _⟩ | ⟨b, off, h1, _, hc⟩
    · simp at hjl
    · cases h1
      rw [plain_add]
      obtain ⟨h2, h3⟩ := wcells_get (ws := ws) (k := j / 2) (by omega)
      obtain ⟨h4, h5⟩ := hc (j / 2) (by omega)
      rcases Nat.mod_two_eq_zero_or_one j with hm | hm
      · have e : 2 * (j / 2) = j := by omega
        rw [e] at h2 h4
        rw [h4, ← h2, hj]
      · have e : 2 * (j / 2) + 1 = j := by omega
        have e2 : off + 2 * (j / 2) + 1 = off + j := by omega
        rw [e] at h3
        rw [e2] at h5
        rw [h5, ← h3, hj]
   refine wpList_append_own _ hgd s x 28 ho base 181 i0 (.agg #[.int .i64 0, .string .empty]) 2 24 Tryd.underlying28 hi0 hz0 hz1 hz2 rfl (by decide) v k xs hs hown ad ws.length wc (wcells ws) hx (wcells_length ws) hcell (wcells_one ws) (by unfold maxLen; omega) (by omega) hbase ?_
   intro v' w' h1 h2 _
   exact h v' w' h1 (owns_below hown hb hbase h2)
theorem ws_of_owns {w : World} {base : Nat} {v : Value} {ws : List (Nat × List Int)} (h : w.ownsRow base 181 2 v ws.length (wcells ws)) : ∃ a c, v = .slice a ws.length c ∧ WsAt w (fun k => base ≤ k) a c ws := by
 rcases h.2 with ⟨rfl, h0⟩ | ⟨g, cap, cur, rfl, hb, _⟩
 · have : ws = [] := List.eq_nil_of_length_eq_zero h0
   subst this
   exact ⟨none, 0, rfl, .inl ⟨rfl, fun _ => rfl⟩⟩
 · refine ⟨_, _, rfl, .inr ⟨g, 0, rfl, hb, fun i hi => ?_⟩⟩
   obtain ⟨h2, h3⟩ := wcells_get hi
   rw [Nat.zero_add]
   exact ⟨(h.cellAt (2 * i) (by omega)).trans h2, (h.cellAt (2 * i + 1) (by omega)).trans h3⟩
theorem WsAt.mono {w : World} {G G' : Nat → Prop} {a : Option Addr} {c : Nat} {ws : List (Nat × List Int)} (h : WsAt w G a c ws) (hg : ∀ k, G k → G' k) : WsAt w G' a c ws := by
 rcases h with h | ⟨b, off, h1, h2, h3⟩
 · exact .inl h
 · exact .inr ⟨b, off, h1, hg b h2, h3⟩
def put5 (w : World) (g : Nat) (b0 b1 b2 b3 b4 : Value) : World := ((((w.setCell ⟨g, 0, none⟩ b0).setCell ⟨g, 1, none⟩ b1).setCell ⟨g, 2, none⟩ b2).setCell ⟨g, 3, none⟩ b3).setCell ⟨g, 4, none⟩ b4
theorem put5_same {w : World} {t : TypeId} {g : Nat} {a0 a1 a2 a3 a4 : Value} (h : Blk t w g [a0, a1, a2, a3, a4]) (b0 b1 b2 b3 b4 : Value) : Blk t (put5 w g b0 b1 b2 b3 b4) g [b0, b1, b2, b3, b4] := ((((h.set 0 b0).set 1 b1).set 2 b2).set 3 b3).set 4 b4
theorem put5_but (w : World) (g : Nat) (b0 b1 b2 b3 b4 : Value) : But g w (put5 w g b0 b1 b2 b3 b4) := (((((But.refl _ _).setCell _ _).setCell _ _).setCell _ _).setCell _ _).setCell _ _
theorem put5_size (w : World) (g : Nat) (b0 b1 b2 b3 b4 : Value) : (put5 w g b0 b1 b2 b3 b4).heap.size = w.heap.size := by simp [put5]
section
variable {w : World} {G : Nat → Prop} {S : DS} {sa : Option Addr} {sc : Nat} {wa : Option Addr} {wc n : Nat}
set_option maxRecDepth 100000 in
set_option maxHeartbeats 1000000 in
theorem rput_off (i : Int) (b : Value) (sv wv : Value) (sn : Nat) (hsv : sv = .slice sa sn sc) (wn : Nat) (hwv : wv = .slice wa wn wc) (fused : Bool) (left : Nat) (w : World) :
 Calls Tryd.prog 111 #[.agg #[sv, wv, .bool fused, .int .i64 (left : Int), .bool true], .int .i64 i, b] w fun e w' =>
  e = .returned (.tuple #[.agg #[sv, wv, .bool fused, .int .i64 (left : Int), .bool true], .int .i64 8]) ∧ Below w.heap.size w w' := by
 subst hsv hwv
 go_enter Tryd.func111, Tryd.ntmps111
 go_wp2
 refine bodyPost_ret (results_blk_tmp rfl _ _ _ rfl rAgg rSize (Blk.newAt (by simp) rfl) rfl) rfl ?_
 exact ⟨rfl, ((Below.refl _ _).alloc (Nat.le_refl _) _).alloc (by simp) _⟩
set_option maxRecDepth 100000 in
set_option maxHeartbeats 1000000 in
theorem rput_arg (i : Int) (ba : Option Addr) (bn bc : Nat) (sn : Nat) (wn : Nat) (fused : Bool) (left : Nat) (w : World) (hi : ¬ ((0 ≤ i ∧ i < (sn : Int)) ∧ bn = 256)) :
 Calls Tryd.prog 111 #[.agg #[.slice sa sn sc, .slice wa wn wc, .bool fused, .int .i64 (left : Int), .bool false], .int .i64 i, .slice ba bn bc] w fun e w' =>
  e = .returned (.tuple #[.agg #[.slice sa sn sc, .slice wa wn wc, .bool fused, .int .i64 (left : Int), .bool false], .int .i64 1]) ∧ Below w.heap.size w w' := by
 rcases (by omega : i < 0 ∨ 0 ≤ i ∧ (sn : Int) ≤ i ∨ 0 ≤ i ∧ i < (sn : Int) ∧ bn ≠ 256) with h | ⟨h1, h2⟩ | ⟨h1, h2, h3⟩
 · clear hi
   go_enter Tryd.func111, Tryd.ntmps111
   go_wp2
   refine bodyPost_ret (results_blk_tmp rfl _ _ _ rfl rAgg rSize (Blk.newAt (by simp) rfl) rfl) rfl ?_
   exact ⟨rfl, ((Below.refl _ _).alloc (Nat.le_refl _) _).alloc (by simp) _⟩
 · clear hi
   have h1' : ¬ (i < 0) := by omega
   go_enter Tryd.func111, Tryd.ntmps111
   go_wp2
   refine bodyPost_ret (results_blk_tmp rfl _ _ _ rfl rAgg rSize (Blk.newAt (by simp) rfl) rfl) rfl ?_
   exact ⟨rfl, ((Below.refl _ _).alloc (Nat.le_refl _) _).alloc (by simp) _⟩
 · clear hi
   have h1' : ¬ (i < 0) := by omega
   have h2' : ¬ ((sn : Int) ≤ i) := by omega
   have h3' : ((bn : Int) = 256) = False := eq_false (by omega)
   have h3'' : ((bn : Int) == 256) = false := by simp; omega
   clear h3
   go_enter Tryd.func111, Tryd.ntmps111
   go_wp2
   refine bodyPost_ret (results_blk_tmp rfl _ _ _ rfl rAgg rSize (Blk.newAt (by simp) rfl) rfl) rfl ?_
   exact ⟨rfl, ((Below.refl _ _).alloc (Nat.le_refl _) _).alloc (by simp) _⟩
set_option maxRecDepth 100000 in
set_option maxHeartbeats 600000 in
theorem rput_go (i : Nat) (ba : Option Addr) (bc : Nat) (xs : List Int) (sn : Nat) (wn : Nat) (ws : List (Nat × List Int)) (HWN : Hid (wn = ws.length)) (fused : Bool) (left : Nat) (hl : left < 9223372036854775808) (w : World) (hi : (i : Int) < (sn : Int)) (hB : Bs w ba bc xs) (hx : xs.length = 256) (hW : WsAt w G wa wc ws) (hlen : ws.length ≤ 900000) :
 Calls Tryd.prog 111 #[.agg #[.slice sa sn sc, .slice wa wn wc, .bool fused, .int .i64 (left : Int), .bool false], .int .i64 (i : Int), .slice ba 256 bc] w fun e w' =>
  (may fused left = false ∧ e = .returned (.tuple #[.agg #[.slice sa sn sc, .slice wa wn wc, .bool fused, .int .i64 ((if fused then left - 1 else left : Nat) : Int), .bool true], .int .i64 8]) ∧ Below w.heap.size w w') ∨
  (may fused left = true ∧ ∃ wa' wc', e = .returned (.tuple #[.agg #[.slice sa sn sc, .slice wa' (wn + 1) wc', .bool fused, .int .i64 ((if fused then left - 1 else left : Nat) : Int), .bool false], .int .i64 0]) ∧ WsAt w' (fun k => w.heap.size ≤ k) wa' wc' (ws ++ [(i, xs)]) ∧ Below w.heap.size w w') := by
 have h1' : ¬ ((i : Int) < 0) := by omega
 have h2' : ¬ ((sn : Int) ≤ (i : Int)) := by omega
 obtain ⟨left', hle⟩ : ∃ l : Nat, l = (if fused then left - 1 else left) := ⟨_, rfl⟩
 have hsp := rspend_run (.slice sa sn sc) (.slice wa wn wc) sa sn sc rfl wa wn wc rfl fused false left hl
 rw [← hle]
 rw [← hle] at hsp
 clear hle
 have hX : Blk 30 ((w.alloc (.cells #[.slice sa sn sc, .slice wa wn wc, .bool fused, .int .i64 (left : Int), .bool false] 30)).alloc (.cells #[.slice none 0 0, .slice none 0 0, .bool false, .int .i64 0, .bool false] 30)) w.heap.size [.slice sa sn sc, .slice wa wn wc, .bool fused, .int .i64 (left : Int), .bool false] := (Blk.newAt rfl rfl).alloc _
 have hY : Blk 30 ((w.alloc (.cells #[.slice sa sn sc, .slice wa wn wc, .bool fused, .int .i64 (left : Int), .bool false] 30)).alloc (.cells #[.slice none 0 0, .slice none 0 0, .bool false, .int .i64 0, .bool false] 30)) (w.heap.size + 1) [.slice none 0 0, .slice none 0 0, .bool false, .int .i64 0, .bool false] := Blk.newAt (by simp) rfl
 cases hm : may fused left with
 | false =>
   rw [hm] at hsp
   go_enter Tryd.func111, Tryd.ntmps111
   go_wp2_with (go_at_call 117; refine (hsp _).mono ?_; rintro e w2 ⟨rfl, hb2⟩
                have hX2 := hX.stays hb2
                have hY2 := hY.stays hb2
                obtain ⟨x0, x1, x2, x3, x4⟩ := box_cells hX2
                obtain ⟨y0, y1, y2, y3, y4⟩ := box_cells hY2
                have fx := hX2.free
                have fy := hY2.free)
   refine bodyPost_ret (results_blk_tmp rfl _ _ _ rfl rAgg rSize (put5_same (hY2.but (put5_but w2 w.heap.size (.slice sa sn sc) (.slice wa wn wc) (.bool fused) (.int .i64 (left' : Int)) (.bool true)) (by omega)) (.slice sa sn sc) (.slice wa wn wc) (.bool fused) (.int .i64 (left' : Int)) (.bool true)) rfl) rfl ?_
   refine .inl ⟨trivial, rfl, ?_⟩
   have hb : Below w.heap.size w w2 := (((Below.refl _ _).alloc (Nat.le_refl _) _).alloc (by simp) _).trans (hb2.mono (by simp; omega))
   exact (hb.trans ((put5_but w2 w.heap.size _ _ _ _ _).below (Nat.le_refl _) hb.size)).trans ((put5_but _ (w.heap.size + 1) _ _ _ _ _).below (by omega) (by rw [put5_size]; exact hb.size))
 | true =>
   rw [hm] at hsp
   have hi : (Tryd.prog.info? 181).map (fun i => (i.zero, i.size, i.bytes)) = some (some (.agg #[.int .i64 0, .string .empty]), 2, 24) := by kernel_rfl
   obtain ⟨i0, hi0, hz0, hz1, hz2⟩ := info_parts hi
   have hb1 : ∀ o o' : Obj, Below w.heap.size w ((w.alloc o).alloc o') := fun o o' => ((Below.refl _ _).alloc (Nat.le_refl _) _).alloc (by simp) _
   go_enter Tryd.func111, Tryd.ntmps111
   go_wp2_with (first
    | (go_at_call 117; refine (hsp _).mono ?_; rintro e w2 ⟨rfl, hb2⟩
       have hX2 := hX.stays hb2
       have hY2 := hY.stays hb2
       obtain ⟨x0, x1, x2, x3, x4⟩ := box_cells hX2
       have fx := hX2.free
       have hb02 : Below w.heap.size w w2 := (hb1 _ _).trans (hb2.mono (by simp; omega))
       obtain ⟨W3, hW3⟩ : ∃ W3, W3 = put5 w2 w.heap.size (.slice sa sn sc) (.slice wa wn wc) (.bool fused) (.int .i64 (left' : Int)) (.bool false) := ⟨_, rfl⟩
       have hX3 : Blk 30 W3 w.heap.size [.slice sa sn sc, .slice wa wn wc, .bool fused, .int .i64 (left' : Int), .bool false] := by rw [hW3]; exact put5_same hX2 _ _ _ _ _
       have hY3 : Blk 30 W3 (w.heap.size + 1) [.slice none 0 0, .slice none 0 0, .bool false, .int .i64 0, .bool false] := by rw [hW3]; exact hY2.but (put5_but _ _ _ _ _ _ _) (by omega)
       have hb03 : Below w.heap.size w W3 := by rw [hW3]; exact hb02.trans ((put5_but w2 w.heap.size _ _ _ _ _).below (Nat.le_refl _) hb02.size)
       have hs3 : W3.heap.size = w2.heap.size := by rw [hW3]; exact put5_size _ _ _ _ _ _ _
       have hs3' := hb03.size
       have hown0 : (W3.alloc (.cells #[] 181)).ownsRow w2.heap.size 181 2 (.slice (some ⟨w2.heap.size, 0, none⟩) 0 0) 0 [] := by
        rw [← hs3]
        exact World.ownsRow_made W3 #[] 0 (Nat.le_refl _) (by decide) rfl
       have hbA : Below w2.heap.size W3 (W3.alloc (.cells #[] 181)) := by rw [← hs3]; exact (Below.refl _ _).alloc (Nat.le_refl _) _
       have HW3 : Hid (W3 = put5 w2 w.heap.size (.slice sa sn sc) (.slice wa wn wc) (.bool fused) (.int .i64 (left' : Int)) (.bool false)) := hW3
       unfold put5 at HW3
       have h14 : ∀ o : Obj, (W3.alloc o).cell? ⟨w.heap.size, 1, none⟩ = some (.slice wa wn wc) := fun o => (hX3.alloc o).cell 1
       rw [HW3.out] at h14
       clear hW3)
    | (at_builtin; rw [← HW3.out]; (refine wpList_append_ws (w0 := W3) (by rfl) (.tmp 36) (.tmp 38) (by rfl) w2.heap.size _ 0 [] (by rfl) hown0 G wa wn wc ws (by rfl) HWN.out (hW.keep (G' := G) (fun k hg hl => ⟨(hb03.trans (hbA.mono (by omega))).block k hl, hg⟩)) (by omega) (by simp [hs3]) hbA ?_)
       rw [Nat.zero_add, List.nil_append]; intro v4 w4 hown4 hb4
       have hX4 := hX3.stays (hs3 ▸ hb4)
       have hY4 := hY3.stays (hs3 ▸ hb4)
       have hb04 : Below w.heap.size w w4 := hb03.trans (hb4.mono (by omega))
       have hcv := (hB.stays hb04).conv (P := Tryd.prog) 256 hx.symm 43 5 Tryd.underlying43 Tryd.underlying5 9 Tryd.underlying9
       have hs4 := hb4.size)
    | (at_builtin; refine wpList_append_own _ (by rfl) (.tmp 40) (.tmp 45) 28 (by rfl) w2.heap.size 181 i0 (.agg #[.int .i64 0, .string .empty]) 2 24 Tryd.underlying28 hi0 hz0 hz1 hz2 rfl (by decide) v4 ws.length (wcells ws) (by rfl) (hown4.alloc _) ⟨w4.heap.size, 0, none⟩ 1 1 [.int .i64 (i : Int), .string (strOfNums xs)] (by rfl) (by rfl) (two_new _ _ _ _) (by simp [Value.oneCell']) (by unfold maxLen; omega) (by omega) (by simp; omega) ?_
       intro v5 w5 hown5 hgrow5 _
       have hall : w5.ownsRow w2.heap.size 181 2 v5 (ws ++ [(i, xs)]).length (wcells (ws ++ [(i, xs)])) := by
        have e : wcells (ws ++ [(i, xs)]) = wcells ws ++ [.int .i64 (i : Int), .string (strOfNums xs)] := by simp [wcells]
        rw [e, List.length_append]
        exact hown5
       obtain ⟨a5, c5, hv5, hW5⟩ := ws_of_owns hall
       have hlen5 : (ws ++ [(i, xs)]).length = wn + 1 := by rw [HWN.out]; simp
       rw [hlen5] at hv5
       subst hv5
       have hb5 : Below w2.heap.size W3 w5 := owns_below (hown4.alloc _) (hb4.alloc (by omega) _) (by simp; omega) hgrow5
       have hX5 := hX3.stays (hs3 ▸ hb5)
       have hY5 := hY3.stays (hs3 ▸ hb5)
       obtain ⟨z0, z1, z2, z3, z4⟩ := box_cells hX5
       obtain ⟨q0, q1, q2, q3, q4⟩ := box_cells hY5
       have gx := hX5.free
       have gy := hY5.free
       have hb05 : Below w.heap.size w w5 := hb03.trans (hb5.mono (by omega))
       clear hlen5 hgrow5 hown5 hall))
   have hb6 : But w.heap.size w5 (w5.setCell ⟨w.heap.size, 1, none⟩ (.slice a5 (wn + 1) c5)) := (But.refl _ _).setCell _ _
   refine bodyPost_ret (results_blk_tmp rfl _ _ _ rfl rAgg rSize (put5_same (hY5.but hb6 (by omega)) (.slice sa sn sc) (.slice a5 (wn + 1) c5) (.bool fused) (.int .i64 (left' : Int)) (.bool false)) rfl) rfl ?_
   have hb7 : Below w.heap.size w (w5.setCell ⟨w.heap.size, 1, none⟩ (.slice a5 (wn + 1) c5)) := hb05.trans (hb6.below (Nat.le_refl _) hb05.size)
   have hb8 : But (w.heap.size + 1) (w5.setCell ⟨w.heap.size, 1, none⟩ (.slice a5 (wn + 1) c5)) _ := put5_but (w5.setCell ⟨w.heap.size, 1, none⟩ (.slice a5 (wn + 1) c5)) (w.heap.size + 1) (.slice sa sn sc) (.slice a5 (wn + 1) c5) (.bool fused) (.int .i64 (left' : Int)) (.bool false)
   refine .inr ⟨trivial, a5, c5, rfl, hW5.keep (fun k hg hl => ⟨?_, ?_⟩), hb7.trans (hb8.below (by omega) hb7.size)⟩
   · have h1 := hb02.size
     have h2 : w.heap.size + 1 < w2.heap.size := hY2.lt
     exact (hb8.block k (by omega) (by simpa using hl)).trans (hb6.block k (by omega) hl)
   · have h1 := hb02.size
     omega
theorem rput_run {w : World} {cs : List Value} (h : Rf w G cs S) (i : Int) (ba : Option Addr) (bc : Nat) (xs : List Int) (hB : Bs w ba bc xs) (hl : S.ws.length ≤ 900000) :
 Calls Tryd.prog 111 #[.agg cs.toArray, .int .i64 i, .slice ba xs.length bc] w fun e w' => ∃ cs', e = .returned (.tuple #[.agg cs'.toArray, .int .i64 (S.write i xs).2]) ∧ RThen G w w' cs' (S.write i xs).1 := by
 have h0 := h
 obtain ⟨n, sa, sc, wa, wc, hok, rfl, hs, hw⟩ := h
 have hn : S.laid.length / 256 = n := by rw [hok.len]; omega
 have hhas : S.has i ↔ (0 ≤ i ∧ i < (n : Int)) := by unfold DS.has; rw [hn]
 unfold DS.write
 by_cases h1 : S.off = true
 · rw [if_pos h1]
   unfold rcells at h0 ⊢
   rw [h1] at h0 ⊢
   refine (rput_off (sa := sa) (sc := sc) (wa := wa) (wc := wc) i _ _ _ n rfl S.ws.length rfl S.fused S.left w).mono ?_
   rintro e w' ⟨rfl, hb⟩
   exact ⟨_, rfl, rthen_same h0 hb⟩
 · rw [if_neg h1]
   have hoff : S.off = false := by simpa using h1
   unfold rcells at h0 ⊢
   rw [hoff] at h0 ⊢
   by_cases h2 : S.has i ∧ xs.length = 256
   · rw [if_neg (by simpa using h2)]
     obtain ⟨hh, hx⟩ := h2
     obtain ⟨hi0, hi1⟩ := hhas.1 hh
     obtain ⟨s, rfl⟩ : ∃ s : Nat, i = (s : Int) := ⟨i.toNat, by omega⟩
     rw [hx]
     refine (rput_go (G := G) (sa := sa) (sc := sc) (wa := wa) (wc := wc) s ba bc xs n S.ws.length S.ws rfl S.fused S.left hok.left w (by omega) hB hx hw hl).mono ?_
     rintro e w' (⟨hm, rfl, hb⟩ | ⟨hm, wa', wc', rfl, hW', hb⟩)
     · have hm' : ¬ may S.fused S.left = true := by rw [hm]; decide
       rw [if_neg hm']
       obtain ⟨hfu, hle⟩ := may_dead hm'
       refine ⟨[.slice sa n sc, .slice wa S.ws.length wc, .bool S.fused, .int .i64 ((if S.fused then S.left - 1 else S.left : Nat) : Int), .bool true], rfl, ?_, hb⟩
       have := Rf.flags (w' := w') (G' := fun k => G k ∨ w.heap.size ≤ k) (sc := sc) (off := true) (fused := S.fused) (left := S.left) hok hs hw hok.left (fun k hg hl => ⟨hb.block k hl, .inl hg⟩)
       have hd : S.dead = ⟨S.laid, S.ws, true, true, 0⟩ := by unfold DS.dead; rw [hfu, hle]
       show Rf _ _ _ S.dead
       rw [hd]
       rw [hfu, hle] at this ⊢
       exact this
     · rw [if_pos hm]
       refine ⟨[.slice sa n sc, .slice wa' (S.ws.length + 1) wc', .bool S.fused, .int .i64 ((if S.fused then S.left - 1 else S.left : Nat) : Int), .bool false], rfl, ⟨n, sa, sc, wa', wc', ⟨hok.len, hok.lo, hok.hi, hok.rng, ?_, ?_⟩, ?_, hs.keep (by have := hok.lo; simp [secStrs]; omega) (fun k hg hl => ⟨hb.block k hl, .inl hg⟩), hW'.mono (fun k hk => .inr hk)⟩, hb⟩
       · intro q hq
         rcases List.mem_append.1 hq with hq | hq
         · exact hok.ws q hq
         · simp at hq
           subst hq
           exact ⟨by simp only; omega, hx, hB.rng⟩
       · simp only [DS.left']
         have := hok.left
         split <;> omega
       · simp [rcells, DS.left', hoff]
   · rw [if_pos (by simpa using h2)]
     refine (rput_arg (sa := sa) (sc := sc) (wa := wa) (wc := wc) i ba xs.length bc n S.ws.length S.fused S.left w (by rw [hhas] at h2; exact h2)).mono ?_
     rintro e w' ⟨rfl, hb⟩
     exact ⟨_, rfl, rthen_same h0 hb⟩
end
end Go.Proofs.YthbldjnpnligpaaDoor

/-
 The document's disk: Flush.
-/

namespace Go.Proofs.YthbldjnpnligpaaDoor
set_option linter.unusedSimpArgs false
set_option linter.unusedVariables false
set_option maxRecDepth 100000
open Go.RowKit
theorem secStrs_lay {laid : List Int} {n s : Nat} {ys : List Int} (hl : laid.length = 256 * n) (hs : s < n) (hy : ys.length ≤ 256) : secStrs (layAt laid s ys) n = (secStrs laid n).set s (strOfNums (ys ++ (secOf laid s).drop ys.length)) := by
 apply List.ext_getElem?
 intro i
 rw [List.getElem?_set]
 unfold secStrs
 by_cases hi : i < n
 · by_cases he : s = i
   · subst he
     simp [hs, secOf_same (laid := laid) (s := s) (by omega) hy]
   · simp [he, hi, secOf_other (laid := laid) (s := s) (t := i) (by omega) hy he]
 · simp [hi]
   intro he
   omega
theorem secStrs_length (laid : List Int) (n : Nat) : (secStrs laid n).length = n := by simp [secStrs]
theorem strs_one (l : List ByteArray) : ∀ v ∈ l.map Value.string, v.oneCell' = true := by
 intro v hv
 obtain ⟨x, _, rfl⟩ := List.mem_map.1 hv
 rfl
theorem wpList_append_ss {w w0 : World} {ops : Array Oper} {rest : List Oper} {o : Oper} {a : Act} {Q : Exit → Act → World → Prop} (hgd : o.guard = none) (s x : Operand)
 (ho : o.op = .call { callee := .builtin .append, args := #[s, x], argTypes := #[27, 27] })
 (base : Nat) (v : Value) (hs : a.eval s = v) (hown : w.ownsRow base 9 1 v 0 [])
 (G : Nat → Prop) (sa : Option Addr) (sn sc : Nat) (xs : List ByteArray) (hx : a.eval x = .slice sa sn sc) (hn : sn = xs.length) (hW : SsAt w G sa xs)
 (hlen : xs.length ≤ 1000000) (hbase : base ≤ w.heap.size) (hb : Below base w0 w)
 (h : ∀ v' w', w'.ownsRow base 9 1 v' xs.length (xs.map Value.string) → Below base w0 w' → wpList Tryd.prog ops Q rest (a.put o.dst v') w') : wpList Tryd.prog ops Q (o :: rest) a w := by
 subst hn
 have hi : (Tryd.prog.info? 9).map (fun i => (i.zero, i.size, i.bytes)) = some (some (.string .empty), 1, 16) := by kernel_rfl
 obtain ⟨i0, hi0, hz0, hz1, hz2⟩ := info_parts hi
 obtain ⟨b, off, rfl, _, hc⟩ := hW
 have hcell : ∀ j u, (xs.map Value.string)[j]? = some u → w.cell? ((⟨b, off, none⟩ : Addr).add j) = some u := by
  intro j u hj
  have hjl : j < xs.length := by
   rcases Nat.lt_or_ge j xs.length with h1 | h1
   · exact h1
   · rw [List.getElem?_eq_none (by simpa using h1)] at hj; cases hj
  rw [plain_add, hc j hjl]
  simp [List.getElem?_eq_getElem hjl] at hj
  subst hj
  simp [List.getD, List.getElem?_eq_getElem hjl]
 refine wpList_append_own _ hgd s x 27 ho base 9 i0 (.string .empty) 1 16 Tryd.underlying27 hi0 hz0 hz1 hz2 rfl (by decide) v 0 [] hs hown ⟨b, off, none⟩ xs.length sc (xs.map Value.string) hx (by simp) hcell (strs_one xs) (by unfold maxLen; omega) (by omega) hbase ?_
 intro v' w' h1 h2 _
 exact h v' w' (by simpa using h1) (owns_below hown hb hbase h2)
theorem ss_of_owns {w : World} {base : Nat} {v : Value} {xs : List ByteArray} (h : w.ownsRow base 9 1 v xs.length (xs.map Value.string)) (h0 : 0 < xs.length) : ∃ g c, v = .slice (some ⟨g, 0, none⟩) xs.length c ∧ base ≤ g ∧ SsAt w (fun k => base ≤ k) (some ⟨g, 0, none⟩) xs := by
 rcases h.2 with ⟨rfl, h1⟩ | ⟨g, cap, cur, rfl, hb, _⟩
 · omega
 · refine ⟨g, cap, rfl, hb, g, 0, rfl, hb, fun i hi => ?_⟩
   rw [Nat.zero_add]
   rw [h.cellAt i (by omega)]
   simp [List.getD, hi]
theorem SsAt.mono {w : World} {G G' : Nat → Prop} {a : Option Addr} {xs : List ByteArray} (h : SsAt w G a xs) (hg : ∀ k, G k → G' k) : SsAt w G' a xs := by
 obtain ⟨b, off, h1, h2, h3⟩ := h
 exact ⟨b, off, h1, hg b h2, h3⟩
theorem WsAt.at {w : World} {G : Nat → Prop} {a : Option Addr} {c : Nat} {ws : List (Nat × List Int)} (h : WsAt w G a c ws) {k : Nat} (hk : k < ws.length) :
 ∃ b off, a = some ⟨b, off, none⟩ ∧ w.cell? ⟨b, off + 2 * k, none⟩ = some (.int .i64 ((ws.getD k (0, [])).1 : Int)) ∧ w.cell? ⟨b, off + 2 * k + 1, none⟩ = some (.string (strOfNums (ws.getD k (0, [])).2)) := by
 rcases h with ⟨rfl, _⟩ | ⟨b, off, rfl, _, hc⟩
 · simp at hk
 · exact ⟨b, off, rfl, hc k hk⟩
theorem layW_rng {S : DS} {n : Nat} (hok : S.Ok n) (keep : Nat → Int) (i : Nat) (hi : i ≤ S.ws.length) : ∀ x ∈ layW S.laid S.ws keep i, 0 ≤ x ∧ x ≤ 255 := by
 induction i with
 | zero => exact hok.rng
 | succ i ih =>
   rw [layW_succ]
   have hq : S.ws.getD i (0, []) ∈ S.ws := by simp [List.getD, show i < S.ws.length by omega]
   exact layAt_rng (ih (by omega)) (fun x hx => (hok.ws _ hq).2.2 x (List.mem_of_mem_take hx))
section
variable {G : Nat → Prop} {S : DS} {sa : Option Addr} {sc : Nat} {wa : Option Addr} {wc n : Nat}
set_option maxRecDepth 100000 in
set_option maxHeartbeats 600000 in
theorem rflush_off (sn wn : Nat) (fused : Bool) (left : Nat) (w : World) :
 Calls Tryd.prog 66 #[.agg #[.slice sa sn sc, .slice wa wn wc, .bool fused, .int .i64 (left : Int), .bool true]] w fun e w' =>
  e = .returned (.tuple #[.agg #[.slice sa sn sc, .slice wa wn wc, .bool fused, .int .i64 (left : Int), .bool true], .int .i64 8]) ∧ Below w.heap.size w w' := by
 go_enter Tryd.func66, Tryd.ntmps66
 go_wp2
 refine bodyPost_ret (results_blk_tmp rfl _ _ _ rfl rAgg rSize (Blk.newAt (by simp) rfl) rfl) rfl ?_
 exact ⟨rfl, ((Below.refl _ _).alloc (Nat.le_refl _) _).alloc (by simp) _⟩
set_option maxRecDepth 100000 in
set_option maxHeartbeats 1000000 in
theorem rflush_go (sn wn : Nat) (HSN : Hid (sn = n)) (HWN : Hid (wn = S.ws.length)) (fused : Bool) (left : Nat) (hl : left < 9223372036854775808) (w : World) (hok : S.Ok n) (hs : SsAt w G sa (secStrs S.laid n)) (hW : WsAt w G wa wc S.ws) (hlen : S.ws.length ≤ 900000) :
 Calls Tryd.prog 66 #[.agg #[.slice sa sn sc, .slice wa wn wc, .bool fused, .int .i64 (left : Int), .bool false]] w fun e w' =>
  (may fused left = false ∧ e = .returned (.tuple #[.agg #[.slice sa sn sc, .slice wa wn wc, .bool fused, .int .i64 ((if fused then left - 1 else left : Nat) : Int), .bool true], .int .i64 8]) ∧ Below w.heap.size w w') ∨
  (may fused left = true ∧ ∃ sa' sc', e = .returned (.tuple #[.agg #[.slice sa' sn sc', .slice none 0 0, .bool fused, .int .i64 ((if fused then left - 1 else left : Nat) : Int), .bool false], .int .i64 0]) ∧ SsAt w' (fun k => w.heap.size ≤ k) sa' (secStrs (layW S.laid S.ws (fun _ => 256) S.ws.length) n) ∧ Below w.heap.size w w') := by
 obtain ⟨left', hle⟩ : ∃ l : Nat, l = (if fused then left - 1 else left) := ⟨_, rfl⟩
 have hsp := rspend_run (.slice sa sn sc) (.slice wa wn wc) sa sn sc rfl wa wn wc rfl fused false left hl
 rw [← hle]
 rw [← hle] at hsp
 clear hle
 have hX : Blk 30 ((w.alloc (.cells #[.slice sa sn sc, .slice wa wn wc, .bool fused, .int .i64 (left : Int), .bool false] 30)).alloc (.cells #[.slice none 0 0, .slice none 0 0, .bool false, .int .i64 0, .bool false] 30)) w.heap.size [.slice sa sn sc, .slice wa wn wc, .bool fused, .int .i64 (left : Int), .bool false] := (Blk.newAt rfl rfl).alloc _
 have hY : Blk 30 ((w.alloc (.cells #[.slice sa sn sc, .slice wa wn wc, .bool fused, .int .i64 (left : Int), .bool false] 30)).alloc (.cells #[.slice none 0 0, .slice none 0 0, .bool false, .int .i64 0, .bool false] 30)) (w.heap.size + 1) [.slice none 0 0, .slice none 0 0, .bool false, .int .i64 0, .bool false] := Blk.newAt (by simp) rfl
 cases hm : may fused left with
 | false =>
   rw [hm] at hsp
   go_enter Tryd.func66, Tryd.ntmps66
   go_wp2_with (go_at_call 117; refine (hsp _).mono ?_; rintro e w2 ⟨rfl, hb2⟩
                have hX2 := hX.stays hb2
                have hY2 := hY.stays hb2
                obtain ⟨x0, x1, x2, x3, x4⟩ := box_cells hX2
                obtain ⟨y0, y1, y2, y3, y4⟩ := box_cells hY2
                have fx := hX2.free
                have fy := hY2.free)
   refine bodyPost_ret (results_blk_tmp rfl _ _ _ rfl rAgg rSize (put5_same (hY2.but (put5_but w2 w.heap.size (.slice sa sn sc) (.slice wa wn wc) (.bool fused) (.int .i64 (left' : Int)) (.bool true)) (by omega)) (.slice sa sn sc) (.slice wa wn wc) (.bool fused) (.int .i64 (left' : Int)) (.bool true)) rfl) rfl ?_
   refine .inl ⟨trivial, rfl, ?_⟩
   have hb : Below w.heap.size w w2 := (((Below.refl _ _).alloc (Nat.le_refl _) _).alloc (by simp) _).trans (hb2.mono (by simp; omega))
   exact (hb.trans ((put5_but w2 w.heap.size _ _ _ _ _).below (Nat.le_refl _) hb.size)).trans ((put5_but _ (w.heap.size + 1) _ _ _ _ _).below (by omega) (by rw [put5_size]; exact hb.size))
 | true =>
   rw [hm] at hsp
   have hb1 : ∀ o o' : Obj, Below w.heap.size w ((w.alloc o).alloc o') := fun o o' => ((Below.refl _ _).alloc (Nat.le_refl _) _).alloc (by simp) _
   go_enter Tryd.func66, Tryd.ntmps66
   go_wp2_with (first
    | (go_at_call 117; refine (hsp _).mono ?_; rintro e w2 ⟨rfl, hb2⟩
       have hX2 := hX.stays hb2
       have hY2 := hY.stays hb2
       obtain ⟨x0, x1, x2, x3, x4⟩ := box_cells hX2
       have fx := hX2.free
       have hb02 : Below w.heap.size w w2 := (hb1 _ _).trans (hb2.mono (by simp; omega))
       obtain ⟨W3, hW3⟩ : ∃ W3, W3 = put5 w2 w.heap.size (.slice sa sn sc) (.slice wa wn wc) (.bool fused) (.int .i64 (left' : Int)) (.bool false) := ⟨_, rfl⟩
       have hX3 : Blk 30 W3 w.heap.size [.slice sa sn sc, .slice wa wn wc, .bool fused, .int .i64 (left' : Int), .bool false] := by rw [hW3]; exact put5_same hX2 _ _ _ _ _
       have hY3 : Blk 30 W3 (w.heap.size + 1) [.slice none 0 0, .slice none 0 0, .bool false, .int .i64 0, .bool false] := by rw [hW3]; exact hY2.but (put5_but _ _ _ _ _ _ _) (by omega)
       have hb03 : Below w.heap.size w W3 := by rw [hW3]; exact hb02.trans ((put5_but w2 w.heap.size _ _ _ _ _).below (Nat.le_refl _) hb02.size)
       have hs3 : W3.heap.size = w2.heap.size := by rw [hW3]; exact put5_size _ _ _ _ _ _ _
       have hs3' := hb03.size
       have hown0 : (W3.alloc (.cells #[] 9)).ownsRow w2.heap.size 9 1 (.slice (some ⟨w2.heap.size, 0, none⟩) 0 0) 0 [] := by
        rw [← hs3]
        exact World.ownsRow_made W3 #[] 0 (Nat.le_refl _) (by decide) rfl
       have hbA : Below w2.heap.size W3 (W3.alloc (.cells #[] 9)) := by rw [← hs3]; exact (Below.refl _ _).alloc (Nat.le_refl _) _
       have HW3 : Hid (W3 = put5 w2 w.heap.size (.slice sa sn sc) (.slice wa wn wc) (.bool fused) (.int .i64 (left' : Int)) (.bool false)) := hW3
       unfold put5 at HW3
       have h14 : ∀ o : Obj, (W3.alloc o).cell? ⟨w.heap.size, 0, none⟩ = some (.slice sa sn sc) := fun o => (hX3.alloc o).cell 0
       rw [HW3.out] at h14
       clear hW3)
    | (at_builtin; rw [← HW3.out]; refine wpList_append_ss (w0 := W3) (by rfl) (.tmp 18) (.tmp 20) (by rfl) w2.heap.size _ (by rfl) hown0 G sa sn sc (secStrs S.laid n) (by rfl) (by rw [HSN.out, secStrs_length]) (hs.keep (G' := G) (by rw [secStrs_length]; have := hok.lo; omega) (fun k hg hl => ⟨(hb03.trans (hbA.mono (by omega))).block k hl, hg⟩)) (by rw [secStrs_length]; have := hok.hi; omega) (by simp [hs3]) hbA ?_
       rw [secStrs_length]; intro v4 w4 hown4 hb4))
   have hn16 := hok.lo
   have hn512 := hok.hi
   obtain ⟨g, cg, hv4, hg4, _⟩ := ss_of_owns (xs := secStrs S.laid n) (by rw [secStrs_length]; exact hown4) (by rw [secStrs_length]; omega)
   rw [secStrs_length] at hv4
   subst hv4
   have hws : ∀ q ∈ S.ws, q.1 < n ∧ q.2.length = 256 := fun q hq => ⟨(hok.ws q hq).1, (hok.ws q hq).2.1⟩
   go_loopw [6] (fun x wr => ∃ k : Nat, x = .int .i64 k ∧ k ≤ S.ws.length ∧ wr.ownsRow w2.heap.size 9 1 (.slice (some ⟨g, 0, none⟩) n cg) n ((secStrs (layW S.laid S.ws (fun _ => 256) k) n).map Value.string) ∧ Below w2.heap.size W3 wr) (fun x _ => S.ws.length - (intOf x).toNat)
   case atStart => exact ⟨0, rfl, Nat.zero_le _, hown4, hb4⟩
   case round =>
    rename_i hrel
    clear hown4 hb4 h14 hown0 hbA
    obtain ⟨k, rfl, hk, hown, hbr⟩ := hrel
    have hXr := hX3.stays (hs3 ▸ hbr)
    have hYr := hY3.stays (hs3 ▸ hbr)
    obtain ⟨z0, z1, z2, z3, z4⟩ := box_cells hXr
    have hb0r : Below w.heap.size w wr := hb03.trans (hbr.mono (by omega))
    have hwnl := HWN.out
    by_cases hlt : k < S.ws.length
    · have hlt' : (k : Int) < (wn : Int) := by omega
      obtain ⟨b, off, rfl, hc0, hc1⟩ := (hW.keep (w' := wr) (G' := G) (fun k hg hl => ⟨hb0r.block k hl, hg⟩)).at hlt
      have hq : S.ws.getD k (0, []) ∈ S.ws := by simp [List.getD, hlt]
      obtain ⟨q1, q2⟩ := hws _ hq
      obtain ⟨s, hse⟩ : ∃ s, s = (S.ws.getD k (0, [])).1 := ⟨_, rfl⟩
      obtain ⟨y, hye⟩ : ∃ y, y = (S.ws.getD k (0, [])).2 := ⟨_, rfl⟩
      rw [← hse] at hc0 q1
      rw [← hye] at hc1 q2
      have HST : Hid (secStrs (layW S.laid S.ws (fun _ => 256) (k + 1)) n = (secStrs (layW S.laid S.ws (fun _ => 256) k) n).set s (strOfNums y)) := by
       unfold Hid
       have hll := layW_length hok.len hws (fun _ => 256) k (by omega)
       rw [layW_succ, ← hse, ← hye, show clamp 256 = 256 by decide, List.take_of_length_le (by omega), secStrs_lay (by rw [hll]; exact hok.len) q1 (by omega), List.drop_eq_nil_of_le (by rw [secOf_length (by rw [hll, hok.len]; omega)]; omega), List.append_nil]
      have e2 : off + 2 * k = off + k * 2 := by omega
      rw [e2] at hc0 hc1
      have hq1' : (s : Int) < (n : Int) := by omega
      have hcs : ∃ u, wr.cell? ⟨g, s, none⟩ = some u := by
       have h5 := hown.cellAt s (by omega)
       rw [List.getElem?_map, List.getElem?_eq_getElem (by rw [secStrs_length]; exact q1)] at h5
       exact ⟨_, h5⟩
      obtain ⟨u, hu⟩ := hcs
      have hfz := hown.frozenAt s
      have hst := hown.stored s (.string (strOfNums y))
      have hbs : Below w2.heap.size W3 (wr.setCell ⟨g, s, none⟩ (.string (strOfNums y))) := hbr.setCell (p := ⟨g, s, none⟩) hg4 _
      have HK : Hid (wn = S.ws.length) := HWN
      clear hse hye e2 hwnl hq HWN
      go_wp2
      go_still_tail 14, (by kernel_rfl)
      go_wp2
      go_roundw
      case rel => exact ⟨k + 1, by go_num, by omega, by rw [HST.out, List.map_set]; exact hst.1.drew, hbs.drew⟩
      case measure => simp [intOf]; omega
    · have hlt' : ¬ ((k : Int) < (wn : Int)) := by omega
      have hkk : k = S.ws.length := by omega
      rw [hkk] at hown
      obtain ⟨q0, q1, q2, q3, q4⟩ := box_cells hYr
      have gx := hXr.free
      have gy := hYr.free
      have hsn := HSN.out
      clear hwnl
      subst hsn
      go_wp2
      have hb6 : But w.heap.size wr ((wr.setCell ⟨w.heap.size, 0, none⟩ (.slice (some ⟨g, 0, none⟩) sn cg)).setCell ⟨w.heap.size, 1, none⟩ (.slice none 0 0)) := ((But.refl _ _).setCell _ _).setCell _ _
      refine bodyPost_ret (results_blk_tmp rfl _ _ _ rfl rAgg rSize (put5_same (hYr.but hb6 (by omega)) (.slice (some ⟨g, 0, none⟩) sn cg) (.slice none 0 0) (.bool fused) (.int .i64 (left' : Int)) (.bool false)) rfl) rfl ?_
      have hb7 : Below w.heap.size w _ := hb0r.trans (hb6.below (Nat.le_refl _) hb0r.size)
      have hb8 := put5_but ((wr.setCell ⟨w.heap.size, 0, none⟩ (.slice (some ⟨g, 0, none⟩) sn cg)).setCell ⟨w.heap.size, 1, none⟩ (.slice none 0 0)) (w.heap.size + 1) (.slice (some ⟨g, 0, none⟩) sn cg) (.slice none 0 0) (.bool fused) (.int .i64 (left' : Int)) (.bool false)
      obtain ⟨g', cg', hv, hg', hSS⟩ := ss_of_owns (xs := secStrs (layW S.laid S.ws (fun _ => 256) S.ws.length) sn) (by rw [secStrs_length]; exact hown) (by rw [secStrs_length]; omega)
      simp only [secStrs_length, Value.slice.injEq, Option.some.injEq, Addr.mk.injEq, and_true, true_and] at hv
      obtain ⟨rfl, rfl⟩ := hv
      have hlt2 : w.heap.size + 1 < w2.heap.size := hY2.lt
      refine ⟨_, ⟨_, rfl⟩, hSS.keep (by rw [secStrs_length]; omega) (fun k hg hl => ⟨?_, ?_⟩), hb7.trans (hb8.below (by omega) hb7.size)⟩
      · exact (hb8.block k (by omega) (by simpa using hl)).trans (hb6.block k (by omega) hl)
      · have h1 := hb02.size
        omega
theorem rflush_run {w : World} {cs : List Value} (h : Rf w G cs S) (hl : S.ws.length ≤ 900000) :
 Calls Tryd.prog 66 #[.agg cs.toArray] w fun e w' => ∃ cs', e = .returned (.tuple #[.agg cs'.toArray, .int .i64 S.flush.2]) ∧ RThen G w w' cs' S.flush.1 := by
 have h0 := h
 obtain ⟨n, sa, sc, wa, wc, hok, rfl, hs, hw⟩ := h
 unfold DS.flush
 by_cases h1 : S.off = true
 · rw [if_pos h1]
   unfold rcells at h0 ⊢
   rw [h1] at h0 ⊢
   refine (rflush_off (sa := sa) (sc := sc) (wa := wa) (wc := wc) n S.ws.length S.fused S.left w).mono ?_
   rintro e w' ⟨rfl, hb⟩
   exact ⟨_, rfl, rthen_same h0 hb⟩
 · rw [if_neg h1]
   have hoff : S.off = false := by simpa using h1
   unfold rcells at h0 ⊢
   rw [hoff] at h0 ⊢
   refine (rflush_go (G := G) (S := S) (n := n) (sa := sa) (sc := sc) (wa := wa) (wc := wc) n S.ws.length rfl rfl S.fused S.left hok.left w hok hs hw hl).mono ?_
   rintro e w' (⟨hm, rfl, hb⟩ | ⟨hm, sa', sc', rfl, hS', hb⟩)
   · have hm' : ¬ may S.fused S.left = true := by rw [hm]; decide
     rw [if_neg hm']
     obtain ⟨hfu, hle⟩ := may_dead hm'
     refine ⟨[.slice sa n sc, .slice wa S.ws.length wc, .bool S.fused, .int .i64 ((if S.fused then S.left - 1 else S.left : Nat) : Int), .bool true], rfl, ?_, hb⟩
     have := Rf.flags (w' := w') (G' := fun k => G k ∨ w.heap.size ≤ k) (sc := sc) (off := true) (fused := S.fused) (left := S.left) hok hs hw hok.left (fun k hg hl => ⟨hb.block k hl, .inl hg⟩)
     have hd : S.dead = ⟨S.laid, S.ws, true, true, 0⟩ := by unfold DS.dead; rw [hfu, hle]
     show Rf _ _ _ S.dead
     rw [hd]
     rw [hfu, hle] at this ⊢
     exact this
   · rw [if_pos hm]
     have hws : ∀ q ∈ S.ws, q.1 < n ∧ q.2.length = 256 := fun q hq => ⟨(hok.ws q hq).1, (hok.ws q hq).2.1⟩
     refine ⟨[.slice sa' n sc', .slice none 0 0, .bool S.fused, .int .i64 ((if S.fused then S.left - 1 else S.left : Nat) : Int), .bool false], rfl, ⟨n, sa', sc', none, 0, ⟨?_, hok.lo, hok.hi, ?_, fun q hq => by simp at hq, ?_⟩, by simp [rcells, DS.left', hoff], hS'.mono (fun k hk => .inr hk), .inl ⟨rfl, fun _ => rfl⟩⟩, hb⟩
     · simp only; rw [layW_length hok.len hws _ _ (Nat.le_refl _)]; exact hok.len
     · exact layW_rng hok _ _ (Nat.le_refl _)
     · simp only [DS.left']
       have := hok.left
       split <;> omega
end
end Go.Proofs.YthbldjnpnligpaaDoor
