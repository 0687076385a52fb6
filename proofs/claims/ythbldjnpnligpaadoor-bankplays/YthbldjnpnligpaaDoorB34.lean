/-
 The document's bank beside what a function of its own holds; what its disk's and its map's calls leave.
-/
import Derived.Test.YthbldjnpnligpaaDoorB29
import Derived.Test.YthbldjnpnligpaaDoorB33
import Derived.Test.YthbldjnpnligpaaDoorB21
import Derived.Test.YthbldjnpnligpaaDoorB11
import Derived.Deep.QuietTactic
import Derived.Deep.AppendLies
namespace Go.Proofs.YthbldjnpnligpaaDoor
set_option linter.unusedSimpArgs false
set_option linter.unusedVariables false
set_option maxRecDepth 100000
open Go.RowKit
def RS (w0 w : World) (G N : Nat → Prop) (X : List (Nat × Nat × List Bool)) (cs : List Value) (S : DS) (l : List Bool) (t : Nat) : Prop :=
 ∃ H, RB w H cs S l t ∧ (∀ j, H j → (G j ∨ w0.heap.size ≤ j) ∧ j < w.heap.size) ∧ (∀ j, N j → ¬ H j ∧ w0.heap.size ≤ j ∧ j < w.heap.size) ∧ (∀ m ∈ X, H m.1 ∧ Tr w m.1 m.2.1 m.2.2) ∧ Below w0.heap.size w0 w
def noStr (vs : List Value) : Bool := vs.all fun v => match v with | .string _ => false | _ => true
theorem noStr_at {vs : List Value} (h : noStr vs = true) {i : Nat} {s : ByteArray} : vs[i]? ≠ some (.string s) := fun e => by
 have := List.all_eq_true.1 h _ (List.mem_of_getElem? e)
 simp at this
section
variable {w0 w w' : World} {G N N' : Nat → Prop} {X : List (Nat × Nat × List Bool)} {cs : List Value} {S S' : DS} {l l' : List Bool} {t : Nat}
theorem RB.secsL (h : RB w G cs S l t) : ∃ sa sc, cs[0]? = some (.slice sa l.length sc) := by rw [h.sz]; exact h.secs
theorem RB.start (h : RB w G cs S l t) : RS w w G (fun _ => False) [] cs S l t :=
 ⟨fun j => G j ∧ j < w.heap.size, h.keep (fun j hg hl => ⟨rfl, hg, hl⟩), fun j hj => ⟨.inl hj.1, hj.2⟩, fun j hj => hj.elim, fun m hm => (by cases hm), Below.refl _ _⟩
theorem RS.bel (h : RS w0 w G N X cs S l t) : Below w0.heap.size w0 w := by obtain ⟨H, h1, h2, h3, h4, h5⟩ := h; exact h5
theorem RS.rb (h : RS w0 w G N X cs S l t) : ∃ H, RB w H cs S l t := by obtain ⟨H, h1, h2, h3, h4, h5⟩ := h; exact ⟨H, h1⟩
theorem RS.done (h : RS w0 w G N X cs S l t) : RBThen G w0 w cs S l t := by
 obtain ⟨H, h1, h2, h3, h4, h5⟩ := h
 exact ⟨h1.keep (fun j hg hl => ⟨rfl, (h2 j hg).1⟩), h5⟩
theorem RS.len (h : RS w0 w G N X cs S l t) : cs.length = 7 ∧ ∀ v ∈ cs, v.oneCell' = true := by obtain ⟨H, h1⟩ := h.rb; exact h1.len
theorem RS.ok (h : RS w0 w G N X cs S l t) : ∃ n, S.Ok n := by obtain ⟨H, h1⟩ := h.rb; exact h1.ok
theorem RS.stays (h : RS w0 w G N X cs S l t) (hb : Below w.heap.size w w') : RS w0 w' G N X cs S l t := by
 obtain ⟨H, h1, h2, h3, h4, h5⟩ := h
 exact ⟨H, h1.stays hb, fun j hj => ⟨(h2 j hj).1, Nat.lt_of_lt_of_le (h2 j hj).2 hb.size⟩, fun j hj => ⟨(h3 j hj).1, (h3 j hj).2.1, Nat.lt_of_lt_of_le (h3 j hj).2.2 hb.size⟩, fun m hm => ⟨(h4 m hm).1, (h4 m hm).2.stays hb⟩, below_then h5 hb⟩
theorem RS.less (h : RS w0 w G N X cs S l t) (hn : ∀ j, N' j → N j) : RS w0 w G N' X cs S l t := by
 obtain ⟨H, h1, h2, h3, h4, h5⟩ := h
 exact ⟨H, h1, h2, fun j hj => h3 j (hn j hj), h4, h5⟩
theorem RS.new (h : RS w0 w G N X cs S l t) (hb : Below w.heap.size w w') (hN : ∀ j, N' j → N j ∨ (w.heap.size ≤ j ∧ j < w'.heap.size)) : RS w0 w' G N' X cs S l t := by
 have hs := h.stays hb
 obtain ⟨H, h1, h2, h3, h4, h5⟩ := hs
 obtain ⟨H', k1, k2, k3, k4, k5⟩ := h
 refine ⟨H', k1.stays hb, fun j hj => ⟨(k2 j hj).1, Nat.lt_of_lt_of_le (k2 j hj).2 hb.size⟩, fun j hj => ?_, fun m hm => ⟨(k4 m hm).1, (k4 m hm).2.stays hb⟩, below_then k5 hb⟩
 rcases hN j hj with h6 | h6
 · exact ⟨(k3 j h6).1, (k3 j h6).2.1, Nat.lt_of_lt_of_le (k3 j h6).2.2 hb.size⟩
 · exact ⟨fun hh => by have := (k2 j hh).2; omega, by have := k5.size; omega, h6.2⟩
theorem RS.set {m : Nat} (h : RS w0 w G N X cs S l t) (hb : But m w w') (hm : N m) : RS w0 w' G N X cs S l t := by
 obtain ⟨H, h1, h2, h3, h4, h5⟩ := h
 obtain ⟨n1, n2, n3⟩ := h3 m hm
 have hk : ∀ j, H j → j < w.heap.size → w'.heap[j]? = w.heap[j]? := fun j hj hl => hb.block j (fun e => n1 (e ▸ hj)) hl
 refine ⟨H, h1.keep (fun j hj hl => ⟨hk j hj hl, hj⟩), fun j hj => ⟨(h2 j hj).1, Nat.lt_of_lt_of_le (h2 j hj).2 hb.size⟩, fun j hj => ⟨(h3 j hj).1, (h3 j hj).2.1, Nat.lt_of_lt_of_le (h3 j hj).2.2 hb.size⟩, fun m' hm' => ⟨(h4 m' hm').1, ?_⟩, h5.trans (hb.below n2 h5.size)⟩
 obtain ⟨rest, k1, k2, k3⟩ := (h4 m' hm').2
 have hl := k1.lt
 refine ⟨rest, ?_, k2, k3⟩
 unfold Blk at *
 rw [hk _ (h4 m' hm').1 hl]
 exact k1
theorem SsAt.apart {H : Nat → Prop} {a : Option Addr} {xs : List ByteArray} (h : SsAt w H a xs) (hx : 0 < xs.length) {e : TypeId} {g : Nat} {vs : List Value} (hb : Blk e w g vs) (hn : noStr vs = true) : SsAt w (fun j => H j ∧ j ≠ g) a xs := by
 obtain ⟨b, off, rfl, hg, hc⟩ := h
 refine ⟨b, off, rfl, ⟨hg, ?_⟩, hc⟩
 rintro rfl
 have h1 := hc 0 hx
 rw [hb.cell] at h1
 exact noStr_at hn h1
theorem WsAt.apart {H : Nat → Prop} {a : Option Addr} {c : Nat} {ws : List (Nat × List Int)} (h : WsAt w H a c ws) {e : TypeId} {g : Nat} {vs : List Value} (hb : Blk e w g vs) (hn : noStr vs = true) : WsAt w (fun j => H j ∧ j ≠ g) a c ws := by
 rcases h with h | ⟨b, off, rfl, hg, hc⟩
 · exact .inl h
 · by_cases h0 : ws = []
   · exact .inl ⟨h0, by simp⟩
   · refine .inr ⟨b, off, rfl, ⟨hg, ?_⟩, hc⟩
     rintro rfl
     have h1 := (hc 0 (by cases ws; exact absurd rfl h0; simp)).2
     rw [hb.cell] at h1
     exact noStr_at hn h1
theorem Tr.apart {q c : Nat} (h : Tr w q c l) {e : TypeId} {g : Nat} {vs : List Value} (hb : Blk e w g vs) (he : 4 ≠ e) : q ≠ g := by
 obtain ⟨rest, k1, k2, k3⟩ := h
 exact blk_ne k1 hb he
theorem RB.apart {H : Nat → Prop} (h : RB w H cs S l t) {e : TypeId} {g : Nat} {vs : List Value} (hb : Blk e w g vs) (hn : noStr vs = true) (he : 4 ≠ e) : RB w (fun j => H j ∧ j ≠ g) cs S l t := by
 obtain ⟨dc, q, c, rfl, ⟨n, sa, sc, wa, wc, hok, rfl, hs, hw⟩, h2, h3, h4⟩ := h
 exact ⟨_, q, c, rfl, ⟨n, sa, sc, wa, wc, hok, rfl, hs.apart (by have := hok.lo; simp [secStrs]; omega) hb hn, hw.apart hb hn⟩, h2, ⟨h3, h2.apart hb he⟩, h4⟩
theorem RS.apart (h : RS w0 w G N X cs S l t) {e : TypeId} {g : Nat} {vs : List Value} (hb : Blk e w g vs) (hn : noStr vs = true) (he : 4 ≠ e) (hg : w0.heap.size ≤ g) : RS w0 w G (fun j => N j ∨ j = g) X cs S l t := by
 obtain ⟨H, h1, h2, h3, h4, h5⟩ := h
 refine ⟨_, h1.apart hb hn he, fun j hj => h2 j hj.1, fun j hj => ?_, fun m hm => ⟨⟨(h4 m hm).1, (h4 m hm).2.apart hb he⟩, (h4 m hm).2⟩, h5⟩
 rcases hj with hj | rfl
 · exact ⟨fun hh => (h3 j hj).1 hh.1, (h3 j hj).2⟩
 · exact ⟨fun hh => hh.2 rfl, hg, hb.lt⟩
def wrT (w0 : World) (G N : Nat → Prop) (X : List (Nat × Nat × List Bool)) (cs : List Value) (S1 : DS) (l : List Bool) (t : Nat) (E : Int) : Value → World → Prop := fun v w =>
 ∃ ds, v = .tuple #[.agg ds.toArray, .int .i64 E] ∧ (ds.length = 5 ∧ (∀ v ∈ ds, v.oneCell' = true)) ∧ RS w0 w G N X (cs.take 0 ++ ds ++ cs.drop (0 + 5)) S1 l t
theorem RS.then {S' : DS} {ds : List Value} (h : RS w0 w G N X cs S l t) (ht : ∀ H, Rf w H ((cs.drop 0).take 5) S → RThen H w w' ds S') (hs : S'.laid.length = S.laid.length) : RS w0 w' G N X (cs.take 0 ++ ds ++ cs.drop (0 + 5)) S' l t := by
 obtain ⟨H, h1, h2, h3, h4, h5⟩ := h
 obtain ⟨dc, e1, e2, e3⟩ := h1.disk
 rw [e1] at e2
 have ht := ht H e2
 have k := h1.setDisk ht hs
 refine ⟨fun j => (H j ∨ w.heap.size ≤ j) ∧ j < w'.heap.size, k.1.keep (fun j hg hl => ⟨rfl, hg, hl⟩), fun j hj => ⟨?_, hj.2⟩, fun j hj => ⟨?_, (h3 j hj).2.1, Nat.lt_of_lt_of_le (h3 j hj).2.2 ht.2.size⟩, fun m hm => ⟨⟨.inl (h4 m hm).1, Nat.lt_of_lt_of_le (h4 m hm).2.lt ht.2.size⟩, (h4 m hm).2.stays ht.2⟩, below_then h5 ht.2⟩
 · rcases hj.1 with h6 | h6
   · exact (h2 j h6).1
   · exact .inr (Nat.le_trans h5.size h6)
 · rintro ⟨h6 | h6, _⟩
   · exact (h3 j hj).1 h6
   · have := (h3 j hj).2.2; omega
theorem RS.write_run (h : RS w0 w G N X cs S l t) (hln : S.ws.length ≤ 900000) (i : Int) (a : Option Addr) (c : Nat) (b : List Int) (hB : Bs w a c b) {n : Nat} (hn : n = b.length) {dc : List Value} (hd : dc = (cs.drop 0).take 5) {S1 : DS} {E : Int} (hS1 : (S.write i b).1 = S1) (hE : (S.write i b).2 = E) :
 Calls Tryd.prog 111 #[.agg dc.toArray, .int .i64 i, .slice a n c] w fun e w' => ∃ v, e = .returned v ∧ Below w.heap.size w w' ∧ wrT w0 G N X cs S1 l t E v w' := by
 subst hn hS1 hE
 have h0 := h
 obtain ⟨H, h1, h2, h3, h4, h5⟩ := h
 obtain ⟨dc', e1, e2, e3⟩ := h1.disk
 rw [hd, ← e1]
 refine (rput_run e2 i a c b hB hln).mono ?_
 rintro e w' ⟨ds, rfl, ht⟩
 have k := h1.setDisk ht (write_laid S i b ▸ rfl)
 refine ⟨_, rfl, ht.2, ds, rfl, ht.1.five, ⟨fun j => (H j ∨ w.heap.size ≤ j) ∧ j < w'.heap.size, k.1.keep (fun j hg hl => ⟨rfl, hg, hl⟩), fun j hj => ⟨?_, hj.2⟩, fun j hj => ⟨?_, (h3 j hj).2.1, Nat.lt_of_lt_of_le (h3 j hj).2.2 ht.2.size⟩, fun m hm => ⟨⟨.inl (h4 m hm).1, Nat.lt_of_lt_of_le (h4 m hm).2.lt ht.2.size⟩, (h4 m hm).2.stays ht.2⟩, below_then h5 ht.2⟩⟩
 · rcases hj.1 with h6 | h6
   · exact (h2 j h6).1
   · exact .inr (Nat.le_trans h5.size h6)
 · rintro ⟨h6 | h6, _⟩
   · exact (h3 j hj).1 h6
   · have := (h3 j hj).2.2; omega
theorem RS.setMap {q c : Nat} {l2 : List Bool} {X' : List (Nat × Nat × List Bool)} (h : RS w0 w G N ((q, c, l2) :: X') cs S l t) (hl : l2.length = l.length) (hL : Lab l2) : RS w0 w G N X' (cs.take 5 ++ [.slice (some ⟨q, 0, none⟩) l.length c] ++ cs.drop (5 + 1)) S l2 t := by
 have h7 := h.len.1
 obtain ⟨H, h1, h2, h3, h4, h5⟩ := h
 obtain ⟨k1, k2⟩ := h4 _ List.mem_cons_self
 have := h1.setMap k2 k1 hl hL
 rw [List.set_eq_take_append_cons_drop, if_pos (by omega)] at this
 refine ⟨H, ?_, h2, h3, fun m hm => h4 m (List.mem_cons_of_mem _ hm), h5⟩
 rw [List.append_assoc]
 exact this
theorem RS.drop {m : Nat × Nat × List Bool} (h : RS w0 w G N (m :: X) cs S l t) : RS w0 w G N X cs S l t := by
 obtain ⟨H, h1, h2, h3, h4, h5⟩ := h
 exact ⟨H, h1, h2, h3, fun m' hm => h4 m' (List.mem_cons_of_mem _ hm), h5⟩
theorem RS.take_run (h : RS w0 w G N X cs S l t) (k : Int) {mv : List Value} (hd : mv = (cs.drop 5).take 1) :
 Calls Tryd.prog 109 #[.agg mv.toArray, .int .i64 k] w fun e w' =>
  ((takeL l k).2.2 ≠ 0 ∧ ∃ v1 v2, e = .returned (.tuple #[.agg #[v1], v2, .int .i64 ((takeL l k).2.2 : Int)]) ∧ v1.oneCell' = true ∧ Below w.heap.size w w') ∨
  ((takeL l k).2.2 = 0 ∧ ∃ q cq v, e = .returned (.tuple #[.agg #[.slice (some ⟨q, 0, none⟩) l.length cq], v, .int .i64 0]) ∧ Nums w.heap.size w' v (takeL l k).2.1 ∧ RS w0 w' G N ((q, cq, (takeL l k).1) :: X) cs S l t ∧ Below w.heap.size w w') := by
 have hs := h
 obtain ⟨H, h1, h2, h3, h4, h5⟩ := h
 obtain ⟨q0, c0, e1, hT⟩ := h1.map
 have hm := h1.mlen
 rw [hd, ← e1]
 unfold takeL
 by_cases h6 : k < 0 ∨ 8 < k
 · rw [if_pos h6]
   refine (rtake_bad l.length k h6 w).mono ?_
   rintro e w' ⟨rfl, hb⟩
   exact .inl ⟨by simp, _, _, rfl, rfl, hb⟩
 · rw [if_neg h6]
   obtain ⟨m, rfl⟩ : ∃ m : Nat, k = (m : Int) := ⟨k.toNat, by omega⟩
   by_cases h7 : (freeN l : Int) < (m : Int)
   · rw [if_pos h7]
     refine (rtake_full l.length m (by omega) w hT rfl hm.2 (by omega)).mono ?_
     rintro e w' ⟨rfl, hb⟩
     exact .inl ⟨by simp, _, _, rfl, rfl, hb⟩
   · rw [if_neg h7]
     refine (rtake_some l.length m (by omega) w hT rfl hm.1 hm.2 (by omega)).mono ?_
     rintro e w' ⟨q, cq, v, rfl, k1, k2, k3, hb⟩
     refine .inr ⟨rfl, q, cq, v, rfl, k2, ?_, hb⟩
     refine ⟨fun j => H j ∨ j = q, (h1.stays hb).keep (fun j hg hl => ⟨rfl, .inl hg⟩), fun j hj => ?_, fun j hj => ⟨?_, (h3 j hj).2.1, Nat.lt_of_lt_of_le (h3 j hj).2.2 hb.size⟩, fun m' hm' => ?_, below_then h5 hb⟩
     · rcases hj with hj | rfl
       · exact ⟨(h2 j hj).1, Nat.lt_of_lt_of_le (h2 j hj).2 hb.size⟩
       · exact ⟨.inr (Nat.le_trans h5.size k3), k1.lt⟩
     · rintro (h8 | rfl)
       · exact (h3 j hj).1 h8
       · have := (h3 j hj).2.2; omega
     · rcases List.mem_cons.1 hm' with rfl | hm'
       · exact ⟨.inr rfl, k1⟩
       · exact ⟨.inl (h4 m' hm').1, (h4 m' hm').2.stays hb⟩
end
end Go.Proofs.YthbldjnpnligpaaDoor

/-
 As UpT, where the first operations, in any order, are followed by ONE call of any effect, and that one by operations that only read.
-/

namespace Go.Proofs.YthbldjnpnligpaaDoor.UpT
set_option linter.unusedSimpArgs false
set_option linter.unusedVariables false
set_option maxRecDepth 100000
open Go
section
variable {P : Program} {ops : Array Oper} {md : Region.Mode} {R : World → World → Prop} {w0 : World} {Ψ : Nat → Option (Value → World → Prop)} {S : Nat → Bool} {Qf : Act → Env → Prop}
def chainM (md : Region.Mode) (ops : Array Oper) (n : Nat) : Bool := (List.range ops.size).all fun t => decide (t ≤ n) || (List.range t).any fun s => decide (n ≤ s) && Region.waitsFor md ops t s
def Chain (md : Region.Mode) (ops : Array Oper) (n : Nat) : Prop := chainM md ops n = true
theorem tail_waits2 {n : Nat} {listed : Array Bool} (hs : Region.sinkB md ops n = true) (hc : Chain md ops n) (hn : n < ops.size) (inv : HeadInv md ops n listed) :
 ∀ (d i : Nat), n - i = d → i < n → listed.getD i true = false → ∀ t, n ≤ t → t ∉ Region.ready md ops listed := by
 intro d
 induction d using Nat.strongRecOn with
 | _ d ih =>
   intro i hd hi hun t ht hr
   obtain ⟨_, ot, hot, hall⟩ := mem_ready.1 hr
   have htlt : t < ops.size := (Array.getElem?_eq_some_iff.1 hot).1
   by_cases htn : t = n
   · subst htn
     have h1 := List.all_eq_true.1 hs i (List.mem_range.2 hi)
     obtain ⟨j, hj, hj2⟩ := List.any_eq_true.1 h1
     simp only [Bool.and_eq_true, decide_eq_true_eq] at hj2
     obtain ⟨oj, hoj, e, he, hb, hon⟩ := Region.waitsFor_spec hj2.2
     have hjle : j ≤ t := by have := List.mem_range.1 hj; omega
     by_cases hjt : j = t
     · subst hjt
       have : oj = ot := Option.some.inj (hoj.symm.trans hot)
       subst this
       have h2 := hall e he hb
       rw [hon, getD_both hun] at h2
       cases h2
     · cases hl : listed.getD j false with
       | true =>
         have h2 := inv.closed j oj hoj hl e he hb
         rw [hon, getD_both hun] at h2
         cases h2
       | false =>
         have hjs : j < listed.size := by rw [inv.size]; omega
         exact ih (t - j) (by omega) j rfl (by omega) (getD_in hjs hl) t (Nat.le_refl _) hr
   · have h1 := List.all_eq_true.1 hc t (List.mem_range.2 htlt)
     simp only [Bool.or_eq_true, decide_eq_true_eq] at h1
     rcases h1 with h1 | h1
     · omega
     · obtain ⟨s, hs1, hs2⟩ := List.any_eq_true.1 h1
       simp only [Bool.and_eq_true, decide_eq_true_eq] at hs2
       have hst := List.mem_range.1 hs1
       obtain ⟨o', ho', e, he, hb, hon⟩ := Region.waitsFor_spec hs2.2
       have : o' = ot := Option.some.inj (ho'.symm.trans hot)
       subst this
       have h2 := hall e he hb
       rw [hon, getD_both (inv.tail s hs2.1 (by omega))] at h2
       cases h2
theorem firstP2 {n : Nat} {L : Array Bool → Act → Env → Prop} {i : Nat} {oi : Oper} {v : Value} (hi : ops[i]? = some oi) (hsel : ∀ (j : Nat) (o : Oper) cs b, ops[j]? = some o → o.op ≠ .select cs b)
 (hsk : Region.sinkB md ops n = true) (hch : Chain md ops n) (hn : n < ops.size) (hin : i < n) (hdone : ∀ listed a E, L listed a E → ∀ j ∈ Region.ready md ops listed, n ≤ j) :
 ∀ (fuel : Nat) (listed : Array Bool) (a : Act) (E : Env), HeadInv md ops n listed →
   (∀ j oj, ops[j]? = some oj → j ≠ i → listed.getD j true = false → (∀ e ∈ oj.after, Region.binds md e = true → e.on ≠ i) → oi.apart ops oj = true) →
   i ∈ Region.ready md ops listed → (∀ k, listed.getD k true = false → E k = none) → YP P ops md R w0 Ψ i oi v a E →
   anyL P ops md R w0 Ψ S n L fuel (listed.setIfInBounds i true) (a.put oi.dst v) E → anyL P ops md R w0 Ψ S n L (fuel + 1) listed a E := by
 have here : ∀ (K : Act → Env → Prop) (a : Act) (E : Env), YP P ops md R w0 Ψ i oi v a E → K (a.put oi.dst v) E → op P ops md R w0 Ψ S i K a E := by
  intro K a E hy hK
  unfold op
  simp only [hi]
  rcases hy with ⟨hw, hψ, hv⟩ | ⟨hw, rfl⟩
  · simp only [hw, if_true, hψ]; exact ⟨v, hv, hK⟩
  · simp only [hw, Bool.false_eq_true, if_false]; exact hK
 intro fuel
 induction fuel with
 | zero =>
   intro listed a E inv _ hr _ hy H hs
   have hun := (mem_ready.1 hr).1
   refine ⟨fun h => (by rw [h] at hr; cases hr), fun j hj => ?_⟩
   have hjn : j < n := by
    rcases Nat.lt_or_ge j n with h | h
    · exact h
    · exact absurd hj (tail_waits2 hsk hch hn inv _ i rfl hin hun j h)
   refine ⟨hjn, ?_⟩
   by_cases hji : j = i
   · subst hji; exact here _ _ _ hy H
   · have := hdone _ _ _ (H hs) j (ready_mono hj hji)
     omega
 | succ fuel ih =>
   intro listed a E inv hfree hr hE hy H hs
   have hun := (mem_ready.1 hr).1
   refine ⟨fun h => (by rw [h] at hr; cases hr), fun j hj => ?_⟩
   have hjn : j < n := by
    rcases Nat.lt_or_ge j n with h | h
    · exact h
    · exact absurd hj (tail_waits2 hsk hch hn inv _ i rfl hin hun j h)
   refine ⟨hjn, ?_⟩
   by_cases hji : j = i
   · subst hji; exact here _ _ _ hy H
   · have h1 := ((H hs).2 j (ready_mono hj hji)).2
     obtain ⟨hjun, oj, hoj, hall⟩ := mem_ready.1 hj
     have h2 := op_putP hoj (hfree j oj hoj hji hjun (not_waits hr hj hoj)) (fun cs b => hsel i oi cs b hi) (fun cs b => hsel j oj cs b hoj) (hE j hjun) hy h1
     have hfree' : ∀ k ok, ops[k]? = some ok → k ≠ i → (listed.setIfInBounds j true).getD k true = false →
      (∀ e ∈ ok.after, Region.binds md e = true → e.on ≠ i) → oi.apart ops ok = true := fun k ok hk hki hun hno => by
        refine hfree k ok hk hki ?_ hno
        by_cases hjk : j = k
        · subst hjk; exact hjun
        · rw [getD_set_ne true hjk] at hun; exact hun
     refine op_more (fun a' E' hE' h3 => ih (listed.setIfInBounds j true) a' E' (inv.set hj hjn) hfree' (ready_mono hr (Ne.symm hji)) (unlisted hE hE') h3.1 ?_) h2
     rw [Array.setIfInBounds_comm _ _ hji]
     exact h3.2
theorem firstM2 {n : Nat} {L : Array Bool → Act → Env → Prop} (ht : ∀ u v w, R u v → R v w → R u w) (hst : ∀ k ψ, Ψ k = some ψ → ∀ v w w', R w w' → ψ v w → ψ v w') (hR : ∀ w w', R w w' → w.heap.size ≤ w'.heap.size) {i : Nat} {oi : Oper} {ψi : Value → World → Prop} (hi : ops[i]? = some oi)
 (hsel : ∀ (j : Nat) (o : Oper) cs b, ops[j]? = some o → o.op ≠ .select cs b)
 (hsk : Region.sinkB md ops n = true) (hch : Chain md ops n) (hn : n < ops.size) (hin : i < n) (hdone : ∀ listed a E, L listed a E → ∀ j ∈ Region.ready md ops listed, n ≤ j) :
 ∀ (fuel : Nat) (listed : Array Bool) (a : Act) (E : Env), HeadInv md ops n listed →
   (∀ j oj, ops[j]? = some oj → j ≠ i → listed.getD j true = false → (∀ e ∈ oj.after, Region.binds md e = true → e.on ≠ i) → oi.apart ops oj = true) →
   i ∈ Region.ready md ops listed → (∀ k, listed.getD k true = false → E k = none) → YM P ops md R w0 Ψ S i oi ψi a E →
   (∀ v, Sat R w0 Ψ S (setE E i v) → anyL P ops md R w0 Ψ S n L fuel (listed.setIfInBounds i true) (a.put oi.dst v) (setE E i v)) → anyL P ops md R w0 Ψ S n L (fuel + 1) listed a E := by
 have here : ∀ (K : Act → Env → Prop) (a : Act) (E : Env), YM P ops md R w0 Ψ S i oi ψi a E → (∀ v, Sat R w0 Ψ S (setE E i v) → K (a.put oi.dst v) (setE E i v)) → op P ops md R w0 Ψ S i K a E := by
  intro K a E hy hK
  unfold op
  obtain ⟨hw, hψ, hv⟩ := hy
  simp only [hi, hw, if_true, hψ]
  exact ⟨hv, hK⟩
 intro fuel
 induction fuel with
 | zero =>
   intro listed a E inv _ hr hE hy H hs
   have hun := (mem_ready.1 hr).1
   refine ⟨fun h => (by rw [h] at hr; cases hr), fun j hj => ?_⟩
   have hjn : j < n := by
    rcases Nat.lt_or_ge j n with h | h
    · exact h
    · exact absurd hj (tail_waits2 hsk hch hn inv _ i rfl hin hun j h)
   refine ⟨hjn, ?_⟩
   by_cases hji : j = i
   · subst hji; exact here _ _ _ hy H
   · have := ready_mono hj hji
     obtain ⟨ws, hws, hfs⟩ := hs
     obtain ⟨v0, hv0⟩ := makes_sat ht hst hR hy.2.1 hws hfs (hy.2.2 ws (pre_of hws hfs))
     have := hdone _ _ _ (H v0 hv0 hv0) j this
     omega
 | succ fuel ih =>
   intro listed a E inv hfree hr hE hy H hs
   have hun := (mem_ready.1 hr).1
   refine ⟨fun h => (by rw [h] at hr; cases hr), fun j hj => ?_⟩
   have hjn : j < n := by
    rcases Nat.lt_or_ge j n with h | h
    · exact h
    · exact absurd hj (tail_waits2 hsk hch hn inv _ i rfl hin hun j h)
   refine ⟨hjn, ?_⟩
   by_cases hji : j = i
   · subst hji; exact here _ _ _ hy H
   · obtain ⟨hjun, oj, hoj, hall⟩ := mem_ready.1 hj
     have hnw := not_waits hr hj hoj
     have hdep : dep ops md j i = false := by
        unfold dep
        simp only [hoj, Option.map_some, Option.getD_some]
        rw [List.any_eq_false]
        intro e he hb
        simp only [Bool.and_eq_true, beq_iff_eq] at hb
        exact hnw e (by simpa using he) hb.1 hb.2
     have h2 := op_putM (N := anyL P ops md R w0 Ψ S n L fuel ((listed.setIfInBounds i true).setIfInBounds j true)) ht hst hR hoj (hfree j oj hoj hji hjun hnw) (fun cs b => hsel i oi cs b hi) (fun cs b => hsel j oj cs b hoj) hji (hE j hjun) (hE i (mem_ready.1 hr).1) hdep hs hy
        (fun v hv => ((H v hv hv).2 j (ready_mono hj hji)).2)
     have hfree' : ∀ k ok, ops[k]? = some ok → k ≠ i → (listed.setIfInBounds j true).getD k true = false →
      (∀ e ∈ ok.after, Region.binds md e = true → e.on ≠ i) → oi.apart ops ok = true := fun k ok hk hki hun hno => by
        refine hfree k ok hk hki ?_ hno
        by_cases hjk : j = k
        · subst hjk; exact hjun
        · rw [getD_set_ne true hjk] at hun; exact hun
     refine op_more (fun a' E' hE' h3 => ih (listed.setIfInBounds j true) a' E' (inv.set hj hjn) hfree' (ready_mono hr (Ne.symm hji)) (unlisted hE hE') h3.1 ?_) h2
     rw [Array.setIfInBounds_comm _ _ hji]
     exact h3.2
end
end Go.Proofs.YthbldjnpnligpaaDoor.UpT

/-
 Lists of pointers of a law's own.
-/

namespace Go.Proofs.YthbldjnpnligpaaDoor
set_option linter.unusedSimpArgs false
set_option linter.unusedVariables false
set_option maxRecDepth 100000
open Go.RowKit
instance : Inhabited Pt := ⟨Pt.zero⟩
def ptrsV (ps : List Pt) : List Value := ps.flatMap Pt.vs
def Plist (base : Nat) (w : World) (v : Value) (ps : List Pt) : Prop := (∀ p ∈ ps, p.ok) ∧ w.ownsRow base 42 35 v ps.length (ptrsV ps)
def rowOf (v : Value) : Nat → Prop := fun j => v.ownBlock = some j
theorem ptrsV_more (ps : List Pt) (p : Pt) : ptrsV (ps ++ [p]) = ptrsV ps ++ p.vs := by unfold ptrsV; rw [List.flatMap_append]; simp
theorem ptrsV_at : ∀ {ps : List Pt}, (∀ p ∈ ps, p.ok) → ∀ i, i < ps.length → ∀ j, j < 35 → (ptrsV ps)[i * 35 + j]? = (ps.getD i default).vs[j]?
 | [], _, i, hi, _, _ => by simp at hi
 | p :: ps, h, i, hi, j, hj => by
   have h1 := Pt.vs_len (h p List.mem_cons_self)
   show (p.vs ++ ptrsV ps)[i * 35 + j]? = _
   cases i with
   | zero => rw [Nat.zero_mul, Nat.zero_add, List.getElem?_append_left (by omega)]; rfl
   | succ i =>
     rw [List.getElem?_append_right (by omega), h1, show (i + 1) * 35 + j - 35 = i * 35 + j by omega]
     exact ptrsV_at (fun q hq => h q (List.mem_cons_of_mem _ hq)) i (by simpa using hi) j hj
section
variable {base : Nat} {w w' w0 : World} {v : Value} {ps : List Pt}
theorem Plist.form (h : Plist base w v ps) : ∃ a c, v = .slice a ps.length c := by
 rcases h.2.2 with ⟨rfl, h0⟩ | ⟨g, cap, cur, rfl, _⟩
 · exact ⟨none, 0, by rw [h0]⟩
 · exact ⟨_, _, rfl⟩
theorem Plist.lt (h : Plist base w v ps) {j : Nat} (hj : rowOf v j) : base ≤ j ∧ j < w.heap.size := World.ownsRow.lt h.2 j hj
theorem Plist.keep (h : Plist base w v ps) (hk : ∀ j, rowOf v j → w'.heap[j]? = w.heap[j]?) : Plist base w' v ps := by
 obtain ⟨h0, h1, h2⟩ := h
 refine ⟨h0, h1, ?_⟩
 rcases h2 with h2 | ⟨g, cap, cur, rfl, hb, hh, rest⟩
 · exact .inl h2
 · exact .inr ⟨g, cap, cur, rfl, hb, by rw [hk g rfl]; exact hh, rest⟩
theorem Plist.stays (h : Plist base w v ps) (hb : Below w.heap.size w w') : Plist base w' v ps := h.keep fun j hj => hb.block j (h.lt hj).2
theorem Plist.stay {M : Nat → Prop} (h : Plist base w v ps) (hy : Stay M w w') (hM : ∀ j, rowOf v j → M j) : Plist base w' v ps := h.keep fun j hj => hy.block j (hM j hj) (h.lt hj).2
theorem Plist.but {m : Nat} (h : Plist base w v ps) (hb : But m w w') (hm : ¬ rowOf v m) : Plist base w' v ps := h.keep fun j hj => hb.block j (fun e => hm (e ▸ hj)) (h.lt hj).2
theorem Plist.at (h : Plist base w v ps) {i : Nat} (hi : i < ps.length) : ∃ b c, v = .slice (some ⟨b, 0, none⟩) ps.length c ∧ rowOf v b ∧ (∀ j, j < 35 → w.cell? ⟨b, i * 35 + j, none⟩ = (ps.getD i default).vs[j]?) ∧ (ps.getD i default).ok := by
 obtain ⟨h0, h1⟩ := h
 have h1' := h1
 rcases h1.2 with ⟨_, h2⟩ | ⟨g, cap, cur, rfl, _⟩
 · omega
 · refine ⟨g, cap, rfl, rfl, fun j hj => ?_, ?_⟩
   · rw [h1'.cellAt (i * 35 + j) (by have := Nat.mul_le_mul_right 35 (show i + 1 ≤ ps.length from hi); omega)]
     exact ptrsV_at h0 i hi j hj
   · exact h0 _ (by simp [List.getD, hi])
theorem index_ptrs (b n c i : Nat) (hi : i < n) (u : World) : (Instr.indexAt 38 (.slice (some ⟨b, 0, none⟩) n c) (.int .i64 (i : Int))).run Tryd.prog u = .ok (.pointer (some ⟨b, i * 35, none⟩)) u := by
 have := index_slice (P := Tryd.prog) 38 42 35 Tryd.underlying38 (by kernel_rfl) (by kernel_rfl) b 0 n c .i64 i hi u
 simpa using this
theorem run_nop (w : World) : (Instr.buildSlice 38 0 #[]).run Tryd.prog w = .ok (.slice (some ⟨w.heap.size, 0, none⟩) 0 0) (w.alloc (.cells #[] 42)) := by kernel_rfl
theorem wpList_nop {ops : Array Oper} {rest : List Oper} {o : Oper} {a : Act} {Q : Exit → Act → World → Prop} (hgd : o.guard = none) (ho : o.op = Op.buildSlice 38 0 #[]) (d : Option Tmp) (hd : o.dst = d)
 (h : ∀ w' b, w.heap.size = b → Plist b w' (.slice (some ⟨b, 0, none⟩) 0 0) [] → Below w.heap.size w w' → wpList Tryd.prog ops Q rest (a.put d (.slice (some ⟨b, 0, none⟩) 0 0)) w') : wpList Tryd.prog ops Q (o :: rest) a w := by
 subst hd
 refine wpList_plain hgd fun K hK => ?_
 have e : (#[] : Array (Nat × Operand)).map (fun (i, x) => (i, a.eval x)) = #[] := by simp
 unfold Oper.wp execOp
 simp only [ho, Sem.run_bind, Sem.run_pure, Result.andThen_ok, e, run_nop]
 exact hK _ _ (h _ _ rfl ⟨fun p hp => (by cases hp), World.ownsRow_made w #[] 0 (Nat.le_refl _) (by decide) (by simp)⟩ ((Below.refl _ _).alloc (Nat.le_refl _) _))
theorem run_onep (p : Pt) (hp : p.ok) (w : World) : (Instr.buildSlice 38 1 [(0, Value.agg p.vs.toArray)].toArray).run Tryd.prog w = .ok (.slice (some ⟨w.heap.size, 0, none⟩) 1 1) (w.alloc (.cells p.vs.toArray 42)) := by
 obtain ⟨h, b, x, y⟩ := p
 have hl : h.length = 32 := hp.len
 clear hp
 match h, hl with
 | [x0, x1, x2, x3, x4, x5, x6, x7, x8, x9, x10, x11, x12, x13, x14, x15, x16, x17, x18, x19, x20, x21, x22, x23, x24, x25, x26, x27, x28, x29, x30, x31], _ => show _ = _; kernel_rfl
theorem wpList_onep {ops : Array Oper} {rest : List Oper} {o : Oper} {a : Act} {Q : Exit → Act → World → Prop} (hgd : o.guard = none) (x : Operand) (ho : o.op = Op.buildSlice 38 1 [(0, x)].toArray) (d : Option Tmp) (hd : o.dst = d) (vs : List Value) (hx : a.eval x = .agg vs.toArray)
 (hr : ∀ w : World, (Instr.buildSlice 38 1 [(0, Value.agg vs.toArray)].toArray).run Tryd.prog w = .ok (.slice (some ⟨w.heap.size, 0, none⟩) 1 1) (w.alloc (.cells vs.toArray 42)))
 (h : ∀ w' b, w.heap.size = b → Blk 42 w' b vs → Below w.heap.size w w' → w'.heap.size = w.heap.size + 1 → wpList Tryd.prog ops Q rest (a.put d (.slice (some ⟨b, 0, none⟩) 1 1)) w') : wpList Tryd.prog ops Q (o :: rest) a w := by
 subst hd
 refine wpList_plain hgd fun K hK => ?_
 have e : [(0, x)].toArray.map (fun (i, x) => (i, a.eval x)) = [(0, Value.agg vs.toArray)].toArray := by simp [hx]
 unfold Oper.wp execOp
 simp only [ho, Sem.run_bind, Sem.run_pure, Result.andThen_ok, e, hr]
 exact hK _ _ (h _ _ rfl (Blk.newAt rfl rfl) ((Below.refl _ _).alloc (Nat.le_refl _) _) (by simp))
theorem wpList_append_ptr {ops : Array Oper} {rest : List Oper} {o : Oper} {a : Act} {Q : Exit → Act → World → Prop} (hgd : o.guard = none) (s x : Operand)
 (ho : o.op = .call { callee := .builtin .append, args := #[s, x], argTypes := #[38, 38] })
 (base : Nat) (v : Value) (ps : List Pt) (hs : a.eval s = v) (hown : Plist base w v ps) (b : Nat) (p : Pt) (hp : p.ok) (hx : a.eval x = .slice (some ⟨b, 0, none⟩) 1 1) (hb : Blk 42 w b p.vs) (hlen : ps.length ≤ 1000000) (hbase : base ≤ w.heap.size)
 (h : ∀ v' w', Plist base w' v' (ps ++ [p]) → w.grownBy w' v.ownBlock → (∀ j, rowOf v' j → rowOf v j ∨ (w.heap.size ≤ j ∧ j < w'.heap.size)) → wpList Tryd.prog ops Q rest (a.put o.dst v') w') : wpList Tryd.prog ops Q (o :: rest) a w := by
 have hi : (Tryd.prog.info? 42).map (fun i => (i.zero, i.size, i.bytes)) = some (some (.agg Pt.zero.vs.toArray), 35, 44) := by kernel_rfl
 obtain ⟨i0, hi0, hz0, hz1, hz2⟩ := info_parts hi
 have hvl := Pt.vs_len hp
 refine wpList_append_lies _ hgd s x 38 ho base 42 i0 (.agg Pt.zero.vs.toArray) 35 44 Tryd.underlying38 hi0 hz0 hz1 hz2 rfl (by decide) v ps.length (ptrsV ps) hs hown.2 ⟨b, 0, none⟩ 1 1 p.vs hx hvl (fun j u hj => ?_) (Pt.vs_one p) (by omega) (by unfold maxLen; omega) (by omega) hbase _ rfl fun g cap w' h1 h2 h4 h5 => ?_
 · have hadd : (⟨b, 0, none⟩ : Addr).add j = ⟨b, j, none⟩ := by unfold Addr.add; split <;> simp_all
   rw [hadd, hb.cell j, hj]
 · refine h _ w' ⟨fun q hq => ?_, ?_⟩ h2 (fun j hj => ?_)
   · rcases List.mem_append.1 hq with h3 | h3
     · exact hown.1 q h3
     · simp only [List.mem_singleton] at h3; rw [h3]; exact hp
   · rw [ptrsV_more, List.length_append]; exact h1
   · obtain rfl : g = j := by simpa [rowOf, Value.ownBlock] using hj
     rcases h4 with h4 | h4
     · exact .inl h4
     · exact .inr ⟨by omega, h5⟩
variable {M : Nat → Prop} {k p g : Nat} {S : DS} {l : List Bool} {t : Nat}
theorem BS.grown {row : Option Nat} (h : BS w0 w M k p g S l t) (hg : w.grownBy w' row) (hM : ∀ j, row = some j → M j ∧ w0.heap.size ≤ j) {N : Nat → Prop} (hN : ∀ j, N j → M j ∨ (w.heap.size ≤ j ∧ j < w'.heap.size)) : BS w0 w' N k p g S l t := by
 obtain ⟨F, h1, h2, h3⟩ := h
 have hkeep : ∀ j, ¬ M j → j < w.heap.size → w'.heap[j]? = w.heap[j]? := fun j hn hl => hg.block j hl (fun e => hn (hM j e.symm).1)
 refine ⟨F, ⟨h1.dk.keep (fun j hj hl => hkeep j (fun hm => (h3 j hm).1 hj) hl), ⟨?_, h1.mp.lo, h1.mp.hi⟩, ?_, fun j hj => ⟨(h1.low j hj).1, Nat.lt_of_lt_of_le (h1.low j hj).2 hg.size⟩, h1.fg, h1.fk, h1.lg, h1.lk, h1.sz, h1.lab, h1.tt⟩, h2.grown hg h2.size (fun j hj => (hM j hj).2), fun j hj => ?_⟩
 · have hl := h1.mp.blk.lt
   have hb := h1.mp.blk
   unfold Blk at *
   rw [hkeep g (fun hm => (h3 g hm).2.1 rfl) hl]; exact hb
 · have hl := h1.bb.lt
   have hb := h1.bb
   unfold Blk at *
   rw [hkeep k (fun hm => (h3 k hm).2.2.1 rfl) hl]; exact hb
 · rcases hN j hj with h4 | h4
   · exact ⟨(h3 j h4).1, (h3 j h4).2.1, (h3 j h4).2.2.1, Nat.lt_of_lt_of_le (h3 j h4).2.2.2 hg.size⟩
   · refine ⟨fun hf => ?_, fun e => ?_, fun e => ?_, h4.2⟩
     · have := (h1.low j hf).2; omega
     · have := h1.mp.blk.lt; omega
     · have := h1.bb.lt; omega
end
end Go.Proofs.YthbldjnpnligpaaDoor
