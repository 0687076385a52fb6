/-
  Both disks of the law LabelPlays beside the act and the variable that holds the document's.
-/
import Derived.Test.YteocmmmnfbabaaaDoorLbPlayB
namespace Go.Proofs.YteocmmmnfbabaaaDoor
set_option linter.unusedSimpArgs false
set_option linter.unusedVariables false
set_option maxRecDepth 100000
open Go.RowKit

/-- Both disks, the variable at m that holds ms, the act at g. -/
structure PS (w0 w : World) (F G : Nat → Prop) (p : Nat) (S : DS) (cs : List Value) (T : DS) (m g : Nat) (ms av : List Value) : Prop where
  pair : Pair w0.heap.size w F G p S cs T
  mb : Blk 48 w m ms
  ab : Blk 55 w g av
  fm : ¬ F m
  gm : ¬ G m
  fa : ¬ F g
  ga : ¬ G g
  bel : Below w0.heap.size w0 w
  lm : w0.heap.size ≤ m
  la : w0.heap.size ≤ g

section
variable {w0 w w' : World} {F G : Nat → Prop} {p : Nat} {S T S' T' : DS} {cs cs' ms ms' av : List Value} {m g : Nat}

theorem PS.stays (h : PS w0 w F G p S cs T m g ms av) (hb : Below w.heap.size w w') : PS w0 w' F G p S cs T m g ms av :=
  ⟨h.pair.stays hb, h.mb.stays hb, h.ab.stays hb, h.fm, h.gm, h.fa, h.ga, below_then h.bel hb, h.lm, h.la⟩
theorem PS.own (h : PS w0 w F G p S cs T m g ms av) (ht : Then F w w' p S') : ∃ F', PS w0 w' F' G p S' cs T m g ms av := by
  obtain ⟨F', h1, h2, h3⟩ := h.pair.disk h.bel.size ht
  refine ⟨F', h1, box_keep ht.2 h.mb h.fm, box_keep ht.2 h.ab h.fa, fun hf => ?_, h.gm, fun hf => ?_, h.ga, h.bel.trans h3, h.lm, h.la⟩
  · rcases h2 m hf with h4 | h4
    · exact h.fm h4
    · have := h.mb.lt; omega
  · rcases h2 g hf with h4 | h4
    · exact h.fa h4
    · have := h.ab.lt; omega
theorem PS.ref (h : PS w0 w F G p S cs T m g ms av) (ht : RThen G w w' cs' T') : ∃ G', PS w0 w' F G' p S cs' T' m g ms av := by
  refine ⟨_, h.pair.ref ht, h.mb.stays ht.2, h.ab.stays ht.2, h.fm, fun hf => ?_, h.fa, fun hf => ?_, below_then h.bel ht.2, h.lm, h.la⟩
  · rcases hf.1 with h4 | h4
    · exact h.gm h4
    · have := h.mb.lt; omega
  · rcases hf.1 with h4 | h4
    · exact h.ga h4
    · have := h.ab.lt; omega
theorem PS.ne (h : PS w0 w F G p S cs T m g ms av) : g ≠ m := by
  rintro rfl
  have h1 := h.mb
  have h2 := h.ab
  unfold Blk at h1 h2
  rw [h1] at h2
  simp at h2
theorem PS.set (h : PS w0 w F G p S cs T m g ms av) (hb : But m w w') (hm : Blk 48 w' m ms') : PS w0 w' F G p S cs T m g ms' av :=
  ⟨h.pair.but hb h.fm h.gm, hm, h.ab.but hb h.ne, h.fm, h.gm, h.fa, h.ga, h.bel.trans (hb.below h.lm h.bel.size), h.lm, h.la⟩
/-- A new block turns. -/
theorem PS.new {k : Nat} (h : PS w0 w F G p S cs T m g ms av) (hb : But k w w') (hk : k ≠ m) (hk' : k ≠ g) (h1 : ¬ F k) (h2 : ¬ G k) (h3 : w0.heap.size ≤ k) : PS w0 w' F G p S cs T m g ms av :=
  ⟨h.pair.but hb h1 h2, h.mb.but hb (Ne.symm hk), h.ab.but hb (Ne.symm hk'), h.fm, h.gm, h.fa, h.ga, h.bel.trans (hb.below h3 h.bel.size), h.lm, h.la⟩
theorem PS.fresh {w1 : World} (h : PS w0 w F G p S cs T m g ms av) (h1 : Below w.heap.size w w1) (hs : w1.heap.size = w.heap.size + 1) (hb : But w.heap.size w1 w') : PS w0 w' F G p S cs T m g ms av :=
  (h.stays h1).new hb (by have := h.mb.lt; omega) (by have := h.ab.lt; omega) (fun hf => by have := (h.pair.low _ hf).2; omega) (fun hf => by have := h.pair.lowG _ hf; omega) h.bel.size

theorem ps_lay (h : PS w0 w F G p S cs T m g ms av) (l : Lb) (hl : l.ok) (a : Option Addr) (c : Nat) (hm : Bs w a c l.m) (hV : Vars w) (hlen : S.ws.length ≤ 800000) :
    Calls Tryd.prog 20 #[.pointer (some ⟨p, 0, none⟩), .agg (l.vs a c).toArray] w fun e w' => e = .returned (.int .i64 (layL S l).2) ∧ ∃ F', PS w0 w' F' G p (layL S l).1 cs T m g ms av := by
  refine (labLay_run h.pair.dk (fun k hk => (h.pair.low k hk).2) l hl a c hm hV (by omega)).mono ?_
  rintro e w' ⟨rfl, ht⟩
  exact ⟨rfl, h.own ht⟩
theorem ps_rlay (h : PS w0 w F G p S cs T m g ms av) (l : Lb) (hl : l.ok) (a : Option Addr) (c : Nat) (hm : Bs w a c l.m) (hlen : T.ws.length ≤ 800000) :
    Calls Tryd.prog 21 #[.agg cs.toArray, .agg (l.vs a c).toArray] w fun e w' => ∃ cs', e = .returned (.tuple #[.agg cs'.toArray, .int .i64 (layL T l).2]) ∧ ∃ G', PS w0 w' F G' p S cs' (layL T l).1 m g ms av := by
  refine (labRLay_run h.pair.rf h.pair.lowG l hl a c hm hlen).mono ?_
  rintro e w' ⟨cs', rfl, ht⟩
  exact ⟨cs', rfl, h.ref ht⟩
theorem ps_flush (h : PS w0 w F G p S cs T m g ms av) (hlen : S.ws.length ≤ 800000) :
    Calls Tryd.prog 22 #[.pointer (some ⟨p, 0, none⟩)] w fun e w' => (∃ v, e = .returned v) ∧ ∃ F', PS w0 w' F' G p S.flush.1 cs T m g ms av := by
  refine (dk_flush h.pair.dk (by omega)).mono ?_
  rintro e w' ⟨rfl, ht⟩
  exact ⟨⟨_, rfl⟩, h.own ht⟩
theorem ps_rflush (h : PS w0 w F G p S cs T m g ms av) (hlen : T.ws.length ≤ 800000) :
    Calls Tryd.prog 23 #[.agg cs.toArray] w fun e w' => ∃ cs' x, e = .returned (.tuple #[.agg cs'.toArray, .int .i64 x]) ∧ ∃ G', PS w0 w' F G' p S cs' T.flush.1 m g ms av := by
  refine (rflush_run h.pair.rf (by omega)).mono ?_
  rintro e w' ⟨cs', rfl, ht⟩
  exact ⟨cs', _, rfl, h.ref ht⟩
theorem ps_rot (h : PS w0 w F G p S cs T m g ms av) (i : Int) (a : Option Addr) (c : Nat) (qs : List Int) (hB : Bs w0 a c qs) (hq : qs.length ≤ 300) :
    Calls Tryd.prog 24 #[.pointer (some ⟨p, 0, none⟩), .int .i64 i, .slice a qs.length c] w fun e w' => (∃ v, e = .returned v) ∧ ∃ F', PS w0 w' F' G p (S.rot i qs).1 cs T m g ms av := by
  refine (dk_rot h.pair.dk i a c qs (hB.stays h.bel) (by omega) (fun h0 x hx hf => by have := hB.lt h0 hx; have := (h.pair.low _ hf).1; omega)).mono ?_
  rintro e w' ⟨rfl, ht⟩
  exact ⟨⟨_, rfl⟩, h.own ht⟩
theorem ps_rrot (h : PS w0 w F G p S cs T m g ms av) (i : Int) (a : Option Addr) (c : Nat) (qs : List Int) (hB : Bs w0 a c qs) :
    Calls Tryd.prog 25 #[.agg cs.toArray, .int .i64 i, .slice a qs.length c] w fun e w' => ∃ cs' x, e = .returned (.tuple #[.agg cs'.toArray, .int .i64 x]) ∧ ∃ G', PS w0 w' F G' p S cs' (T.rot i qs).1 m g ms av := by
  refine (rrot_run h.pair.rf i a c qs (hB.stays h.bel)).mono ?_
  rintro e w' ⟨cs', rfl, ht⟩
  exact ⟨cs', _, rfl, h.ref ht⟩
theorem is_stays {a : Option Addr} {ks : List Int} (h : Is w a ks) (hb : Below w.heap.size w w') : Is w' a ks := by
  rcases h with h | ⟨b, off, rfl, hc⟩
  · exact .inl h
  · by_cases h0 : ks = []
    · exact .inl h0
    · have hlt := World.block_lt_of_cell? w _ (hc 0 (List.length_pos_iff.2 h0))
      refine .inr ⟨b, off, rfl, fun i hi => ?_⟩
      rw [← hc i hi]
      unfold World.cell?
      rw [hb.block b hlt]
theorem ps_crash (h : PS w0 w F G p S cs T m g ms av) (hlen : S.ws.length ≤ 800000) (a : Option Addr) (c : Nat) (ks : List Int) (hK : Is w0 a ks) (hk : ks.length ≤ 60) :
    Calls Tryd.prog 26 #[.pointer (some ⟨p, 0, none⟩), .slice a ks.length c] w fun e w' => (∃ v, e = .returned v) ∧ ∃ F', PS w0 w' F' G p (S.crash ks) cs T m g ms av := by
  refine (dk_crash h.pair.dk (by omega) a c ks (is_stays hK h.bel) (by omega) (fun h0 x hx hf => by have := is_lt hK h0 hx; have := (h.pair.low _ hf).1; omega)).mono ?_
  rintro e w' ⟨he, ht⟩
  exact ⟨he, h.own ht⟩
theorem ps_rcrash (h : PS w0 w F G p S cs T m g ms av) (hlen : T.ws.length ≤ 800000) (a : Option Addr) (c : Nat) (ks : List Int) (hK : Is w0 a ks) (hk : ks.length ≤ 60) :
    Calls Tryd.prog 27 #[.agg cs.toArray, .slice a ks.length c] w fun e w' => ∃ cs', e = .returned (.agg cs'.toArray) ∧ ∃ G', PS w0 w' F G' p S cs' (T.crash ks) m g ms av := by
  refine (rcrash_run h.pair.rf (by omega) a c ks (is_stays hK h.bel) (by omega)).mono ?_
  rintro e w' ⟨cs', rfl, ht⟩
  exact ⟨cs', rfl, h.ref ht⟩
theorem PS.len (h : PS w0 w F G p S cs T m g ms av) : cs.length = 5 ∧ ∀ v ∈ cs, v.oneCell' = true := h.pair.rf.cells5
end

theorem flush_ws (S : DS) : S.flush.1.ws.length ≤ S.ws.length := flush_len S
theorem rot_ws (S : DS) (i : Int) (ms : List Int) : (S.rot i ms).1.ws = S.ws := by
  unfold DS.rot; split <;> rfl
theorem crash_ws (S : DS) (ks : List Int) : (S.crash ks).ws = [] := rfl

theorem ps_start {w0 wr wa wb : World} {F G : Nat → Prop} {p gm : Nat} {S : DS} {cs av : List Value} (hP : Pair w0.heap.size wr F G p S cs S) (hm : Blk 48 wr gm cs) (hF : ¬ F gm) (hG : ¬ G gm) (hb : Below w0.heap.size w0 wr) (hl : w0.heap.size ≤ gm)
    (hba : Below wr.heap.size wr wa) (hsa : wa.heap.size = wr.heap.size + 1) (hbut : But wr.heap.size wa wb) (hA : Blk 55 wb wr.heap.size av) : PS w0 wb F G p S cs S gm wr.heap.size cs av := by
  have n1 : ¬ F wr.heap.size := fun hf => by have := (hP.low _ hf).2; omega
  have n2 : ¬ G wr.heap.size := fun hf => by have := hP.lowG _ hf; omega
  exact ⟨(hP.stays hba).but hbut n1 n2, (hm.stays hba).but hbut (Nat.ne_of_lt hm.lt), hA, hF, hG, n1, n2, (below_then hb hba).trans (hbut.below hb.size (below_then hb hba).size), hl, hb.size⟩

theorem fuse_ws (S : DS) (f : Int) : (S.fuse f).ws = S.ws := rfl

end Go.Proofs.YteocmmmnfbabaaaDoor
