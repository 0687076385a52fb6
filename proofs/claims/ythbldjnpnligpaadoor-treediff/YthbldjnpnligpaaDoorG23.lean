/-
  Package disk: a disk as it is seen from outside, and its calls.
-/
import Derived.Test.YthbldjnpnligpaaDoorG22
import Derived.Test.YthbldjnpnligpaaDoorG01
import Derived.Test.YthbldjnpnligpaaDoorG09
import Derived.Deep.Slices
namespace Go.Proofs.YthbldjnpnligpaaDoor
set_option linter.unusedSimpArgs false
set_option linter.unusedVariables false
set_option maxRecDepth 100000
open Go.RowKit

/-- What a disk holds. -/
structure DS where
  laid : List Int
  ws : List (Nat × List Int)
  off : Bool
  fused : Bool
  left : Nat

def Buf.pair (f : Buf) : Nat × List Int := (f.at', f.xs)

/-- A disk at the block p, all of whose blocks are of F. -/
def Dk (w : World) (F : Nat → Prop) (p : Nat) (S : DS) : Prop :=
  ∃ bl v bufs, DkAt w p bl v bufs S.laid S.off S.fused S.left ∧ bufs.map Buf.pair = S.ws ∧ ∀ k, Foot p bl v bufs k → F k

theorem Dk.keep {w w' : World} {F : Nat → Prop} {p : Nat} {S : DS} (h : Dk w F p S) (hk : ∀ k, F k → k < w.heap.size → w'.heap[k]? = w.heap[k]?) : Dk w' F p S := by
  obtain ⟨bl, v, bufs, hD, hw, hf⟩ := h
  exact ⟨bl, v, bufs, hD.keep (fun k hk' => hk k (hf k hk') (hD.foot_lt k hk')), hw, hf⟩

theorem Dk.stays {w w' : World} {F : Nat → Prop} {p : Nat} {S : DS} (h : Dk w F p S) (hb : Below w.heap.size w w') : Dk w' F p S := h.keep (fun k _ hk => hb.block k hk)

theorem Dk.mono {w : World} {F G : Nat → Prop} {p : Nat} {S : DS} (h : Dk w F p S) (hg : ∀ k, F k → k < w.heap.size → G k) : Dk w G p S := by
  obtain ⟨bl, v, bufs, hD, hw, hf⟩ := h
  exact ⟨bl, v, bufs, hD, hw, fun k hk => hg k (hf k hk) (hD.foot_lt k hk)⟩

theorem Dk.own {w : World} {F : Nat → Prop} {p : Nat} {S : DS} (h : Dk w F p S) : F p := by
  obtain ⟨bl, v, bufs, hD, hw, hf⟩ := h
  exact hf p (.inl rfl)

/-- What a disk may be. -/
structure DS.Ok (S : DS) (n : Nat) : Prop where
  len : S.laid.length = 256 * n
  lo : 16 ≤ n
  hi : n ≤ 512
  rng : ∀ x ∈ S.laid, 0 ≤ x ∧ x ≤ 255
  ws : ∀ q ∈ S.ws, q.1 < n ∧ q.2.length = 256 ∧ ∀ x ∈ q.2, 0 ≤ x ∧ x ≤ 255
  left : S.left < 9223372036854775808

theorem Dk.ok {w : World} {F : Nat → Prop} {p : Nat} {S : DS} (h : Dk w F p S) : ∃ n, S.Ok n := by
  obtain ⟨bl, v, bufs, hD, hw, hf⟩ := h
  obtain ⟨n, hn, h1, h2⟩ := hD.siz
  refine ⟨n, hn, h1, h2, hD.rng, fun q hq => ?_, hD.lft⟩
  rw [← hw] at hq
  obtain ⟨f, hf', rfl⟩ := List.mem_map.1 hq
  obtain ⟨hb, _, hl⟩ := hD.buf f hf'
  exact ⟨by simp only [Buf.pair]; omega, hb.len, hb.bs.rng⟩

/-- Is there such a sector? -/
def DS.has (S : DS) (i : Int) : Prop := 0 ≤ i ∧ i < ((S.laid.length / 256 : Nat) : Int)
instance (S : DS) (i : Int) : Decidable (S.has i) := by unfold DS.has; exact inferInstance

/-- A sector as it is read. -/
def readW (laid : List Int) (ws : List (Nat × List Int)) (s : Nat) : List Int := ((ws.reverse.find? fun q => q.1 == s).map (·.2)).getD (secOf laid s)

theorem readOf_readW (laid : List Int) (bufs : List Buf) (s : Nat) : readOf laid bufs s = readW laid (bufs.map Buf.pair) s := by
  unfold readOf readW
  rw [← List.map_reverse, List.find?_map]
  cases h : bufs.reverse.find? ((fun q => q.1 == s) ∘ Buf.pair) with
  | none =>
    have h2 : bufs.reverse.find? (fun f => f.at' == s) = none := h
    rw [h2]; rfl
  | some f =>
    have h2 : bufs.reverse.find? (fun f => f.at' == s) = some f := h
    rw [h2]; rfl

def DS.left' (S : DS) : Nat := if S.fused then S.left - 1 else S.left
def DS.dead (S : DS) : DS := { S with off := true }

def DS.write (S : DS) (i : Int) (xs : List Int) : DS × Int :=
  if S.off then (S, 8)
  else if ¬ (S.has i ∧ xs.length = 256) then (S, 1)
  else if may S.fused S.left then ({ S with ws := S.ws ++ [(i.toNat, xs)], left := S.left' }, 0)
  else (S.dead, 8)

def DS.read (S : DS) (i : Int) : List Int × Int :=
  if S.off then ([], 8) else if ¬ S.has i then ([], 1) else (readW S.laid S.ws i.toNat, 0)

def DS.rot (S : DS) (i : Int) (ms : List Int) : DS × Int :=
  if ¬ (S.has i ∧ ms.length ≤ 256) then (S, 1) else ({ S with laid := xorTo S.laid i.toNat ms ms.length }, 0)

def DS.fuse (S : DS) (f : Int) : DS := { S with fused := true, left := (max f 0).toNat }

/-- What a call leaves of a disk and of all else. -/
def Then (F : Nat → Prop) (w w' : World) (p : Nat) (S' : DS) : Prop := Dk w' (fun k => F k ∨ w.heap.size ≤ k) p S' ∧ Frm F w w'

theorem then_same {F : Nat → Prop} {w w' : World} {p : Nat} {S : DS} (h : Dk w F p S) (hb : Below w.heap.size w w') : Then F w w' p S :=
  ⟨(h.stays hb).mono (fun k hk _ => .inl hk), Frm.of_below hb⟩

theorem may_dead {fused : Bool} {left : Nat} (h : ¬ may fused left = true) : fused = true ∧ left = 0 := by
  unfold may at h
  cases fused <;> simp_all

section
variable {w : World} {F : Nat → Prop} {p : Nat} {S : DS}

theorem dk_write (h : Dk w F p S) (i : Int) (a : Option Addr) (c : Nat) (xs : List Int) (hB : Bs w a c xs) (hne : ∀ x, a = some x → ¬ F x.block) (hl : S.ws.length ≤ 1000000) :
    Calls Tryd.prog 144 #[.pointer (some ⟨p, 0, none⟩), .int .i64 i, .slice a xs.length c] w fun e w' => e = .returned (.int .i64 (S.write i xs).2) ∧ Then F w w' p (S.write i xs).1 := by
  have h0 := h
  obtain ⟨bl, v, bufs, hD, hw, hf⟩ := h
  obtain ⟨n, hok⟩ := h0.ok
  unfold DS.write
  by_cases h1 : S.off = true
  · rw [if_pos h1]
    rw [h1] at hD
    refine (write_off i _ w hD).mono ?_
    rintro e w' ⟨rfl, rfl⟩
    exact ⟨rfl, then_same h0 (Below.refl _ _)⟩
  · rw [if_neg h1]
    have hoff : S.off = false := by simpa using h1
    rw [hoff] at hD
    by_cases h2 : S.has i ∧ xs.length = 256
    · rw [if_neg (by simpa using h2)]
      obtain ⟨⟨hi0, hi1⟩, hx⟩ := h2
      rw [hx]
      by_cases h3 : may S.fused S.left = true
      · rw [if_pos h3]
        obtain ⟨s, rfl⟩ : ∃ s : Nat, i = (s : Int) := ⟨i.toNat, by omega⟩
        obtain ⟨ab, ao, rfl, hc⟩ := hB.cell (by omega)
        have hs : 256 * s + 256 ≤ S.laid.length := by have := hok.len; omega
        refine (write_done s ⟨ab, ao, none⟩ c xs w hD h3 hs hB hx (fun e => hne _ rfl ((show ab = p from e) ▸ hf p (.inl rfl))) (by rw [← hw] at hl; simpa using hl)).mono ?_
        rintro e w' ⟨rfl, v', f, hD', hfa, hfx, hfb, hv', hF⟩
        refine ⟨rfl, ⟨bl, v', bufs ++ [f], by simp only [hoff]; exact hD', ?_, ?_⟩, hF.mono ?_⟩
        · simp [hw, Buf.pair, hfa, hfx]
        · rintro k (rfl | rfl | e | ⟨g, hg, rfl⟩)
          · exact .inl (hf _ (.inl rfl))
          · exact .inl (hf _ (.inr (.inl rfl)))
          · rcases hv' k e with h | h
            · exact .inl (hf _ (.inr (.inr (.inl h))))
            · exact .inr h
          · rcases List.mem_append.1 hg with hg | hg
            · exact .inl (hf _ (.inr (.inr (.inr ⟨g, hg, rfl⟩))))
            · simp at hg; subst hg; exact .inr hfb
        · rintro k (rfl | e)
          · exact hf _ (.inl rfl)
          · exact hf _ (.inr (.inr (.inl e)))
      · rw [if_neg h3]
        obtain ⟨hfu, hle⟩ := may_dead h3
        rw [hfu, hle] at hD
        refine (write_blown i _ c w hD ⟨hi0, hi1⟩).mono ?_
        rintro e w' ⟨rfl, hD', hb⟩
        refine ⟨rfl, ⟨bl, v, bufs, by simp only [DS.dead, hfu, hle]; exact hD', hw, fun k hk => .inl (hf k hk)⟩, Frm.of_but hb (hf _ (.inl rfl))⟩
    · rw [if_pos (by simpa using h2)]
      refine (write_arg i a xs.length c w hD (by simpa [DS.has] using h2)).mono ?_
      rintro e w' ⟨rfl, rfl⟩
      exact ⟨rfl, then_same h0 (Below.refl _ _)⟩

/-- Bytes that a call hands out: new memory, or none. -/
def Out (base : Nat) (w : World) (v : Value) (xs : List Int) : Prop := w.ownsRow base 5 1 v xs.length (xs.map (Value.int .u8))

theorem readW_ok {n : Nat} (hok : S.Ok n) {s : Nat} (hs : s < n) : (readW S.laid S.ws s).length = 256 ∧ ∀ x ∈ readW S.laid S.ws s, 0 ≤ x ∧ x ≤ 255 := by
  unfold readW
  cases h : S.ws.reverse.find? (fun q => q.1 == s) with
  | none =>
    refine ⟨secOf_length (by have := hok.len; omega), fun x hx => hok.rng x (List.mem_of_mem_drop (List.mem_of_mem_take hx))⟩
  | some q =>
    have hq : q ∈ S.ws := by simpa using List.mem_of_find?_eq_some h
    exact ⟨(hok.ws q hq).2.1, (hok.ws q hq).2.2⟩

theorem dk_read (h : Dk w F p S) (hl : S.ws.length ≤ 1000000) (i : Int) :
    Calls Tryd.prog 142 #[.pointer (some ⟨p, 0, none⟩), .int .i64 i] w fun e w' => ∃ a c, e = .returned (.tuple #[.slice a (S.read i).1.length c, .int .i64 (S.read i).2]) ∧ Out w.heap.size w' (.slice a (S.read i).1.length c) (S.read i).1 ∧ Below w.heap.size w w' := by
  have h0 := h
  obtain ⟨bl, v, bufs, hD, hw, hf⟩ := h
  have hln : bufs.length = S.ws.length := by rw [← hw]; simp
  obtain ⟨n, hok⟩ := h0.ok
  unfold DS.read
  by_cases h1 : S.off = true
  · rw [if_pos h1]
    rw [h1] at hD
    refine (read_off i w hD).mono ?_
    rintro e w' ⟨rfl, hb⟩
    exact ⟨none, 0, rfl, World.ownsRow_nil _ _ _ _, hb⟩
  · rw [if_neg h1]
    have hoff : S.off = false := by simpa using h1
    rw [hoff] at hD
    by_cases h2 : S.has i
    · rw [if_neg (by simpa using h2)]
      obtain ⟨hi0, hi1⟩ := h2
      obtain ⟨s, rfl⟩ : ∃ s : Nat, i = (s : Int) := ⟨i.toNat, by omega⟩
      have hln2 := hok.len
      have hr := readW_ok hok (s := s) (by omega)
      refine (read_done s w hD (by omega) (by omega)).mono ?_
      rintro e w' ⟨g, cap, rfl, hown, hb⟩
      rw [readOf_readW, hw] at hown
      simp only [Int.toNat_natCast]
      unfold Out
      rw [hr.1]
      exact ⟨_, _, rfl, hown, hb⟩
    · rw [if_pos (by simpa using h2)]
      refine (read_arg i w hD h2).mono ?_
      rintro e w' ⟨rfl, hb⟩
      exact ⟨none, 0, rfl, World.ownsRow_nil _ _ _ _, hb⟩

theorem dk_len (h : Dk w F p S) : Calls Tryd.prog 135 #[.pointer (some ⟨p, 0, none⟩)] w fun e w' => e = .returned (.int .i64 ((S.laid.length / 256 : Nat) : Int)) ∧ w' = w := by
  obtain ⟨bl, v, bufs, hD, hw, hf⟩ := h
  exact len_run w hD

end

def DS.new (n : Nat) : DS := ⟨List.replicate (256 * n) 0, [], false, false, 0⟩

theorem dk_new (n : Nat) (w : World) (hn1 : 16 ≤ n) (hn2 : n ≤ 512) :
    Calls Tryd.prog 45 #[.int .i64 (n : Int)] w fun e w' => ∃ p, e = .returned (.tuple #[.pointer (some ⟨p, 0, none⟩), .int .i64 0]) ∧ Dk w' (fun k => w.heap.size ≤ k) p (DS.new n) ∧ Below w.heap.size w w' := by
  refine (dnew_run n w hn1 hn2).mono ?_
  rintro e w' ⟨p, rfl, bl, hD, hp, hbl, hb⟩
  refine ⟨p, rfl, ⟨bl, _, [], hD, rfl, ?_⟩, hb⟩
  rintro k (rfl | rfl | e | ⟨g, hg, rfl⟩)
  · exact hp
  · exact hbl
  · simp [Value.ownBlock] at e
  · simp at hg

end Go.Proofs.YthbldjnpnligpaaDoor

/-
  Sectors, and bytes that are laid over them: lists alone.
-/

namespace Go.Proofs.YthbldjnpnligpaaDoor
set_option linter.unusedSimpArgs false
set_option linter.unusedVariables false
set_option maxRecDepth 100000
open Go.RowKit

theorem secOf_get (laid : List Int) (t j : Nat) : (secOf laid t)[j]? = if j < 256 then laid[256 * t + j]? else none := by
  unfold secOf
  rw [List.getElem?_take]
  split
  · rw [List.getElem?_drop]
  · rfl

theorem readW_none {laid : List Int} {ws : List (Nat × List Int)} {t : Nat} (hne : ∀ q ∈ ws, q.1 ≠ t) : readW laid ws t = secOf laid t := by
  unfold readW
  have : ws.reverse.find? (fun q => q.1 == t) = none := by
    rw [List.find?_eq_none]
    intro q hq
    simpa using hne q (by simpa using hq)
  rw [this]; rfl

/-- What the law DiskFlushed keeps. -/
structure Kept (S : DS) (t : Nat) (xs : List Int) : Prop where
  off : S.off = false
  fused : S.fused = false
  len : S.laid.length = 4096
  sec : secOf S.laid t = xs
  ne : ∀ q ∈ S.ws, q.1 ≠ t

theorem Kept.read {S : DS} {t : Nat} {xs : List Int} (h : Kept S t xs) (ht : t < 16) : S.read (t : Int) = (xs, 0) := by
  unfold DS.read
  rw [if_neg (by rw [h.off]; decide), if_neg (by have := h.len; simp [DS.has]; omega)]
  simp only [Int.toNat_natCast]
  rw [readW_none h.ne, h.sec]

theorem Kept.write {S : DS} {t : Nat} {xs : List Int} (h : Kept S t xs) (i : Int) (hi : i ≠ (t : Int)) (ys : List Int) : Kept (S.write i ys).1 t xs := by
  unfold DS.write
  rw [if_neg (by rw [h.off]; decide)]
  split
  · exact h
  · rename_i hh
    have hh' : S.has i ∧ ys.length = 256 := by simpa using hh
    split
    · refine ⟨h.off, h.fused, h.len, h.sec, fun q hq => ?_⟩
      rcases List.mem_append.1 hq with hq | hq
      · exact h.ne q hq
      · simp at hq
        subst hq
        have := hh'.1.1
        simp only
        omega
    · rename_i hm
      exact absurd (by unfold may; rw [h.fused]; rfl) hm

end Go.Proofs.YthbldjnpnligpaaDoor

/-
  Numbers and bytes that came in.
-/

namespace Go.Proofs.YthbldjnpnligpaaDoor
set_option linter.unusedSimpArgs false
set_option linter.unusedVariables false
set_option maxRecDepth 100000
open Go.RowKit Go.ChangeShapes Go.WideShapes

section
variable {H : Type} {enc : TypeId × Value → H} {W : World} {base : Nat}

theorem open_bs {fuel : Nat} {held : Bool} {cs : List Value} {x : DataW H × List MemPlace} (h : DataW.trod enc Tryd.prog W base (fun _ => true) held fuel 43 cs = some x) :
    ∃ a c xs, cs = [.slice a (List.length xs) c] ∧ Bs W a c xs := by
  have hr : ∃ a len cap zs, cs = [.slice a len cap] ∧ IsRow .u8 W a len cap zs := by
    rcases open_ints Tryd.underlying43 Tryd.underlying5 (by kernel_rfl) h with ⟨hcs, _⟩ | ⟨x, l, c, zs, hcs, _, hl, hm, hz, _, hcell, hwz⟩
    · exact ⟨none, 0, 0, [], by simpa using hcs, .inl ⟨rfl, rfl, rfl, rfl⟩⟩
    · exact ⟨some x, l, c, zs, hcs, .inr ⟨_, rfl, hl, hm, by simpa using hz, hcell, hwz⟩⟩
  obtain ⟨a, len, cap, zs, hcs, hr⟩ := hr
  obtain ⟨xs, rfl, hB⟩ := came hr
  exact ⟨a, cap, xs, hcs, hB⟩

theorem take1 {α : Type} {l : List α} {i : Nat} {x : α} (h : (l.drop i).take 1 = [x]) : l[i]? = some x := by
  have := congrArg (·[0]?) h
  simpa [List.getElem?_take, List.getElem?_drop] using this

end

end Go.Proofs.YthbldjnpnligpaaDoor
