/-
  The document's disk: Flush.
-/
import Derived.Test.YthbldjnpnligpaaDoorG24
import Derived.StillTailTactics
import Derived.Laws.IdiomStrings
import Derived.Lib.AppendStr
namespace Go.Proofs.YthbldjnpnligpaaDoor
set_option linter.unusedSimpArgs false
set_option linter.unusedVariables false
set_option maxRecDepth 100000
open Go.RowKit

theorem ss_of_owns {w : World} {base : Nat} {v : Value} {xs : List ByteArray} (h : w.ownsRow base 9 1 v xs.length (xs.map Value.string)) (h0 : 0 < xs.length) : ∃ g c, v = .slice (some ⟨g, 0, none⟩) xs.length c ∧ base ≤ g ∧ SsAt w (fun k => base ≤ k) (some ⟨g, 0, none⟩) xs := by
  rcases h.2 with ⟨rfl, h1⟩ | ⟨g, cap, cur, rfl, hb, _⟩
  · omega
  · refine ⟨g, cap, rfl, hb, g, 0, rfl, hb, fun i hi => ?_⟩
    rw [Nat.zero_add]
    rw [h.cellAt i (by omega)]
    simp [List.getD, hi]

theorem SsAt.mono {w : World} {G G' : Nat → Prop} {a : Option Addr} {xs : List ByteArray} (h : SsAt w G a xs) (hg : ∀ k, G k → G' k) : SsAt w G' a xs := by
  obtain ⟨b, off, h1, h2, h3⟩ := h
  exact ⟨b, off, h1, hg b h2, h3⟩

theorem WsAt.at {w : World} {G : Nat → Prop} {a : Option Addr} {c : Nat} {ws : List (Nat × List Int)} (h : WsAt w G a c ws) {k : Nat} (hk : k < ws.length) :
    ∃ b off, a = some ⟨b, off, none⟩ ∧ w.cell? ⟨b, off + 2 * k, none⟩ = some (.int .i64 ((ws.getD k (0, [])).1 : Int)) ∧ w.cell? ⟨b, off + 2 * k + 1, none⟩ = some (.string (strOfNums (ws.getD k (0, [])).2)) := by
  rcases h with ⟨rfl, _⟩ | ⟨b, off, rfl, _, hc⟩
  · simp at hk
  · exact ⟨b, off, rfl, hc k hk⟩

section
variable {G : Nat → Prop} {S : DS} {sa : Option Addr} {sc : Nat} {wa : Option Addr} {wc n : Nat}

end
end Go.Proofs.YthbldjnpnligpaaDoor

/-
  The document's disk: Read, Dump.
-/

namespace Go.Proofs.YthbldjnpnligpaaDoor
set_option linter.unusedSimpArgs false
set_option linter.unusedVariables false
set_option maxRecDepth 100000
open Go.RowKit

section
variable {G : Nat → Prop} {S : DS} {sa : Option Addr} {sc : Nat} {wa : Option Addr} {wc n : Nat}

theorem readW_upto (laid : List Int) (ws : List (Nat × List Int)) (q : Nat × List Int) (s : Nat) : readW laid (ws ++ [q]) s = if q.1 = s then q.2 else readW laid ws s := by
  unfold readW
  rw [List.reverse_append]
  simp only [List.reverse_singleton, List.singleton_append, List.find?_cons]
  by_cases h : q.1 = s
  · simp [h]
  · have : (q.1 == s) = false := by simpa using h
    simp [this, h]

end
end Go.Proofs.YthbldjnpnligpaaDoor

/-
  The document's disk: lay, Crash.
-/

namespace Go.Proofs.YthbldjnpnligpaaDoor
set_option linter.unusedSimpArgs false
set_option linter.unusedVariables false
set_option maxRecDepth 100000
open Go.RowKit

theorem owns_stays6 {w w' : World} {base : Nat} {e : TypeId} {s : Nat} {v : Value} {n : Nat} {xs : List Value} (h : w.ownsRow base e s v n xs) (hb : Below w.heap.size w w') : w'.ownsRow base e s v n xs :=
  owns_keep h (fun k e => hb.block k (h.lt k e).2)

section
variable {G : Nat → Prop} {S : DS} {sa : Option Addr} {sc : Nat} {wa : Option Addr} {wc n : Nat}

end
end Go.Proofs.YthbldjnpnligpaaDoor
