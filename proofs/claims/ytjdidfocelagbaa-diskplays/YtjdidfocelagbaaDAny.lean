/-
  The function do of package disk's laws, at any act.
-/
import Derived.Test.YtjdidfocelagbaaDWrite
namespace Go.Proofs.Ytjdidfocelagbaa
set_option linter.unusedSimpArgs false
set_option linter.unusedVariables false
open Go.RowKit

theorem rf_cells2 {w : World} {G : Nat → Prop} {cs : List Value} {S : DS} (h : Rf w G cs S) : ∃ sa n sc wa wc, cs = [.slice sa n sc, .slice wa S.ws.length wc, .bool S.fused, .int .i64 (S.left : Int), .bool S.off] ∧ S.laid.length / 256 = n ∧ n ≤ 512 ∧ S.laid.length ≤ 131072 := by
  obtain ⟨n, sa, sc, wa, wc, hok, rfl, hs, hw⟩ := h
  have h1 := hok.len
  have h2 := hok.hi
  exact ⟨sa, n, sc, wa, wc, rfl, by omega, h2, by omega⟩

theorem do_any (B p : Nat) (F G : Nat → Prop) (cs : List Value) (S : DS) (x : ActV) (w : World) (hP : Pair B w F G p S cs S) (hB : B ≤ w.heap.size) (hl : S.ws.length ≤ 700000) (hpos : x.pos ≤ 9223372036854775807)
    (hbs : ∀ u, Below B w u → Bs u x.ba x.bc x.bs) (hbl : x.bs.length ≤ 300) (hbb : x.bs ≠ [] → ∀ a, x.ba = some a → a.block < B) (hks : ∀ u, Below B w u → Is u x.ka x.ks) (hkl : x.ks.length ≤ 60) (hkb : x.ks ≠ [] → ∀ a, x.ka = some a → a.block < B) :
    Calls Try.prog 8 #[.pointer (some ⟨p, 0, none⟩), .agg cs.toArray, .agg x.cells.toArray] w fun e w' => ∃ S', S'.ws.length ≤ S.ws.length + 1 ∧ Did B p F G w S' e w' := by
  obtain ⟨kind, pos, ba, bc, bs, raw, ka, kc, ks⟩ := x
  simp only [ActV.cells] at *
  by_cases h1 : kind = 1
  · subst h1
    exact (do_write B p F G cs S pos ba bc bs raw ka kc ks w hP hB (by omega) hbs hbl).mono fun e w' h => ⟨_, write_len S pos _, h⟩
  by_cases h2 : kind = 2
  · subst h2
    exact (do_flush B p F G cs S pos ba bs.length bc raw ka ks.length kc w hP hB (by omega)).mono fun e w' h => ⟨_, Nat.le_trans (flush_len S) (by omega), h⟩
  by_cases h3 : kind = 3
  · subst h3
    exact (do_crash B p F G cs S pos ba bc bs raw ka kc ks w hP hB (by omega) hks hkl hkb).mono fun e w' h => ⟨_, by simp [DS.crash], h⟩
  by_cases h4 : kind = 4
  · subst h4
    exact (do_rot B p F G cs S pos ba bc bs raw ka kc ks w hP hB (by omega) hbs hbl hbb).mono fun e w' h => ⟨_, by unfold DS.rot; split <;> simp, h⟩
  by_cases h5 : kind = 5
  · subst h5
    exact (do_fuse B p F G cs S pos ba bc bs raw ka kc ks w hP hB (by omega) hpos).mono fun e w' h => ⟨_, by simp [DS.fuse], h⟩
  · exact (do_read B p F G cs S kind pos ba bc bs raw ka kc ks w hP hB (by omega) (by simp [h1]) (by simp [h2]) (by simp [h3]) (by simp [h4]) (by simp [h5])).mono fun e w' h => ⟨_, by omega, h⟩
end Go.Proofs.Ytjdidfocelagbaa
