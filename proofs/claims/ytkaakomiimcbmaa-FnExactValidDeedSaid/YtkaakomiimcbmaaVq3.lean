/- The specification's ranks by its contract. -/
import Derived.Test.YtkaakomiimcbmaaVq2
import Derived.Deep.RegionHeld3
import Derived.Deep.AppendLies
namespace Go.Proofs.Ytkaakomiimcbmaa
open Go.ChangeShapes Go.WideShapes Go.ChangeAt Go.RowKit Go.Deep
set_option linter.unusedSimpArgs false
set_option linter.unusedVariables false
theorem row_of_own {w : World} {base : Nat} {v : Value} {l : List Int} (h : w.ownsRow base 2 1 v l.length (l.map (Value.int .i64))) : RowV w v l := by
  obtain ⟨_, h⟩ := h
  rcases h with ⟨rfl, h0⟩ | ⟨g, cap, cur, rfl, _, hg, hn, _, hs, ht⟩
  · exact .inl ⟨rfl, List.eq_nil_of_length_eq_zero h0⟩
  · refine .inr ⟨_, cap, rfl, fun _ => (Array.getElem?_eq_some_iff.1 hg).1, fun i hi => ?_⟩
    rw [Addr.add_lit, Nat.zero_add]
    have h1 : (cur.toList.take (l.length * 1))[i]? = (l.map (Value.int .i64))[i]? := by rw [ht]
    rw [Nat.mul_one, List.getElem?_take_of_lt hi, Array.getElem?_toList] at h1
    simp only [World.cell?, hg]
    simp [h1, List.getD, hi]
/-- The value leads into blocks from lo to below hi. -/
def InB (v : Value) (lo hi : Nat) : Prop := ∀ k, v.ownBlock = some k → lo ≤ k ∧ k < hi
theorem RowV.kept {w w' : World} {v : Value} {l : List Int} {S : Nat → Prop} (h : RowV w v l) (hk : Kept w w' S) (hs : ∀ k, v.ownBlock = some k → ¬ S k) : RowV w' v l := by
  rcases h with h | ⟨x, cap, rfl, hx, hc⟩
  · exact .inl h
  · refine .inr ⟨x, cap, rfl, fun q => Nat.lt_of_lt_of_le (hx q) hk.size, fun i hi => ?_⟩
    rw [← hc i hi]
    exact World.cell?_of_block (by rw [block_add]; exact hk.block x.block (hx (by omega)) (hs _ rfl))
end Go.Proofs.Ytkaakomiimcbmaa
