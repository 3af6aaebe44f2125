/- The specification's look at a list of voices, by its contract. -/
import Derived.Test.YtkaakomiimcbmaaVo5
namespace Go.Proofs.Ytkaakomiimcbmaa
open Go.ChangeShapes Go.WideShapes Go.ChangeAt Go.RowKit Go.Deep
set_option linter.unusedSimpArgs false
set_option linter.unusedVariables false
/-- Element m of the list t of member i is another member, and a new one. -/
def elOk (n i : Nat) (t : List Int) (m : Nat) : Prop := 0 ≤ t.getD m 0 ∧ t.getD m 0 ≤ (n : Int) - 1 ∧ t.getD m 0 ≠ (i : Int) ∧ ¬ t.getD m 0 ∈ t.take m
def trOk (n i : Nat) (t : List Int) : Prop := t.length ≤ 4 ∧ ∀ m, m < t.length → elOk n i t m
def okL (L : List Vc) : Prop := 1 ≤ L.length ∧ L.length ≤ 12 ∧ ∀ i, i < L.length → trOk L.length i (L.getD i (false, [])).2
noncomputable def okLB (L : List Vc) : Bool := @decide (okL L) (Classical.propDecidable _)
theorem okLB_yes {L : List Vc} (h : okL L) : okLB L = true := by simp [okLB, h]
theorem okLB_no {L : List Vc} (h : ¬ okL L) : okLB L = false := by simp [okLB, h]
theorem RowV.take {w : World} {x : Addr} {l : List Int} {cap : Nat} (h : RowV w (.slice (some x) l.length cap) l) {k : Nat} (hk : k ≤ l.length) (cap' : Nat) : RowV w (.slice (some x) k cap') (l.take k) := by
  rcases h with ⟨h, -⟩ | ⟨y, c, h, hx, hc⟩
  · simp at h
  · simp only [Value.slice.injEq, Option.some.injEq] at h
    obtain ⟨rfl, -, -⟩ := h
    refine .inr ⟨x, cap', by simp [Nat.min_eq_left hk], fun q => hx (by simp at q; omega), fun i hi => ?_⟩
    have hi' : i < k := by simp at hi; omega
    rw [hc i (by omega)]
    simp [List.getElem?_take, hi']
end Go.Proofs.Ytkaakomiimcbmaa
