/- The kinds of values that a law copies, compares, marks: lists of lists of shares. -/
import Derived.Test.YtlpidgdlbannbaaSh3
import Derived.Test.YtlpidgdlbannbaaK2v
namespace Go.Proofs.Ytlpidgdlbannbaa
open Go.ChangeShapes Go.WideShapes Go.ChangeAt Go.RowKit Go.Deep
set_option linter.unusedSimpArgs false
set_option linter.unusedVariables false
/-- The copy of a list of lists of shares. -/
def CpS (w : World) (lo hi : Nat) (v : Value) (L : List (List Sq)) : Prop := v = .slice (some ⟨lo, 0, none⟩) L.length L.length ∧ SS w lo lo L ∧ MkS w lo hi L ∧ FitsS L
theorem CpS.below {w w' : World} {lo hi : Nat} {v : Value} {l : List (List Sq)} (h : CpS w lo hi v l) (hb : Below w.heap.size w w') : CpS w' lo hi v l := ⟨h.1, h.2.1.below hb, h.2.2.1.below hb, h.2.2.2⟩
theorem eqCpS {v v' : Value} {l : List (List Sq)} {w : World} {lo hi lo' hi' : Nat} (h : CpS w lo hi v l) (h' : CpS w lo' hi' v' l) :
    Calls Try.prog 41 #[v, v'] w fun e w' => e = .returned (.bool true) ∧ Below w.heap.size w w' := by
  obtain ⟨rfl, h1, -, hf⟩ := h
  obtain ⟨rfl, h2, -, -⟩ := h'
  exact eqSS _ _ l w (h1.list _) (h2.list _) hf
theorem markCpS {v : Value} {l : List (List Sq)} {w : World} {lo hi : Nat} (h : CpS w lo hi v l) :
    Calls Try.prog 42 #[v, .int .i64 1] w fun e w' => (∃ r, e = .returned (.int .i64 r) ∧ 0 ≤ r ∧ r ≤ 3000000000000) ∧ Kept w w' (fun b => lo ≤ b ∧ b < hi) := by
  obtain ⟨rfl, -, h1, hf⟩ := h
  exact markSSany l lo hi _ w h1 hf
theorem toCpS (v : Value) (l : List (List Sq)) (w : World) (h : ListSS w v l) (hf : FitsS l) :
    Calls Try.prog 46 #[v] w fun e w' => ∃ u, e = .returned u ∧ CpS w' w.heap.size w'.heap.size u l ∧ Below w.heap.size w w' :=
  (toSS_any v l w h hf.1 hf.2).mono fun e w' ⟨he, ho, hb⟩ => ⟨_, he, ⟨rfl, ho, ho.mk, hf⟩, hb⟩
end Go.Proofs.Ytlpidgdlbannbaa
