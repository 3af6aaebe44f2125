/- The kinds of values that a law copies and compares: lists of edits, lists of articles. -/
import Derived.Test.YtkaakomiimcbmaaDoorEd7
import Derived.Test.YtkaakomiimcbmaaDoorAr1
import Derived.Test.YtkaakomiimcbmaaDoorK2v
namespace Go.Proofs.YtkaakomiimcbmaaDoor
open Go.ChangeShapes Go.WideShapes Go.ChangeAt Go.RowKit Go.Deep
set_option linter.unusedSimpArgs false
set_option linter.unusedVariables false
/-- The copy of a list of edits. -/
def CpD (w : World) (lo hi : Nat) (v : Value) (L : List Ed) : Prop := v = .slice (some ⟨lo, 0, none⟩) L.length L.length ∧ Es w lo L ∧ lo < hi ∧ FitsE L
theorem CpD.below {w w' : World} {lo hi : Nat} {v : Value} {l : List Ed} (h : CpD w lo hi v l) (hb : Below w.heap.size w w') : CpD w' lo hi v l := ⟨h.1, h.2.1.below hb, h.2.2⟩
theorem eqCpD {v v' : Value} {l : List Ed} {w : World} {lo hi lo' hi' : Nat} (h : CpD w lo hi v l) (h' : CpD w lo' hi' v' l) :
    Calls Tryd.prog 53 #[v, v'] w fun e w' => e = .returned (.bool true) ∧ Below w.heap.size w w' := by
  obtain ⟨rfl, h1, -, hf⟩ := h
  obtain ⟨rfl, h2, -, -⟩ := h'
  exact eqES l _ _ _ _ w h1 h2 hf.1
theorem toCpD (v : Value) (l : List Ed) (w : World) (h : ListE w v l) (hf : FitsE l) :
    Calls Tryd.prog 48 #[v] w fun e w' => ∃ u, e = .returned u ∧ CpD w' w.heap.size w'.heap.size u l ∧ Below w.heap.size w w' :=
  (toES v l w h hf.1).mono fun e w' ⟨he, ho, hb⟩ => ⟨_, he, ⟨rfl, ho, ho.lt, hf⟩, hb⟩
/-- The copy of a list of articles. -/
def CpA (w : World) (lo hi : Nat) (v : Value) (L : List Ar) : Prop := v = .slice (some ⟨lo, 0, none⟩) L.length L.length ∧ As w lo L ∧ lo < hi ∧ FitsA L
theorem CpA.below {w w' : World} {lo hi : Nat} {v : Value} {l : List Ar} (h : CpA w lo hi v l) (hb : Below w.heap.size w w') : CpA w' lo hi v l := ⟨h.1, h.2.1.below hb, h.2.2⟩
theorem eqCpA {v v' : Value} {l : List Ar} {w : World} {lo hi lo' hi' : Nat} (h : CpA w lo hi v l) (h' : CpA w lo' hi' v' l) :
    Calls Tryd.prog 21 #[v, v'] w fun e w' => e = .returned (.bool true) ∧ Below w.heap.size w w' := by
  obtain ⟨rfl, h1, -, hf⟩ := h
  obtain ⟨rfl, h2, -, -⟩ := h'
  exact eqAS l _ _ _ _ w h1 h2 hf.1
theorem toCpA (v : Value) (l : List Ar) (w : World) (h : ListA w v l) (hf : FitsA l) :
    Calls Tryd.prog 19 #[v] w fun e w' => ∃ u, e = .returned u ∧ CpA w' w.heap.size w'.heap.size u l ∧ Below w.heap.size w w' :=
  (toAS v l w h hf.1).mono fun e w' ⟨he, ho, hb⟩ => ⟨_, he, ⟨rfl, ho, ho.lt, hf⟩, hb⟩
theorem iVP (L : List Ed) (w : World) (lo hi : Nat) (u : Value) (h : CpD w lo hi u L) : Calls Tryd.prog 50 #[u] w (Pb (patB L) w) := by
  obtain ⟨rfl, h1, -, hf⟩ := h
  exact ipatch L lo L.length w h1 hf.2 hf.1
end Go.Proofs.YtkaakomiimcbmaaDoor
