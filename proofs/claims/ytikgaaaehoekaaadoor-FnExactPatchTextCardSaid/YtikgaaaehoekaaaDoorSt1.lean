/- Statutes: whether a list of articles is one: the specification's look. -/
import Derived.Test.YtikgaaaehoekaaaDoorK7
namespace Go.Proofs.YtikgaaaehoekaaaDoor
open Go.ChangeShapes Go.WideShapes Go.ChangeAt Go.RowKit Go.Deep
set_option linter.unusedSimpArgs false
set_option linter.unusedVariables false
def sta1 (L : List Ar) (k : Nat) : Prop := (1 ≤ (L.getD k a0).1 ∧ (L.getD k a0).1 ≤ 99) ∧ senF (L.getD k a0).2 ∧ (0 < k → (L.getD (k - 1) a0).1 < (L.getD k a0).1)
def staF (L : List Ar) : Prop := L.length ≤ 8 ∧ ∀ k, k < L.length → sta1 L k
noncomputable def staB (L : List Ar) : Bool := @decide (staF L) (Classical.propDecidable _)
theorem staB_iff {L : List Ar} : staB L = true ↔ staF L := by simp [staB]
theorem staB_yes {L : List Ar} (h : staF L) : staB L = true := by simp [staB, h]
theorem staB_no {L : List Ar} (h : ¬ staF L) : staB L = false := by simp [staB, h]
/-- The edits that make a statute of an empty one. -/
def adds (L : List Ar) : List Ed := L.map fun a => (1, a.1, ⟨#[]⟩, a.2)
theorem adds_len (L : List Ar) : (adds L).length = L.length := by simp [adds]
theorem adds_get (L : List Ar) {k : Nat} (hk : k < L.length) : (adds L).getD k e0 = (1, (L.getD k a0).1, ⟨#[]⟩, (L.getD k a0).2) := by
  simp [adds, List.getD, hk]
theorem edF_add (i : Int) (t : ByteArray) : edF (1, i, ⟨#[]⟩, t) ↔ senF t := by
  unfold edF
  simp only
  constructor
  · rintro (h | h | h)
    · exact h.2.2
    · exact absurd h.1 (by omega)
    · exact absurd h.1 (by omega)
  · intro h
    exact .inl (by simpa using h)
theorem pat_adds (L : List Ar) {k : Nat} (hk : k < L.length) : pat1 (adds L) k ↔ sta1 L k := by
  unfold pat1 sta1
  rw [adds_get L hk]
  by_cases h0 : 0 < k
  · rw [adds_get L (k := k - 1) (by omega)]
    simp only [edF_add]
  · simp only [edF_add]
    constructor
    · rintro ⟨h1, h2, h3⟩; exact ⟨h1, h2, fun h => absurd h h0⟩
    · rintro ⟨h1, h2, h3⟩; exact ⟨h1, h2, fun h => absurd h h0⟩
theorem sta_adds (L : List Ar) : staF L ↔ L.length ≤ 8 ∧ patF (adds L) := by
  unfold staF patF
  rw [adds_len]
  constructor
  · rintro ⟨h1, h2⟩
    exact ⟨h1, by omega, fun k hk => (pat_adds L hk).2 (h2 k hk)⟩
  · rintro ⟨h1, h2, h3⟩
    exact ⟨h1, fun k hk => (pat_adds L hk).1 (h3 k hk)⟩
end Go.Proofs.YtikgaaaehoekaaaDoor
