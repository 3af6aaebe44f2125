/- Marks written into lists of shares. -/
import Derived.Test.YtfjpjiieocdgeaaDoorSh2
namespace Go.Proofs.YtfjpjiieocdgeaaDoor
open Go.ChangeShapes Go.WideShapes Go.ChangeAt Go.RowKit Go.Deep
set_option linter.unusedSimpArgs false
set_option linter.unusedVariables false
/-- A row of shares of the call's own, whatever they are. -/
def SomeS (w : World) (c n : Nat) : Prop := ∃ f, w.rowIs c 69 (n * 2) f
/-- The shape of a list of lists of shares of the call's own. -/
structure ShSS (w : World) (b n : Nat) (c len : Nat → Nat) : Prop where
  row : w.rowIs b 64 n (fun j => .slice (some ⟨c j, 0, none⟩) (len j) (len j))
  own : ∀ j, j < n → SomeS w (c j) (len j)
theorem ShSS.keep {w w' : World} {b n : Nat} {c len : Nat → Nat} (h : ShSS w b n c len) {j : Nat} (hj : j < n) (hne : b ≠ c j) (hk : Kept w w' (fun x => x = c j)) (hr : ∃ f, w'.rowIs (c j) 69 (len j * 2) f) : ShSS w' b n c len := by
  obtain ⟨h1, h3⟩ := h
  refine ⟨hk.row h1 hne, fun i hi => ?_⟩
  by_cases e : c i = c j
  · obtain ⟨f', h4⟩ := h3 i hi
    obtain ⟨g, h5⟩ := hr
    obtain ⟨f6, h6⟩ := h3 j hj
    have hl : len i = len j := by
      obtain ⟨c1, q1, q2, _⟩ := h4
      obtain ⟨c2, q3, q4, _⟩ := h6
      rw [e, q3] at q1
      injection q1 with q1
      injection q1 with q1
      have : len i * 2 = len j * 2 := by rw [← q2, ← q4, q1]
      omega
    rw [e, hl]
    exact ⟨g, h5⟩
  · obtain ⟨f', h4⟩ := h3 i hi
    exact ⟨f', hk.row h4 e⟩
theorem ShSS.below {w w' : World} {b n : Nat} {c len : Nat → Nat} (h : ShSS w b n c len) (hb : Below w.heap.size w w') : ShSS w' b n c len := by
  obtain ⟨h1, h3⟩ := h
  refine ⟨h1.of_block (hb.block b h1.lt), fun j hj => ?_⟩
  obtain ⟨f', h4⟩ := h3 j hj
  exact ⟨f', h4.of_block (hb.block _ h4.lt)⟩
theorem SS.sh {w : World} {lo : Nat} {L : List (List Sq)} (h : SS w lo lo L) : ∃ c, ShSS w lo L.length c (fun j => (L.getD j []).length) ∧ ∀ j, j < L.length → lo ≤ c j ∧ c j < w.heap.size ∧ lo ≠ c j := by
  obtain ⟨c, h⟩ := h
  refine ⟨c, ⟨h.row.congr fun j hj => by simp [ssf, hj], fun j hj => ⟨_, (h.own j hj).2⟩⟩, fun j hj => ⟨by have := (h.own j hj).1; omega, World.rowIs.lt (h.own j hj).2, by have := (h.own j hj).1; omega⟩⟩
/-- The shape of a list that was copied, in blocks from lo to below hi. -/
def MkS (w : World) (lo hi : Nat) (L : List (List Sq)) : Prop := lo < hi ∧ ∃ c, ShSS w lo L.length c (fun j => (L.getD j []).length) ∧ ∀ j, j < L.length → lo ≤ c j ∧ c j < hi ∧ lo ≠ c j
theorem MkS.below {w w' : World} {lo hi : Nat} {L : List (List Sq)} (h : MkS w lo hi L) (hb : Below w.heap.size w w') : MkS w' lo hi L := by
  obtain ⟨h0, c, h1, h2⟩ := h
  exact ⟨h0, c, h1.below hb, h2⟩
theorem SS.mk {w : World} {lo : Nat} {L : List (List Sq)} (h : SS w lo lo L) : MkS w lo w.heap.size L := ⟨h.lt, h.sh⟩
end Go.Proofs.YtfjpjiieocdgeaaDoor
