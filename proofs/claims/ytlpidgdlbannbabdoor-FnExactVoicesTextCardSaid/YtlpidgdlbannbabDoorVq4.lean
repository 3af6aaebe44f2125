/- The law on RanksOf, walked. -/
import Derived.Test.YtlpidgdlbannbabDoorVq3
namespace Go.Proofs.YtlpidgdlbannbabDoor
open Go.ChangeShapes Go.WideShapes Go.ChangeAt Go.RowKit Go.Deep
set_option linter.unusedSimpArgs false
set_option linter.unusedVariables false
theorem Vs.shape {w : World} {lo : Nat} {L : List Vc} (h : Vs w lo lo L) : ∃ c, ShV w lo L.length c (fun j => (L.getD j (false, [])).2.length) ∧ ∀ j, j < L.length → lo ≤ c j ∧ c j < w.heap.size ∧ lo ≠ c j := by
  obtain ⟨c, h⟩ := h
  refine ⟨c, ⟨⟨_, h.row, fun j hj => ?_⟩, fun j hj => ⟨_, (h.own j hj).2⟩⟩, fun j hj => ⟨by have := (h.own j hj).1; omega, (h.own j hj).2.lt, by have := (h.own j hj).1; omega⟩⟩
  have e1 : (j * 2 + 1) / 2 = j := by omega
  have e2 : (j * 2 + 1) % 2 = 1 := by omega
  simp [vf, e1, e2, hj]
theorem ShV.below {w w' : World} {b n : Nat} {c len : Nat → Nat} (h : ShV w b n c len) (hb : Below w.heap.size w w') : ShV w' b n c len := by
  obtain ⟨⟨f, h1, h2⟩, h3⟩ := h
  refine ⟨⟨f, h1.of_block (hb.block b h1.lt), h2⟩, fun j hj => ?_⟩
  obtain ⟨f', h4⟩ := h3 j hj
  exact ⟨f', h4.of_block (hb.block _ h4.lt)⟩
end Go.Proofs.YtlpidgdlbannbabDoor
