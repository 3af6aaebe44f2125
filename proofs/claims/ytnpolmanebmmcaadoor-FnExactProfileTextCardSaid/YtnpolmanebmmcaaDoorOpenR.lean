/- Arguments that hold profiles, opened. -/
import Derived.Test.YtnpolmanebmmcaaDoorRf3
import Derived.Test.YtnpolmanebmmcaaDoorOpenV
import Derived.Deep.Strs
namespace Go.Proofs.YtnpolmanebmmcaaDoor
open Go.ChangeShapes Go.WideShapes Go.ChangeAt Go.RowKit Go.Joins Go.Deep
set_option linter.unusedVariables false
set_option linter.unusedSimpArgs false
set_option maxRecDepth 100000
theorem cellsRw : Tryd.prog.cellsOf 23 = 1 := by kernel_rfl
theorem cellsPrf : Tryd.prog.cellsOf 25 = 2 := by kernel_rfl
section
variable {H : Type} {enc : TypeId × Value → H} {w : World} {base : Nat} {spare : Nat → Bool} {held : Bool}
/-- A slice of slices of numbers reads as a list of lists. -/
theorem rows_of {fuel : Nat} {v : Value} {x : DataW H × List MemPlace} (hf : DataW.trod enc Tryd.prog w base spare held fuel 22 [v] = some x) : ∃ L, ListJ w v L ∧ RoomJ L := by
  rcases open_slice1 Tryd.underlying22 cellsRw hf with ⟨hcs, _⟩ | ⟨a, len0, cap0, m, n, V, D, Pl, hcs, _, hl, hm, hmm, _, hi⟩
  · simp only [List.cons.injEq, and_true] at hcs
    subst hcs
    exact ⟨[], .inl ⟨rfl, rfl⟩, by simp, fun k hk => absurd hk (Nat.not_lt_zero _)⟩
  · simp only [List.cons.injEq, and_true] at hcs
    subst hcs
    have hlm : len0 ≤ m := by rw [hmm]; split <;> omega
    unfold maxLen at hm
    have key : ∀ i, ∃ q : List Int, i < len0 → (w.cell? (a.add i) = some (V i) ∧ RowV w (V i) q ∧ q.length ≤ 9223372036854775807) := by
      intro i
      by_cases hlt : i < len0
      · obtain ⟨h1, h2⟩ := hi i (by omega)
        obtain ⟨L, h3, h4, _⟩ := row_of h2
        exact ⟨L, fun _ => ⟨h1, h3, h4⟩⟩
      · exact ⟨[], fun q => absurd q hlt⟩
    obtain ⟨f, hf⟩ := Classical.axiomOfChoice key
    have hlenL : ((List.range len0).map f).length = len0 := by simp
    have hget : ∀ k, k < len0 → ((List.range len0).map f).getD k [] = f k := fun k hk => by simp [List.getD, hk]
    refine ⟨(List.range len0).map f, .inr ⟨a, cap0, by rw [hlenL], fun q => ?_, fun k hk => ?_⟩, by rw [hlenL]; omega, fun k hk => ?_⟩
    · have := World.block_lt_of_cell? _ _ (hf 0 (by omega)).1
      rwa [block_add] at this
    · rw [hlenL] at hk
      obtain ⟨h1, h2, h3⟩ := hf k hk
      rw [hget k hk]
      exact ⟨_, h1, h2⟩
    · rw [hlenL] at hk
      obtain ⟨h1, h2, h3⟩ := hf k hk
      rw [hget k hk]
      exact h3
theorem profile_of {b0 : Nat} {v : Value} {d : DataW H} {p : List MemPlace}
    (hv : Value.okWide Tryd.prog w .any b0 25 v) (h : DataW.Trod enc Tryd.prog w base spare held 25 v d p) : ∃ X, ListR w v X ∧ RoomR X := by
  obtain ⟨c0, c1, y0, y1, m, rfl, rfl, rfl, g0, g1⟩ := open_agg2 Tryd.underlying25 (by kernel_rfl) cellsPrf hv h
  obtain ⟨A, h4, h5⟩ := rows_of g0
  obtain ⟨C, h1, h2, h3⟩ := row_of g1
  exact ⟨(A, C), ⟨c0, c1, rfl, h4, h1⟩, h5, h2, h3⟩
end
end Go.Proofs.YtnpolmanebmmcaaDoor
