/- Arguments that hold lists of lists of shares, opened. -/
import Derived.Test.YtlpidgdlbannbaaOpenV
import Derived.Test.YtlpidgdlbannbaaSh2
namespace Go.Proofs.Ytlpidgdlbannbaa
open Go.ChangeShapes Go.WideShapes Go.ChangeAt Go.RowKit Go.Joins Go.Deep
set_option linter.unusedVariables false
set_option linter.unusedSimpArgs false
set_option maxRecDepth 100000
theorem cellsShl : Try.prog.cellsOf 114 = 2 := by kernel_rfl
theorem cellsShr : Try.prog.cellsOf 90 = 1 := by kernel_rfl
theorem cellsInn : Try.prog.cellsOf 2 = 1 := by kernel_rfl
section
variable {H : Type} {enc : TypeId × Value → H} {w : World} {base : Nat} {spare : Nat → Bool} {held : Bool}
/-- A slice of shares reads as a list of shares. -/
theorem shs_of {fuel : Nat} {v : Value} {x : DataW H × List MemPlace} (h : DataW.trod enc Try.prog w base spare held fuel 90 [v] = some x) :
    ∃ L, ListS w v L ∧ L.length ≤ 9223372036854775807 := by
  rcases open_slice Try.underlying90 h with ⟨hcs, _⟩ | ⟨a, len0, cap0, m, n, D, Pl, hcs, _, hl, hm, hmm, _, hi⟩
  · simp only [List.cons.injEq, and_true] at hcs
    subst hcs
    exact ⟨[], .inl ⟨rfl, rfl⟩, by simp⟩
  · simp only [List.cons.injEq, and_true] at hcs
    subst hcs
    have hlm : len0 ≤ m := by rw [hmm]; split <;> omega
    unfold maxLen at hm
    have key : ∀ i, ∃ q : Sq, i < len0 → w.cell? (a.add (i * 2)) = some (.int .i64 q.1) ∧ w.cell? ⟨(a.add (i * 2)).block, (a.add (i * 2)).off + 1, none⟩ = some (.int .i64 q.2) := by
      intro i
      by_cases hlt : i < len0
      · obtain ⟨cs, hc, ht⟩ := hi i (by omega)
        rw [cellsShl] at hc
        obtain ⟨ys, n', _, _, hlen, hyl, hfd⟩ := DataW.trod_struct Try.underlying114 ht
        rw [cellsShl] at hlen
        obtain ⟨_, _, hat⟩ := World.cells?_some hc
        match cs, hlen with
        | [c0, c1], _ =>
          have q0 := hfd 0 _ rfl
          have q1 := hfd 1 _ rfl
          have e0 := hat 0 (by omega)
          have e1 := hat 1 (by omega)
          simp [cellsInn] at q0 q1 e0 e1
          have hy2 : ys.length = 2 := hyl
          have z0 : ys[0]? = some (ys[0]'(by omega)) := List.getElem?_eq_getElem _
          have z1 : ys[1]? = some (ys[1]'(by omega)) := List.getElem?_eq_getElem _
          obtain ⟨x, hx, _⟩ := DataW.trod_int Try.underlying2 (q0.trans z0)
          obtain ⟨y, hy, _⟩ := DataW.trod_int Try.underlying2 (q1.trans z1)
          simp only [List.cons.injEq, and_true] at hx hy
          subst hx hy
          have e0' : w.cell? (a.add (i * 2)) = some (.int .i64 x) := by
            have hz : (a.add (i * 2)).add 0 = a.add (i * 2) := by simp [Addr.add]
            rwa [hz] at e0
          have hsp := at_spot e0'
          have e1' : w.cell? ⟨(a.add (i * 2)).block, (a.add (i * 2)).off + 1, none⟩ = some (.int .i64 y) := by
            revert e1 hsp
            generalize a.add (i * 2) = x
            obtain ⟨xb, xo, xs⟩ := x
            intro e1 hsp
            simp only at hsp
            subst hsp
            rwa [Addr.add_lit] at e1
          exact ⟨(x, y), fun _ => ⟨e0', e1'⟩⟩
      · exact ⟨(0, 0), fun q => absurd q hlt⟩
    obtain ⟨f, hf⟩ := Classical.axiomOfChoice key
    have hlenL : ((List.range len0).map f).length = len0 := by simp
    have hget : ∀ k, k < len0 → ((List.range len0).map f).getD k (0, 0) = f k := fun k hk => by simp [List.getD, hk]
    refine ⟨(List.range len0).map f, .inr ⟨a, cap0, by rw [hlenL], fun q => ?_, fun k hk => ?_⟩, by rw [hlenL]; omega⟩
    · have := World.block_lt_of_cell? _ _ (hf 0 (by omega)).1
      rwa [block_add] at this
    · rw [hlenL] at hk
      obtain ⟨h1, h2⟩ := hf k hk
      rw [hget k hk]
      exact ⟨h1, h2⟩
/-- A slice of slices of shares reads as a list of lists. -/
theorem shares_of {b0 : Nat} {v : Value} {d : DataW H} {p : List MemPlace}
    (hv : Value.okWide Try.prog w .any b0 55 v) (h : DataW.Trod enc Try.prog w base spare held 55 v d p) : ∃ L, ListSS w v L ∧ RoomS L := by
  obtain ⟨a0, len0, cap0, rfl⟩ := okWide_slice Try.underlying55 hv
  obtain ⟨fuel, hf⟩ := h
  rcases open_slice1 Try.underlying55 cellsShr hf with ⟨hcs, _⟩ | ⟨a, len, cap, m, n, V, D, Pl, hcs, _, hl, hm, hmm, _, hi⟩
  · simp [Value.cells] at hcs
    obtain ⟨rfl, rfl, rfl⟩ := hcs
    exact ⟨[], .inl ⟨rfl, rfl⟩, by simp, fun k hk => absurd hk (Nat.not_lt_zero _)⟩
  · simp [Value.cells] at hcs
    obtain ⟨rfl, rfl, rfl⟩ := hcs
    have hlm : len0 ≤ m := by rw [hmm]; split <;> omega
    unfold maxLen at hm
    have key : ∀ i, ∃ q : List Sq, i < len0 → (w.cell? (a.add i) = some (V i) ∧ ListS w (V i) q ∧ q.length ≤ 9223372036854775807) := by
      intro i
      by_cases hlt : i < len0
      · obtain ⟨h1, h2⟩ := hi i (by omega)
        obtain ⟨L, h3, h4⟩ := shs_of h2
        exact ⟨L, fun _ => ⟨h1, h3, h4⟩⟩
      · exact ⟨[], fun q => absurd q hlt⟩
    obtain ⟨f, hf⟩ := Classical.axiomOfChoice key
    have hlenL : ((List.range len0).map f).length = len0 := by simp
    have hget : ∀ k, k < len0 → ((List.range len0).map f).getD k [] = f k := fun k hk => by simp [List.getD, hk]
    refine ⟨(List.range len0).map f, .inr ⟨a, cap0, by rw [hlenL], fun q => ?_, fun k hk => ?_⟩, by rw [hlenL]; omega, fun k hk => ?_⟩
    · have := World.block_lt_of_cell? _ _ (hf 0 (by omega)).1
      rwa [block_add] at this
    · rw [hlenL] at hk
      obtain ⟨h1, h2, h3⟩ := hf k hk
      rw [hget k hk]
      exact ⟨_, h1, h2⟩
    · rw [hlenL] at hk
      obtain ⟨h1, h2, h3⟩ := hf k hk
      rw [hget k hk]
      exact h3
end
end Go.Proofs.Ytlpidgdlbannbaa
