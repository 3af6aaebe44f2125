/- Arguments that hold edits or articles, opened. -/
import Derived.Test.YtkaakomiimcbmaaAr1
import Derived.Test.YtkaakomiimcbmaaOpenV
import Derived.Deep.Strs
namespace Go.Proofs.Ytkaakomiimcbmaa
open Go.ChangeShapes Go.WideShapes Go.ChangeAt Go.RowKit Go.Joins Go.Deep
set_option linter.unusedVariables false
set_option linter.unusedSimpArgs false
set_option maxRecDepth 100000
theorem cellsI7 : Try.prog.cellsOf 2 = 1 := by kernel_rfl
theorem cellsS7 : Try.prog.cellsOf 9 = 1 := by kernel_rfl
theorem cellsEd : Try.prog.cellsOf 49 = 4 := by kernel_rfl
section
variable {H : Type} {enc : TypeId × Value → H} {w : World} {base : Nat} {spare : Nat → Bool} {held : Bool}
theorem off_add {a : Addr} {j : Nat} (h : a.spot = none) : a.add j = ⟨a.block, a.off + j, none⟩ := by
  obtain ⟨b, o, s⟩ := a
  simp only at h
  subst h
  exact Addr.add_lit ..
/-- A slice of edits reads as a list of edits. -/
theorem edits_of {fuel : Nat} {v : Value} {x : DataW H × List MemPlace} (h : DataW.trod enc Try.prog w base spare held fuel 23 [v] = some x) : ∃ L, ListE w v L ∧ RoomE L := by
  rcases open_slice Try.underlying23 h with ⟨hcs, _⟩ | ⟨a, len, cap, m, n, D, Pl, hcs, _, hl, hm, hmm, _, hi⟩
  · simp only [List.cons.injEq, and_true] at hcs
    subst hcs
    exact ⟨[], .inl ⟨rfl, rfl⟩, by simp, fun k hk => absurd hk (Nat.not_lt_zero _)⟩
  · simp only [List.cons.injEq, and_true] at hcs
    subst hcs
    have hlm : len ≤ m := by rw [hmm]; split <;> omega
    unfold maxLen at hm
    have key : ∀ i, ∃ q : Ed, i < len → w.cell? (a.add (i * 4)) = some (.int .i64 q.1) ∧ w.cell? ⟨(a.add (i * 4)).block, (a.add (i * 4)).off + 1, none⟩ = some (.int .i64 q.2.1) ∧ w.cell? ⟨(a.add (i * 4)).block, (a.add (i * 4)).off + 2, none⟩ = some (.string q.2.2.1) ∧ w.cell? ⟨(a.add (i * 4)).block, (a.add (i * 4)).off + 3, none⟩ = some (.string q.2.2.2) ∧ q.2.2.1.size ≤ 9223372036854775807 ∧ q.2.2.2.size ≤ 9223372036854775807 := by
      intro i
      by_cases hlt : i < len
      · obtain ⟨cs, hc, ht⟩ := hi i (by omega)
        rw [cellsEd] at hc
        obtain ⟨y0, y1, y2, y3, n', _, hlen, g0, g1, g2, g3⟩ := trod_struct4 Try.underlying49 ht
        rw [cellsEd] at hlen
        obtain ⟨_, _, hat⟩ := World.cells?_some hc
        match cs, hlen with
        | [c0, c1, c2, c3], _ =>
          have q0 := hat 0 (by omega)
          have q1 := hat 1 (by omega)
          have q2 := hat 2 (by omega)
          have q3 := hat 3 (by omega)
          simp [cellsI7, cellsS7] at g0 g1 g2 g3 q0 q1 q2 q3
          obtain ⟨z0, hz0, _⟩ := DataW.trod_int Try.underlying2 g0
          obtain ⟨z1, hz1, _⟩ := DataW.trod_int Try.underlying2 g1
          obtain ⟨z2, hz2, _, ll2⟩ := DataW.trod_string Try.underlying9 g2
          obtain ⟨z3, hz3, _, ll3⟩ := DataW.trod_string Try.underlying9 g3
          simp only [List.cons.injEq, and_true] at hz0 hz1 hz2 hz3
          subst hz0 hz1 hz2 hz3
          have e0' : w.cell? (a.add (i * 4)) = some (.int .i64 z0) := by
            have hz : (a.add (i * 4)).add 0 = a.add (i * 4) := by simp [Addr.add]
            rwa [hz] at q0
          have hsp := at_spot e0'
          rw [off_add hsp] at q1 q2 q3
          exact ⟨(z0, z1, z2, z3), fun _ => ⟨e0', q1, q2, q3, ll2, ll3⟩⟩
      · exact ⟨e0, fun q => absurd q hlt⟩
    obtain ⟨f, hf⟩ := Classical.axiomOfChoice key
    have hlenL : ((List.range len).map f).length = len := by simp
    have hget : ∀ k, k < len → ((List.range len).map f).getD k e0 = f k := fun k hk => by simp [List.getD, hk]
    refine ⟨(List.range len).map f, .inr ⟨a, cap, by rw [hlenL], fun q => ?_, fun k hk => ?_⟩, by rw [hlenL]; omega, fun k hk => ?_⟩
    · obtain ⟨h1, _⟩ := hf 0 (by omega)
      have := World.block_lt_of_cell? _ _ h1
      rwa [block_add] at this
    · rw [hlenL] at hk
      obtain ⟨h1, h2, h3, h4, _⟩ := hf k hk
      rw [hget k hk]
      exact ⟨h1, h2, h3, h4⟩
    · rw [hlenL] at hk
      obtain ⟨_, _, _, _, h5, h6⟩ := hf k hk
      rw [hget k hk]
      exact ⟨h5, h6⟩
theorem editS_of {b0 : Nat} {v : Value} {d : DataW H} {p : List MemPlace}
    (hv : Value.okWide Try.prog w .any b0 23 v) (h : DataW.Trod enc Try.prog w base spare held 23 v d p) : ∃ L, ListE w v L ∧ RoomE L := by
  obtain ⟨a0, len0, cap0, rfl⟩ := okWide_slice Try.underlying23 hv
  obtain ⟨fuel, hf⟩ := h
  exact edits_of hf
end
end Go.Proofs.Ytkaakomiimcbmaa
