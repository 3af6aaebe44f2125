/- Arguments that hold acts, opened. -/
import Derived.Test.YtkaakomiimcbmaaDoorXaa
import Derived.Test.YtkaakomiimcbmaaDoorOpenD
namespace Go.Proofs.YtkaakomiimcbmaaDoor
open Go.ChangeShapes Go.WideShapes Go.ChangeAt Go.RowKit Go.Joins Go.Deep
set_option linter.unusedVariables false
set_option linter.unusedSimpArgs false
set_option maxRecDepth 100000
theorem cellsEs : Tryd.prog.cellsOf 46 = 1 := by kernel_rfl
theorem cellsAc : Tryd.prog.cellsOf 48 = 3 := by kernel_rfl
section
variable {H : Type} {enc : TypeId × Value → H} {w : World} {base : Nat} {spare : Nat → Bool} {held : Bool}
/-- A slice of acts reads as a list of acts. -/
theorem acts_of {fuel : Nat} {v : Value} {x : DataW H × List MemPlace} (h : DataW.trod enc Tryd.prog w base spare held fuel 22 [v] = some x) : ∃ L, ListX w v L ∧ RoomX L := by
  rcases open_slice Tryd.underlying22 h with ⟨hcs, _⟩ | ⟨a, len, cap, m, n, D, Pl, hcs, _, hl, hm, hmm, _, hi⟩
  · simp only [List.cons.injEq, and_true] at hcs
    subst hcs
    exact ⟨[], .inl ⟨rfl, rfl⟩, by simp, fun k hk => absurd hk (Nat.not_lt_zero _)⟩
  · simp only [List.cons.injEq, and_true] at hcs
    subst hcs
    have hlm : len ≤ m := by rw [hmm]; split <;> omega
    unfold maxLen at hm
    have key : ∀ i, ∃ q : Ac, i < len → ∃ v, w.cell? (a.add (i * 3)) = some (.int .i64 q.1) ∧ w.cell? ⟨(a.add (i * 3)).block, (a.add (i * 3)).off + 1, none⟩ = some (.int .i64 q.2.1) ∧ w.cell? ⟨(a.add (i * 3)).block, (a.add (i * 3)).off + 2, none⟩ = some v ∧ ListE w v q.2.2 ∧ RoomE q.2.2 := by
      intro i
      by_cases hlt : i < len
      · obtain ⟨cs, hc, ht⟩ := hi i (by omega)
        rw [cellsAc] at hc
        obtain ⟨y0, y1, y2, n', _, hlen, g0, g1, g2⟩ := trod_struct3 Tryd.underlying48 ht
        rw [cellsAc] at hlen
        obtain ⟨_, _, hat⟩ := World.cells?_some hc
        match cs, hlen with
        | [c0, c1, c2], _ =>
          have q0 := hat 0 (by omega)
          have q1 := hat 1 (by omega)
          have q2 := hat 2 (by omega)
          simp [cellsI7, cellsS7, cellsEs] at g0 g1 g2 q0 q1 q2
          obtain ⟨z0, hz0, _⟩ := DataW.trod_int Tryd.underlying2 g0
          obtain ⟨z1, hz1, _⟩ := DataW.trod_int Tryd.underlying2 g1
          obtain ⟨l, hl1, hl2⟩ := edits_of g2
          simp only [List.cons.injEq, and_true] at hz0 hz1
          subst hz0 hz1
          have e0' : w.cell? (a.add (i * 3)) = some (.int .i64 z0) := by
            have hz : (a.add (i * 3)).add 0 = a.add (i * 3) := by simp [Addr.add]
            rwa [hz] at q0
          have hsp := at_spot e0'
          rw [off_add hsp] at q1 q2
          exact ⟨(z0, z1, l), fun _ => ⟨c2, e0', q1, q2, hl1, hl2⟩⟩
      · exact ⟨ac0, fun q => absurd q hlt⟩
    obtain ⟨f, hf⟩ := Classical.axiomOfChoice key
    have hlenL : ((List.range len).map f).length = len := by simp
    have hget : ∀ k, k < len → ((List.range len).map f).getD k ac0 = f k := fun k hk => by simp [List.getD, hk]
    refine ⟨(List.range len).map f, .inr ⟨a, cap, by rw [hlenL], fun q => ?_, fun k hk => ?_⟩, by rw [hlenL]; omega, fun k hk => ?_⟩
    · obtain ⟨_, h1, _⟩ := hf 0 (by omega)
      have := World.block_lt_of_cell? _ _ h1
      rwa [block_add] at this
    · rw [hlenL] at hk
      obtain ⟨v, h1, h2, h3, h4, _⟩ := hf k hk
      rw [hget k hk]
      exact ⟨v, h1, h2, h3, h4⟩
    · rw [hlenL] at hk
      obtain ⟨_, _, _, _, _, h6⟩ := hf k hk
      rw [hget k hk]
      exact h6
theorem actS_of {b0 : Nat} {v : Value} {d : DataW H} {p : List MemPlace}
    (hv : Value.okWide Tryd.prog w .any b0 22 v) (h : DataW.Trod enc Tryd.prog w base spare held 22 v d p) : ∃ L, ListX w v L ∧ RoomX L := by
  obtain ⟨a0, len0, cap0, rfl⟩ := okWide_slice Tryd.underlying22 hv
  obtain ⟨fuel, hf⟩ := h
  exact acts_of hf
end
end Go.Proofs.YtkaakomiimcbmaaDoor
