/- Pools as arguments, opened. -/
import Derived.Test.YtfjpjiieocdgeaaDoorPo2
import Derived.Test.YtfjpjiieocdgeaaDoorOpenV
import Derived.Deep.Strs
namespace Go.Proofs.YtfjpjiieocdgeaaDoor
open Go.ChangeShapes Go.WideShapes Go.ChangeAt Go.RowKit Go.Joins Go.Deep
set_option linter.unusedVariables false
set_option linter.unusedSimpArgs false
set_option maxRecDepth 100000
theorem cellsI : Tryd.prog.cellsOf 2 = 1 := by kernel_rfl
theorem cellsSI : Tryd.prog.cellsOf 49 = 1 := by kernel_rfl
theorem cellsQ : Tryd.prog.cellsOf 97 = 3 := by kernel_rfl
theorem cellsPl : Tryd.prog.cellsOf 39 = 3 := by kernel_rfl
section
variable {H : Type} {enc : TypeId × Value → H} {w : World} {base : Nat} {spare : Nat → Bool} {held : Bool}
theorem off_add {a : Addr} {j : Nat} (h : a.spot = none) : a.add j = ⟨a.block, a.off + j, none⟩ := by
  obtain ⟨b, o, s⟩ := a
  simp only at h
  subst h
  exact Addr.add_lit ..
/-- A slice of quotas reads as a list of quotas. -/
theorem quotas_of {fuel : Nat} {v : Value} {x : DataW H × List MemPlace} (h : DataW.trod enc Tryd.prog w base spare held fuel 37 [v] = some x) : ∃ L, ListQ w v L ∧ RoomQ L := by
  rcases open_slice Tryd.underlying37 h with ⟨hcs, _⟩ | ⟨a, len, cap, m, n, D, Pl, hcs, _, hl, hm, hmm, _, hi⟩
  · simp only [List.cons.injEq, and_true] at hcs
    subst hcs
    exact ⟨[], .inl ⟨rfl, rfl⟩, by simp, fun k hk => absurd hk (Nat.not_lt_zero _)⟩
  · simp only [List.cons.injEq, and_true] at hcs
    subst hcs
    have hlm : len ≤ m := by rw [hmm]; split <;> omega
    unfold maxLen at hm
    have key : ∀ i, ∃ q : Qt, i < len → ∃ v, w.cell? (a.add (i * 3)) = some v ∧ w.cell? ⟨(a.add (i * 3)).block, (a.add (i * 3)).off + 1, none⟩ = some (.int .i64 q.2.1) ∧ w.cell? ⟨(a.add (i * 3)).block, (a.add (i * 3)).off + 2, none⟩ = some (.int .i64 q.2.2) ∧ RowV w v q.1 ∧ q.1.length ≤ 9223372036854775807 := by
      intro i
      by_cases hlt : i < len
      · obtain ⟨cs, hc, ht⟩ := hi i (by omega)
        rw [cellsQ] at hc
        obtain ⟨y0, y1, y2, n', _, hlen, g0, g1, g2⟩ := trod_struct3 Tryd.underlying97 ht
        rw [cellsQ] at hlen
        obtain ⟨_, _, hat⟩ := World.cells?_some hc
        match cs, hlen with
        | [c0, c1, c2], _ =>
          have e0 := hat 0 (by omega)
          have e1 := hat 1 (by omega)
          have e2 := hat 2 (by omega)
          simp [cellsI, cellsSI] at g0 g1 g2 e0 e1 e2
          obtain ⟨l, hl1, hl2, _⟩ := row_of g0
          obtain ⟨mm, hm1, _⟩ := DataW.trod_int Tryd.underlying2 g1
          obtain ⟨nn, hn1, _⟩ := DataW.trod_int Tryd.underlying2 g2
          simp only [List.cons.injEq, and_true] at hm1 hn1
          subst hm1 hn1
          have e0' : w.cell? (a.add (i * 3)) = some c0 := by
            have hz : (a.add (i * 3)).add 0 = a.add (i * 3) := by simp [Addr.add]
            rwa [hz] at e0
          have hsp := at_spot e0'
          rw [off_add hsp] at e1 e2
          exact ⟨(l, mm, nn), fun _ => ⟨c0, e0', e1, e2, hl1, hl2⟩⟩
      · exact ⟨q0, fun q => absurd q hlt⟩
    obtain ⟨f, hf⟩ := Classical.axiomOfChoice key
    have hlenL : ((List.range len).map f).length = len := by simp
    have hget : ∀ k, k < len → ((List.range len).map f).getD k q0 = f k := fun k hk => by simp [List.getD, hk]
    refine ⟨(List.range len).map f, .inr ⟨a, cap, by rw [hlenL], fun q => ?_, fun k hk => ?_⟩, by rw [hlenL]; omega, fun k hk => ?_⟩
    · obtain ⟨v, h1, _⟩ := hf 0 (by omega)
      have := World.block_lt_of_cell? _ _ h1
      rwa [block_add] at this
    · rw [hlenL] at hk
      obtain ⟨v, h1, h2, h3, h4, _⟩ := hf k hk
      rw [hget k hk]
      exact ⟨v, h1, h2, h3, h4⟩
    · rw [hlenL] at hk
      obtain ⟨v, _, _, _, _, h5⟩ := hf k hk
      rw [hget k hk]
      exact h5
abbrev Pl := Int × Int × List Qt
/-- The value v is the pool X. -/
def ListP (w : World) (v : Value) (X : Pl) : Prop := ∃ q, v = .agg #[.int .i64 X.1, .int .i64 X.2.1, q] ∧ ListQ w q X.2.2
theorem ListP.below {w w' : World} {v : Value} {X : Pl} (h : ListP w v X) (hb : Below w.heap.size w w') : ListP w' v X := by
  obtain ⟨q, e, h⟩ := h
  exact ⟨q, e, h.below hb⟩
def RoomP (X : Pl) : Prop := RoomQ X.2.2 ∧ (Lit.int .i64 X.1).wf = true ∧ (Lit.int .i64 X.2.1).wf = true
theorem pool_of {b0 : Nat} {v : Value} {d : DataW H} {p : List MemPlace}
    (hv : Value.okWide Tryd.prog w .any b0 39 v) (h : DataW.Trod enc Tryd.prog w base spare held 39 v d p) : ∃ X, ListP w v X ∧ RoomP X := by
  obtain ⟨c0, c1, c2, y0, y1, y2, m, rfl, rfl, rfl, g0, g1, g2⟩ := open_agg3 Tryd.underlying39 (by kernel_rfl) cellsPl hv h
  obtain ⟨a, e0, _, wa⟩ := DataW.trod_int Tryd.underlying2 g0
  obtain ⟨b, e1, _, wb⟩ := DataW.trod_int Tryd.underlying2 g1
  simp only [List.cons.injEq, and_true] at e0 e1
  subst e0 e1
  obtain ⟨L, h1, h2⟩ := quotas_of g2
  exact ⟨(a, b, L), ⟨c2, rfl, h1⟩, h2, wa, wb⟩
end
end Go.Proofs.YtfjpjiieocdgeaaDoor
