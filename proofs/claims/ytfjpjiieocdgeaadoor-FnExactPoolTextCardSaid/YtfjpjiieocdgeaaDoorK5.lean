/- The kinds of values that a law copies, compares: pools. -/
import Derived.Test.YtfjpjiieocdgeaaDoorOpenP
import Derived.Deep.RegionHeld3
namespace Go.Proofs.YtfjpjiieocdgeaaDoor
open Go.ChangeShapes Go.WideShapes Go.ChangeAt Go.RowKit Go.Deep
set_option linter.unusedSimpArgs false
set_option linter.unusedVariables false
def FitsP (X : Pl) : Prop := FitsQ X.2.2 ∧ (Lit.int .i64 X.1).wf = true ∧ (Lit.int .i64 X.2.1).wf = true
/-- A pool that lies at block p. -/
structure PoolAt (w : World) (p : Nat) (P S : Int) (v : Value) : Prop where
  c0 : w.cell? ⟨p, 0, none⟩ = some (.int .i64 P)
  c1 : w.cell? ⟨p, 1, none⟩ = some (.int .i64 S)
  c2 : w.cell? ⟨p, 2, none⟩ = some v
  lt : p < w.heap.size
theorem PoolAt.below {w w' : World} {p : Nat} {P S : Int} {v : Value} (h : PoolAt w p P S v) (hb : Below w.heap.size w w') : PoolAt w' p P S v :=
  ⟨(hb.cell (p := ⟨p, 0, none⟩) h.lt).trans h.c0, (hb.cell (p := ⟨p, 1, none⟩) h.lt).trans h.c1, (hb.cell (p := ⟨p, 2, none⟩) h.lt).trans h.c2, Nat.lt_of_lt_of_le h.lt hb.size⟩
theorem pool_at (w : World) (P S : Int) (v : Value) : PoolAt (w.alloc (.cells #[.int .i64 P, .int .i64 S, v] 44)) w.heap.size P S v :=
  ⟨by go_simp, by go_simp, by go_simp, by simp⟩
theorem pool_atL (w : World) (P S : Int) (v : Value) : PoolAt (w.alloc (.cells #[.int .i64 P, .int .i64 S, v] 39)) w.heap.size P S v :=
  ⟨by go_simp, by go_simp, by go_simp, by simp⟩
/-- The copy of a pool. -/
def CpP (w : World) (lo hi : Nat) (v : Value) (X : Pl) : Prop := ∃ b, v = .agg #[.int .i64 X.1, .int .i64 X.2.1, .slice (some ⟨b, 0, none⟩) X.2.2.length X.2.2.length] ∧ lo ≤ b ∧ b < hi ∧ Qs w b b X.2.2 ∧ FitsP X
theorem CpP.below {w w' : World} {lo hi : Nat} {v : Value} {X : Pl} (h : CpP w lo hi v X) (hb : Below w.heap.size w w') : CpP w' lo hi v X := by
  obtain ⟨b, e, h1, h2, h3, h4⟩ := h
  exact ⟨b, e, h1, h2, h3.below hb, h4⟩
theorem szPl (v : Value) (X : Pl) (w : World) (h : ListP w v X) (hr : RoomP X) :
    Calls Tryd.prog 16 #[v, .int .i64 1048576] w fun e w' => (∃ r, e = .returned (.int .i64 r) ∧ -1 ≤ r ∧ r ≤ 1048576 ∧ (0 ≤ r → FitsP X)) ∧ Below w.heap.size w w' := by
  obtain ⟨q, rfl, h⟩ := h
  obtain ⟨h1, h2, h3⟩ := hr
  exact (szP X.1 X.2.1 q X.2.2 w h h1).mono fun e w' ⟨⟨r, a, b, c, d⟩, hb⟩ => ⟨⟨r, a, b, c, fun h0 => ⟨d h0, h2, h3⟩⟩, hb⟩
theorem toCpP (v : Value) (X : Pl) (w : World) (h : ListP w v X) (hf : FitsP X) :
    Calls Tryd.prog 18 #[v] w fun e w' => ∃ u, e = .returned u ∧ CpP w' w.heap.size w'.heap.size u X ∧ Below w.heap.size w w' := by
  obtain ⟨q, rfl, h⟩ := h
  exact (toP X.1 X.2.1 q X.2.2 w h hf.1).mono fun e w' ⟨⟨b, a, c, d⟩, hb⟩ => ⟨_, a, ⟨b, rfl, by omega, d.lt, d, hf⟩, hb⟩
theorem eqCpP {v v' : Value} {X : Pl} {w : World} {lo hi lo' hi' : Nat} (h : CpP w lo hi v X) (h' : CpP w lo' hi' v' X) :
    Calls Tryd.prog 20 #[v, v'] w fun e w' => e = .returned (.bool true) ∧ Below w.heap.size w w' := by
  obtain ⟨b, rfl, _, _, h1, hf⟩ := h
  obtain ⟨b', rfl, _, _, h2, _⟩ := h'
  exact eqP X.1 X.2.1 X.2.2 b b b' b' _ _ w h1 h2 hf.1
theorem cpq {w : World} {lo hi b : Nat} {X : Pl} (h : CpP w lo hi (.agg #[.int .i64 X.1, .int .i64 X.2.1, .slice (some ⟨b, 0, none⟩) X.2.2.length X.2.2.length]) X) : Qs w b b X.2.2 := by
  obtain ⟨c, e, _, _, h, _⟩ := h
  obtain rfl : b = c := by simpa using e
  exact h
/-- What a region that compares a pool with a new copy reads: the argument and the copy, kept. -/
def Bp (w0 : World) (p p' : Nat) (X : Pl) (q q' : Value) (w' : World) : Prop := w'.cell? ⟨p, 0, none⟩ = some (.int .i64 X.1) ∧ w'.cell? ⟨p, 1, none⟩ = some (.int .i64 X.2.1) ∧ w'.cell? ⟨p, 2, none⟩ = some q ∧ w'.cell? ⟨p', 0, none⟩ = some (.int .i64 X.1) ∧ w'.cell? ⟨p', 1, none⟩ = some (.int .i64 X.2.1) ∧ w'.cell? ⟨p', 2, none⟩ = some q' ∧ Hid (Below w0.heap.size w0 w')
theorem Bp.start {w0 : World} {p p' : Nat} {X : Pl} {q q' : Value} (h : PoolAt w0 p X.1 X.2.1 q) (h' : PoolAt w0 p' X.1 X.2.1 q') : Bp w0 p p' X q q' w0 := ⟨h.c0, h.c1, h.c2, h'.c0, h'.c1, h'.c2, Lib.hid (Below.refl _ _)⟩
theorem Bp.drew {w0 w' : World} {p p' : Nat} {X : Pl} {q q' : Value} (h : Bp w0 p p' X q q' w') : Bp w0 p p' X q q' w'.drew := by
  obtain ⟨a, b, c, d, e, f, g⟩ := h
  exact ⟨a, b, c, d, e, f, Lib.hid g.out.drew⟩
theorem Bp.bel {w0 w' : World} {p p' : Nat} {X : Pl} {q q' : Value} (h : Bp w0 p p' X q q' w') : Below w0.heap.size w0 w' := h.2.2.2.2.2.2.out
theorem Bp.below {w0 w' w'' : World} {p p' : Nat} {X : Pl} {q q' : Value} (h : Bp w0 p p' X q q' w') (hb : Below w'.heap.size w' w'') : Bp w0 p p' X q q' w'' := by
  obtain ⟨a, b, c, d, e, f, g⟩ := h
  have k : ∀ {b : Nat} {o : Nat} {v : Value}, w'.cell? ⟨b, o, none⟩ = some v → w''.cell? ⟨b, o, none⟩ = some v := fun {b o v} hc => (hb.cell (p := ⟨b, o, none⟩) (World.block_lt_of_cell? _ _ hc)).trans hc
  exact ⟨k a, k b, k c, k d, k e, k f, Lib.hid (g.out.trans (hb.mono g.out.size))⟩
end Go.Proofs.YtfjpjiieocdgeaaDoor
