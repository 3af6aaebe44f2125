/- Laws on two fractions: what lies boxed stays. -/
import Derived.Test.YtoppbeojmkbmcaaDoorLFrac
import Derived.Test.YtoppbeojmkbmcaaDoorValid0
import Derived.Deep.RegionHeld3
import Derived.Deep.DeepCutAuto
namespace Go.Proofs.YtoppbeojmkbmcaaDoor
open Go.ChangeShapes Go.WideShapes Go.ChangeAt Go.RowKit
/-- The two boxed arguments of a law lie where they lay, and so does a third box; nothing below has turned. -/
def Bx (w : World) (an ad bn bd : Int) (g : Nat) (x y : Int) (w' : World) : Prop :=
  w'.cell? ⟨w.heap.size, 0, none⟩ = some (.int .i64 an) ∧ w'.cell? ⟨w.heap.size, 1, none⟩ = some (.int .i64 ad) ∧ w'.cell? ⟨w.heap.size + 1, 0, none⟩ = some (.int .i64 bn) ∧ w'.cell? ⟨w.heap.size + 1, 1, none⟩ = some (.int .i64 bd) ∧
    Hid (w.heap.size + 1 < w'.heap.size ∧ Below w.heap.size w w' ∧ g < w'.heap.size ∧ w'.cell? ⟨g, 0, none⟩ = some (.int .i64 x) ∧ w'.cell? ⟨g, 1, none⟩ = some (.int .i64 y))
section
variable {w w1 w' : World} {an ad bn bd x y : Int} {g : Nat}
theorem Bx.bel (h : Bx w an ad bn bd g x y w') : Below w.heap.size w w' := h.2.2.2.2.out.2.1
theorem Bx.drew (h : Bx w an ad bn bd g x y w') : Bx w an ad bn bd g x y w'.drew := ⟨h.1, h.2.1, h.2.2.1, h.2.2.2.1, h.2.2.2.2.out.1, h.2.2.2.2.out.2.1.drew, h.2.2.2.2.out.2.2⟩
theorem Bx.below (h : Bx w an ad bn bd g x y w1) (hb : Below w1.heap.size w1 w') : Bx w an ad bn bd g x y w' := by
  obtain ⟨h1, h2, h3, h4, h5, h6, h7, h8, h9⟩ := h
  exact ⟨(hb.cell (by show w.heap.size < _; omega)).trans h1, (hb.cell (by show w.heap.size < _; omega)).trans h2, (hb.cell h5).trans h3, (hb.cell h5).trans h4, Nat.lt_of_lt_of_le h5 hb.size, h6.trans (hb.mono h6.size), Nat.lt_of_lt_of_le h7 hb.size, (hb.cell h7).trans h8, (hb.cell h7).trans h9⟩
theorem Bx.alloc (h : Bx w an ad bn bd g x y w1) (o : Obj) : Bx w an ad bn bd g x y (w1.alloc o) := h.below ((Below.refl _ _).alloc (Nat.le_refl _) _)
theorem Bx.set2 (h : Bx w an ad bn bd g x y w1) {k : Nat} (hk : w.heap.size + 1 < k) (hg : g < k) (u v : Value) : Bx w an ad bn bd g x y ((w1.setCell ⟨k, 0, none⟩ u).setCell ⟨k, 1, none⟩ v) := by
  obtain ⟨h1, h2, h3, h4, h5, h6, h7, h8, h9⟩ := h
  have e : ∀ (b o : Nat), b < k → ((w1.setCell ⟨k, 0, none⟩ u).setCell ⟨k, 1, none⟩ v).cell? ⟨b, o, none⟩ = w1.cell? ⟨b, o, none⟩ := by
    intro b o hb
    rw [World.cell?_setCell_other _ _ _ _ (by intro e; injection e; omega), World.cell?_setCell_other _ _ _ _ (by intro e; injection e; omega)]
  exact ⟨(e _ _ (by omega)).trans h1, (e _ _ (by omega)).trans h2, (e _ _ (by omega)).trans h3, (e _ _ (by omega)).trans h4, by simpa using h5, (h6.setCell (by show _ ≤ k; omega) _).setCell (by show _ ≤ k; omega) _, by simpa using h7, (e _ _ hg).trans h8, (e _ _ hg).trans h9⟩
theorem Bx.start (w : World) (an ad bn bd : Int) : Bx w an ad bn bd w.heap.size an ad ((w.alloc (.cells #[.int .i64 an, .int .i64 ad] 33)).alloc (.cells #[.int .i64 bn, .int .i64 bd] 33)) :=
  ⟨by go_simp, by go_simp, by go_simp, by go_simp, by simp, ((Below.refl _ _).alloc (Nat.le_refl _) _).alloc (by simp) _, by simp; omega, by go_simp, by go_simp⟩
theorem Bx.turn {g' : Nat} {x' y' : Int} (h : Bx w an ad bn bd g x y w') (hg : g' < w'.heap.size) (h0 : w'.cell? ⟨g', 0, none⟩ = some (.int .i64 x')) (h1 : w'.cell? ⟨g', 1, none⟩ = some (.int .i64 y')) : Bx w an ad bn bd g' x' y' w' :=
  ⟨h.1, h.2.1, h.2.2.1, h.2.2.2.1, h.2.2.2.2.out.1, h.2.2.2.2.out.2.1, hg, h0, h1⟩
end
end Go.Proofs.YtoppbeojmkbmcaaDoor
