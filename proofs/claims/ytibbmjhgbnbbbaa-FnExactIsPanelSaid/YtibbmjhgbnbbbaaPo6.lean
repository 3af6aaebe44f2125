/- ValidPool: both calls by their contracts. -/
import Derived.Test.YtibbmjhgbnbbbaaPo5
import Derived.Test.YtibbmjhgbnbbbaaK5
namespace Go.Proofs.Ytibbmjhgbnbbbaa
open Go.ChangeShapes Go.WideShapes Go.ChangeAt Go.RowKit Go.Deep
set_option linter.unusedSimpArgs false
set_option linter.unusedVariables false
/-- What a call answers: a bool. -/
def Pb (m : Bool) (w : World) (e : Ending) (w' : World) : Prop := e = .returned (.bool m) ∧ Below w.heap.size w w'
theorem Pb.out {m : Bool} {w w' : World} {e : Ending} (h : Pb m w e w') : e = .returned (.bool m) ∧ Below w.heap.size w w' := h
noncomputable def mPool (X : Pl) : Bool := pOkB X.1 X.2.1 X.2.2
theorem sPool (X : Pl) (w : World) (lo hi : Nat) (u : Value) (c : CpP w lo hi u X) : Calls Try.prog 9 #[u] w (Pb (mPool X) w) := by
  obtain ⟨b, rfl, h1, h2, h3, h4⟩ := c
  have b1 := (Below.refl w.heap.size w).alloc (Nat.le_refl _) (.cells #[.int .i64 X.1, .int .i64 X.2.1, .slice (some ⟨b, 0, none⟩) X.2.2.length X.2.2.length] 29)
  have HS := spool X.1 X.2.1 X.2.2 b b X.2.2.length w.heap.size _ (h3.below b1) h4.1 (pool_at w _ _ _)
  unfold Pb mPool
  generalize pOkB X.1 X.2.1 X.2.2 = z at HS ⊢
  clear h3 h4
  go_enter Try.func9, Try.ntmps9
  go_wp2_with fail
  refine HS.mono ?_
  rintro e w1 ⟨rfl, hb1⟩
  go_wp2
  go_ret
  exact ⟨rfl, b1.trans (hb1.below.mono b1.size)⟩
theorem iPool (X : Pl) (w : World) (lo hi : Nat) (u : Value) (c : CpP w lo hi u X) : Calls Try.prog 11 #[u] w (Pb (mPool X) w) := by
  obtain ⟨b, rfl, h1, h2, h3, h4⟩ := c
  exact ivalid X.1 X.2.1 X.2.2 b b _ w h3 h4.1
end Go.Proofs.Ytibbmjhgbnbbbaa
