/- The law on IsSeal, walked from the contracts of its two calls. -/
import Derived.Test.YtgoocglcgkfgmaaSl2
namespace Go.Proofs.Ytgoocglcgkfgmaa
open Go.ChangeShapes Go.WideShapes Go.ChangeAt Go.RowKit Go.Deep
set_option linter.unusedSimpArgs false
set_option linter.unusedVariables false
set_option maxHeartbeats 2000000 in
set_option maxRecDepth 100000 in
theorem lawIsSeal (n0 : Int) (w : World) (wf0 : (Lit.int .i64 n0).wf = true) :
    Calls Try.prog 3 #[.int .i64 n0] w fun e w' => e = .returned (.bool true) ∧ Below w.heap.size w w' := by
  obtain ⟨r0, hm⟩ : ∃ p, isSl n0 = p := ⟨_, rfl⟩
  have HS : ∀ w' , Calls Try.prog 11 #[.int .i64 n0] w' (Pb r0 w') := fun w'  => by have q := sIsS n0 w' wf0; rw [hm] at q; exact q
  have HI : ∀ w' , Calls Try.prog 12 #[.int .i64 n0] w' (Pb r0 w') := fun w'  => by have q := iIsS n0 w' wf0; rw [hm] at q; exact q
  clear hm
  go_enter Try.func3, Try.ntmps3
  go_wp2_with fail
  refine (HS _ ).mono ?_
  intro e w1 hp
  obtain ⟨rfl, hb1⟩ := hp.out
  have s1 := hb1.size
  have b1 := hb1
  have t1 := b1.size
  go_wp2_with fail
  refine (HI _ ).mono ?_
  intro e w2 hp
  obtain ⟨rfl, hb2⟩ := hp.out
  have s2 := hb2.size
  have b2 := b1.trans (hb2.mono b1.size)
  have t2 := b2.size
  go_wp2
  go_ret
  exact ⟨rfl, b2⟩
end Go.Proofs.Ytgoocglcgkfgmaa
