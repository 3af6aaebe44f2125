/- The law on SealOf, walked from the contracts of its two calls. -/
import Derived.Test.YtgoocglcgkfgmaaSl3
namespace Go.Proofs.Ytgoocglcgkfgmaa
open Go.ChangeShapes Go.WideShapes Go.ChangeAt Go.RowKit Go.Deep
set_option linter.unusedSimpArgs false
set_option linter.unusedVariables false
set_option maxHeartbeats 2000000 in
set_option maxRecDepth 100000 in
theorem lawSealOf (n0 : Int) (n1 : Int) (w : World) (wf0 : (Lit.int .i64 n0).wf = true) (wf1 : (Lit.int .i64 n1).wf = true) :
    Calls Try.prog 4 #[.int .i64 n0, .int .i64 n1] w fun e w' => e = .returned (.bool true) ∧ Below w.heap.size w w' := by
  obtain ⟨⟨r0, r1⟩, hm⟩ : ∃ p, mSealOf n0 n1 = p := ⟨_, rfl⟩
  have HS : ∀ w' , Calls Try.prog 13 #[.int .i64 n0, .int .i64 n1] w' (Pnb (r0, r1) w') := fun w'  => by have q := sSealOf n0 n1 w' wf0 wf1; rw [hm] at q; exact q
  have HI : ∀ w' , Calls Try.prog 14 #[.int .i64 n0, .int .i64 n1] w' (Qnb (r0, r1) w') := fun w'  => by have q := iSealOf n0 n1 w' wf0 wf1; rw [hm] at q; exact q
  clear hm
  go_enter Try.func4, Try.ntmps4
  go_wp2_with fail
  refine (HS _ ).mono ?_
  intro e w1 hp
  obtain ⟨rfl, hb1⟩ := hp.out
  have s1 := hb1.size
  have b1 := hb1
  have t1 := b1.size
  go_wp2_with fail
  refine (HI _ ).mono ?_
  intro e w2 hp
  obtain ⟨rfl, hb2⟩ := hp.out
  have s2 := hb2.size
  have b2 := b1.trans (hb2.mono b1.size)
  have t2 := b2.size
  go_wp2
  go_ret
  exact ⟨rfl, b2⟩
end Go.Proofs.Ytgoocglcgkfgmaa
