/- The law on RiskOf, walked from the contracts of its two calls. -/
import Derived.Test.YtgoocglcgkfgmaaDoorRi2
namespace Go.Proofs.YtgoocglcgkfgmaaDoor
open Go.ChangeShapes Go.WideShapes Go.ChangeAt Go.RowKit Go.Deep
set_option linter.unusedSimpArgs false
set_option linter.unusedVariables false
set_option maxHeartbeats 2000000 in
set_option maxRecDepth 100000 in
theorem lawRiskOf (n0 : Int) (n1 : Int) (n2 : Int) (w : World) (wf0 : (Lit.int .i64 n0).wf = true) (wf1 : (Lit.int .i64 n1).wf = true) (wf2 : (Lit.int .i64 n2).wf = true) (hg : ErrT w) :
    Calls Tryd.prog 3 #[.int .i64 n0, .int .i64 n1, .int .i64 n2] w fun e w' => e = .returned (.bool true) ∧ Below w.heap.size w w' := by
  obtain ⟨⟨⟨r0n, r0d⟩, r1⟩, hm⟩ : ∃ p, mRisk n0 n1 n2 = p := ⟨_, rfl⟩
  have HS : ∀ w' , Calls Tryd.prog 4 #[.int .i64 n0, .int .i64 n1, .int .i64 n2] w' (Pfb ((r0n, r0d), r1) w') := fun w'  => by have q := sRisk n0 n1 n2 w' wf0 wf1 wf2; rw [hm] at q; exact q
  have HI : ∀ w' (hgx : ErrT w'), Calls Tryd.prog 5 #[.int .i64 n0, .int .i64 n1, .int .i64 n2] w' (Qfb ((r0n, r0d), r1) w') := fun w' hgx => by have q := iRisk n0 n1 n2 w' wf0 wf1 wf2 hgx; rw [hm] at q; exact q
  clear hm
  go_enter Tryd.func3, Tryd.ntmps3
  go_wp2_with fail
  refine (HS _ ).mono ?_
  intro e w1 hp
  obtain ⟨rfl, hb1⟩ := hp.out
  have s1 := hb1.size
  have b1 := hb1
  have t1 := b1.size
  have bfws0 := (Below.refl w1.heap.size w1).alloc (Nat.le_refl _) (.cells #[.int .i64 r0n, .int .i64 r0d] 23)
  have hfws0 : FrAt _ w1.heap.size r0n r0d := fr_at w1 _ _
  have s2 := bfws0.size
  have b2 := b1.trans (bfws0.mono b1.size)
  have t2 := b2.size
  go_wp2_with fail
  refine (HI _  (hg.below b2)).mono ?_
  intro e w3 hp
  obtain ⟨rfl, hb3⟩ := hp.out
  have s3 := hb3.size
  have b3 := b2.trans (hb3.mono b2.size)
  have t3 := b3.size
  have bfgi0 := (Below.refl w3.heap.size w3).alloc (Nat.le_refl _) (.cells #[.int .i64 r0n, .int .i64 r0d] 23)
  have hfgi0 : FrAt _ w3.heap.size r0n r0d := fr_at w3 _ _
  have s4 := bfgi0.size
  have b4 := b3.trans (bfgi0.mono b3.size)
  have t4 := b4.size
  have hz := hfgi0
  obtain ⟨pc1, pd1, pl1⟩ := hz
  have hz := ((hfws0.below hb3).below bfgi0)
  obtain ⟨pc2, pd2, pl2⟩ := hz
  go_wp2_with fail
  refine (eqf _ _ _).mono ?_
  rintro e w5 ⟨rfl, hb5⟩
  have s5 := hb5.size
  have b5 := b4.trans (hb5.mono b4.size)
  have t5 := b5.size
  go_wp2
  go_ret
  exact ⟨rfl, b5⟩
end Go.Proofs.YtgoocglcgkfgmaaDoor
