/- The law on ChallengeOf, walked from the contracts of its two calls. -/
import Derived.Test.YtgoocglcgkfgmaaSl8
namespace Go.Proofs.Ytgoocglcgkfgmaa
open Go.ChangeShapes Go.WideShapes Go.ChangeAt Go.RowKit Go.Deep
set_option linter.unusedSimpArgs false
set_option linter.unusedVariables false
set_option maxHeartbeats 2000000 in
set_option maxRecDepth 100000 in
theorem lawChallengeOf (v0 : Value) (X0 : List Int) (w : World) (h0 : RowV w v0 X0) (ln0 : X0.length ≤ 9223372036854775807) (wf0 : ∀ n ∈ X0, (Lit.int .i64 n).wf = true) :
    Calls Try.prog 7 #[v0] w fun e w' => e = .returned (.bool true) ∧ Below w.heap.size w w' := by
  obtain ⟨va0, vc0, hv0⟩ := h0.shape
  by_cases hlong0 : 1048576 < X0.length
  · subst hv0
    clear h0
    go_enter Try.func7, Try.ntmps7
    go_wp2
    go_ret
    first | exact ⟨rfl, Below.refl _ _⟩ | exact ⟨rfl, (Below.refl _ _).alloc (Nat.le_refl _) _⟩
  have fit0 : X0.length ≤ 1048576 := by omega
  have HT0 := fun w' (hw : Below w.heap.size w w') => toCpI v0 X0 w' (h0.below hw) fit0
  subst hv0
  clear h0
  obtain ⟨⟨r0, r1⟩, hm⟩ : ∃ p, mChal X0 = p := ⟨_, rfl⟩
  have HS : ∀ w' lo0 hi0 u0 (c0 : CpI w' lo0 hi0 u0 X0), Calls Try.prog 21 #[u0] w' (Pnb (r0, r1) w') := fun w' lo0 hi0 u0 c0 => by have q := sChal X0 w' lo0 hi0 u0 c0; rw [hm] at q; exact q
  have HI : ∀ w' lo0 hi0 u0 (c0 : CpI w' lo0 hi0 u0 X0), Calls Try.prog 22 #[u0] w' (Qnb (r0, r1) w') := fun w' lo0 hi0 u0 c0 => by have q := iChal X0 w' lo0 hi0 u0 c0; rw [hm] at q; exact q
  clear hm
  go_enter Try.func7, Try.ntmps7
  go_wp2_with fail
  refine (HT0 _ (Below.refl _ _)).mono ?_
  rintro e w1 ⟨x1, rfl, hx1, hb1⟩
  have s1 := hb1.size
  have b1 := hb1
  have t1 := b1.size
  go_wp2_with fail
  refine (HS _ _ _ _ hx1).mono ?_
  intro e w2 hp
  obtain ⟨rfl, hb2⟩ := hp.out
  have s2 := hb2.size
  have b2 := b1.trans (hb2.mono b1.size)
  have t2 := b2.size
  go_wp2_with fail
  refine (HT0 _ b2).mono ?_
  rintro e w3 ⟨x2, rfl, hx2, hb3⟩
  have s3 := hb3.size
  have b3 := b2.trans (hb3.mono b2.size)
  have t3 := b3.size
  go_wp2_with fail
  refine (HI _ _ _ _ hx2).mono ?_
  intro e w4 hp
  obtain ⟨rfl, hb4⟩ := hp.out
  have s4 := hb4.size
  have b4 := b3.trans (hb4.mono b3.size)
  have t4 := b4.size
  go_wp2_with fail
  refine (HT0 _ b4).mono ?_
  rintro e w5 ⟨x3, rfl, hx3, hb5⟩
  have s5 := hb5.size
  have b5 := b4.trans (hb5.mono b4.size)
  have t5 := b5.size
  go_wp2_with fail
  refine (eqCpI ((hx2.below hb4).below hb5) hx3).mono ?_
  rintro e w6 ⟨rfl, hb6⟩
  have s6 := hb6.size
  have b6 := b5.trans (hb6.mono b5.size)
  have t6 := b6.size
  go_wp2
  go_ret
  exact ⟨rfl, b6⟩
end Go.Proofs.Ytgoocglcgkfgmaa
