/- The law on ShareOut, walked from the contracts of its two calls. -/
import Derived.Test.YtcoelccmfljlhaaSo8
namespace Go.Proofs.Ytcoelccmfljlhaa
open Go.ChangeShapes Go.WideShapes Go.ChangeAt Go.RowKit Go.Deep
set_option linter.unusedSimpArgs false
set_option linter.unusedVariables false
set_option maxHeartbeats 2000000 in
set_option maxRecDepth 100000 in
theorem lawShareOut (n0 : Int) (v1 : Value) (X1 : List Int) (w : World) (wf0 : (Lit.int .i64 n0).wf = true) (h1 : RowV w v1 X1) (ln1 : X1.length ≤ 9223372036854775807) (wf1 : ∀ n ∈ X1, (Lit.int .i64 n).wf = true) :
    Calls Try.prog 8 #[.int .i64 n0, v1] w fun e w' => e = .returned (.bool true) ∧ Below w.heap.size w w' := by
  obtain ⟨va1, vc1, hv1⟩ := h1.shape
  by_cases hlong1 : 1048576 < X1.length
  · subst hv1
    clear h1
    go_enter Try.func8, Try.ntmps8
    go_wp2
    go_ret
    first | exact ⟨rfl, Below.refl _ _⟩ | exact ⟨rfl, (Below.refl _ _).alloc (Nat.le_refl _) _⟩
  have fit1 : X1.length ≤ 1048576 := by omega
  have HT1 := fun w' (hw : Below w.heap.size w w') => toCpI v1 X1 w' (h1.below hw) fit1
  subst hv1
  clear h1
  obtain ⟨⟨r0, r1⟩, hm⟩ : ∃ p, mSO n0 X1 = p := ⟨_, rfl⟩
  have HS : ∀ w' lo1 hi1 u1 (c1 : CpI w' lo1 hi1 u1 X1), Calls Try.prog 28 #[.int .i64 n0, u1] w' (PIb (r0, r1) w') := fun w' lo1 hi1 u1 c1 => by have q := sSO' n0 X1 w' wf0 lo1 hi1 u1 c1; rw [hm] at q; exact q
  have HI : ∀ w' lo1 hi1 u1 (c1 : CpI w' lo1 hi1 u1 X1), Calls Try.prog 29 #[.int .i64 n0, u1] w' (QIb (r0, r1) w') := fun w' lo1 hi1 u1 c1 => by have q := iSO' n0 X1 w' wf0 lo1 hi1 u1 c1; rw [hm] at q; exact q
  clear hm
  go_enter Try.func8, Try.ntmps8
  go_wp2_with fail
  refine (HT1 _ (Below.refl _ _)).mono ?_
  rintro e w1 ⟨x1, rfl, hx1, hb1⟩
  have s1 := hb1.size
  have b1 := hb1
  have t1 := b1.size
  go_wp2_with fail
  refine (HS _ _ _ _ hx1).mono ?_
  intro e w2 hp
  obtain ⟨ws0, rfl, hws0, hb2⟩ := hp.out
  have s2 := hb2.size
  have b2 := b1.trans (hb2.mono b1.size)
  have t2 := b2.size
  go_wp2_with fail
  refine (HT1 _ b2).mono ?_
  rintro e w3 ⟨x2, rfl, hx2, hb3⟩
  have s3 := hb3.size
  have b3 := b2.trans (hb3.mono b2.size)
  have t3 := b3.size
  go_wp2_with fail
  refine (HI _ _ _ _ hx2).mono ?_
  intro e w4 hp
  obtain ⟨gi0, rfl, hgi0, hb4⟩ := hp.out
  have s4 := hb4.size
  have b4 := b3.trans (hb4.mono b3.size)
  have t4 := b4.size
  go_wp2_with fail
  refine (eqRdI hgi0.rd ((hws0.below hb3).below hb4)).mono ?_
  rintro e w5 ⟨rfl, hb5⟩
  have s5 := hb5.size
  have b5 := b4.trans (hb5.mono b4.size)
  have t5 := b5.size
  go_wp2_with fail
  refine (HT1 _ b5).mono ?_
  rintro e w6 ⟨x3, rfl, hx3, hb6⟩
  have s6 := hb6.size
  have b6 := b5.trans (hb6.mono b5.size)
  have t6 := b6.size
  go_wp2_with fail
  refine (eqCpI (((hx2.below hb4).below hb5).below hb6) hx3).mono ?_
  rintro e w7 ⟨rfl, hb7⟩
  have s7 := hb7.size
  have b7 := b6.trans (hb7.mono b6.size)
  have t7 := b7.size
  go_wp2_with fail
  refine (markCpI 1 ((((hx2.below hb4).below hb5).below hb6).below hb7) (by omega) (by omega)).mono ?_
  rintro e w8 ⟨⟨k0, rfl, kq0, kp0⟩, hk8⟩
  have s8 := hk8.size
  have b8 := b7.trans (hk8.below t7 (fun x hx => by omega))
  have t8 := b8.size
  go_wp2_with fail
  refine (eqRdI ((((hgi0.below hb5).below hb6).below hb7).kept hk8 (fun b h1 h2 h3 => by omega)).rd ((((((hws0.below hb3).below hb4).below hb5).below hb6).below hb7).kept hk8 (fun b h1 h2 h3 => by omega))).mono ?_
  rintro e w9 ⟨rfl, hb9⟩
  have s9 := hb9.size
  have b9 := b8.trans (hb9.mono b8.size)
  have t9 := b9.size
  go_wp2_with fail
  refine (markOwI 1 (((((hgi0.below hb5).below hb6).below hb7).kept hk8 (fun b h1 h2 h3 => by omega)).below hb9) (by omega) (by omega)).mono ?_
  rintro e w10 ⟨⟨m0, rfl, mq0, mp0, hmk0⟩, hk10⟩
  have s10 := hk10.size
  have b10 := b9.trans (hk10.below t9 (fun x hx => by omega))
  have t10 := b10.size
  go_wp2_with fail
  refine (heldMkI hmk0 (by omega) (by omega)).mono ?_
  rintro e wq ⟨rfl, rfl⟩
  go_wp2_with fail
  refine (HT1 _ b10).mono ?_
  rintro e w11 ⟨x4, rfl, hx4, hb11⟩
  have s11 := hb11.size
  have b11 := b10.trans (hb11.mono b10.size)
  have t11 := b11.size
  go_wp2_with fail
  refine (HI _ _ _ _ hx4).mono ?_
  intro e w12 hp
  obtain ⟨hi0, rfl, hhi0, hb12⟩ := hp.out
  have s12 := hb12.size
  have b12 := b11.trans (hb12.mono b11.size)
  have t12 := b12.size
  go_wp2_with fail
  refine (eqRdI hhi0.rd ((((((((((hws0.below hb3).below hb4).below hb5).below hb6).below hb7).kept hk8 (fun b h1 h2 h3 => by omega)).below hb9).kept hk10 (fun b h1 h2 h3 => by omega)).below hb11).below hb12)).mono ?_
  rintro e w13 ⟨rfl, hb13⟩
  have s13 := hb13.size
  have b13 := b12.trans (hb13.mono b12.size)
  have t13 := b13.size
  go_wp2_with fail
  refine (heldMkI (((hmk0.below hb11).below hb12).below hb13) (by omega) (by omega)).mono ?_
  rintro e wq ⟨rfl, rfl⟩
  go_wp2
  go_ret
  exact ⟨rfl, b13⟩
end Go.Proofs.Ytcoelccmfljlhaa
