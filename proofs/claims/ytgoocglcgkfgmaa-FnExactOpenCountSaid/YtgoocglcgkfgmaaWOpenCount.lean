/- The law on OpenCount, walked from the contracts of its two calls. -/
import Derived.Test.YtgoocglcgkfgmaaCa4
import Derived.Test.YtgoocglcgkfgmaaKk1
namespace Go.Proofs.Ytgoocglcgkfgmaa
open Go.ChangeShapes Go.WideShapes Go.ChangeAt Go.RowKit Go.Deep
set_option linter.unusedSimpArgs false
set_option linter.unusedVariables false
set_option maxHeartbeats 2000000 in
set_option maxRecDepth 100000 in
theorem lawOpenCount (v0 : Value) (X0 : List Int) (v1 : Value) (X1 : List Int) (w : World) (h0 : RowV w v0 X0) (ln0 : X0.length ≤ 9223372036854775807) (wf0 : ∀ n ∈ X0, (Lit.int .i64 n).wf = true) (h1 : RowV w v1 X1) (ln1 : X1.length ≤ 9223372036854775807) (wf1 : ∀ n ∈ X1, (Lit.int .i64 n).wf = true) :
    Calls Try.prog 9 #[v0, v1] w fun e w' => e = .returned (.bool true) ∧ Below w.heap.size w w' := by
  obtain ⟨va0, vc0, hv0⟩ := h0.shape
  obtain ⟨va1, vc1, hv1⟩ := h1.shape
  by_cases hlong0 : 1048576 < X0.length
  · subst hv0
    subst hv1
    clear h0 h1
    go_enter Try.func9, Try.ntmps9
    go_wp2
    go_ret
    first | exact ⟨rfl, Below.refl _ _⟩ | exact ⟨rfl, (Below.refl _ _).alloc (Nat.le_refl _) _⟩
  have fit0 : X0.length ≤ 1048576 := by omega
  have HT0 := fun w' (hw : Below w.heap.size w w') => toCpI v0 X0 w' (h0.below hw) fit0
  by_cases hlong1 : 1048576 < X1.length
  · subst hv0
    subst hv1
    clear h0 h1
    go_enter Try.func9, Try.ntmps9
    go_wp2
    go_ret
    first | exact ⟨rfl, Below.refl _ _⟩ | exact ⟨rfl, (Below.refl _ _).alloc (Nat.le_refl _) _⟩
  have fit1 : X1.length ≤ 1048576 := by omega
  have HT1 := fun w' (hw : Below w.heap.size w w') => toCpI v1 X1 w' (h1.below hw) fit1
  subst hv0
  clear h0
  subst hv1
  clear h1
  obtain ⟨⟨r0, r1⟩, hm⟩ : ∃ p, mOpen X0 X1 = p := ⟨_, rfl⟩
  have HS : ∀ w' lo0 hi0 u0 (c0 : CpI w' lo0 hi0 u0 X0) lo1 hi1 u1 (c1 : CpI w' lo1 hi1 u1 X1), Calls Try.prog 27 #[u0, u1] w' (PIb (r0, r1) w') := fun w' lo0 hi0 u0 c0 lo1 hi1 u1 c1 => by have q := sOpen X0 X1 w' lo0 hi0 u0 c0 lo1 hi1 u1 c1; rw [hm] at q; exact q
  have HI : ∀ w' lo0 hi0 u0 (c0 : CpI w' lo0 hi0 u0 X0) lo1 hi1 u1 (c1 : CpI w' lo1 hi1 u1 X1), Calls Try.prog 28 #[u0, u1] w' (QIb (r0, r1) w') := fun w' lo0 hi0 u0 c0 lo1 hi1 u1 c1 => by have q := iOpen X0 X1 w' lo0 hi0 u0 c0 lo1 hi1 u1 c1; rw [hm] at q; exact q
  clear hm
  go_enter Try.func9, Try.ntmps9
  go_wp2_with fail
  refine (HT0 _ (Below.refl _ _)).mono ?_
  rintro e w1 ⟨x1, rfl, hx1, hb1⟩
  have s1 := hb1.size
  have b1 := hb1
  have t1 := b1.size
  go_wp2_with fail
  refine (HT1 _ b1).mono ?_
  rintro e w2 ⟨x2, rfl, hx2, hb2⟩
  have s2 := hb2.size
  have b2 := b1.trans (hb2.mono b1.size)
  have t2 := b2.size
  go_wp2_with fail
  refine (HS _ _ _ _ (hx1.below hb2) _ _ _ hx2).mono ?_
  intro e w3 hp
  obtain ⟨ws0, rfl, hws0, hb3⟩ := hp.out
  have s3 := hb3.size
  have b3 := b2.trans (hb3.mono b2.size)
  have t3 := b3.size
  go_wp2_with fail
  refine (HT0 _ b3).mono ?_
  rintro e w4 ⟨x3, rfl, hx3, hb4⟩
  have s4 := hb4.size
  have b4 := b3.trans (hb4.mono b3.size)
  have t4 := b4.size
  go_wp2_with fail
  refine (HT1 _ b4).mono ?_
  rintro e w5 ⟨x4, rfl, hx4, hb5⟩
  have s5 := hb5.size
  have b5 := b4.trans (hb5.mono b4.size)
  have t5 := b5.size
  go_wp2_with fail
  refine (HI _ _ _ _ (hx3.below hb5) _ _ _ hx4).mono ?_
  intro e w6 hp
  obtain ⟨gi0, rfl, hgi0, hb6⟩ := hp.out
  have s6 := hb6.size
  have b6 := b5.trans (hb6.mono b5.size)
  have t6 := b6.size
  go_wp2_with fail
  refine (eqRdI hgi0.rd (((hws0.below hb4).below hb5).below hb6)).mono ?_
  rintro e w7 ⟨rfl, hb7⟩
  have s7 := hb7.size
  have b7 := b6.trans (hb7.mono b6.size)
  have t7 := b7.size
  go_wp2_with fail
  refine (HT0 _ b7).mono ?_
  rintro e w8 ⟨x5, rfl, hx5, hb8⟩
  have s8 := hb8.size
  have b8 := b7.trans (hb8.mono b7.size)
  have t8 := b8.size
  go_wp2_with fail
  refine (eqCpI ((((hx3.below hb5).below hb6).below hb7).below hb8) hx5).mono ?_
  rintro e w9 ⟨rfl, hb9⟩
  have s9 := hb9.size
  have b9 := b8.trans (hb9.mono b8.size)
  have t9 := b9.size
  go_wp2_with fail
  refine (HT1 _ b9).mono ?_
  rintro e w10 ⟨x6, rfl, hx6, hb10⟩
  have s10 := hb10.size
  have b10 := b9.trans (hb10.mono b9.size)
  have t10 := b10.size
  go_wp2_with fail
  refine (eqCpI (((((hx4.below hb6).below hb7).below hb8).below hb9).below hb10) hx6).mono ?_
  rintro e w11 ⟨rfl, hb11⟩
  have s11 := hb11.size
  have b11 := b10.trans (hb11.mono b10.size)
  have t11 := b11.size
  go_wp2_with fail
  refine (markCpI 1 (((((((hx3.below hb5).below hb6).below hb7).below hb8).below hb9).below hb10).below hb11) (by omega) (by omega)).mono ?_
  rintro e w12 ⟨⟨k0, rfl, kq0, kp0⟩, hk12⟩
  have s12 := hk12.size
  have b12 := b11.trans (hk12.below t11 (fun x hx => by omega))
  have t12 := b12.size
  go_wp2_with fail
  refine (markCpI k0 (((((((hx4.below hb6).below hb7).below hb8).below hb9).below hb10).below hb11).kept hk12 (fun b h1 h2 h3 => by omega)) (by omega) (by omega)).mono ?_
  rintro e w13 ⟨⟨k1, rfl, kq1, kp1⟩, hk13⟩
  have s13 := hk13.size
  have b13 := b12.trans (hk13.below t12 (fun x hx => by omega))
  have t13 := b13.size
  go_wp2_with fail
  refine (eqRdI (((((((hgi0.below hb7).below hb8).below hb9).below hb10).below hb11).kept hk12 (fun b h1 h2 h3 => by omega)).kept hk13 (fun b h1 h2 h3 => by omega)).rd ((((((((((hws0.below hb4).below hb5).below hb6).below hb7).below hb8).below hb9).below hb10).below hb11).kept hk12 (fun b h1 h2 h3 => by omega)).kept hk13 (fun b h1 h2 h3 => by omega))).mono ?_
  rintro e w14 ⟨rfl, hb14⟩
  have s14 := hb14.size
  have b14 := b13.trans (hb14.mono b13.size)
  have t14 := b14.size
  go_wp2_with fail
  refine (markOwI 1 ((((((((hgi0.below hb7).below hb8).below hb9).below hb10).below hb11).kept hk12 (fun b h1 h2 h3 => by omega)).kept hk13 (fun b h1 h2 h3 => by omega)).below hb14) (by omega) (by omega)).mono ?_
  rintro e w15 ⟨⟨m0, rfl, mq0, mp0, hmk0⟩, hk15⟩
  have s15 := hk15.size
  have b15 := b14.trans (hk15.below t14 (fun x hx => by omega))
  have t15 := b15.size
  go_wp2_with fail
  refine (heldMkI hmk0 (by omega) (by omega)).mono ?_
  rintro e wq ⟨rfl, rfl⟩
  go_wp2_with fail
  refine (HT0 _ b15).mono ?_
  rintro e w16 ⟨x7, rfl, hx7, hb16⟩
  have s16 := hb16.size
  have b16 := b15.trans (hb16.mono b15.size)
  have t16 := b16.size
  go_wp2_with fail
  refine (HT1 _ b16).mono ?_
  rintro e w17 ⟨x8, rfl, hx8, hb17⟩
  have s17 := hb17.size
  have b17 := b16.trans (hb17.mono b16.size)
  have t17 := b17.size
  go_wp2_with fail
  refine (HI _ _ _ _ (hx7.below hb17) _ _ _ hx8).mono ?_
  intro e w18 hp
  obtain ⟨hi0, rfl, hhi0, hb18⟩ := hp.out
  have s18 := hb18.size
  have b18 := b17.trans (hb18.mono b17.size)
  have t18 := b18.size
  go_wp2_with fail
  refine (eqRdI hhi0.rd (((((((((((((((hws0.below hb4).below hb5).below hb6).below hb7).below hb8).below hb9).below hb10).below hb11).kept hk12 (fun b h1 h2 h3 => by omega)).kept hk13 (fun b h1 h2 h3 => by omega)).below hb14).kept hk15 (fun b h1 h2 h3 => by omega)).below hb16).below hb17).below hb18)).mono ?_
  rintro e w19 ⟨rfl, hb19⟩
  have s19 := hb19.size
  have b19 := b18.trans (hb19.mono b18.size)
  have t19 := b19.size
  go_wp2_with fail
  refine (heldMkI ((((hmk0.below hb16).below hb17).below hb18).below hb19) (by omega) (by omega)).mono ?_
  rintro e wq ⟨rfl, rfl⟩
  go_wp2
  go_ret
  exact ⟨rfl, b19⟩
end Go.Proofs.Ytgoocglcgkfgmaa
