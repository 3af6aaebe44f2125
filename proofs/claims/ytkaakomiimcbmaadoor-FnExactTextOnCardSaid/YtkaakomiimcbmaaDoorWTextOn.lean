/- The law on TextOn, walked from the contracts of its two calls. -/
import Derived.Test.YtkaakomiimcbmaaDoorXba
namespace Go.Proofs.YtkaakomiimcbmaaDoor
open Go.ChangeShapes Go.WideShapes Go.ChangeAt Go.RowKit Go.Deep
set_option linter.unusedSimpArgs false
set_option linter.unusedVariables false
set_option maxHeartbeats 2000000 in
set_option maxRecDepth 100000 in
theorem lawTextOn (v0 : Value) (X0 : List Ar) (v1 : Value) (X1 : List Ac) (n2 : Int) (w : World) (h0 : ListA w v0 X0) (rm0 : RoomA X0) (h1 : ListX w v1 X1) (rm1 : RoomX X1) (wf2 : (Lit.int .i64 n2).wf = true) :
    Calls Tryd.prog 5 #[v0, v1, .int .i64 n2] w fun e w' => e = .returned (.bool true) ∧ Below w.heap.size w w' := by
  obtain ⟨⟨r0, r1⟩, hm⟩ : ∃ p, mON X0 X1 n2 = p := ⟨_, rfl⟩
  have HS : ∀ w' lo0 hi0 u0 (c0 : CpA w' lo0 hi0 u0 X0) lo1 hi1 u1 (c1 : CpX w' lo1 hi1 u1 X1), Calls Tryd.prog 18 #[u0, u1, .int .i64 n2] w' (PAb (r0, r1) w') := fun w' lo0 hi0 u0 c0 lo1 hi1 u1 c1 => by have q := sON X0 X1 n2 w' lo0 hi0 u0 c0 lo1 hi1 u1 c1 wf2; rw [hm] at q; exact q
  have HI : ∀ w' lo0 hi0 u0 (c0 : CpA w' lo0 hi0 u0 X0) lo1 hi1 u1 (c1 : CpX w' lo1 hi1 u1 X1), Calls Tryd.prog 20 #[u0, u1, .int .i64 n2] w' (QAb (r0, r1) w') := fun w' lo0 hi0 u0 c0 lo1 hi1 u1 c1 => by have q := iON X0 X1 n2 w' lo0 hi0 u0 c0 lo1 hi1 u1 c1 wf2; rw [hm] at q; exact q
  clear hm
  have HZ0 := fun z w' (hw : Below w.heap.size w w') (y1 : 0 ≤ z) (y2 : z ≤ 1048576) => szAS v0 X0 z w' (h0.below hw) rm0 y1 y2
  have HZ1 := fun z w' (hw : Below w.heap.size w w') (y1 : 0 ≤ z) (y2 : z ≤ 1048576) => szXS v1 X1 z w' (h1.below hw) rm1 y1 y2
  go_enter Tryd.func5, Tryd.ntmps5
  go_wp2_with fail
  refine (HZ0 _ _ (Below.refl _ _) (by omega) (by omega)).mono ?_
  rintro e w1 ⟨⟨r0z, rfl, z01, z02, z03⟩, hb1⟩
  have Z3_0 := Lib.hid z03
  clear z03
  have s1 := hb1.size
  have b1 := hb1
  have t1 := b1.size
  by_cases hneg0 : r0z < 0
  · go_wp2
    go_ret
    exact ⟨rfl, b1⟩
  have hf0 := Z3_0.out (by omega)
  clear HZ0 Z3_0
  have HT0 := fun w' (hw : Below w.heap.size w w') => toCpA v0 X0 w' (h0.below hw) hf0
  go_wp2_with fail
  refine (HZ1 _ _ b1 (by omega) (by omega)).mono ?_
  rintro e w2 ⟨⟨r1z, rfl, z11, z12, z13⟩, hb2⟩
  have Z3_1 := Lib.hid z13
  clear z13
  have s2 := hb2.size
  have b2 := b1.trans (hb2.mono b1.size)
  have t2 := b2.size
  by_cases hneg1 : r1z < 0
  · go_wp2
    go_ret
    exact ⟨rfl, b2⟩
  have hf1 := Z3_1.out (by omega)
  clear HZ1 Z3_1
  have HT1 := fun w' (hw : Below w.heap.size w w') => toCpX v1 X1 w' (h1.below hw) hf1
  go_wp2_with fail
  refine (HT0 _ b2).mono ?_
  rintro e w3 ⟨x1, rfl, hx1, hb3⟩
  have s3 := hb3.size
  have b3 := b2.trans (hb3.mono b2.size)
  have t3 := b3.size
  go_wp2_with fail
  refine (HT1 _ b3).mono ?_
  rintro e w4 ⟨x2, rfl, hx2, hb4⟩
  have s4 := hb4.size
  have b4 := b3.trans (hb4.mono b3.size)
  have t4 := b4.size
  go_wp2_with fail
  refine (HS _ _ _ _ (hx1.below hb4) _ _ _ hx2).mono ?_
  intro e w5 hp
  obtain ⟨ws0, rfl, hws0, hb5⟩ := hp.out
  have s5 := hb5.size
  have b5 := b4.trans (hb5.mono b4.size)
  have t5 := b5.size
  go_wp2_with fail
  refine (HT0 _ b5).mono ?_
  rintro e w6 ⟨x3, rfl, hx3, hb6⟩
  have s6 := hb6.size
  have b6 := b5.trans (hb6.mono b5.size)
  have t6 := b6.size
  go_wp2_with fail
  refine (HT1 _ b6).mono ?_
  rintro e w7 ⟨x4, rfl, hx4, hb7⟩
  have s7 := hb7.size
  have b7 := b6.trans (hb7.mono b6.size)
  have t7 := b7.size
  go_wp2_with fail
  refine (HI _ _ _ _ (hx3.below hb7) _ _ _ hx4).mono ?_
  intro e w8 hp
  obtain ⟨gi0, rfl, hgi0, hb8⟩ := hp.out
  have s8 := hb8.size
  have b8 := b7.trans (hb8.mono b7.size)
  have t8 := b8.size
  go_wp2_with fail
  refine (eqRdA hgi0.rd (((hws0.below hb6).below hb7).below hb8)).mono ?_
  rintro e w9 ⟨rfl, hb9⟩
  have s9 := hb9.size
  have b9 := b8.trans (hb9.mono b8.size)
  have t9 := b9.size
  go_wp2_with fail
  refine (HT0 _ b9).mono ?_
  rintro e w10 ⟨x5, rfl, hx5, hb10⟩
  have s10 := hb10.size
  have b10 := b9.trans (hb10.mono b9.size)
  have t10 := b10.size
  go_wp2_with fail
  refine (eqCpA ((((hx3.below hb7).below hb8).below hb9).below hb10) hx5).mono ?_
  rintro e w11 ⟨rfl, hb11⟩
  have s11 := hb11.size
  have b11 := b10.trans (hb11.mono b10.size)
  have t11 := b11.size
  go_wp2_with fail
  refine (HT1 _ b11).mono ?_
  rintro e w12 ⟨x6, rfl, hx6, hb12⟩
  have s12 := hb12.size
  have b12 := b11.trans (hb12.mono b11.size)
  have t12 := b12.size
  go_wp2_with fail
  refine (eqCpX (((((hx4.below hb8).below hb9).below hb10).below hb11).below hb12) hx6).mono ?_
  rintro e w13 ⟨rfl, hb13⟩
  have s13 := hb13.size
  have b13 := b12.trans (hb13.mono b12.size)
  have t13 := b13.size
  go_wp2_with fail
  refine (markCpA 1 (((((((hx3.below hb7).below hb8).below hb9).below hb10).below hb11).below hb12).below hb13) (by omega) (by omega)).mono ?_
  rintro e w14 ⟨⟨k0, rfl, kq0, kp0⟩, hk14⟩
  have s14 := hk14.size
  have b14 := b13.trans (hk14.below t13 (fun x hx => by omega))
  have t14 := b14.size
  go_wp2_with fail
  refine (markCpX k0 (((((((hx4.below hb8).below hb9).below hb10).below hb11).below hb12).below hb13).kept hk14 (fun b h1 h2 h3 => by omega)) (by omega) (by omega)).mono ?_
  rintro e w15 ⟨⟨k1, rfl, kq1, kp1⟩, hk15⟩
  have s15 := hk15.size
  have b15 := b14.trans (hk15.below t14 (fun x hx => by omega))
  have t15 := b15.size
  go_wp2_with fail
  refine (eqRdA (((((((hgi0.below hb9).below hb10).below hb11).below hb12).below hb13).kept hk14 (fun b h1 h2 h3 => by omega)).kept hk15 (fun b h1 h2 h3 => by omega)).rd ((((((((((hws0.below hb6).below hb7).below hb8).below hb9).below hb10).below hb11).below hb12).below hb13).kept hk14 (fun b h1 h2 h3 => by omega)).kept hk15 (fun b h1 h2 h3 => by omega))).mono ?_
  rintro e w16 ⟨rfl, hb16⟩
  have s16 := hb16.size
  have b16 := b15.trans (hb16.mono b15.size)
  have t16 := b16.size
  go_wp2_with fail
  refine (markOwA 1 ((((((((hgi0.below hb9).below hb10).below hb11).below hb12).below hb13).kept hk14 (fun b h1 h2 h3 => by omega)).kept hk15 (fun b h1 h2 h3 => by omega)).below hb16) (by omega) (by omega)).mono ?_
  rintro e w17 ⟨⟨m0, rfl, mq0, mp0, hmk0⟩, hk17⟩
  have s17 := hk17.size
  have b17 := b16.trans (hk17.below t16 (fun x hx => by omega))
  have t17 := b17.size
  go_wp2_with fail
  refine (heldMkA hmk0 (by omega) (by omega)).mono ?_
  rintro e w18 ⟨rfl, hb18⟩
  have s18 := hb18.size
  have b18 := b17.trans (hb18.mono b17.size)
  have t18 := b18.size
  go_wp2_with fail
  refine (HT0 _ b18).mono ?_
  rintro e w19 ⟨x7, rfl, hx7, hb19⟩
  have s19 := hb19.size
  have b19 := b18.trans (hb19.mono b18.size)
  have t19 := b19.size
  go_wp2_with fail
  refine (HT1 _ b19).mono ?_
  rintro e w20 ⟨x8, rfl, hx8, hb20⟩
  have s20 := hb20.size
  have b20 := b19.trans (hb20.mono b19.size)
  have t20 := b20.size
  go_wp2_with fail
  refine (HI _ _ _ _ (hx7.below hb20) _ _ _ hx8).mono ?_
  intro e w21 hp
  obtain ⟨hi0, rfl, hhi0, hb21⟩ := hp.out
  have s21 := hb21.size
  have b21 := b20.trans (hb21.mono b20.size)
  have t21 := b21.size
  go_wp2_with fail
  refine (eqRdA hhi0.rd ((((((((((((((((hws0.below hb6).below hb7).below hb8).below hb9).below hb10).below hb11).below hb12).below hb13).kept hk14 (fun b h1 h2 h3 => by omega)).kept hk15 (fun b h1 h2 h3 => by omega)).below hb16).kept hk17 (fun b h1 h2 h3 => by omega)).below hb18).below hb19).below hb20).below hb21)).mono ?_
  rintro e w22 ⟨rfl, hb22⟩
  have s22 := hb22.size
  have b22 := b21.trans (hb22.mono b21.size)
  have t22 := b22.size
  go_wp2_with fail
  refine (heldMkA (((((hmk0.below hb18).below hb19).below hb20).below hb21).below hb22) (by omega) (by omega)).mono ?_
  rintro e w23 ⟨rfl, hb23⟩
  have s23 := hb23.size
  have b23 := b22.trans (hb23.mono b22.size)
  have t23 := b23.size
  go_wp2
  go_ret
  exact ⟨rfl, b23⟩
end Go.Proofs.YtkaakomiimcbmaaDoor
