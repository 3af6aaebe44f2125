/- The law on ActsInForce, walked from the contracts of its two calls. -/
import Derived.Test.YtkaakomiimcbmaaDoorXba
namespace Go.Proofs.YtkaakomiimcbmaaDoor
open Go.ChangeShapes Go.WideShapes Go.ChangeAt Go.RowKit Go.Deep
set_option linter.unusedSimpArgs false
set_option linter.unusedVariables false
set_option maxHeartbeats 2000000 in
set_option maxRecDepth 100000 in
theorem lawActsInForce (v0 : Value) (X0 : List Ac) (n1 : Int) (w : World) (h0 : ListX w v0 X0) (rm0 : RoomX X0) (wf1 : (Lit.int .i64 n1).wf = true) :
    Calls Tryd.prog 4 #[v0, .int .i64 n1] w fun e w' => e = .returned (.bool true) ∧ Below w.heap.size w w' := by
  obtain ⟨⟨r0, r1⟩, hm⟩ : ∃ p, mAF X0 n1 = p := ⟨_, rfl⟩
  have HS : ∀ w' lo0 hi0 u0 (c0 : CpX w' lo0 hi0 u0 X0), Calls Tryd.prog 11 #[u0, .int .i64 n1] w' (PIb (r0, r1) w') := fun w' lo0 hi0 u0 c0 => by have q := sAF X0 n1 w' lo0 hi0 u0 c0 wf1; rw [hm] at q; exact q
  have HI : ∀ w' lo0 hi0 u0 (c0 : CpX w' lo0 hi0 u0 X0), Calls Tryd.prog 12 #[u0, .int .i64 n1] w' (QIb (r0, r1) w') := fun w' lo0 hi0 u0 c0 => by have q := iAF X0 n1 w' lo0 hi0 u0 c0 wf1; rw [hm] at q; exact q
  clear hm
  have HZ0 := fun z w' (hw : Below w.heap.size w w') (y1 : 0 ≤ z) (y2 : z ≤ 1048576) => szXS v0 X0 z w' (h0.below hw) rm0 y1 y2
  go_enter Tryd.func4, Tryd.ntmps4
  go_wp2_with fail
  refine (HZ0 _ _ (Below.refl _ _) (by omega) (by omega)).mono ?_
  rintro e w1 ⟨⟨r0z, rfl, z01, z02, z03⟩, hb1⟩
  have Z3_0 := Lib.hid z03
  clear z03
  have s1 := hb1.size
  have b1 := hb1
  have t1 := b1.size
  by_cases hneg0 : r0z < 0
  · go_wp2
    go_ret
    exact ⟨rfl, b1⟩
  have hf0 := Z3_0.out (by omega)
  clear HZ0 Z3_0
  have HT0 := fun w' (hw : Below w.heap.size w w') => toCpX v0 X0 w' (h0.below hw) hf0
  go_wp2_with fail
  refine (HT0 _ b1).mono ?_
  rintro e w2 ⟨x1, rfl, hx1, hb2⟩
  have s2 := hb2.size
  have b2 := b1.trans (hb2.mono b1.size)
  have t2 := b2.size
  go_wp2_with fail
  refine (HS _ _ _ _ hx1).mono ?_
  intro e w3 hp
  obtain ⟨ws0, rfl, hws0, hb3⟩ := hp.out
  have s3 := hb3.size
  have b3 := b2.trans (hb3.mono b2.size)
  have t3 := b3.size
  go_wp2_with fail
  refine (HT0 _ b3).mono ?_
  rintro e w4 ⟨x2, rfl, hx2, hb4⟩
  have s4 := hb4.size
  have b4 := b3.trans (hb4.mono b3.size)
  have t4 := b4.size
  go_wp2_with fail
  refine (HI _ _ _ _ hx2).mono ?_
  intro e w5 hp
  obtain ⟨gi0, rfl, hgi0, hb5⟩ := hp.out
  have s5 := hb5.size
  have b5 := b4.trans (hb5.mono b4.size)
  have t5 := b5.size
  go_wp2_with fail
  refine (eqRdI hgi0.rd ((hws0.below hb4).below hb5)).mono ?_
  rintro e w6 ⟨rfl, hb6⟩
  have s6 := hb6.size
  have b6 := b5.trans (hb6.mono b5.size)
  have t6 := b6.size
  go_wp2_with fail
  refine (HT0 _ b6).mono ?_
  rintro e w7 ⟨x3, rfl, hx3, hb7⟩
  have s7 := hb7.size
  have b7 := b6.trans (hb7.mono b6.size)
  have t7 := b7.size
  go_wp2_with fail
  refine (eqCpX (((hx2.below hb5).below hb6).below hb7) hx3).mono ?_
  rintro e w8 ⟨rfl, hb8⟩
  have s8 := hb8.size
  have b8 := b7.trans (hb8.mono b7.size)
  have t8 := b8.size
  go_wp2_with fail
  refine (markCpX 1 ((((hx2.below hb5).below hb6).below hb7).below hb8) (by omega) (by omega)).mono ?_
  rintro e w9 ⟨⟨k0, rfl, kq0, kp0⟩, hk9⟩
  have s9 := hk9.size
  have b9 := b8.trans (hk9.below t8 (fun x hx => by omega))
  have t9 := b9.size
  go_wp2_with fail
  refine (eqRdI ((((hgi0.below hb6).below hb7).below hb8).kept hk9 (fun b h1 h2 h3 => by omega)).rd ((((((hws0.below hb4).below hb5).below hb6).below hb7).below hb8).kept hk9 (fun b h1 h2 h3 => by omega))).mono ?_
  rintro e w10 ⟨rfl, hb10⟩
  have s10 := hb10.size
  have b10 := b9.trans (hb10.mono b9.size)
  have t10 := b10.size
  go_wp2_with fail
  refine (markOwI 1 (((((hgi0.below hb6).below hb7).below hb8).kept hk9 (fun b h1 h2 h3 => by omega)).below hb10) (by omega) (by omega)).mono ?_
  rintro e w11 ⟨⟨m0, rfl, mq0, mp0, hmk0⟩, hk11⟩
  have s11 := hk11.size
  have b11 := b10.trans (hk11.below t10 (fun x hx => by omega))
  have t11 := b11.size
  go_wp2_with fail
  refine (heldMkI hmk0 (by omega) (by omega)).mono ?_
  rintro e wq ⟨rfl, rfl⟩
  go_wp2_with fail
  refine (HT0 _ b11).mono ?_
  rintro e w12 ⟨x4, rfl, hx4, hb12⟩
  have s12 := hb12.size
  have b12 := b11.trans (hb12.mono b11.size)
  have t12 := b12.size
  go_wp2_with fail
  refine (HI _ _ _ _ hx4).mono ?_
  intro e w13 hp
  obtain ⟨hi0, rfl, hhi0, hb13⟩ := hp.out
  have s13 := hb13.size
  have b13 := b12.trans (hb13.mono b12.size)
  have t13 := b13.size
  go_wp2_with fail
  refine (eqRdI hhi0.rd ((((((((((hws0.below hb4).below hb5).below hb6).below hb7).below hb8).kept hk9 (fun b h1 h2 h3 => by omega)).below hb10).kept hk11 (fun b h1 h2 h3 => by omega)).below hb12).below hb13)).mono ?_
  rintro e w14 ⟨rfl, hb14⟩
  have s14 := hb14.size
  have b14 := b13.trans (hb14.mono b13.size)
  have t14 := b14.size
  go_wp2_with fail
  refine (heldMkI (((hmk0.below hb12).below hb13).below hb14) (by omega) (by omega)).mono ?_
  rintro e wq ⟨rfl, rfl⟩
  go_wp2
  go_ret
  exact ⟨rfl, b14⟩
end Go.Proofs.YtkaakomiimcbmaaDoor
