/- The law on VoicesText, walked from the contracts of its two calls. -/
import Derived.Test.YtlpidgdlbannbabDoorTx4
namespace Go.Proofs.YtlpidgdlbannbabDoor
open Go.ChangeShapes Go.WideShapes Go.ChangeAt Go.RowKit Go.Deep
set_option linter.unusedSimpArgs false
set_option linter.unusedVariables false
set_option maxHeartbeats 2000000 in
set_option maxRecDepth 100000 in
theorem lawVoicesText (v0 : Value) (X0 : List Vc) (w : World) (h0 : ListV w v0 X0) (rm0 : Room X0) (hg : PowT w) :
    Calls Tryd.prog 3 #[v0] w fun e w' => e = .returned (.bool true) ∧ Below w.heap.size w w' := by
  obtain ⟨⟨r0, r1⟩, hm⟩ : ∃ p, mVText X0 = p := ⟨_, rfl⟩
  have HS : ∀ w' lo0 hi0 u0 (c0 : CpV w' lo0 hi0 u0 X0), Calls Tryd.prog 5 #[u0] w' (Psb (r0, r1) w') := fun w' lo0 hi0 u0 c0 => by have q := sVText X0 w' lo0 hi0 u0 c0; rw [hm] at q; exact q
  have HI : ∀ w' lo0 hi0 u0 (c0 : CpV w' lo0 hi0 u0 X0) (hgx : PowT w'), Calls Tryd.prog 7 #[u0] w' (Qsb (r0, r1) w') := fun w' lo0 hi0 u0 c0 hgx => by have q := iVText X0 w' lo0 hi0 u0 c0 hgx; rw [hm] at q; exact q
  clear hm
  have HZ := szVS v0 X0 w h0 rm0
  go_enter Tryd.func3, Tryd.ntmps3
  go_wp2_with fail
  refine HZ.mono ?_
  rintro e w1 ⟨⟨r, rfl, z1, z2, z3⟩, hb1⟩
  have Z3 := Lib.hid z3
  clear z3
  have s1 := hb1.size
  have b1 := hb1
  have t1 := b1.size
  by_cases hneg : r < 0
  · go_wp2
    go_ret
    exact ⟨rfl, b1⟩
  have hf := Z3.out (by omega)
  clear HZ Z3
  have HT0 := fun w' (hw : Below w.heap.size w w') => toCpV v0 X0 w' (h0.below hw) hf
  go_wp2_with fail
  refine (HT0 _ b1).mono ?_
  rintro e w2 ⟨x1, rfl, hx1, hb2⟩
  have s2 := hb2.size
  have b2 := b1.trans (hb2.mono b1.size)
  have t2 := b2.size
  go_wp2_with fail
  refine (HS _ _ _ _ hx1).mono ?_
  intro e w3 hp
  obtain ⟨rfl, hb3⟩ := hp.out
  have s3 := hb3.size
  have b3 := b2.trans (hb3.mono b2.size)
  have t3 := b3.size
  go_wp2_with fail
  refine (HT0 _ b3).mono ?_
  rintro e w4 ⟨x2, rfl, hx2, hb4⟩
  have s4 := hb4.size
  have b4 := b3.trans (hb4.mono b3.size)
  have t4 := b4.size
  go_wp2_with fail
  refine (HI _ _ _ _ hx2 (hg.below b4)).mono ?_
  intro e w5 hp
  obtain ⟨rfl, hb5⟩ := hp.out
  have s5 := hb5.size
  have b5 := b4.trans (hb5.mono b4.size)
  have t5 := b5.size
  go_wp2_with fail
  refine (HT0 _ b5).mono ?_
  rintro e w6 ⟨x3, rfl, hx3, hb6⟩
  have s6 := hb6.size
  have b6 := b5.trans (hb6.mono b5.size)
  have t6 := b6.size
  go_wp2_with fail
  refine (eqCpV ((hx2.below hb5).below hb6) hx3).mono ?_
  rintro e w7 ⟨rfl, hb7⟩
  have s7 := hb7.size
  have b7 := b6.trans (hb7.mono b6.size)
  have t7 := b7.size
  go_wp2
  go_ret
  exact ⟨rfl, b7⟩
end Go.Proofs.YtlpidgdlbannbabDoor
