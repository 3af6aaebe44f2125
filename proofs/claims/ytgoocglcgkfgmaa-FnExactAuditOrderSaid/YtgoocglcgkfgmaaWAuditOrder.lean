/- The law on AuditOrder, walked from the contracts of its two calls. -/
import Derived.Test.YtgoocglcgkfgmaaAu2
namespace Go.Proofs.Ytgoocglcgkfgmaa
open Go.ChangeShapes Go.WideShapes Go.ChangeAt Go.RowKit Go.Deep
set_option linter.unusedSimpArgs false
set_option linter.unusedVariables false
set_option maxHeartbeats 2000000 in
set_option maxRecDepth 100000 in
theorem lawAuditOrder (n0 : Int) (n1 : Int) (w : World) (wf0 : (Lit.int .i64 n0).wf = true) (wf1 : (Lit.int .i64 n1).wf = true) :
    Calls Try.prog 8 #[.int .i64 n0, .int .i64 n1] w fun e w' => e = .returned (.bool true) ∧ Below w.heap.size w w' := by
  obtain ⟨⟨r0, r1⟩, hm⟩ : ∃ p, mAud n0 n1 = p := ⟨_, rfl⟩
  have HS : ∀ w' , Calls Try.prog 23 #[.int .i64 n0, .int .i64 n1] w' (PIb (r0, r1) w') := fun w'  => by have q := sAud n0 n1 w' wf0 wf1; rw [hm] at q; exact q
  have HI : ∀ w' , Calls Try.prog 24 #[.int .i64 n0, .int .i64 n1] w' (QIb (r0, r1) w') := fun w'  => by have q := iAud n0 n1 w' wf0 wf1; rw [hm] at q; exact q
  clear hm
  go_enter Try.func8, Try.ntmps8
  go_wp2_with fail
  refine (HS _ ).mono ?_
  intro e w1 hp
  obtain ⟨ws0, rfl, hws0, hb1⟩ := hp.out
  have s1 := hb1.size
  have b1 := hb1
  have t1 := b1.size
  go_wp2_with fail
  refine (HI _ ).mono ?_
  intro e w2 hp
  obtain ⟨gi0, rfl, hgi0, hb2⟩ := hp.out
  have s2 := hb2.size
  have b2 := b1.trans (hb2.mono b1.size)
  have t2 := b2.size
  go_wp2_with fail
  refine (eqRdI hgi0.rd (hws0.below hb2)).mono ?_
  rintro e w3 ⟨rfl, hb3⟩
  have s3 := hb3.size
  have b3 := b2.trans (hb3.mono b2.size)
  have t3 := b3.size
  go_wp2_with fail
  refine (markOwI 1 (hgi0.below hb3) (by omega) (by omega)).mono ?_
  rintro e w4 ⟨⟨m0, rfl, mq0, mp0, hmk0⟩, hk4⟩
  have s4 := hk4.size
  have b4 := b3.trans (hk4.below t3 (fun x hx => by omega))
  have t4 := b4.size
  go_wp2_with fail
  refine (heldMkI hmk0 (by omega) (by omega)).mono ?_
  rintro e wq ⟨rfl, rfl⟩
  go_wp2_with fail
  refine (HI _ ).mono ?_
  intro e w5 hp
  obtain ⟨hi0, rfl, hhi0, hb5⟩ := hp.out
  have s5 := hb5.size
  have b5 := b4.trans (hb5.mono b4.size)
  have t5 := b5.size
  go_wp2_with fail
  refine (eqRdI hhi0.rd ((((hws0.below hb2).below hb3).kept hk4 (fun b h1 h2 h3 => by omega)).below hb5)).mono ?_
  rintro e w6 ⟨rfl, hb6⟩
  have s6 := hb6.size
  have b6 := b5.trans (hb6.mono b5.size)
  have t6 := b6.size
  go_wp2_with fail
  refine (heldMkI ((hmk0.below hb5).below hb6) (by omega) (by omega)).mono ?_
  rintro e wq ⟨rfl, rfl⟩
  go_wp2
  go_ret
  exact ⟨rfl, b6⟩
end Go.Proofs.Ytgoocglcgkfgmaa
