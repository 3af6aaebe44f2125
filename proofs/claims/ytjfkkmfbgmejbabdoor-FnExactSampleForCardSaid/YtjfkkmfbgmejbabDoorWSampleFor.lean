/- The law on SampleFor, walked from the contracts of its two calls. -/
import Derived.Test.YtjfkkmfbgmejbabDoorSm3
namespace Go.Proofs.YtjfkkmfbgmejbabDoor
open Go.ChangeShapes Go.WideShapes Go.ChangeAt Go.RowKit Go.Deep
set_option linter.unusedSimpArgs false
set_option linter.unusedVariables false
set_option maxHeartbeats 2000000 in
set_option maxRecDepth 100000 in
theorem lawSampleFor (n u ln ld : Int) (w : World) (wf0 : (Lit.int .i64 n).wf = true) (wf1 : (Lit.int .i64 u).wf = true) (wf2 : (Lit.int .i64 ln).wf = true) (wf3 : (Lit.int .i64 ld).wf = true) (hg : ErrT w) :
    Calls Tryd.prog 3 #[.int .i64 n, .int .i64 u, .agg #[.int .i64 ln, .int .i64 ld]] w fun e w' => e = .returned (.bool true) ∧ Below w.heap.size w w' := by
  obtain ⟨⟨r, b⟩, hm⟩ : ∃ p, mSmp n u ln ld = p := ⟨_, rfl⟩
  have HS := fun w' => sSmp n u ln ld w'
  have HI := fun w' (hw : ErrT w') => iSmp n u ln ld w' wf0 wf1 hw
  rw [hm] at HS HI
  have H1 := Lib.hid HS
  have H2 := Lib.hid HI
  have HG := Lib.hid hg
  have hB := Lib.hid (B2.start w 23 ln ld)
  obtain ⟨c0, c1, -⟩ := hB.out
  clear hm HS HI hg
  go_enter Tryd.func3, Tryd.ntmps3
  go_wp2_with fail
  refine (toF _ _ _).mono ?_
  rintro e w1 ⟨rfl, hb1⟩
  have hB1 := Lib.hid (hB.out.below hb1)
  clear c0 c1
  go_wp2_with fail
  refine (H1.out _).mono ?_
  rintro e w2 ⟨rfl, hb2⟩
  have hB2 := Lib.hid (hB1.out.below hb2)
  obtain ⟨c0, c1, -⟩ := hB2.out
  go_wp2_with fail
  refine (toF _ _ _).mono ?_
  rintro e w3 ⟨rfl, hb3⟩
  have hB3 := Lib.hid (hB2.out.below hb3)
  clear c0 c1
  go_wp2_with fail
  refine (H2.out _ (HG.out.below hB3.out.bel)).mono ?_
  rintro e w4 ⟨rfl, hb4⟩
  have hB4 := Lib.hid (hB3.out.below hb4)
  have hb := hB4.out.bel
  go_wp2
  go_ret
  exact ⟨rfl, hb⟩
end Go.Proofs.YtjfkkmfbgmejbabDoor
