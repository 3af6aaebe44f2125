/- The laws on CompareFractions and FloorOf, walked. -/
import Derived.Test.YtoppbeojmkbmcaaDoorBx
import Derived.Test.YtoppbeojmkbmcaaDoorCF
namespace Go.Proofs.YtoppbeojmkbmcaaDoor
open Go.ChangeShapes Go.WideShapes Go.ChangeAt Go.RowKit
set_option maxHeartbeats 4000000 in
theorem lawCmp_core (an ad bn bd v : Int) (b : Bool) (w : World) (hg : ErrT w) (hs : ∀ w, Calls Tryd.prog 31 #[.agg #[.int .i64 an, .int .i64 ad], .agg #[.int .i64 bn, .int .i64 bd]] w (iP b v w)) (hi : ∀ w, ErrT w → Calls Tryd.prog 32 #[.agg #[.int .i64 an, .int .i64 ad], .agg #[.int .i64 bn, .int .i64 bd]] w (iP b v w)) :
    Calls Tryd.prog 10 #[.agg #[.int .i64 an, .int .i64 ad], .agg #[.int .i64 bn, .int .i64 bd]] w fun e w' => e = .returned (.bool true) ∧ Below w.heap.size w w' := by
  have HS := Lib.hid hs
  have HI := Lib.hid hi
  have HG := Lib.hid hg
  clear hs hi hg
  go_enter Tryd.func10, Tryd.ntmps10
  go_upto_region 1 with fail
  go_cut [5, 6] (fun s5 s6 wx => s5 = .int .i64 v ∧ s6 = .bool b ∧ Bx w an ad bn bd w.heap.size an ad wx)
  case first =>
    go_region_held3 (fun w' => w'.cell? ⟨w.heap.size, 0, none⟩ = some (.int .i64 an) ∧ w'.cell? ⟨w.heap.size, 1, none⟩ = some (.int .i64 ad) ∧ w'.cell? ⟨w.heap.size + 1, 0, none⟩ = some (.int .i64 bn) ∧ w'.cell? ⟨w.heap.size + 1, 1, none⟩ = some (.int .i64 bd) ∧ Hid (w.heap.size + 1 < w'.heap.size ∧ Below w.heap.size w w' ∧ w.heap.size < w'.heap.size ∧ w'.cell? ⟨w.heap.size, 0, none⟩ = some (.int .i64 an) ∧ w'.cell? ⟨w.heap.size, 1, none⟩ = some (.int .i64 ad)))
      (first | exact (Bx.start w an ad bn bd).drew | exact Hid.out (by assumption) | exact Bx.alloc (by assumption) _ | exact Bx.alloc (Hid.out (by assumption)) _ | exact Bx.set2 (by assumption) (by omega) (by omega) _ _)
      (first
        | (go_at_call 23; refine (toF _ _ _).mono ?_; rintro e w' ⟨rfl, hb⟩; obtain ⟨hc, hf⟩ := bcell hb; have hB : Hid (Bx w an ad bn bd w.heap.size an ad w') := Bx.below (by assumption) hb; have hz := hb.size; (try simp at hz); (try (have hz2 := Nat.lt_of_succ_le hz)); (try (have hz3 : w.heap.size + 1 + 1 < w'.heap.size := by omega)))
        | (go_at_call 31; refine (HS.out _).mono ?_; rintro e w' ⟨rfl, hb⟩; obtain ⟨hc, hf⟩ := bcell hb; have hB : Hid (Bx w an ad bn bd w.heap.size an ad w') := Bx.below (by assumption) hb; have hz := hb.size; (try simp at hz); (try (have hz2 := Nat.lt_of_succ_le hz)); (try (have hz3 : w.heap.size + 1 + 1 < w'.heap.size := by omega))))
    all_goals
      go_wp2_with fail
      go_meet
      refine ⟨rfl, rfl, ?_⟩
      assumption
  case rest =>
    obtain ⟨rfl, rfl, hB0⟩ := hcut
    have HB := Lib.hid hB0
    clear hB0
    go_upto_region 2 with fail
    go_cut [7, 8] (fun s7 s8 wy => s7 = .int .i64 v ∧ s8 = .bool b ∧ Bx w an ad bn bd w.heap.size an ad wy)
    case first =>
      go_region_held3 (fun w' => w'.cell? ⟨w.heap.size, 0, none⟩ = some (.int .i64 an) ∧ w'.cell? ⟨w.heap.size, 1, none⟩ = some (.int .i64 ad) ∧ w'.cell? ⟨w.heap.size + 1, 0, none⟩ = some (.int .i64 bn) ∧ w'.cell? ⟨w.heap.size + 1, 1, none⟩ = some (.int .i64 bd) ∧ Hid (w.heap.size + 1 < w'.heap.size ∧ Below w.heap.size w w' ∧ w.heap.size < w'.heap.size ∧ w'.cell? ⟨w.heap.size, 0, none⟩ = some (.int .i64 an) ∧ w'.cell? ⟨w.heap.size, 1, none⟩ = some (.int .i64 ad)))
        (first | exact (Hid.out (by assumption) : Bx w an ad bn bd w.heap.size an ad _).drew | exact Hid.out (by assumption) | exact Bx.alloc (by assumption) _ | exact Bx.alloc (Hid.out (by assumption)) _ | exact Bx.set2 (by assumption) (by omega) (by omega) _ _)
        (first
          | (go_at_call 23; refine (toF _ _ _).mono ?_; rintro e w' ⟨rfl, hb⟩; obtain ⟨hc, hf⟩ := bcell hb; have hB : Hid (Bx w an ad bn bd w.heap.size an ad w') := Bx.below (by assumption) hb; have hz := hb.size; (try simp at hz); (try (have hz2 := Nat.lt_of_succ_le hz)); (try (have hz3 : w.heap.size + 1 + 1 < w'.heap.size := by omega)))
          | (go_at_call 32; refine (HI.out _ ?_).mono ?_; (exact HG.out.below (Bx.bel (by assumption))); rintro e w' ⟨rfl, hb⟩; obtain ⟨hc, hf⟩ := bcell hb; have hB : Hid (Bx w an ad bn bd w.heap.size an ad w') := Bx.below (by assumption) hb; have hz := hb.size; (try simp at hz); (try (have hz2 := Nat.lt_of_succ_le hz)); (try (have hz3 : w.heap.size + 1 + 1 < w'.heap.size := by omega))))
      all_goals
        go_wp2_with fail
        go_meet
        refine ⟨rfl, rfl, ?_⟩
        assumption
    case rest =>
      obtain ⟨rfl, rfl, hB1⟩ := hcut
      have BL := Lib.hid hB1.bel
      clear hB1 HB
      go_wp2
      go_ret
      exact ⟨rfl, BL.out⟩
theorem lawCompare (an ad bn bd : Int) (w : World) (_h1 : (Lit.int .i64 an).wf = true) (_h2 : (Lit.int .i64 ad).wf = true) (_h3 : (Lit.int .i64 bn).wf = true) (_h4 : (Lit.int .i64 bd).wf = true) (hg : ErrT w) :
    Calls Tryd.prog 10 #[.agg #[.int .i64 an, .int .i64 ad], .agg #[.int .i64 bn, .int .i64 bd]] w fun e w' => e = .returned (.bool true) ∧ Below w.heap.size w w' :=
  lawCmp_core _ _ _ _ _ _ w hg (fun w => SCmp_any _ _ _ _ w) (fun w h => ICmp_any _ _ _ _ w h)
theorem lawFloor_core (n d v : Int) (b : Bool) (w : World) (hg : ErrT w) (hs : ∀ w, Calls Tryd.prog 33 #[.agg #[.int .i64 n, .int .i64 d]] w (iP b v w)) (hi : ∀ w, ErrT w → Calls Tryd.prog 34 #[.agg #[.int .i64 n, .int .i64 d]] w (iP b v w)) :
    Calls Tryd.prog 11 #[.agg #[.int .i64 n, .int .i64 d]] w fun e w' => e = .returned (.bool true) ∧ Below w.heap.size w w' := by
  have HS := Lib.hid hs
  have HI := Lib.hid hi
  have HG := Lib.hid hg
  clear hs hi hg
  have b0 := (Below.refl w.heap.size w).alloc (Nat.le_refl _) (.cells #[.int .i64 n, .int .i64 d] 33)
  go_enter Tryd.func11, Tryd.ntmps11
  go_wp2_with fail
  refine (toF _ _ _).mono ?_
  rintro e w1 ⟨rfl, hb1⟩
  obtain ⟨hc1, hf1⟩ := bcell hb1
  have A0 : w1.cell? ⟨w.heap.size, 0, none⟩ = some (.int .i64 n) := by rw [hc1 _ _ (by simp)]; go_simp
  have A1 : w1.cell? ⟨w.heap.size, 1, none⟩ = some (.int .i64 d) := by rw [hc1 _ _ (by simp)]; go_simp
  have z1 : w.heap.size < w1.heap.size := by have := hb1.size; simp at this; omega
  have b1 := b0.trans (hb1.mono (by simp))
  clear hc1 hf1 b0
  go_wp2_with fail
  refine (HS.out _).mono ?_
  rintro e w2 ⟨rfl, hb2⟩
  obtain ⟨hc2, hf2⟩ := bcell hb2
  have A2 : w2.cell? ⟨w.heap.size, 0, none⟩ = some (.int .i64 n) := by rw [hc2 _ _ z1]; assumption
  have A3 : w2.cell? ⟨w.heap.size, 1, none⟩ = some (.int .i64 d) := by rw [hc2 _ _ z1]; assumption
  have b2 := b1.trans (hb2.mono b1.size)
  clear hc2 hf2 A0 A1
  go_wp2_with fail
  refine (toF _ _ _).mono ?_
  rintro e w3 ⟨rfl, hb3⟩
  have b3 := b2.trans (hb3.mono b2.size)
  go_wp2_with fail
  refine (HI.out _ (HG.out.below b3)).mono ?_
  rintro e w4 ⟨rfl, hb4⟩
  go_wp2
  go_ret
  exact ⟨rfl, b3.trans (hb4.mono b3.size)⟩
theorem lawFloor (n d : Int) (w : World) (_h1 : (Lit.int .i64 n).wf = true) (_h2 : (Lit.int .i64 d).wf = true) (hg : ErrT w) :
    Calls Tryd.prog 11 #[.agg #[.int .i64 n, .int .i64 d]] w fun e w' => e = .returned (.bool true) ∧ Below w.heap.size w w' :=
  lawFloor_core _ _ _ _ w hg (fun w => SFloor_any _ _ w) (fun w h => IFloor_any _ _ w h)
end Go.Proofs.YtoppbeojmkbmcaaDoor
