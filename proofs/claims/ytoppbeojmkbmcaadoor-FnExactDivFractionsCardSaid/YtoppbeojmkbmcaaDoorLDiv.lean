/- The law on DivFractions, walked. -/
import Derived.Test.YtoppbeojmkbmcaaDoorBx
namespace Go.Proofs.YtoppbeojmkbmcaaDoor
open Go.ChangeShapes Go.WideShapes Go.ChangeAt Go.RowKit
set_option maxHeartbeats 4000000 in
theorem lawDiv_core (an ad bn bd x y : Int) (b : Bool) (w : World) (hg : ErrT w) (hs : ∀ w, Calls Tryd.prog 29 #[.agg #[.int .i64 an, .int .i64 ad], .agg #[.int .i64 bn, .int .i64 bd]] w (frP b x y w)) (hi : ∀ w, ErrT w → Calls Tryd.prog 30 #[.agg #[.int .i64 an, .int .i64 ad], .agg #[.int .i64 bn, .int .i64 bd]] w (frP b x y w)) :
    Calls Tryd.prog 9 #[.agg #[.int .i64 an, .int .i64 ad], .agg #[.int .i64 bn, .int .i64 bd]] w fun e w' => e = .returned (.bool true) ∧ Below w.heap.size w w' := by
  have HS := Lib.hid hs
  have HI := Lib.hid hi
  have HG := Lib.hid hg
  clear hs hi hg
  go_enter Tryd.func9, Tryd.ntmps9
  go_upto_region 1 with fail
  go_cut [5, 6] (fun s5 s6 wx => ∃ g : Nat, s5 = .pointer (some ⟨g, 0, none⟩) ∧ s6 = .bool b ∧ w.heap.size + 1 < g ∧ g < wx.heap.size ∧ wx.cell? ⟨g, 0, none⟩ = some (.int .i64 x) ∧ wx.cell? ⟨g, 1, none⟩ = some (.int .i64 y) ∧ Bx w an ad bn bd w.heap.size an ad wx)
  case first =>
    go_region_held3 (fun w' => w'.cell? ⟨w.heap.size, 0, none⟩ = some (.int .i64 an) ∧ w'.cell? ⟨w.heap.size, 1, none⟩ = some (.int .i64 ad) ∧ w'.cell? ⟨w.heap.size + 1, 0, none⟩ = some (.int .i64 bn) ∧ w'.cell? ⟨w.heap.size + 1, 1, none⟩ = some (.int .i64 bd) ∧ Hid (w.heap.size + 1 < w'.heap.size ∧ Below w.heap.size w w' ∧ w.heap.size < w'.heap.size ∧ w'.cell? ⟨w.heap.size, 0, none⟩ = some (.int .i64 an) ∧ w'.cell? ⟨w.heap.size, 1, none⟩ = some (.int .i64 ad)))
      (first | exact (Bx.start w an ad bn bd).drew | exact Hid.out (by assumption) | exact Bx.alloc (by assumption) _ | exact Bx.alloc (Hid.out (by assumption)) _ | exact Bx.set2 (by assumption) (by omega) (by omega) _ _)
      (first
        | (go_at_call 23; refine (toF _ _ _).mono ?_; rintro e w' ⟨rfl, hb⟩; obtain ⟨hc, hf⟩ := bcell hb; have hB : Hid (Bx w an ad bn bd w.heap.size an ad w') := Bx.below (by assumption) hb; have hz := hb.size; (try simp at hz); (try (have hz2 := Nat.lt_of_succ_le hz)); (try (have hz3 : w.heap.size + 1 + 1 < w'.heap.size := by omega)))
        | (go_at_call 29; refine (HS.out _).mono ?_; rintro e w' ⟨rfl, hb⟩; obtain ⟨hc, hf⟩ := bcell hb; have hB : Hid (Bx w an ad bn bd w.heap.size an ad w') := Bx.below (by assumption) hb; have hz := hb.size; (try simp at hz); (try (have hz2 := Nat.lt_of_succ_le hz)); (try (have hz3 : w.heap.size + 1 + 1 < w'.heap.size := by omega))))
    all_goals
      go_wp2_with fail
      go_meet
      refine ⟨_, rfl, rfl, ?_, ?_, ?_, ?_, ?_⟩
      · omega
      · first | (simp; done) | (simp; omega)
      · first | (go_simp; done) | (simp; done)
      · first | (go_simp; done) | (simp; done)
      · assumption
  case rest =>
    obtain ⟨g, rfl, rfl, g1, g2, g3, g4, hB0⟩ := hcut
    have HB := Lib.hid (hB0.turn g2 g3 g4)
    clear hB0 g3 g4
    go_upto_region 2 with fail
    go_cut [7, 8] (fun s7 s8 wy => ∃ k : Nat, s7 = .pointer (some ⟨k, 0, none⟩) ∧ s8 = .bool b ∧ g < k ∧ k < wy.heap.size ∧ wy.cell? ⟨k, 0, none⟩ = some (.int .i64 x) ∧ wy.cell? ⟨k, 1, none⟩ = some (.int .i64 y) ∧ Bx w an ad bn bd g x y wy)
    case first =>
      go_region_held3 (fun w' => w'.cell? ⟨w.heap.size, 0, none⟩ = some (.int .i64 an) ∧ w'.cell? ⟨w.heap.size, 1, none⟩ = some (.int .i64 ad) ∧ w'.cell? ⟨w.heap.size + 1, 0, none⟩ = some (.int .i64 bn) ∧ w'.cell? ⟨w.heap.size + 1, 1, none⟩ = some (.int .i64 bd) ∧ Hid (w.heap.size + 1 < w'.heap.size ∧ Below w.heap.size w w' ∧ g < w'.heap.size ∧ w'.cell? ⟨g, 0, none⟩ = some (.int .i64 x) ∧ w'.cell? ⟨g, 1, none⟩ = some (.int .i64 y)))
        (first | exact (Hid.out (by assumption) : Bx w an ad bn bd g x y _).drew | exact Hid.out (by assumption) | exact Bx.alloc (by assumption) _ | exact Bx.alloc (Hid.out (by assumption)) _ | exact Bx.set2 (by assumption) (by omega) (by omega) _ _)
        (first
          | (go_at_call 23; refine (toF _ _ _).mono ?_; rintro e w' ⟨rfl, hb⟩; obtain ⟨hc, hf⟩ := bcell hb; have hB : Hid (Bx w an ad bn bd g x y w') := Bx.below (by assumption) hb; have hz := hb.size; (try simp at hz); (try (have hz2 := Nat.lt_of_succ_le hz)); (try (have hz3 : wc.heap.size < w'.heap.size := by omega)))
          | (go_at_call 30; refine (HI.out _ ?_).mono ?_; (exact HG.out.below (Bx.bel (by assumption))); rintro e w' ⟨rfl, hb⟩; obtain ⟨hc, hf⟩ := bcell hb; have hB : Hid (Bx w an ad bn bd g x y w') := Bx.below (by assumption) hb; have hz := hb.size; (try simp at hz); (try (have hz2 := Nat.lt_of_succ_le hz)); (try (have hz3 : wc.heap.size < w'.heap.size := by omega))))
      all_goals
        go_wp2_with fail
        go_meet
        refine ⟨_, rfl, rfl, ?_, ?_, ?_, ?_, ?_⟩
        · omega
        · first | (simp; done) | (simp; omega)
        · first | (go_simp; done) | (simp; done)
        · first | (go_simp; done) | (simp; done)
        · assumption
    case rest =>
      obtain ⟨k, rfl, rfl, k1, k2, k3, k4, hB1⟩ := hcut
      obtain ⟨-, -, -, -, HH⟩ := hB1
      obtain ⟨-, bl, -, G0, G1⟩ := HH.out
      have BL := Lib.hid bl
      clear HH bl HB
      go_wp2_with fail
      refine (eqf _ _ _).mono ?_
      rintro e w3 ⟨rfl, hb3⟩
      have b3 := BL.out.trans (hb3.mono BL.out.size)
      go_wp2
      go_ret
      exact ⟨rfl, b3⟩
theorem lawDiv (an ad bn bd : Int) (w : World) (_h1 : (Lit.int .i64 an).wf = true) (_h2 : (Lit.int .i64 ad).wf = true) (h3 : (Lit.int .i64 bn).wf = true) (_h4 : (Lit.int .i64 bd).wf = true) (hg : ErrT w) :
    Calls Tryd.prog 9 #[.agg #[.int .i64 an, .int .i64 ad], .agg #[.int .i64 bn, .int .i64 bd]] w fun e w' => e = .returned (.bool true) ∧ Below w.heap.size w w' := by
  have hbd : -9223372036854775808 ≤ bn ∧ bn ≤ 9223372036854775807 := by simpa [Lit.wf, IntKind.min, IntKind.max, IntKind.signed, IntKind.bits] using h3
  exact lawDiv_core _ _ _ _ _ _ _ w hg (fun w => SDiv_any _ _ _ _ w) (fun w h => IDiv_any _ _ _ _ w h)
end Go.Proofs.YtoppbeojmkbmcaaDoor
