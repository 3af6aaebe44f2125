/- The least sample: the program's. -/
import Derived.Test.YtjfkkmfbgmejbabDoorSm2
namespace Go.Proofs.YtjfkkmfbgmejbabDoor
open Go.ChangeShapes Go.WideShapes Go.ChangeAt Go.RowKit Go.Deep
set_option linter.unusedSimpArgs false
set_option linter.unusedVariables false
theorem okB_zero : okB 0 0 = false := okB_no (by rintro ⟨h, _⟩; omega)
/-- What one sample is asked: valid, and at most the limit. -/
theorem cnd_iff {n u ln ld x y : Int} {z : Bool} {s : Nat} (hm : mRisk n u s = ((x, y), z)) :
    cnd n u ln ld s ↔ (okB x y && okB ln ld) = true ∧ gI (okB x y && okB ln ld) (cmpI (x * ld) (ln * y)) ≤ 0 := by
  by_cases hr : rkIn n u s
  · rw [mRisk_yes hr] at hm
    simp only [Prod.mk.injEq] at hm
    obtain ⟨⟨rfl, rfl⟩, -⟩ := hm
    rw [okB_yes (rk_ok hr)]
    constructor
    · rintro ⟨_, h2, h3⟩
      rw [okB_yes h2]
      exact ⟨rfl, by simpa [gI] using h3⟩
    · rintro ⟨h2, h3⟩
      have h4 : okB ln ld = true := by simpa using h2
      rw [h4] at h3
      exact ⟨hr, okB_t h4, by simpa [gI] using h3⟩
  · rw [mRisk_no hr] at hm
    simp only [Prod.mk.injEq] at hm
    obtain ⟨⟨rfl, rfl⟩, -⟩ := hm
    rw [okB_zero]
    constructor
    · intro h; exact absurd h.1 hr
    · rintro ⟨h, -⟩; simp at h
set_option maxHeartbeats 4000000 in
theorem iSmp (n u ln ld : Int) (w : World) (wf0 : (Lit.int .i64 n).wf = true) (wf1 : (Lit.int .i64 u).wf = true) (hg : ErrT w) :
    Calls Tryd.prog 10 #[.int .i64 n, .int .i64 u, .agg #[.int .i64 ln, .int .i64 ld]] w (Pnb (mSmp n u ln ld) w) := by
  have hB := Lib.hid (B2.start w 26 ln ld)
  have HG := Lib.hid hg
  have HRR : Hid (∀ (s : Nat) w', s ≤ 30 → ErrT w' → Calls Tryd.prog 23 #[.int .i64 n, .int .i64 u, .int .i64 (s : Int)] w' (Qfb (mRisk n u s) w')) := Lib.hid (fun s w' h q => iRisk n u s w' wf0 wf1 (Go.WalkArith.wf_i64 ⟨by omega, by omega⟩) q)
  clear hg
  go_enter Tryd.func10, Tryd.ntmps10
  go_wp2
  go_loopg [13] 31 (fun g i wr => ∃ s : Nat, s ≤ 31 ∧ g = 31 - s ∧ i = .int .i64 (s : Int) ∧ Hid (B2 w w.heap.size ln ld wr) ∧ Hid (∀ j, j < s → ¬ cnd n u ln ld j))
  case atStart => exact ⟨0, Nat.zero_le _, rfl, rfl, hB, fun j hj => absurd hj (Nat.not_lt_zero _)⟩
  case round =>
    clear hB
    obtain ⟨s, hs, rfl, rfl, HB, HL⟩ := hrel
    by_cases hlt : s < 31
    · have HR := HRR.out s wr (by omega) (HG.out.below HB.out.bel)
      obtain ⟨⟨⟨x, y⟩, z⟩, hm⟩ : ∃ p, mRisk n u s = p := ⟨_, rfl⟩
      rw [hm] at HR
      have HC := cnd_iff (ln := ln) (ld := ld) hm
      have HCMP := fun w' hw => ICmp_any x y ln ld w' hw
      generalize (okB x y && okB ln ld) = b at HC HCMP
      generalize gI b (cmpI (x * ld) (ln * y)) = v at HC HCMP
      have HCN := Lib.hid HC
      have HCP := Lib.hid HCMP
      clear HC HCMP hm
      go_wp2_with fail
      refine HR.mono ?_
      intro e w1 hp
      obtain ⟨rfl, hb1⟩ := hp.out
      have hB1 := HB.out.below hb1
      have bA := (Below.refl w1.heap.size w1).alloc (Nat.le_refl _) (.cells #[.int .i64 x, .int .i64 y] 26)
      have hB2 := hB1.below bA
      have EG := HG.out.below hB2.bel
      have HC2 := HCP.out _ EG
      have HB2 := Lib.hid hB2
      obtain ⟨c0, c1, hq⟩ := hB1
      have hlw := hq.out.2
      have hne : w.heap.size ≠ w1.heap.size := by omega
      clear HR hp hB2 EG hq
      cases b with
      | false =>
        go_wp2_with fail
        refine HC2.mono ?_
        rintro e w2 ⟨rfl, hb2⟩
        go_wp2
        go_roundg (31 - (s + 1))
        case measure => omega
        case rel =>
          refine ⟨s + 1, by omega, rfl, by simp, Lib.hid (HB2.out.below hb2), fun j hj => ?_⟩
          by_cases ej : j = s
          · subst ej; intro h; have := (HCN.out.1 h).1; cases this
          · exact HL.out j (by omega)
      | true =>
        by_cases hv : v ≤ 0
        · have HV := Lib.hid hv
          go_wp2_with fail
          refine HC2.mono ?_
          rintro e w2 ⟨rfl, hb2⟩
          go_wp2
          go_ret2
          refine ⟨?_, (HB2.out.below hb2).bel⟩
          rw [mSmp_yes ⟨by omega, HCN.out.2 ⟨by first | exact rfl | trivial, HV.out⟩, HL.out⟩]
          rfl
        · have HV := Lib.hid hv
          go_wp2_with fail
          refine HC2.mono ?_
          rintro e w2 ⟨rfl, hb2⟩
          go_wp2
          go_roundg (31 - (s + 1))
          case measure => omega
          case rel =>
            refine ⟨s + 1, by omega, rfl, by simp, Lib.hid (HB2.out.below hb2), fun j hj => ?_⟩
            by_cases ej : j = s
            · subst ej; intro h; have h1 := HV.out; have h2 := (HCN.out.1 h).2; omega
            · exact HL.out j (by omega)
    · have e' : s = 31 := by omega
      subst e'
      go_wp2
      go_ret2
      refine ⟨?_, (Hid.out HB).bel⟩
      rw [mSmp_no (fun j hj => HL.out j (by omega))]
      rfl
end Go.Proofs.YtjfkkmfbgmejbabDoor
