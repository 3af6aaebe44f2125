/- The least sample: both functions. -/
import Derived.Test.YtjfkkmfbgmejbabDoorSm1
namespace Go.Proofs.YtjfkkmfbgmejbabDoor
open Go.ChangeShapes Go.WideShapes Go.ChangeAt Go.RowKit Go.Deep
set_option linter.unusedSimpArgs false
set_option linter.unusedVariables false
def Pnb (m : Int × Bool) (w : World) (e : Ending) (w' : World) : Prop := e = .returned (.tuple #[.int .i64 m.1, .bool m.2]) ∧ Below w.heap.size w w'
theorem max0_any (a : Int) (w : World) :
    Calls Tryd.prog 31 #[.int .i64 a, .int .i64 0] w fun e w' => e = .returned (.int .i64 (max a 0)) ∧ w = w' := by
  by_cases h : 0 < a
  · rw [show max a 0 = a by omega]
    go_enter Tryd.func31, Tryd.ntmps31
    go_wp2
    all_goals (first | (go_ret; exact ⟨rfl, rfl⟩) | (exfalso; omega))
  · rw [show max a 0 = 0 by omega]
    by_cases h2 : a = 0
    · subst h2
      go_enter Tryd.func31, Tryd.ntmps31
      go_wp2
      all_goals (first | (go_ret; exact ⟨rfl, rfl⟩) | (exfalso; omega))
    · have h3 : a < 0 := by omega
      go_enter Tryd.func31, Tryd.ntmps31
      go_wp2
      all_goals (first | (go_ret; exact ⟨rfl, rfl⟩) | (exfalso; omega))
set_option maxHeartbeats 2000000 in
theorem sSmp (n u ln ld : Int) (w : World) :
    Calls Tryd.prog 8 #[.int .i64 n, .int .i64 u, .agg #[.int .i64 ln, .int .i64 ld]] w (Pnb (mSmp n u ln ld) w) := by
  have hB := B2.start w 26 ln ld
  have b0 := hB.bel
  have HB := Lib.hid hB
  have P1 := fun w' => in_any n 0 30 w'
  have P2 := fun w' => in_any u 0 n w'
  clear hB
  by_cases h1 : 0 ≤ n ∧ n ≤ 30
  · rw [show (decide ((0 : Int) ≤ n) && decide (n ≤ 30)) = true by simp; omega] at P1
    by_cases h2 : 0 ≤ u ∧ u ≤ n
    · rw [show (decide ((0 : Int) ≤ u) && decide (u ≤ n)) = true by simp; omega] at P2
      by_cases h3 : okF ln ld
      · have P3 := fun w' => ok_yes ln ld w' h3
        obtain ⟨m, rfl⟩ : ∃ m : Nat, n = (m : Int) := ⟨n.toNat, by omega⟩
        have HS := Lib.hid (fun w' => ssmp m u ln ld w' (by omega) h2 h3)
        clear h1 h2 h3
        go_enter Tryd.func8, Tryd.ntmps8
        go_wp2_with fail
        refine (P1 _).mono ?_
        rintro e w1 ⟨rfl, rfl⟩
        go_wp2_with fail
        refine (P2 _).mono ?_
        rintro e w1 ⟨rfl, rfl⟩
        go_wp2_with fail
        refine (P3 _).mono ?_
        rintro e w1 ⟨rfl, hb1⟩
        have hB1 := HB.out.below hb1
        obtain ⟨c0, c1, -⟩ := hB1
        have b1 := b0.trans (hb1.mono b0.size)
        go_wp2_with fail
        refine (HS.out _).mono ?_
        rintro e w2 ⟨⟨r, rfl, hr⟩, hb2⟩
        have b2 := b1.trans (hb2.mono b1.size)
        have HR := Lib.hid hr
        have PM := fun w' => max0_any r w'
        clear hr c0 c1
        go_wp2_with fail
        refine (PM _).mono ?_
        rintro e w3 ⟨rfl, rfl⟩
        go_wp2
        go_ret2
        refine ⟨?_, b2⟩
        rcases HR.out with ⟨s, rfl, hl⟩ | ⟨rfl, hno⟩
        · rw [mSmp_yes hl]
          simp <;> omega
        · rw [mSmp_no hno]
          rfl
      · have P3 := fun w' => ok_no ln ld w' h3
        rw [mSmp_no (fun s _ hc => h3 hc.2.1)]
        clear h1 h2 h3
        go_enter Tryd.func8, Tryd.ntmps8
        go_wp2_with fail
        refine (P1 _).mono ?_
        rintro e w1 ⟨rfl, rfl⟩
        go_wp2_with fail
        refine (P2 _).mono ?_
        rintro e w1 ⟨rfl, rfl⟩
        go_wp2_with fail
        refine (P3 _).mono ?_
        rintro e w1 ⟨rfl, hb1⟩
        have b1 := b0.trans (hb1.mono b0.size)
        go_wp2
        go_ret2
        exact ⟨rfl, b1⟩
    · rw [show (decide ((0 : Int) ≤ u) && decide (u ≤ n)) = false by simp; omega] at P2
      rw [mSmp_no (fun s _ hc => h2 ⟨hc.1.2.2.1, hc.1.2.2.2.1⟩)]
      clear h1 h2
      go_enter Tryd.func8, Tryd.ntmps8
      go_wp2_with fail
      refine (P1 _).mono ?_
      rintro e w1 ⟨rfl, rfl⟩
      go_wp2_with fail
      refine (P2 _).mono ?_
      rintro e w1 ⟨rfl, rfl⟩
      go_wp2
      go_ret2
      exact ⟨rfl, b0⟩
  · rw [show (decide ((0 : Int) ≤ n) && decide (n ≤ 30)) = false by simp; omega] at P1
    rw [mSmp_no (fun s _ hc => h1 ⟨hc.1.1, hc.1.2.1⟩)]
    clear h1
    go_enter Tryd.func8, Tryd.ntmps8
    go_wp2_with fail
    refine (P1 _).mono ?_
    rintro e w1 ⟨rfl, rfl⟩
    go_wp2
    go_ret2
    exact ⟨rfl, b0⟩
end Go.Proofs.YtjfkkmfbgmejbabDoor
