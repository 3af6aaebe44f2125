/- Powers modulo a prime: the specification's and the program's. -/
import Derived.Test.YtjfkkmfbgmejbabSl0
import Derived.Deep.LoopGhost
namespace Go.Proofs.Ytjfkkmfbgmejbab
open Go.ChangeShapes Go.WideShapes Go.ChangeAt Go.RowKit Go.Deep
set_option linter.unusedSimpArgs false
set_option linter.unusedVariables false
theorem itimes (a b : Int) (w : World) (ha : sOk a) (hb : sOk b) :
    Calls Try.prog 33 #[.int .i64 a, .int .i64 b] w fun e w' => e = .returned (.int .i64 (a * b % 1000000007)) ∧ w = w' := by
  obtain ⟨p, r, h1, h2, h3, h4, h5, h6, h7, h8⟩ := tm_facts ha hb
  rw [← h7]
  clear h7 h8 ha hb
  go_enter Try.func33, Try.ntmps33
  go_wp2
  go_ret
  simp [h1, h2, h5]
set_option maxHeartbeats 1000000 in
set_option maxRecDepth 100000 in
theorem ipow (a : Int) (e : Nat) (w : World) (ha : sOk a) (he : e ≤ 1000000007) :
    Calls Try.prog 30 #[.int .i64 a, .int .i64 (e : Int)] w fun r w' => r = .returned (.int .i64 (pw a e)) ∧ w = w' := by
  have h1 : sOk 1 := ⟨by omega, by omega⟩
  have HB := Lib.hid h1
  have HA := Lib.hid ha
  clear ha h1
  go_enter Try.func30, Try.ntmps30
  go_wp2
  go_loopg [0, 1, 5] e (fun g u0 u1 u5 wr => ∃ (k : Nat) (x o : Int), k ≤ 1000000007 ∧ g = k ∧ u0 = .int .i64 x ∧ u1 = .int .i64 (k : Int) ∧ u5 = .int .i64 o ∧ w = wr ∧ Hid (sOk x) ∧ Hid (sOk o) ∧ Hid (pwr k o x = pw a e))
  case atStart => exact ⟨e, a, 1, he, rfl, rfl, rfl, rfl, rfl, HA, HB, rfl⟩
  case round =>
    obtain ⟨k, x, o, hk, hg, rfl, rfl, rfl, rfl, HX, HO, HP⟩ := hrel
    have hg' := hg.symm
    subst hg'
    clear hg
    have T1 := fun w' => itimes o x w' HO.out HX.out
    have T2 := fun w' => itimes x x w' HX.out HX.out
    obtain ⟨p, hp⟩ : ∃ p, o * x % 1000000007 = p := ⟨_, rfl⟩
    obtain ⟨q, hq⟩ : ∃ q, x * x % 1000000007 = q := ⟨_, rfl⟩
    rw [hp] at T1
    rw [hq] at T2
    have KP := Lib.hid hp
    have KQ := Lib.hid hq
    clear hp hq
    have d2 : (k : Int) / 2 = ((k / 2 : Nat) : Int) := by omega
    have r2 : (k : Int) % 2 = ((k % 2 : Nat) : Int) := by omega
    obtain ⟨j, hj⟩ : ∃ j, k / 2 = j := ⟨_, rfl⟩
    obtain ⟨m, hm⟩ : ∃ m, k % 2 = m := ⟨_, rfl⟩
    rw [hj] at d2
    rw [hm] at r2
    have KJ := Lib.hid hj
    have KM := Lib.hid hm
    have wj : IntKind.i64.wrap (j : Int) = j := by rw [IntKind.wrap_i64]; omega
    have wm : IntKind.i64.wrap (m : Int) = m := by rw [IntKind.wrap_i64]; omega
    clear hj hm
    by_cases h0 : k = 0
    · subst h0
      clear T1 T2 d2 r2
      go_wp2
      go_ret
      exact ⟨by rw [← HP.out, pwr_zero]; rfl, rfl⟩
    have h0' : (0 : Int) < (k : Int) := by omega
    by_cases hodd : m = 1
    · subst hodd
      go_wp2_with fail
      refine (T1 _).mono ?_
      rintro e1 w1 ⟨rfl, rfl⟩
      go_wp2_with fail
      refine (T2 _).mono ?_
      rintro e1 w1 ⟨rfl, rfl⟩
      go_wp2
      go_roundg j
      case measure => have := KJ.out; omega
      case rel =>
        have e1 := KJ.out
        have e2 := KM.out
        refine ⟨j, q, p, by omega, rfl, rfl, ?_, rfl, rfl, Lib.hid (by rw [← KQ.out]; exact sOk_mod _), Lib.hid (by rw [← KP.out]; exact sOk_mod _), Lib.hid ?_⟩
        · first | rfl | simp
        · rw [← HP.out, pwr_odd e2, KP.out, KQ.out, e1]
    · have hodd' : ¬ (m : Int) = 1 := by omega
      have hodd2 : ((m : Int) == 1) = false := by simp; omega
      clear T1
      go_wp2_with fail
      refine (T2 _).mono ?_
      rintro e1 w1 ⟨rfl, rfl⟩
      go_wp2
      go_roundg j
      case measure => have := KJ.out; omega
      case rel =>
        have e1 := KJ.out
        have e2 := KM.out
        refine ⟨j, q, o, by omega, rfl, rfl, ?_, rfl, rfl, Lib.hid (by rw [← KQ.out]; exact sOk_mod _), HO, Lib.hid ?_⟩
        · first | rfl | simp
        · rw [← HP.out, pwr_even h0 (by omega), KQ.out, e1]
end Go.Proofs.Ytjfkkmfbgmejbab
