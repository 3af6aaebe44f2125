/- How many sets of so many elements there are: both sides' loops. -/
import Derived.Test.YtjfkkmfbgmejbabDoorMth
import Derived.Test.YtjfkkmfbgmejbabDoorLFrac
import Derived.Lib.Hide
import Derived.Deep.OwnRows
import Derived.Deep.LoopGhost
namespace Go.Proofs.YtjfkkmfbgmejbabDoor
open Go.ChangeShapes Go.WideShapes Go.ChangeAt Go.RowKit Go.Deep
set_option linter.unusedSimpArgs false
set_option linter.unusedVariables false
/-- The sets of k of n elements, as a loop counts them. -/
def chs (n : Nat) : Nat → Nat
  | 0 => 1
  | k + 1 => chs n k * (n - k) / (k + 1)
def chsOk : Bool := (List.range 31).all fun n => (List.range 31).all fun k => decide (chs n k ≤ 155117520) && (decide (n < k) || decide (1 ≤ chs n k)) && (decide (k ≤ n) || decide (chs n k = 0))
theorem chsOk_true : chsOk = true := by decide +kernel
theorem chs_all {n k : Nat} (hn : n ≤ 30) (hk : k ≤ 30) : chs n k ≤ 155117520 ∧ (k ≤ n → 1 ≤ chs n k) ∧ (n < k → chs n k = 0) := by
  have h := chsOk_true
  unfold chsOk at h
  rw [List.all_eq_true] at h
  have h1 := h n (by simp; omega)
  rw [List.all_eq_true] at h1
  have h2 := h1 k (by simp; omega)
  simp only [Bool.and_eq_true, Bool.or_eq_true, decide_eq_true_eq] at h2
  obtain ⟨⟨a, b⟩, c⟩ := h2
  exact ⟨a, fun q => by omega, fun q => by omega⟩
/-- One step of the count, with the facts that a walk wants. -/
theorem chs_step {n k : Nat} (hn : n ≤ 30) (hk : k < 30) : ∃ (m p : Int), (n : Int) - k = m ∧ IntKind.i64.wrap m = m ∧ (chs n k : Int) * m = p ∧ IntKind.i64.wrap p = p ∧ 0 ≤ p ∧ p.tdiv ((k : Int) + 1) = (chs n (k + 1) : Int) ∧ p / ((k : Int) + 1) = (chs n (k + 1) : Int) ∧ IntKind.i64.wrap (chs n (k + 1) : Int) = (chs n (k + 1) : Int) := by
  obtain ⟨c1, c2, c3⟩ := chs_all hn (show k ≤ 30 by omega)
  obtain ⟨d1, -, -⟩ := chs_all hn (show k + 1 ≤ 30 by omega)
  have hp : (chs n k : Int) * ((n : Int) - k) = ((chs n k * (n - k) : Nat) : Int) := by
    by_cases h : k ≤ n
    · rw [Int.natCast_mul]; congr 1; omega
    · rw [c3 (by omega)]; simp
  have hb : chs n k * (n - k) ≤ 155117520 * 30 := Nat.mul_le_mul c1 (by omega)
  have hd : ((chs n k * (n - k) : Nat) : Int) / ((k : Int) + 1) = (chs n (k + 1) : Int) := by
    show _ = ((chs n k * (n - k) / (k + 1) : Nat) : Int)
    rw [Int.natCast_ediv]; rfl
  refine ⟨_, _, rfl, by rw [IntKind.wrap_i64]; omega, hp, by rw [IntKind.wrap_i64]; omega, by omega, ?_, hd, by rw [IntKind.wrap_i64]; omega⟩
  rw [Int.tdiv_eq_ediv_of_nonneg (by omega)]
  exact hd
set_option maxHeartbeats 1000000 in
theorem isets (k n : Nat) (w : World) (hn : n ≤ 30) (hk : k ≤ 30) :
    Calls Tryd.prog 55 #[.int .i64 (k : Int), .int .i64 (n : Int)] w fun e w' => e = .returned (.int .i64 (chs n k : Int)) ∧ w = w' := by
  go_enter Tryd.func55, Tryd.ntmps55
  go_wp2
  go_loopg [5, 8] k (fun g s i wr => ∃ (j : Nat) (z : Int), j ≤ k ∧ g = k - j ∧ s = .int .i64 z ∧ i = .int .i64 (j : Int) ∧ w = wr ∧ Hid ((chs n j : Int) = z))
  case atStart => exact ⟨0, 1, Nat.zero_le _, rfl, rfl, rfl, rfl, rfl⟩
  case round =>
    obtain ⟨j, z, hj, rfl, rfl, rfl, rfl, HZ⟩ := hrel
    by_cases hlt : j < k
    · obtain ⟨m, p, f1, f2, f3, f4, f5, f6, f7, f8⟩ := chs_step hn (show j < 30 by omega)
      rw [HZ.out] at f3
      obtain ⟨q, hq⟩ : ∃ q, (chs n (j + 1) : Int) = q := ⟨_, rfl⟩
      rw [hq] at f6 f7 f8
      have HQ := Lib.hid hq
      have wj : IntKind.i64.wrap ((j : Int) + 1) = (j : Int) + 1 := by rw [IntKind.wrap_i64]; omega
      have jne : (j : Int) + 1 ≠ 0 := by omega
      clear hq
      go_wp2
      go_roundg (k - (j + 1))
      case measure => omega
      case rel => exact ⟨j + 1, q, by omega, rfl, by first | rfl | simp [f1, f2, f3, f4, f6, f7, f8], by simp, rfl, HQ⟩
    · have e' : j = k := by omega
      subst e'
      go_wp2
      go_ret
      exact ⟨by rw [HZ.out]; rfl, rfl⟩
set_option maxHeartbeats 1000000 in
theorem schoose (n k : Nat) (w : World) (hn : n ≤ 30) (hk : k ≤ 30) :
    Calls Tryd.prog 86 #[.int .i64 (n : Int), .int .i64 (k : Int)] w fun e w' => e = .returned (.int .i64 (chs n k : Int)) ∧ w = w' := by
  by_cases hkn : n < k
  · rw [(chs_all hn hk).2.2 hkn]
    have h' : (n : Int) < (k : Int) := by omega
    go_enter Tryd.func86, Tryd.ntmps86
    go_wp2
    go_ret
    exact ⟨rfl, rfl⟩
  have h' : ¬ (n : Int) < (k : Int) := by omega
  go_enter Tryd.func86, Tryd.ntmps86
  go_wp2
  go_loopg [5, 6] k (fun g s i wr => ∃ (j : Nat) (z : Int), j ≤ k ∧ g = k - j ∧ s = .int .i64 z ∧ i = .int .i64 (j : Int) ∧ w = wr ∧ Hid ((chs n j : Int) = z))
  case atStart => exact ⟨0, 1, Nat.zero_le _, rfl, rfl, rfl, rfl, rfl⟩
  case round =>
    obtain ⟨j, z, hj, rfl, rfl, rfl, rfl, HZ⟩ := hrel
    by_cases hlt : j < k
    · obtain ⟨m, p, f1, f2, f3, f4, f5, f6, f7, f8⟩ := chs_step hn (show j < 30 by omega)
      rw [HZ.out] at f3
      obtain ⟨q, hq⟩ : ∃ q, (chs n (j + 1) : Int) = q := ⟨_, rfl⟩
      rw [hq] at f6 f7 f8
      have HQ := Lib.hid hq
      have wj : IntKind.i64.wrap ((j : Int) + 1) = (j : Int) + 1 := by rw [IntKind.wrap_i64]; omega
      have jne : (j : Int) + 1 ≠ 0 := by omega
      clear hq
      go_wp2
      go_roundg (k - (j + 1))
      case measure => omega
      case rel => exact ⟨j + 1, q, by omega, rfl, by first | rfl | simp [f1, f2, f3, f4, f6, f7, f8], by simp, rfl, HQ⟩
    · have e' : j = k := by omega
      subst e'
      go_wp2
      go_ret
      exact ⟨by rw [HZ.out]; rfl, rfl⟩
end Go.Proofs.YtjfkkmfbgmejbabDoor
