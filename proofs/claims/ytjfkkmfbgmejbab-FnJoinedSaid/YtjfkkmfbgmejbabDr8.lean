/- What the laws of the later chapters draw from bytes. -/
import Derived.Test.YtjfkkmfbgmejbabFr1
import Derived.Lib.Hide
import Derived.Deep.OwnRows
import Derived.Deep.LoopGhost
namespace Go.Proofs.Ytjfkkmfbgmejbab
open Go.ChangeShapes Go.WideShapes Go.ChangeAt Go.RowKit Go.Deep
set_option linter.unusedSimpArgs false
set_option linter.unusedVariables false
theorem r8long (a0 a1 : Option Addr) (len0 cap0 len1 cap1 : Nat) (w : World) :
    Calls Try.prog 7 #[.slice a0 len0 cap0, .slice a1 len1 cap1] w fun e w' => e = .returned (.bool (decide (48 < len0) || decide (48 < len1))) ∧ w = w' := by
  by_cases h : 48 < len0
  · have h' : (48 : Int) < (len0 : Int) := by omega
    rw [decide_eq_true h]
    go_enter Try.func7, Try.ntmps7
    go_wp2
    go_ret
    exact ⟨rfl, rfl⟩
  · have h' : ¬ (48 : Int) < (len0 : Int) := by omega
    rw [decide_eq_false h]
    by_cases h1 : 48 < len1
    · have h1' : (48 : Int) < (len1 : Int) := by omega
      rw [decide_eq_true h1]
      go_enter Try.func7, Try.ntmps7
      go_wp2
      go_ret
      exact ⟨rfl, rfl⟩
    · have h1' : ¬ (48 : Int) < (len1 : Int) := by omega
      rw [decide_eq_false h1]
      go_enter Try.func7, Try.ntmps7
      go_wp2
      go_ret
      exact ⟨rfl, rfl⟩
/-- A number below n, or 0. -/
def At8 (n : Int) (w : World) (e : Ending) (w' : World) : Prop := ∃ r : Int, e = .returned (.int .i64 r) ∧ 0 ≤ r ∧ (1 < n → r < n) ∧ (n ≤ 1 → r = 0) ∧ w = w'
theorem r8at (B : Nat) (v : Value) (len : Nat) (k : Nat) (n : Int) (w : World) (hv : ByteV B w v len) (hl : len ≤ 48) (hk : k ≤ 1000) (hn : n ≤ 1000) (hn0 : -1000 ≤ n) :
    Calls Try.prog 8 #[v, .int .i64 (k : Int), .int .i64 n] w (At8 n w) := by
  by_cases h1 : n ≤ 1
  · obtain ⟨a, cap, rfl⟩ := hv.shape
    clear hv
    go_enter Try.func8, Try.ntmps8
    go_wp2
    go_ret
    exact ⟨0, rfl, by omega, fun h => by omega, fun _ => rfl, rfl⟩
  by_cases h2 : len ≤ k
  · have h2' : (len : Int) ≤ (k : Int) := by omega
    obtain ⟨a, cap, rfl⟩ := hv.shape
    clear hv
    go_enter Try.func8, Try.ntmps8
    go_wp2
    go_ret
    exact ⟨0, rfl, by omega, fun h => by omega, fun h => by omega, rfl⟩
  · have h2' : ¬ (len : Int) ≤ (k : Int) := by omega
    rcases hv with ⟨rfl, rfl⟩ | ⟨x, cap, rfl, hx, hc⟩
    · omega
    obtain ⟨c, hc1, hc2, hc3⟩ := hc k (by omega)
    have t1 : c.tmod n = c % n := Int.tmod_eq_emod_of_nonneg hc2
    have r0 := Int.emod_nonneg c (show n ≠ 0 by omega)
    have r1 := Int.emod_lt_of_pos c (show 0 < n by omega)
    obtain ⟨r, hr⟩ : ∃ r, c % n = r := ⟨_, rfl⟩
    rw [hr] at t1 r0 r1
    have wc : IntKind.i64.wrap c = c := by rw [IntKind.wrap_i64]; omega
    have wr : IntKind.i64.wrap r = r := by rw [IntKind.wrap_i64]; omega
    have hn' : n ≠ 0 := by omega
    clear hc
    go_enter Try.func8, Try.ntmps8
    go_wp2
    go_ret
    exact ⟨r, by first | rfl | simp [t1, wc, wr, hr], r0, fun _ => r1, fun h => by omega, rfl⟩
end Go.Proofs.Ytjfkkmfbgmejbab
