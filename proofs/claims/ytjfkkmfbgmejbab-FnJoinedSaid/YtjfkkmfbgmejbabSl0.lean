/- Powers modulo a prime: no program in sight. -/
import Derived.Test.YtjfkkmfbgmejbabVo4
namespace Go.Proofs.Ytjfkkmfbgmejbab
/-- What the loop of a power leaves: o times a to the power of e, modulo 1000000007. -/
def pwr (e : Nat) (o a : Int) : Int := if h : e = 0 then o else pwr (e / 2) (if e % 2 = 1 then o * a % 1000000007 else o) (a * a % 1000000007)
termination_by e
decreasing_by omega
theorem pwr_zero (o a : Int) : pwr 0 o a = o := by rw [pwr]; simp
theorem pwr_odd {e : Nat} (h : e % 2 = 1) (o a : Int) : pwr e o a = pwr (e / 2) (o * a % 1000000007) (a * a % 1000000007) := by
  rw [pwr]; rw [dif_neg (by omega), if_pos h]
theorem pwr_even {e : Nat} (h0 : e ≠ 0) (h : ¬ e % 2 = 1) (o a : Int) : pwr e o a = pwr (e / 2) o (a * a % 1000000007) := by
  rw [pwr]; rw [dif_neg h0, if_neg h]
/-- A number below the modulus. -/
def sOk (a : Int) : Prop := 0 ≤ a ∧ a < 1000000007
theorem sOk_mod (a : Int) : sOk (a % 1000000007) := ⟨Int.emod_nonneg _ (by omega), Int.emod_lt_of_pos _ (by omega)⟩
theorem pwr_ok {o : Int} (h : sOk o) (e : Nat) (a : Int) : sOk (pwr e o a) := by
  induction e using Nat.strongRecOn generalizing o a with
  | ind e ih =>
    by_cases h0 : e = 0
    · subst h0; rw [pwr_zero]; exact h
    · by_cases h1 : e % 2 = 1
      · rw [pwr_odd h1]; exact ih _ (by omega) (sOk_mod _) _
      · rw [pwr_even h0 h1]; exact ih _ (by omega) h _
/-- The facts on a product of two numbers below the modulus. -/
theorem tm_facts {a b : Int} (ha : sOk a) (hb : sOk b) : ∃ p r, a * b = p ∧ IntKind.i64.wrap p = p ∧ 0 ≤ p ∧ p < 1000000014000000050 ∧ p.tmod 1000000007 = r ∧ IntKind.i64.wrap r = r ∧ r = a * b % 1000000007 ∧ sOk r := by
  have h0 : 0 ≤ a * b := Int.mul_nonneg ha.1 hb.1
  have h1 : a * b < 1000000014000000050 := by
    have : a * b ≤ 1000000006 * 1000000006 := by
      calc a * b ≤ 1000000006 * b := Int.mul_le_mul_of_nonneg_right (by have := ha.2; omega) hb.1
        _ ≤ 1000000006 * 1000000006 := Int.mul_le_mul_of_nonneg_left (by have := hb.2; omega) (by omega)
    omega
  refine ⟨a * b, a * b % 1000000007, rfl, by rw [IntKind.wrap_i64]; omega, h0, h1, Int.tmod_eq_emod_of_nonneg h0, ?_, rfl, sOk_mod _⟩
  have := sOk_mod (a * b)
  rw [IntKind.wrap_i64]
  obtain ⟨x, y⟩ := this
  omega
/-- A power from the beginning. -/
def pw (a : Int) (e : Nat) : Int := pwr e 1 a
theorem pw_ok (a : Int) (e : Nat) : sOk (pw a e) := pwr_ok ⟨by omega, by omega⟩ e a
/-- The seal of a value with a key. -/
def seal9 (v k : Nat) : Int := pw 4 v * pw 9 k % 1000000007
theorem seal9_ok (v k : Nat) : sOk (seal9 v k) := sOk_mod _
/-- Whether a number is a seal. -/
def isSl (c : Int) : Bool := decide (1 ≤ c) && decide (c ≤ 1000000006) && decide (pw c 500000003 = 1)
theorem isSl_no1 {c : Int} (h : c < 1) : isSl c = false := by simp [isSl]; omega
theorem isSl_no2 {c : Int} (h : 1000000006 < c) : isSl c = false := by simp [isSl]; omega
theorem isSl_mid {c : Int} (h1 : 1 ≤ c) (h2 : c ≤ 1000000006) : isSl c = decide (pw c 500000003 = 1) := by simp [isSl, h1, h2]
/-- Whether a number is an exponent. -/
def isEx (n : Int) : Bool := decide (0 ≤ n) && decide (n ≤ 500000002)
end Go.Proofs.Ytjfkkmfbgmejbab
