/- Sets of small numbers as bits: pure. -/
import Derived.Laws.BitsAllLaws
namespace Go.Proofs.YtllfopbpchjhpaaDoor
set_option linter.unusedSimpArgs false
set_option linter.unusedVariables false
/-- The set of the numbers below n with p, as bits. -/
def those : Nat → (Nat → Bool) → Nat
  | 0, _ => 0
  | n + 1, p => if p n then those n p ||| 2 ^ n else those n p
theorem bit_two (n i : Nat) : (2 ^ n).testBit i = decide (n = i) := by rw [Nat.testBit_two_pow]
theorem those_bit (n : Nat) (p : Nat → Bool) (i : Nat) : (those n p).testBit i = (decide (i < n) && p i) := by
  induction n with
  | zero => simp [those]
  | succ n ih =>
    unfold those
    by_cases h : p n = true
    · rw [if_pos h, Nat.testBit_or, ih, bit_two]
      by_cases e : n = i
      · subst e; simp [h]
      · have e1 : decide (n = i) = false := by simpa using e
        rw [e1]
        by_cases q : i < n
        · have : i < n + 1 := by omega
          simp [q, this]
        · have : ¬ i < n + 1 := by omega
          simp [q, this]
    · rw [if_neg h, ih]
      by_cases e : n = i
      · subst e; simp [h]
      · by_cases q : i < n
        · have : i < n + 1 := by omega
          simp [q, this]
        · have : ¬ i < n + 1 := by omega
          simp [q, this]
theorem bits_ext {a b : Nat} (h : ∀ i, a.testBit i = b.testBit i) : a = b := Nat.eq_of_testBit_eq h
theorem lt_of_bits {a n : Nat} (h : ∀ i, a.testBit i = true → i < n) : a < 2 ^ n := by
  apply Nat.lt_pow_two_of_testBit
  intro i hi
  cases e : a.testBit i with
  | false => rfl
  | true => have := h i e; omega
theorem bits_lt {a n i : Nat} (h : a < 2 ^ n) (hb : a.testBit i = true) : i < n := by
  apply Nat.lt_of_not_le
  intro hle
  rw [Nat.testBit_lt_two_pow (Nat.lt_of_lt_of_le h (Nat.pow_le_pow_right (by omega) hle))] at hb
  cases hb
theorem those_lt (n : Nat) (p : Nat → Bool) : those n p < 2 ^ n := lt_of_bits (fun i hi => by rw [those_bit] at hi; simp at hi; exact hi.1)
theorem bits_zero {a : Nat} : a = 0 ↔ ∀ i, a.testBit i = false := ⟨fun h i => by subst h; simp, fun h => bits_ext (fun i => by rw [h]; simp)⟩
/-- A set that is and-ed is empty exactly if no number is in both. -/
theorem and_zero {a b : Nat} : a &&& b = 0 ↔ ∀ i, a.testBit i = true → b.testBit i = false := by
  rw [bits_zero]
  constructor
  · intro h i hi
    have := h i
    rw [Nat.testBit_and, hi] at this
    simpa using this
  · intro h i
    rw [Nat.testBit_and]
    cases e : a.testBit i with
    | false => rfl
    | true => rw [h i e]; rfl
theorem mask_bit (n b i : Nat) (hb : b < 2 ^ n) : (2 ^ n - 1 - b).testBit i = (decide (i < n) && !b.testBit i) := by
  have := Nat.testBit_two_pow_sub_succ hb i
  rw [← this]
  congr 1
  omega
theorem all_bit (n i : Nat) : (2 ^ n - 1).testBit i = decide (i < n) := Nat.testBit_two_pow_sub_one n i
theorem shr_bit (a n : Nat) : a / 2 ^ n % 2 = (a.testBit n).toNat := by
  rw [Nat.testBit_eq_decide_div_mod_eq]
  have : a / 2 ^ n % 2 = 0 ∨ a / 2 ^ n % 2 = 1 := by omega
  rcases this with h | h <;> simp [h]
theorem or_lt {a b n : Nat} (ha : a < 2 ^ n) (hb : b < 2 ^ n) : a ||| b < 2 ^ n := Nat.or_lt_two_pow ha hb
theorem and_lt {a b n : Nat} (ha : a < 2 ^ n) : a &&& b < 2 ^ n := Nat.lt_of_le_of_lt Nat.and_le_left ha
end Go.Proofs.YtllfopbpchjhpaaDoor
