/- Powers modulo the prime as powers: no program in sight. -/
import Derived.Test.YtjfkkmfbgmejbabSl0
namespace Go.Proofs.Ytjfkkmfbgmejbab
/-- Equal modulo the prime. -/
def cg (x y : Int) : Prop := x % 1000000007 = y % 1000000007
theorem cg.refl (x : Int) : cg x x := rfl
theorem cg.symm {x y : Int} (h : cg x y) : cg y x := Eq.symm h
theorem cg.trans {x y z : Int} (h : cg x y) (h' : cg y z) : cg x z := Eq.trans h h'
theorem cg.mul {x y z t : Int} (h : cg x y) (h' : cg z t) : cg (x * z) (y * t) := by
  unfold cg at *
  rw [Int.mul_emod, h, h', ← Int.mul_emod]
theorem cg_mod (x : Int) : cg (x % 1000000007) x := Int.emod_emod_of_dvd _ (Int.dvd_refl _)
theorem cg.pow {x y : Int} (h : cg x y) (n : Nat) : cg (x ^ n) (y ^ n) := by
  induction n with
  | zero => rw [Int.pow_zero, Int.pow_zero]; exact cg.refl _
  | succ n ih => rw [Int.pow_succ, Int.pow_succ]; exact ih.mul h
theorem cg_eq {x y : Int} (h : cg x y) (hx : sOk x) (hy : sOk y) : x = y := by
  unfold cg at h
  rw [Int.emod_eq_of_lt hx.1 hx.2, Int.emod_eq_of_lt hy.1 hy.2] at h
  exact h
theorem pow_two_mul (a : Int) (n : Nat) : (a * a) ^ n = a ^ (2 * n) := by
  induction n with
  | zero => simp
  | succ n ih => rw [Int.pow_succ, ih, show 2 * (n + 1) = 2 * n + 1 + 1 by omega, Int.pow_succ, Int.pow_succ, Int.mul_assoc]
theorem pwr_cg (e : Nat) (o a : Int) : cg (pwr e o a) (o * a ^ e) := by
  induction e using Nat.strongRecOn generalizing o a with
  | ind e ih =>
    by_cases h0 : e = 0
    · subst h0; rw [pwr_zero]; simp; exact cg.refl _
    · by_cases h1 : e % 2 = 1
      · rw [pwr_odd h1]
        refine (ih (e / 2) (by omega) _ _).trans ?_
        refine (cg.mul (cg_mod _) ((cg_mod _).pow _)).trans ?_
        rw [pow_two_mul]
        obtain ⟨k, hk⟩ : ∃ k, e / 2 = k := ⟨_, rfl⟩
        rw [hk, show e = 2 * k + 1 by omega, Int.pow_succ, Int.mul_comm (a ^ (2 * k)) a, ← Int.mul_assoc]
        exact cg.refl _
      · rw [pwr_even h0 h1]
        refine (ih (e / 2) (by omega) _ _).trans ?_
        refine (cg.mul (cg.refl o) ((cg_mod _).pow _)).trans ?_
        rw [pow_two_mul]
        obtain ⟨k, hk⟩ : ∃ k, e / 2 = k := ⟨_, rfl⟩
        rw [hk, show e = 2 * k by omega]
        exact cg.refl _
theorem pw_cg (a : Int) (e : Nat) : cg (pw a e) (a ^ e) := by
  have := pwr_cg e 1 a
  rw [Int.one_mul] at this
  exact this
theorem pow_add' (a : Int) (m n : Nat) : a ^ (m + n) = a ^ m * a ^ n := by
  induction n with
  | zero => simp
  | succ n ih => rw [← Nat.add_assoc, Int.pow_succ, ih, Int.pow_succ, Int.mul_assoc]
theorem mul_pow' (a b : Int) (n : Nat) : (a * b) ^ n = a ^ n * b ^ n := by
  induction n with
  | zero => simp
  | succ n ih => rw [Int.pow_succ, ih, Int.pow_succ, Int.pow_succ, Int.mul_assoc, Int.mul_assoc, ← Int.mul_assoc (b ^ n), Int.mul_comm (b ^ n) a, Int.mul_assoc a]
theorem pow_mul' (a : Int) (m n : Nat) : a ^ (m * n) = (a ^ m) ^ n := by
  induction n with
  | zero => simp
  | succ n ih => rw [Nat.mul_succ, pow_add', ih, Int.pow_succ]
theorem one_pow' (n : Nat) : (1 : Int) ^ n = 1 := by
  induction n with
  | zero => rfl
  | succ n ih => rw [Int.pow_succ, ih]; rfl
/-- The power, by a count of steps that the kernel can follow. -/
def pwf : Nat → Nat → Int → Int → Int
  | 0, _, o, _ => o
  | f + 1, e, o, a => if e = 0 then o else pwf f (e / 2) (if e % 2 = 1 then o * a % 1000000007 else o) (a * a % 1000000007)
theorem pwf_eq (f e : Nat) (o a : Int) (h : e < 2 ^ f) : pwf f e o a = pwr e o a := by
  induction f generalizing e o a with
  | zero => have : e = 0 := by simpa using h
            subst this; rw [pwr_zero]; rfl
  | succ f ih =>
    unfold pwf
    by_cases h0 : e = 0
    · subst h0; rw [if_pos rfl, pwr_zero]
    · rw [if_neg h0, ih _ _ _ (by rw [Nat.pow_succ] at h; omega)]
      by_cases h1 : e % 2 = 1
      · rw [pwr_odd h1, if_pos h1]
      · rw [pwr_even h0 h1, if_neg h1]
theorem pw4_q : pw 4 500000003 = 1 := by
  unfold pw
  rw [← pwf_eq 30 _ _ _ (by decide)]
  decide +kernel
theorem pw9_q : pw 9 500000003 = 1 := by
  unfold pw
  rw [← pwf_eq 30 _ _ _ (by decide)]
  decide +kernel
/-- Numbers whose power with the order is 1. -/
def unit9 (x : Int) : Prop := cg (x ^ 500000003) 1
theorem unit_of {x : Int} (h : pw x 500000003 = 1) : unit9 x := by
  have := pw_cg x 500000003
  rw [h] at this
  exact this.symm
theorem unit4 : unit9 4 := unit_of pw4_q
theorem unit_9 : unit9 9 := unit_of pw9_q
theorem unit9.mul {x y : Int} (hx : unit9 x) (hy : unit9 y) : unit9 (x * y) := by
  unfold unit9
  rw [mul_pow']
  exact _root_.Go.Proofs.Ytjfkkmfbgmejbab.cg.mul (z := y ^ 500000003) (t := 1) hx hy
theorem unit9.pow {x : Int} (hx : unit9 x) (n : Nat) : unit9 (x ^ n) := by
  unfold unit9
  rw [← pow_mul', Nat.mul_comm, pow_mul']
  refine (_root_.Go.Proofs.Ytjfkkmfbgmejbab.cg.pow (y := 1) hx n).trans ?_
  rw [one_pow']
  exact cg.refl _
theorem unit9.cg {x y : Int} (hx : unit9 x) (h : cg y x) : unit9 y := (h.pow _).trans hx
theorem unit_sl {x : Int} (h : unit9 x) (hx : sOk x) : isSl x = true := by
  have h1 : pw x 500000003 = 1 := cg_eq ((pw_cg x _).trans h) (pw_ok _ _) ⟨by omega, by omega⟩
  have h0 : x ≠ 0 := by
    rintro rfl
    have : cg ((0 : Int) ^ 500000003) 0 := by
      rw [show 500000003 = 500000002 + 1 from rfl, Int.pow_succ, Int.mul_zero]; exact cg.refl _
    have := this.symm.trans h
    exact absurd this (by unfold cg; decide)
  obtain ⟨a, b⟩ := hx
  simp [isSl, h1]
  omega
theorem sl_unit {x : Int} (h : isSl x = true) : unit9 x ∧ sOk x := by
  simp [isSl] at h
  exact ⟨unit_of h.2, by omega, by omega⟩
/-- The opposite exponent. -/
def neg9 (c : Nat) : Nat := (500000003 - c) % 500000003
theorem neg_inv {x : Int} (hx : unit9 x) {c : Nat} (hc : c ≤ 500000002) : cg (x ^ neg9 c * x ^ c) 1 := by
  rw [← pow_add']
  by_cases h : c = 0
  · subst h; rw [show neg9 0 + 0 = 0 by decide, Int.pow_zero]; exact cg.refl _
  · have : neg9 c + c = 500000003 := by unfold neg9; omega
    rw [this]; exact hx
end Go.Proofs.Ytjfkkmfbgmejbab
