/- The chance of one more ballot in the sample: no program in sight. -/
import Derived.Test.YtjfkkmfbgmejbabDoorSm3
namespace Go.Proofs.YtjfkkmfbgmejbabDoor
set_option linter.unusedVariables false
def chsX : Bool := (List.range 31).all fun n => (List.range 30).all fun k => decide (chs n (k + 1) * (k + 1) = chs n k * (n - k))
theorem chsX_true : chsX = true := by decide +kernel
theorem chs_exact {n k : Nat} (hn : n ≤ 30) (hk : k < 30) : chs n (k + 1) * (k + 1) = chs n k * (n - k) := by
  have h := chsX_true
  unfold chsX at h
  rw [List.all_eq_true] at h
  have h1 := h n (by simp; omega)
  rw [List.all_eq_true] at h1
  have h2 := h1 k (by simp; omega)
  simpa using h2
theorem r_11 : rN 1 1 = 1 ∧ rD 1 1 = 1 := r_same (by omega) ⟨by omega, by omega, by omega, by omega, by decide⟩ rfl
theorem rk_start {n u : Int} (h : rkIn n u ((0 : Nat) : Int)) : rkN n u ((0 : Nat) : Int) = 1 ∧ rkD n u ((0 : Nat) : Int) = 1 := by
  have a : rkA n u ((0 : Nat) : Int) = 1 := rfl
  have b : rkB9 n ((0 : Nat) : Int) = 1 := rfl
  unfold rkN rkD
  rw [a, b]
  exact r_11
/-- The part of the ballots left that are right. -/
def lft9 (n u k : Nat) : Int := ((n - u - k : Nat) : Int)
theorem rk_next {n u k : Nat} (hn : n ≤ 30) (hu : u ≤ n) (hk : k < n) :
    rN (rkN n u k * rN (lft9 n u k) ((n : Int) - k)) (rkD n u k * rD (lft9 n u k) ((n : Int) - k)) = rkN n u ((k + 1 : Nat) : Int) ∧
    rD (rkN n u k * rN (lft9 n u k) ((n : Int) - k)) (rkD n u k * rD (lft9 n u k) ((n : Int) - k)) = rkD n u ((k + 1 : Nat) : Int) := by
  have i0 : rkIn (n : Int) (u : Int) (k : Int) := by unfold rkIn; omega
  have i1 : rkIn (n : Int) (u : Int) ((k + 1 : Nat) : Int) := by unfold rkIn; omega
  have ok0 := rk_ok i0
  have ok1 := rk_ok i1
  obtain ⟨-, -, B1, -⟩ := rk_bd i0
  obtain ⟨-, -, B1', -⟩ := rk_bd i1
  have c0 : rkN n u k * rkB9 n k = rkA n u k * rkD n u k := r_cross
  have c1 : rkN n u ((k + 1 : Nat) : Int) * rkB9 n ((k + 1 : Nat) : Int) = rkA n u ((k + 1 : Nat) : Int) * rkD n u ((k + 1 : Nat) : Int) := r_cross
  have cp : rN (lft9 n u k) ((n : Int) - k) * ((n : Int) - k) = lft9 n u k * rD (lft9 n u k) ((n : Int) - k) := r_cross
  have pd : 1 ≤ rD (lft9 n u k) ((n : Int) - k) := rD_pos (by omega)
  have xA : rkA n u ((k + 1 : Nat) : Int) * ((k : Int) + 1) = rkA n u k * lft9 n u k := by
    unfold rkA lft9
    have e := chs_exact (n := n - u) (k := k) (by omega) (by omega)
    have t1 : ((n : Int) - (u : Int)).toNat = n - u := by omega
    rw [t1, Int.toNat_natCast, Int.toNat_natCast]
    exact_mod_cast e
  have xB : rkB9 n ((k + 1 : Nat) : Int) * ((k : Int) + 1) = rkB9 n k * ((n : Int) - k) := by
    unfold rkB9
    have e := chs_exact (n := n) (k := k) (by omega) (by omega)
    rw [Int.toNat_natCast, Int.toNat_natCast, Int.toNat_natCast, show (n : Int) - k = ((n - k : Nat) : Int) by omega]
    exact_mod_cast e
  have y1 : 1 ≤ rkD n u k := ok0.1
  generalize rkN n u ((k + 1 : Nat) : Int) = a at *
  generalize rkD n u ((k + 1 : Nat) : Int) = b at *
  generalize rkN n u k = x at *
  generalize rkD n u k = y at *
  generalize rN (lft9 n u k) ((n : Int) - k) = px at *
  generalize rD (lft9 n u k) ((n : Int) - k) = py at *
  generalize rkA n u ((k + 1 : Nat) : Int) = A' at *
  generalize rkB9 n ((k + 1 : Nat) : Int) = B' at *
  generalize rkA n u k = A at *
  generalize rkB9 n k = B at *
  generalize lft9 n u k = L at *
  have hm : 1 ≤ (n : Int) - k := by omega
  generalize (n : Int) - k = m at *
  have hk1 : 1 ≤ (k : Int) + 1 := by omega
  generalize (k : Int) + 1 = q at *
  have hd : y * py ≠ 0 := Int.mul_ne_zero (by omega) (by omega)
  refine r_same hd ok1 ?_
  have key : x * px * b * (B * m * B') = a * (y * py) * (B * m * B') := by
    have l1 : x * px * b * (B * m * B') = (x * B) * (px * m) * (b * B') := by ac_rfl
    have l2 : a * (y * py) * (B * m * B') = (a * B') * (y * py) * (B * m) := by ac_rfl
    rw [l1, l2, c0, cp, c1, ← xB]
    have l3 : A * y * (L * py) * (b * B') = (A * L) * (y * py * b * B') := by ac_rfl
    have l4 : A' * b * (y * py) * (B' * q) = (A' * q) * (y * py * b * B') := by ac_rfl
    rw [l3, l4, xA]
  exact Int.eq_of_mul_eq_mul_right (Int.mul_ne_zero (Int.mul_ne_zero (by omega) (by omega)) (by omega)) key
end Go.Proofs.YtjfkkmfbgmejbabDoor
