/- The condition on a bit, as the specification and as the program has it: no program in sight. -/
import Derived.Test.YtjfkkmfbgmejbaaNt1
namespace Go.Proofs.Ytjfkkmfbgmejbaa
/-- The seal without its value. -/
def wo9 (s : Int) (i : Nat) : Int := if i = 0 then s else s * pw 4 500000002 % 1000000007
/-- The mark that the program asks for. -/
def mk9 (s : Int) (i c a : Nat) : Int := (pw 4 (i * c % 500000003) * pw 9 a % 1000000007) * pw s (neg9 c) % 1000000007
theorem mk9_ok (s : Int) (i c a : Nat) : sOk (mk9 s i c a) := sOk_mod _
theorem wo9_ok {s : Int} (h : sOk s) (i : Nat) : sOk (wo9 s i) := by
  unfold wo9
  split
  · exact h
  · exact sOk_mod _
theorem four_pow : cg (4 ^ 500000002 * 4) 1 := by
  have : (4 : Int) ^ 500000002 * 4 = 4 ^ 500000003 := (Int.pow_succ 4 500000002).symm
  rw [this]
  exact unit4
theorem wo9_unit {s : Int} (h : unit9 s) (i : Nat) : unit9 (wo9 s i) := by
  unfold wo9
  split
  · exact h
  · exact (h.mul (unit4.pow 500000002)).cg ((cg_mod _).trans (cg.mul (cg.refl _) (pw_cg _ _)))
/-- The seal is its value times the seal without it. -/
theorem wo9_back {s : Int} (i : Nat) (hi : i ≤ 1) : cg (4 ^ i * wo9 s i) s := by
  unfold wo9
  by_cases h : i = 0
  · subst h; simp; exact cg.refl _
  · obtain rfl : i = 1 := by omega
    rw [if_neg h]
    have e : (4 : Int) ^ 1 = 4 := by simp
    rw [e]
    refine (cg.mul (cg.refl 4) ((cg_mod _).trans (cg.mul (cg.refl s) (pw_cg 4 500000002)))).trans ?_
    have e2 : 4 * (s * 4 ^ 500000002) = s * (4 ^ 500000002 * 4) := by
      rw [Int.mul_comm 4, Int.mul_assoc]
    rw [e2]
    refine (cg.mul (cg.refl s) four_pow).trans ?_
    rw [Int.mul_one]
    exact cg.refl _
theorem cut_pow {x : Int} (hx : unit9 x) (n : Nat) : cg (x ^ (n % 500000003)) (x ^ n) := by
  have e : n = 500000003 * (n / 500000003) + n % 500000003 := by omega
  generalize n % 500000003 = r at e ⊢
  generalize n / 500000003 = k at e
  rw [e, pow_add', pow_mul']
  refine cg.symm ?_
  have h1 : cg ((x ^ 500000003) ^ k) (1 ^ k) := cg.pow hx k
  rw [one_pow'] at h1
  refine (cg.mul h1 (cg.refl _)).trans ?_
  rw [Int.one_mul]
  exact cg.refl _
theorem mk9_cg (s : Int) (i c a : Nat) : cg (mk9 s i c a) (4 ^ (i * c) * 9 ^ a * s ^ neg9 c) := by
  unfold mk9
  refine (cg_mod _).trans (cg.mul ((cg_mod _).trans (cg.mul ((pw_cg _ _).trans (cut_pow unit4 _)) (pw_cg _ _))) (pw_cg _ _))
theorem mk9_unit {s : Int} (h : unit9 s) (i c a : Nat) : unit9 (mk9 s i c a) :=
  (((unit4.pow _).mul (unit_9.pow _)).mul (h.pow _)).cg (mk9_cg s i c a)
/-- The mark that the program asks for meets the specification's condition. -/
theorem mk9_cond {s : Int} (h : unit9 s) (i : Nat) (hi : i ≤ 1) {c : Nat} (hc : c ≤ 500000002) (a : Nat) : cg (mk9 s i c a * wo9 s i ^ c) (9 ^ a) := by
  refine (cg.mul (mk9_cg s i c a) (cg.refl _)).trans ?_
  have e : (4 : Int) ^ (i * c) * 9 ^ a * s ^ neg9 c * wo9 s i ^ c = 9 ^ a * (s ^ neg9 c * (4 ^ i * wo9 s i) ^ c) := by
    rw [mul_pow', pow_mul', Int.mul_comm ((4 ^ i) ^ c) (9 ^ a), Int.mul_assoc, Int.mul_assoc]
    exact congrArg (fun z => 9 ^ a * z) (Int.mul_left_comm _ _ _)
  rw [e]
  have h2 : cg (s ^ neg9 c * (4 ^ i * wo9 s i) ^ c) 1 := (cg.mul (cg.refl _) ((wo9_back i hi).pow c)).trans (neg_inv h hc)
  refine (cg.mul (cg.refl _) h2).trans ?_
  rw [Int.mul_one]
  exact cg.refl _
theorem cancel9 {x y t : Int} (ht : unit9 t) {c : Nat} (hc : c ≤ 500000002) (h : cg (x * t ^ c) (y * t ^ c)) : cg x y := by
  have h1 := neg_inv ht hc
  have hx : ∀ z : Int, cg (z * t ^ c * t ^ neg9 c) z := fun z => by
    rw [Int.mul_assoc, Int.mul_comm (t ^ c)]
    refine (cg.mul (cg.refl z) h1).trans ?_
    rw [Int.mul_one]; exact cg.refl _
  exact (hx x).symm.trans ((cg.mul h (cg.refl _)).trans (hx y))
/-- A number below the modulus meets the condition exactly if it is this mark. -/
theorem bit9_iff {s m : Int} (h : isSl s = true) (hm : sOk m) (i : Nat) (hi : i ≤ 1) {c : Nat} (hc : c ≤ 500000002) (a : Nat) :
    (pw 9 a = m * pw (wo9 s i) c % 1000000007) ↔ m = mk9 s i c a := by
  obtain ⟨hu, hs⟩ := sl_unit h
  have key := mk9_cond hu i hi hc a
  constructor
  · intro e
    have h1 : cg (m * wo9 s i ^ c) (9 ^ a) := by
      refine cg.symm ?_
      refine (pw_cg 9 a).symm.trans ?_
      rw [e]
      exact (cg_mod _).trans (cg.mul (cg.refl _) (pw_cg _ _))
    exact cg_eq (cancel9 (wo9_unit hu i) hc (h1.trans key.symm)) hm (mk9_ok _ _ _ _)
  · rintro rfl
    refine cg_eq ?_ (pw_ok _ _) (sOk_mod _)
    refine (pw_cg 9 a).trans (key.symm.trans ?_)
    exact (cg.mul (cg.refl _) (pw_cg _ _).symm).trans (cg_mod _).symm
theorem mk9_sl {s : Int} (h : isSl s = true) (i c a : Nat) : isSl (mk9 s i c a) = true := unit_sl (mk9_unit (sl_unit h).1 i c a) (mk9_ok _ _ _ _)
end Go.Proofs.Ytjfkkmfbgmejbaa
