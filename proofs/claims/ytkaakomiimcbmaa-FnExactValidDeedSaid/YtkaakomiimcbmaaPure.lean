/- Plain lemmas on numbers: no program in sight. -/
import Derived.WalkKit
namespace Go.Proofs.Ytkaakomiimcbmaa
theorem gcd_tm (m n : Int) : Int.gcd n (m.tmod n) = Int.gcd m n := by
  show Nat.gcd n.natAbs (m.tmod n).natAbs = Nat.gcd m.natAbs n.natAbs
  rw [Int.natAbs_tmod, Nat.gcd_comm n.natAbs, ← Nat.gcd_rec, Nat.gcd_comm]
theorem gcd_em (m n : Int) (h : 0 ≤ m) : Int.gcd n (m % n) = Int.gcd m n := by
  rw [← Int.tmod_eq_emod_of_nonneg h, gcd_tm]
theorem tm_lt (m n : Int) (h : n ≠ 0) : (m.tmod n).natAbs < n.natAbs := by
  rw [Int.natAbs_tmod]
  exact Nat.mod_lt _ (by omega)
theorem gcd_zr (m : Int) : (Int.gcd m 0 : Int) = m.natAbs := by simp
def inB (n a b : Int) : Bool := decide (a ≤ n) && decide (n ≤ b)
theorem inB_yes {n a b : Int} (h1 : a ≤ n) (h2 : n ≤ b) : inB n a b = true := by simp [inB, h1, h2]
theorem inB_no {n a b : Int} (h : ¬ (a ≤ n ∧ n ≤ b)) : inB n a b = false := by simp [inB]; omega
/-- A fraction's terms are valid. -/
def okF (n d : Int) : Prop := 1 ≤ d ∧ d ≤ 1000000000 ∧ -1000000000 ≤ n ∧ n ≤ 1000000000 ∧ Int.gcd n d = 1
theorem okF_dec (n d : Int) : okF n d ∨ ¬ okF n d := Classical.em _
noncomputable def okB (n d : Int) : Bool := @decide (okF n d) (Classical.propDecidable _)
theorem okB_yes {n d : Int} (h : okF n d) : okB n d = true := by simp [okB, h]
theorem okB_no {n d : Int} (h : ¬ okF n d) : okB n d = false := by simp [okB, h]
theorem natAbs_gcd (n d : Int) : Int.gcd (n.natAbs : Int) d = Int.gcd n d := by
  show Nat.gcd _ _ = Nat.gcd _ _
  simp
theorem ret_bool {a b : Bool} (h : a = b) : Ending.returned (.bool a) = .returned (.bool b) := by rw [h]
theorem ret_int {k : IntKind} {a b : Int} (h : a = b) : Ending.returned (.int k a) = .returned (.int k b) := by rw [h]
end Go.Proofs.Ytkaakomiimcbmaa
