/- A rising list has few numbers. -/
import Derived.Test.YtcoelccmfljlhaaPo3
namespace Go.Proofs.Ytcoelccmfljlhaa
set_option linter.unusedSimpArgs false
set_option linter.unusedVariables false
theorem ris_room {A : List Int} {P : Int} (h : ris A 0 (P - 1)) (hP : P ≤ 7) : A.length ≤ 7 := by
  have key : ∀ k, k < A.length → (k : Int) ≤ A.getD k 0 := by
    intro k
    induction k with
    | zero => intro hk; exact (h 0 hk).1
    | succ k ih =>
      intro hk
      have h1 := ih (by omega)
      have h2 := (h (k + 1) hk).2.2 (by omega)
      simp only [Nat.add_sub_cancel] at h2
      omega
  rcases Nat.eq_zero_or_pos A.length with h0 | h0
  · omega
  · have h1 := key (A.length - 1) (by omega)
    have h2 := (h (A.length - 1) (by omega)).2.1
    omega
end Go.Proofs.Ytcoelccmfljlhaa
