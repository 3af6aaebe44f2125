/- Orders of equal values are equal. -/
import Derived.Test.YtbbdilpbblijaaaGf1
namespace Go.Proofs.Ytbbdilpbblijaaa
theorem gins_congr {v v' : Nat → Int} {i : Nat} {G : List Nat} (h : v i = v' i) (hg : ∀ y ∈ G, v y = v' y) : gins v i G = gins v' i G := by
  induction G with
  | nil => rfl
  | cons y ys ih =>
    unfold gins
    rw [h, hg y (by simp), ih (fun z hz => hg z (by simp [hz]))]
theorem gfL_congr {v v' : Nat → Int} {n : Nat} (h : ∀ k, k < n → v k = v' k) : gfL v n = gfL v' n := by
  induction n with
  | zero => rfl
  | succ n ih =>
    unfold gfL
    rw [ih (fun k hk => h k (by omega))]
    exact gins_congr (h n (by omega)) (fun y hy => h y (by have := (mem_gfL _ _ _).1 hy; omega))
end Go.Proofs.Ytbbdilpbblijaaa
