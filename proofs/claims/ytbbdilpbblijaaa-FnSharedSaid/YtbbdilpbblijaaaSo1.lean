/- Shares of a whole: the numbers. -/
import Derived.Test.YtbbdilpbblijaaaGf1
namespace Go.Proofs.Ytbbdilpbblijaaa
set_option linter.unusedSimpArgs false
set_option linter.unusedVariables false
/-- The sum of the first k weights. -/
def wsum (W : List Int) (k : Nat) : Int := (W.take k).sum
theorem wsum_succ (W : List Int) (k : Nat) (h : k < W.length) : wsum W (k + 1) = wsum W k + W.getD k 0 := by
  unfold wsum
  rw [List.take_add_one, List.getElem?_eq_getElem h, List.sum_append]
  simp [List.getD, h]
/-- Weight i's part rounded down, and what remains. -/
def bse (t : Int) (W : List Int) (i : Nat) : Int := t * W.getD i 0 / wsum W W.length
def rst (t : Int) (W : List Int) (i : Nat) : Int := t * W.getD i 0 % wsum W W.length
def bsum (t : Int) (W : List Int) (k : Nat) : Int := ((List.range k).map (bse t W)).sum
theorem bsum_succ (t : Int) (W : List Int) (k : Nat) : bsum t W (k + 1) = bsum t W k + bse t W k := by
  unfold bsum
  rw [List.range_succ, List.map_append, List.sum_append]; simp
/-- What the weights and the total must be. -/
def wOk (t : Int) (W : List Int) : Prop := 0 ≤ t ∧ t ≤ 1000000000 ∧ W.length ≤ 20 ∧ (∀ k, k < W.length → 0 ≤ W.getD k 0 ∧ W.getD k 0 ≤ 1000000000) ∧ 1 ≤ wsum W W.length ∧ wsum W W.length ≤ 1000000000
theorem wsum_bd {W : List Int} (h : ∀ k, k < W.length → 0 ≤ W.getD k 0 ∧ W.getD k 0 ≤ 1000000000) {k : Nat} (hk : k ≤ W.length) : 0 ≤ wsum W k ∧ wsum W k ≤ 1000000000 * k := by
  induction k with
  | zero => simp [wsum]
  | succ k ih =>
    have a := ih (by omega)
    have b := h k (by omega)
    rw [wsum_succ W k (by omega)]
    omega
theorem prod_bd {t x : Int} (h1 : 0 ≤ t) (h2 : t ≤ 1000000000) (h3 : 0 ≤ x) (h4 : x ≤ 1000000000) : 0 ≤ t * x ∧ t * x ≤ 1000000000000000000 := by
  constructor
  · exact Int.mul_nonneg h1 h3
  · calc t * x ≤ 1000000000 * x := Int.mul_le_mul_of_nonneg_right h2 h3
      _ ≤ 1000000000 * 1000000000 := Int.mul_le_mul_of_nonneg_left h4 (by omega)
      _ = 1000000000000000000 := by decide
theorem bse_rst (t : Int) (W : List Int) (i : Nat) : bse t W i * wsum W W.length + rst t W i = t * W.getD i 0 := by
  unfold bse rst
  have := Int.mul_ediv_add_emod (t * W.getD i 0) (wsum W W.length)
  rw [Int.mul_comm]; exact this
theorem rst_bd {t : Int} {W : List Int} (h : wOk t W) (i : Nat) : 0 ≤ rst t W i ∧ rst t W i < wsum W W.length := by
  obtain ⟨_, _, _, _, h5, _⟩ := h
  unfold rst
  exact ⟨Int.emod_nonneg _ (by omega), Int.emod_lt_of_pos _ (by omega)⟩
theorem bse_bd {t : Int} {W : List Int} (h : wOk t W) {i : Nat} (hi : i < W.length) : 0 ≤ bse t W i ∧ bse t W i ≤ 1000000000000000000 := by
  obtain ⟨h1, h2, _, h4, h5, _⟩ := h
  obtain ⟨a, b⟩ := h4 i hi
  have p := prod_bd h1 h2 a b
  unfold bse
  constructor
  · exact Int.ediv_nonneg p.1 (by omega)
  · have := Int.ediv_le_self (wsum W W.length) p.1; omega
/-- The remainders of the first k weights together. -/
def rsum (t : Int) (W : List Int) (k : Nat) : Int := ((List.range k).map (rst t W)).sum
theorem rsum_succ (t : Int) (W : List Int) (k : Nat) : rsum t W (k + 1) = rsum t W k + rst t W k := by
  unfold rsum
  rw [List.range_succ, List.map_append, List.sum_append]; simp
theorem sums_eq (t : Int) (W : List Int) {k : Nat} (hk : k ≤ W.length) : bsum t W k * wsum W W.length + rsum t W k = t * wsum W k := by
  induction k with
  | zero => simp [bsum, rsum, wsum]
  | succ k ih =>
    have a := ih (by omega)
    have b := bse_rst t W k
    rw [bsum_succ, rsum_succ, wsum_succ W k (by omega), Int.mul_add, Int.add_mul]
    omega
theorem rsum_bd {t : Int} {W : List Int} (h : wOk t W) (k : Nat) : 0 ≤ rsum t W k ∧ rsum t W k ≤ k * (wsum W W.length - 1) := by
  induction k with
  | zero => simp [rsum]
  | succ k ih =>
    have a := rst_bd h k
    rw [rsum_succ]
    have e : ((k + 1 : Nat) : Int) * (wsum W W.length - 1) = k * (wsum W W.length - 1) + (wsum W W.length - 1) := by
      rw [Int.natCast_add, Int.add_mul]; simp
    rw [e]
    omega
/-- What is left to give out in ones: fewer than there are weights. -/
def lft (t : Int) (W : List Int) (k : Nat) : Int := t - bsum t W k
theorem lft_bd {t : Int} {W : List Int} (h : wOk t W) (hn : 0 < W.length) : 0 ≤ lft t W W.length ∧ lft t W W.length < W.length := by
  have a := sums_eq t W (Nat.le_refl W.length)
  have b := rsum_bd h W.length
  obtain ⟨h1, h2, _, _, h5, _⟩ := h
  unfold lft
  generalize wsum W W.length = S at a b h5
  generalize bsum t W W.length = B at a
  generalize rsum t W W.length = R at a b
  have e : (t - B) * S = R := by rw [Int.sub_mul]; omega
  have nS : (W.length : Int) * (S - 1) < W.length * S := by
    rw [Int.mul_sub]; omega
  constructor
  · by_cases q : 0 ≤ t - B
    · exact q
    · have : (t - B) * S < 0 := Int.mul_neg_of_neg_of_pos (by omega) (by omega)
      omega
  · by_cases q : t - B < W.length
    · exact q
    · have : (W.length : Int) * S ≤ (t - B) * S := Int.mul_le_mul_of_nonneg_right (by omega) (by omega)
      omega
theorem lft_mono {t : Int} {W : List Int} (h : wOk t W) {k : Nat} (hk : k ≤ W.length) : lft t W k ≤ t := by
  have : 0 ≤ bsum t W k := by
    induction k with
    | zero => simp [bsum]
    | succ k ih =>
      have a := ih (by omega)
      have b := bse_bd h (show k < W.length by omega)
      rw [bsum_succ]; omega
  unfold lft; omega
theorem bsum_mono {t : Int} {W : List Int} (h : wOk t W) {k n : Nat} (hk : k ≤ n) (hn : n ≤ W.length) : bsum t W k ≤ bsum t W n := by
  induction n with
  | zero => have e : k = 0 := by omega
            subst e; exact Int.le_refl _
  | succ n ih =>
    by_cases e : k = n + 1
    · subst e; exact Int.le_refl _
    · have a := ih (by omega) (by omega)
      have b := bse_bd h (show n < W.length by omega)
      rw [bsum_succ]; omega
theorem lft_pos {t : Int} {W : List Int} (h : wOk t W) (hn : 0 < W.length) {k : Nat} (hk : k ≤ W.length) : 0 ≤ lft t W k := by
  have a := bsum_mono h hk (Nat.le_refl _)
  have b := lft_bd h hn
  unfold lft at b ⊢; omega
/-- The parts when the first s of the order have got one more. -/
def part (t : Int) (W : List Int) (O : List Nat) (s i : Nat) : Int := bse t W i + if i ∈ O.take s then 1 else 0
def ordS (t : Int) (W : List Int) : List Nat := gfL (rst t W) W.length
def partL (t : Int) (W : List Int) : List Int := (List.range W.length).map (part t W (ordS t W) (lft t W W.length).toNat)
end Go.Proofs.Ytbbdilpbblijaaa
