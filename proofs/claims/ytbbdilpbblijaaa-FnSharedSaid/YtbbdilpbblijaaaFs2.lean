/- The parts add up to the total, and a greater weight never gets less. -/
import Derived.Test.YtbbdilpbblijaaaSo6
namespace Go.Proofs.Ytbbdilpbblijaaa
set_option linter.unusedSimpArgs false
set_option linter.unusedVariables false
/-- The first k parts together. -/
def psum (t : Int) (W : List Int) (O : List Nat) (s k : Nat) : Int := ((List.range k).map (part t W O s)).sum
theorem psum_succ (t : Int) (W : List Int) (O : List Nat) (s k : Nat) : psum t W O s (k + 1) = psum t W O s k + part t W O s k := by
  unfold psum
  rw [List.range_succ, List.map_append, List.sum_append]; simp
theorem psum_bump (t : Int) (W : List Int) {s : Nat} (hs : s < W.length) {q : Nat} (hq : (ordS t W).getD s 0 = q) (k : Nat) :
    psum t W (ordS t W) (s + 1) k = psum t W (ordS t W) s k + if q < k then 1 else 0 := by
  induction k with
  | zero => simp [psum]
  | succ k ih =>
    rw [psum_succ, psum_succ, ih, part_step t W hs hq k]
    by_cases e : k = q
    · subst e
      rw [if_pos rfl, if_neg (by omega), if_pos (by omega)]; omega
    · rw [if_neg e]
      by_cases h : q < k
      · rw [if_pos h, if_pos (by omega)]; omega
      · rw [if_neg h, if_neg (by omega)]; omega
theorem psum_zero (t : Int) (W : List Int) (O : List Nat) (k : Nat) : psum t W O 0 k = bsum t W k := by
  induction k with
  | zero => rfl
  | succ k ih => rw [psum_succ, bsum_succ, ih, part_zero]
theorem psum_all (t : Int) (W : List Int) {s : Nat} (hs : s ≤ W.length) : psum t W (ordS t W) s W.length = bsum t W W.length + s := by
  induction s with
  | zero => rw [psum_zero]; simp
  | succ s ih =>
    have h := ordS_at t W (show s < W.length by omega)
    rw [psum_bump t W (by omega) rfl, ih (by omega), if_pos h.1]; simp; omega
theorem psum_total {t : Int} {W : List Int} (h : wOk t W) (hn : 0 < W.length) : psum t W (ordS t W) (lft t W W.length).toNat W.length = t := by
  have hl := lft_bd h hn
  rw [psum_all t W (by omega)]
  have : ((lft t W W.length).toNat : Int) = lft t W W.length := Int.toNat_of_nonneg hl.1
  rw [this]
  unfold lft; omega
theorem ord_mono {t : Int} {W : List Int} {s i k : Nat} (hi : i < W.length) (hk : k ∈ (ordS t W).take s) (h : rst t W k < rst t W i) : i ∈ (ordS t W).take s := by
  have hm : i ∈ ordS t W := (mem_gfL _ _ _).2 hi
  have hs : (ordS t W).Pairwise fun x y => rst t W y ≤ rst t W x := gfL_sorted (rst t W) W.length
  generalize ordS t W = L at hk hm hs ⊢
  obtain ⟨m, hm1, e1⟩ := List.getElem_of_mem hm
  obtain ⟨j, hj, e2⟩ := List.mem_take_iff_getElem.1 hk
  by_cases q : m < s
  · rw [← e1]
    exact List.mem_take_iff_getElem.2 ⟨m, by omega, rfl⟩
  · exfalso
    have h1 := List.pairwise_iff_getElem.1 hs j m (by omega) hm1 (by omega)
    rw [e1, e2] at h1
    omega
theorem part_mono {t : Int} {W : List Int} (h : wOk t W) {i k : Nat} (hi : i < W.length) (hk : k < W.length) (hw : W.getD k 0 < W.getD i 0) :
    part t W (ordS t W) (lft t W W.length).toNat k ≤ part t W (ordS t W) (lft t W W.length).toNat i := by
  have hlb := lft_bd h (show 0 < W.length by omega)
  have ei := bse_rst t W i
  have ek := bse_rst t W k
  have ri := rst_bd h i
  have rk := rst_bd h k
  have h0 := h
  obtain ⟨t1, t2, _, hW, s1, s2⟩ := h
  have hle : t * W.getD k 0 ≤ t * W.getD i 0 := Int.mul_le_mul_of_nonneg_left (by omega) t1
  have hb : bse t W k ≤ bse t W i := by
    unfold bse
    exact Int.ediv_le_ediv (by omega) hle
  have hp : ∀ x, bse t W x ≤ part t W (ordS t W) (lft t W W.length).toNat x ∧ part t W (ordS t W) (lft t W W.length).toNat x ≤ bse t W x + 1 := fun x => by
    unfold part; split <;> omega
  have pi := hp i
  have pk := hp k
  by_cases q : bse t W k < bse t W i
  · omega
  · have qe : bse t W k = bse t W i := by omega
    by_cases r : rst t W k < rst t W i
    · unfold part
      rw [qe]
      by_cases hm : k ∈ (ordS t W).take (lft t W W.length).toNat
      · rw [if_pos hm, if_pos (ord_mono hi hm r)]; exact Int.le_refl _
      · rw [if_neg hm]; split <;> omega
    · have te : t * W.getD i 0 ≤ t * W.getD k 0 := by rw [← ei, ← ek, qe]; omega
      have t0 : t = 0 := by
        by_cases z : t = 0
        · exact z
        · have : t * W.getD k 0 < t * W.getD i 0 := Int.mul_lt_mul_of_pos_left hw (by omega)
          omega
      have l0 : (lft t W W.length).toNat = 0 := by
        have := lft_mono h0 (Nat.le_refl W.length)
        omega
      rw [l0]
      unfold part
      simp [qe]
theorem partL_len (t : Int) (W : List Int) : (partL t W).length = W.length := by simp [partL]
theorem partL_at (t : Int) (W : List Int) {i : Nat} (h : i < W.length) : (partL t W).getD i 0 = part t W (ordS t W) (lft t W W.length).toNat i := by simp [partL, List.getD, h]
theorem part_near (t : Int) (W : List Int) (O : List Nat) (s i : Nat) : part t W O s i = bse t W i ∨ part t W O s i = bse t W i + 1 := by
  unfold part
  split
  · exact .inr rfl
  · exact .inl (by omega)
end Go.Proofs.Ytbbdilpbblijaaa
