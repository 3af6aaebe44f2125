/- Shares of a whole: the specification's choice of the greatest remainder is the next one of the order. -/
import Derived.Test.YtbbdilpbblijaaaSo4
namespace Go.Proofs.Ytbbdilpbblijaaa
set_option linter.unusedSimpArgs false
set_option linter.unusedVariables false
theorem gins_stable (v : Nat → Int) (i : Nat) (G : List Nat) (h : G.Pairwise fun x y => v y < v x ∨ (v y = v x ∧ x < y)) (hi : ∀ y ∈ G, y < i) : (gins v i G).Pairwise fun x y => v y < v x ∨ (v y = v x ∧ x < y) := by
  induction G with
  | nil => simp [gins]
  | cons y ys ih =>
    rw [List.pairwise_cons] at h
    have hy := hi y (by simp)
    unfold gins
    split
    · rename_i q
      rw [List.pairwise_cons]
      refine ⟨fun z hz => ?_, ih h.2 (fun z hz => hi z (by simp [hz]))⟩
      rcases (mem_gins v i z ys).1 hz with e | e
      · subst e; omega
      · exact h.1 z e
    · rename_i q
      rw [List.pairwise_cons]
      refine ⟨fun z hz => ?_, List.pairwise_cons.2 h⟩
      rcases List.mem_cons.1 hz with e | e
      · subst e; omega
      · have := h.1 z e; omega
theorem gfL_stable (v : Nat → Int) (n : Nat) : (gfL v n).Pairwise fun x y => v y < v x ∨ (v y = v x ∧ x < y) := by
  induction n with
  | zero => simp [gfL]
  | succ n ih => unfold gfL; exact gins_stable v n _ ih (fun y hy => (mem_gfL _ _ _).1 hy)
/-- Among the indices that the first s of the order do not have, the next one is the first with the greatest remainder. -/
theorem ordS_best (t : Int) (W : List Int) {s y : Nat} (hs : s < W.length) (hy : y < W.length) (hn : ¬ y ∈ (ordS t W).take s) :
    rst t W y ≤ rst t W ((ordS t W).getD s 0) ∧ (rst t W y = rst t W ((ordS t W).getD s 0) → (ordS t W).getD s 0 ≤ y) := by
  have hl := ordS_len t W
  have hm : y ∈ ordS t W := (mem_gfL _ _ _).2 hy
  obtain ⟨j, hj, e⟩ := List.getElem_of_mem hm
  have hjs : s ≤ j := by
    by_cases q : s ≤ j
    · exact q
    · exfalso
      apply hn
      rw [← e]
      exact List.mem_take_iff_getElem.2 ⟨j, by omega, rfl⟩
  have es : (ordS t W).getD s 0 = (ordS t W)[s]'(by omega) := by simp [List.getD, hl, hs]
  by_cases q : j = s
  · subst q
    rw [es, e]
    exact ⟨Int.le_refl _, fun _ => Nat.le_refl _⟩
  · have h1 := List.pairwise_iff_getElem.1 (gfL_stable (rst t W) W.length) s j (by rw [gfL_len]; omega) (by rw [gfL_len]; omega) (by omega)
    unfold ordS at e es ⊢
    rw [es, ← e]
    omega
/-- What the look for the best one has found among the first i. -/
def Best (t : Int) (W : List Int) (s i : Nat) (best : Int) : Prop :=
  (best = -1 ∧ ∀ y, y < i → y ∈ (ordS t W).take s) ∨ ∃ b : Nat, best = b ∧ b < i ∧ ¬ b ∈ (ordS t W).take s ∧ ∀ y, y < i → ¬ y ∈ (ordS t W).take s → rst t W y ≤ rst t W b ∧ (rst t W y = rst t W b → b ≤ y)
theorem Best.start (t : Int) (W : List Int) (s : Nat) : Best t W s 0 (-1) := .inl ⟨rfl, fun y hy => absurd hy (Nat.not_lt_zero _)⟩
theorem Best.skip {t : Int} {W : List Int} {s i : Nat} {best : Int} (h : Best t W s i best) (hi : i ∈ (ordS t W).take s) : Best t W s (i + 1) best := by
  rcases h with ⟨e, h⟩ | ⟨b, e, hb, hn, h⟩
  · refine .inl ⟨e, fun y hy => ?_⟩
    by_cases q : y = i
    · subst q; exact hi
    · exact h y (by omega)
  · refine .inr ⟨b, e, by omega, hn, fun y hy hyn => ?_⟩
    by_cases q : y = i
    · subst q; exact absurd hi hyn
    · exact h y (by omega) hyn
theorem Best.first {t : Int} {W : List Int} {s i : Nat} (h : Best t W s i (-1)) (hi : ¬ i ∈ (ordS t W).take s) : Best t W s (i + 1) (i : Int) := by
  rcases h with ⟨e, h⟩ | ⟨b, e, _⟩
  · refine .inr ⟨i, rfl, by omega, hi, fun y hy hyn => ?_⟩
    by_cases q : y = i
    · subst q; exact ⟨Int.le_refl _, fun _ => Nat.le_refl _⟩
    · exact absurd (h y (by omega)) hyn
  · omega
theorem Best.more {t : Int} {W : List Int} {s i b : Nat} (h : Best t W s i (b : Int)) (hi : ¬ i ∈ (ordS t W).take s) (hg : rst t W b < rst t W i) : Best t W s (i + 1) (i : Int) := by
  rcases h with ⟨e, h⟩ | ⟨b', e, hb, hn, h⟩
  · omega
  · obtain rfl : b = b' := by omega
    refine .inr ⟨i, rfl, by omega, hi, fun y hy hyn => ?_⟩
    by_cases q : y = i
    · subst q; exact ⟨Int.le_refl _, fun _ => Nat.le_refl _⟩
    · have := h y (by omega) hyn; omega
theorem Best.less {t : Int} {W : List Int} {s i b : Nat} (h : Best t W s i (b : Int)) (hg : ¬ rst t W b < rst t W i) : Best t W s (i + 1) (b : Int) := by
  rcases h with ⟨e, h⟩ | ⟨b', e, hb, hn, h⟩
  · omega
  · obtain rfl : b = b' := by omega
    refine .inr ⟨b, rfl, by omega, hn, fun y hy hyn => ?_⟩
    by_cases q : y = i
    · subst q; exact ⟨by omega, fun _ => by omega⟩
    · exact h y (by omega) hyn
theorem Best.at {t : Int} {W : List Int} {s i b : Nat} (h : Best t W s i (b : Int)) : b < i := by
  rcases h with ⟨e, h⟩ | ⟨b', e, hb, hn, h⟩ <;> omega
theorem Best.neg {t : Int} {W : List Int} {s i : Nat} {best : Int} (h : Best t W s i best) : best = -1 ∨ ∃ b : Nat, best = b := by
  rcases h with ⟨e, h⟩ | ⟨b', e, hb, hn, h⟩
  · exact .inl e
  · exact .inr ⟨b', e⟩
theorem Best.done {t : Int} {W : List Int} {s : Nat} {best : Int} (h : Best t W s W.length best) (hs : s < W.length) : best = ((ordS t W).getD s 0 : Nat) := by
  obtain ⟨h1, h2⟩ := ordS_at t W hs
  rcases h with ⟨e, h⟩ | ⟨b, e, hb, hn, h⟩
  · exact absurd (h _ h1) h2
  · have a := h _ h1 h2
    have c := ordS_best t W hs hb hn
    have : b = (ordS t W).getD s 0 := by
      have e1 : rst t W ((ordS t W).getD s 0) = rst t W b := by omega
      have := a.2 e1
      have := c.2 e1.symm
      omega
    rw [e, this]
end Go.Proofs.Ytbbdilpbblijaaa
