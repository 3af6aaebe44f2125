/- Indices by decreasing values: insertion from the right, as a list. -/
import Derived.Test.YtbbdilpbblijaaaVb
namespace Go.Proofs.Ytbbdilpbblijaaa
set_option linter.unusedSimpArgs false
set_option linter.unusedVariables false
def gins (v : Nat → Int) (i : Nat) : List Nat → List Nat
  | [] => [i]
  | y :: ys => if v i ≤ v y then y :: gins v i ys else i :: y :: ys
def gfL (v : Nat → Int) : Nat → List Nat
  | 0 => []
  | i + 1 => gins v i (gfL v i)
theorem gins_len (v : Nat → Int) (i : Nat) (G : List Nat) : (gins v i G).length = G.length + 1 := by
  induction G with
  | nil => rfl
  | cons y ys ih => unfold gins; split <;> simp [ih]
theorem gfL_len (v : Nat → Int) (i : Nat) : (gfL v i).length = i := by
  induction i with
  | zero => rfl
  | succ i ih => unfold gfL; rw [gins_len, ih]
theorem mem_gins (v : Nat → Int) (i x : Nat) (G : List Nat) : x ∈ gins v i G ↔ x = i ∨ x ∈ G := by
  induction G with
  | nil => simp [gins]
  | cons y ys ih =>
    unfold gins
    split
    · simp only [List.mem_cons, ih]
      constructor
      · rintro (h | h | h)
        · exact .inr (.inl h)
        · exact .inl h
        · exact .inr (.inr h)
      · rintro (h | h | h)
        · exact .inr (.inl h)
        · exact .inl h
        · exact .inr (.inr h)
    · simp only [List.mem_cons]
theorem mem_gfL (v : Nat → Int) (n x : Nat) : x ∈ gfL v n ↔ x < n := by
  induction n with
  | zero => simp [gfL]
  | succ n ih =>
    unfold gfL
    rw [mem_gins, ih]
    omega
theorem gins_sorted (v : Nat → Int) (i : Nat) (G : List Nat) (h : G.Pairwise fun x y => v y ≤ v x) : (gins v i G).Pairwise fun x y => v y ≤ v x := by
  induction G with
  | nil => simp [gins]
  | cons y ys ih =>
    rw [List.pairwise_cons] at h
    unfold gins
    split
    · rename_i q
      rw [List.pairwise_cons]
      refine ⟨fun z hz => ?_, ih h.2⟩
      rcases (mem_gins v i z ys).1 hz with e | e
      · subst e; exact q
      · exact h.1 z e
    · rename_i q
      rw [List.pairwise_cons]
      refine ⟨fun z hz => ?_, List.pairwise_cons.2 h⟩
      rcases List.mem_cons.1 hz with e | e
      · subst e; omega
      · have := h.1 z e; omega
theorem gfL_sorted (v : Nat → Int) (n : Nat) : (gfL v n).Pairwise fun x y => v y ≤ v x := by
  induction n with
  | zero => simp [gfL]
  | succ n ih => unfold gfL; exact gins_sorted v n _ ih
theorem gins_split (v : Nat → Int) (i : Nat) (G : List Nat) (j : Nat) (hj : j ≤ G.length) (h1 : ∀ t, t < j → v i ≤ v (G.getD t 0)) (h2 : j < G.length → v (G.getD j 0) < v i) : gins v i G = G.take j ++ i :: G.drop j := by
  induction G generalizing j with
  | nil => simp [gins]
  | cons y ys ih =>
    unfold gins
    cases j with
    | zero =>
      have := h2 (by simp)
      simp at this
      rw [if_neg (by omega)]
      simp
    | succ j =>
      have := h1 0 (by omega)
      simp at this
      rw [if_pos this]
      rw [ih j (by simpa using hj) (fun t ht => by have := h1 (t + 1) (by omega); simpa using this) (fun q => by have := h2 (by simpa using q); simpa using this)]
      simp
theorem sorted_at {v : Nat → Int} {G : List Nat} (h : G.Pairwise fun x y => v y ≤ v x) {s t : Nat} (hs : s ≤ t) (ht : t < G.length) : v (G.getD t 0) ≤ v (G.getD s 0) := by
  by_cases e : s = t
  · subst e; omega
  · have := List.pairwise_iff_getElem.1 h s t (by omega) ht (by omega)
    simp [List.getD, ht, show s < G.length by omega]
    exact this
/-- The row while i moves to the left in G, at place j. -/
def mvR (G : List Nat) (i j k : Nat) : Nat := if k < j then G.getD k 0 else if k = j then i else if k ≤ i then G.getD (k - 1) 0 else k
theorem mvR_start (G : List Nat) (i k : Nat) (hG : G.length = i) : mvR G i i k = if k < i then G.getD k 0 else k := by
  unfold mvR
  by_cases h : k < i
  · rw [if_pos h, if_pos h]
  · rw [if_neg h, if_neg h]
    by_cases e : k = i
    · rw [if_pos e, e]
    · rw [if_neg e, if_neg (by omega)]
theorem mvR_step (G : List Nat) (i j k : Nat) (hj : j + 1 ≤ i) : mvR G i j k = if k = j then mvR G i (j + 1) (j + 1) else if k = j + 1 then mvR G i (j + 1) j else mvR G i (j + 1) k := by
  by_cases e1 : k = j
  · subst e1; rw [if_pos rfl]; simp [mvR]
  · by_cases e2 : k = j + 1
    · subst e2; rw [if_neg e1, if_pos rfl]; simp [mvR, hj, show ¬ j + 1 < j by omega]
    · rw [if_neg e1, if_neg e2]
      unfold mvR
      by_cases h : k < j
      · rw [if_pos h, if_pos (by omega)]
      · rw [if_neg h, if_neg e1, if_neg (show ¬ k < j + 1 by omega), if_neg e2]
theorem mvR_end (v : Nat → Int) (G : List Nat) (i j : Nat) (hG : G.length = i) (hj : j ≤ i) (hs : G.Pairwise fun x y => v y ≤ v x) (h1 : 0 < j → v i ≤ v (G.getD (j - 1) 0)) (h2 : j < i → v (G.getD j 0) < v i) (k : Nat) :
    mvR G i j k = if k < i + 1 then (gins v i G).getD k 0 else k := by
  have hg := gins_split v i G j (by omega) (fun t ht => by
    have a := h1 (by omega)
    have b := sorted_at hs (show t ≤ j - 1 by omega) (by omega)
    omega) (fun q => h2 (by omega))
  rw [hg]
  unfold mvR
  by_cases a : k < j
  · rw [if_pos a, if_pos (by omega)]
    have q : k < (G.take j).length := by rw [List.length_take]; omega
    simp only [List.getD]
    rw [List.getElem?_append_left q, List.getElem?_take_of_lt a]
  · rw [if_neg a]
    have hl : (G.take j).length = j := by rw [List.length_take]; omega
    by_cases b : k = j
    · rw [if_pos b, if_pos (by omega)]
      subst b
      simp [List.getD, List.getElem?_append_right, hl]
    · rw [if_neg b]
      by_cases c : k ≤ i
      · rw [if_pos c, if_pos (by omega)]
        have : (G.take j ++ i :: G.drop j).getD k 0 = G.getD (k - 1) 0 := by
          obtain ⟨d, rfl⟩ : ∃ d, k = j + 1 + d := ⟨k - j - 1, by omega⟩
          simp only [List.getD]
          rw [List.getElem?_append_right (by omega), hl, show j + 1 + d - j = d + 1 by omega, List.getElem?_cons_succ, List.getElem?_drop, show j + 1 + d - 1 = j + d by omega]
        rw [this]
      · rw [if_neg c, if_neg (by omega)]
end Go.Proofs.Ytbbdilpbblijaaa
