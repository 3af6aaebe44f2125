/- The greedy budget: both orders are one list. -/
import Derived.Test.YtcoelccmfljlhaaGf1
namespace Go.Proofs.Ytcoelccmfljlhaa
set_option linter.unusedSimpArgs false
set_option linter.unusedVariables false
/-- The indices with value N, then those with N - 1, and so on down to 1, each in their order. -/
def catL (v : Nat → Nat) (m : Nat) : Nat → List Nat
  | 0 => []
  | N + 1 => (List.range m).filter (fun k => decide (v k = N + 1)) ++ catL v m N
theorem mem_catL {v : Nat → Nat} {m N x : Nat} (h : x ∈ catL v m N) : x < m ∧ 1 ≤ v x ∧ v x ≤ N := by
  induction N with
  | zero => simp [catL] at h
  | succ N ih =>
    unfold catL at h
    rcases List.mem_append.1 h with h | h
    · simp only [List.mem_filter, List.mem_range, decide_eq_true_eq] at h
      omega
    · have := ih h; omega
theorem catL_same (v : Nat → Nat) (m N : Nat) (h : v m = 0 ∨ N < v m) : catL v (m + 1) N = catL v m N := by
  induction N with
  | zero => rfl
  | succ N ih =>
    unfold catL
    rw [ih (by omega), List.range_succ, List.filter_append]
    have : decide (v m = N + 1) = false := decide_eq_false (by omega)
    simp [this]
theorem filter_all {l : List Nat} {p : Nat → Bool} (h : ∀ x ∈ l, p x = true) : l.filter p = l := List.filter_eq_self.2 h
theorem filter_none {l : List Nat} {p : Nat → Bool} (h : ∀ x ∈ l, p x = false) : l.filter p = [] := List.filter_eq_nil_iff.2 fun x hx => by rw [h x hx]; decide
theorem catL_add (v : Nat → Nat) (m N : Nat) (h1 : 1 ≤ v m) (h2 : v m ≤ N) :
    catL v (m + 1) N = (catL v m N).filter (fun k => decide (v m ≤ v k)) ++ m :: (catL v m N).filter (fun k => decide (v k < v m)) := by
  induction N with
  | zero => omega
  | succ N ih =>
    by_cases e : v m = N + 1
    · unfold catL
      rw [catL_same v m N (by omega), List.range_succ, List.filter_append, List.filter_append, List.filter_append]
      have e1 : decide (v m = N + 1) = true := decide_eq_true e
      have hb : ∀ x ∈ (List.range m).filter (fun k => decide (v k = N + 1)), v x = N + 1 := fun x hx => by
        simp only [List.mem_filter, decide_eq_true_eq] at hx; exact hx.2
      rw [filter_all (l := (List.range m).filter _) (p := fun k => decide (v m ≤ v k)) (fun x hx => decide_eq_true (by rw [hb x hx]; omega)),
        filter_none (l := (List.range m).filter _) (p := fun k => decide (v k < v m)) (fun x hx => decide_eq_false (by rw [hb x hx]; omega)),
        filter_none (l := catL v m N) (p := fun k => decide (v m ≤ v k)) (fun x hx => decide_eq_false (by have := mem_catL hx; omega)),
        filter_all (l := catL v m N) (p := fun k => decide (v k < v m)) (fun x hx => decide_eq_true (by have := mem_catL hx; omega))]
      simp [e1]
    · unfold catL
      rw [ih (by omega), List.range_succ, List.filter_append, List.filter_append, List.filter_append]
      have e1 : decide (v m = N + 1) = false := decide_eq_false e
      have hb : ∀ x ∈ (List.range m).filter (fun k => decide (v k = N + 1)), v x = N + 1 := fun x hx => by
        simp only [List.mem_filter, decide_eq_true_eq] at hx; exact hx.2
      rw [filter_all (l := (List.range m).filter _) (p := fun k => decide (v m ≤ v k)) (fun x hx => decide_eq_true (by rw [hb x hx]; omega)),
        filter_none (l := (List.range m).filter _) (p := fun k => decide (v k < v m)) (fun x hx => decide_eq_false (by rw [hb x hx]; omega))]
      simp [e1]
theorem gins_filter (v : Nat → Int) (i : Nat) (G : List Nat) (h : G.Pairwise fun x y => v y ≤ v x) :
    gins v i G = G.filter (fun k => decide (v i ≤ v k)) ++ i :: G.filter (fun k => decide (v k < v i)) := by
  induction G with
  | nil => rfl
  | cons y ys ih =>
    rw [List.pairwise_cons] at h
    unfold gins
    by_cases q : v i ≤ v y
    · rw [if_pos q, ih h.2]
      have e1 : decide (v i ≤ v y) = true := decide_eq_true q
      have e2 : decide (v y < v i) = false := decide_eq_false (by omega)
      simp [List.filter_cons, e1, e2]
    · rw [if_neg q]
      have e1 : decide (v i ≤ v y) = false := decide_eq_false q
      have e2 : decide (v y < v i) = true := decide_eq_true (by omega)
      rw [List.filter_cons, List.filter_cons, e1, e2,
        filter_none (l := ys) (p := fun k => decide (v i ≤ v k)) (fun x hx => decide_eq_false (by have := h.1 x hx; omega)),
        filter_all (l := ys) (p := fun k => decide (v k < v i)) (fun x hx => decide_eq_true (by have := h.1 x hx; omega))]
      simp
theorem gf_cat (v : Nat → Nat) (m N : Nat) (h : ∀ k, k < m → v k ≤ N) : (gfL (fun k => (v k : Int)) m).filter (fun k => decide (0 < v k)) = catL v m N := by
  induction m with
  | zero =>
    have : ∀ N, catL v 0 N = [] := fun N => by induction N with
      | zero => rfl
      | succ N ih => unfold catL; rw [ih]; rfl
    rw [this]; rfl
  | succ m ih =>
    have ih := ih (fun k hk => h k (by omega))
    unfold gfL
    rw [gins_filter _ _ _ (gfL_sorted _ _), List.filter_append, List.filter_cons]
    have f1 : ∀ l : List Nat, (l.filter (fun k => decide ((v m : Int) ≤ (v k : Int)))) = l.filter (fun k => decide (v m ≤ v k)) := fun l => List.filter_congr fun x _ => by simp
    have f2 : ∀ l : List Nat, (l.filter (fun k => decide ((v k : Int) < (v m : Int)))) = l.filter (fun k => decide (v k < v m)) := fun l => List.filter_congr fun x _ => by simp
    have sw : ∀ (l : List Nat) (p : Nat → Bool), (l.filter p).filter (fun k => decide (0 < v k)) = (l.filter (fun k => decide (0 < v k))).filter p := fun l p => by
      rw [List.filter_filter, List.filter_filter]; exact List.filter_congr fun x _ => by rw [Bool.and_comm]
    rw [f1, f2, sw, sw, ih]
    by_cases q : 0 < v m
    · have e1 : decide (0 < v m) = true := decide_eq_true q
      rw [e1, if_pos rfl, catL_add v m N (by omega) (h m (by omega))]
    · have e1 : decide (0 < v m) = false := decide_eq_false q
      rw [e1, if_neg (by decide), catL_same v m N (by omega)]
      rw [filter_all (l := catL v m N) (p := fun k => decide (v m ≤ v k)) (fun x hx => decide_eq_true (by omega)),
        filter_none (l := catL v m N) (p := fun k => decide (v k < v m)) (fun x hx => decide_eq_false (by omega))]
      simp
/-- What is chosen out of a list of projects with so much money left. -/
def grd (C : Nat → Int) : List Nat → Int → List Nat
  | [], _ => []
  | p :: L, left => if C p ≤ left then p :: grd C L (left - C p) else grd C L left
theorem grd_len (C : Nat → Int) (L : List Nat) (left : Int) : (grd C L left).length ≤ L.length := by
  induction L generalizing left with
  | nil => simp [grd]
  | cons p L ih =>
    unfold grd
    split
    · have := ih (left - C p); simp; exact this
    · have := ih left; simp; omega
theorem catL_len (v : Nat → Nat) (m N : Nat) : (catL v m N).length ≤ m * N := by
  induction N with
  | zero => simp [catL]
  | succ N ih =>
    unfold catL
    have := List.length_filter_le (fun k => decide (v k = N + 1)) (List.range m)
    simp only [List.length_append, List.length_range] at this ⊢
    rw [Nat.mul_succ]; omega
/-- What is left of the block of value N from project p on. -/
def blk (v : Nat → Nat) (m N p : Nat) : List Nat := ((List.range m).drop p).filter (fun k => decide (v k = N))
theorem blk_zero (v : Nat → Nat) (m N : Nat) : blk v m N 0 = (List.range m).filter (fun k => decide (v k = N)) := by simp [blk]
theorem blk_end (v : Nat → Nat) (m N : Nat) : blk v m N m = [] := by unfold blk; rw [List.drop_eq_nil_of_le (by simp)]; rfl
theorem blk_step (v : Nat → Nat) (m N p : Nat) (h : p < m) : blk v m N p = if v p = N then p :: blk v m N (p + 1) else blk v m N (p + 1) := by
  unfold blk
  rw [List.drop_eq_getElem_cons (by simpa using h), List.filter_cons]
  simp only [List.getElem_range, decide_eq_true_eq]
end Go.Proofs.Ytcoelccmfljlhaa
