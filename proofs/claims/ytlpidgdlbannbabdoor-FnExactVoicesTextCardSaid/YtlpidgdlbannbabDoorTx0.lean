/- Words joined: one more word; how long. -/
import Derived.Lib.Join
namespace Go.Proofs.YtlpidgdlbannbabDoor
theorem join_take (xs : List (List UInt8)) (sep : List UInt8) (k : Nat) (h : k < xs.length) : Lib.join (xs.take (k + 1)) sep = (if k = 0 then [] else Lib.join (xs.take k) sep ++ sep) ++ xs.getD k [] := by
  cases xs with
  | nil => simp at h
  | cons x r =>
    cases k with
    | zero => simp [Lib.join_one]
    | succ j =>
      have hj : j < r.length := by simpa using h
      rw [List.take_succ_cons, List.take_succ_cons, Lib.join_cons, Lib.join_cons, Lib.joinTail_take_succ sep r j r[j] (List.getElem?_eq_getElem hj)]
      simp [hj]
theorem lens_le {xs : List (List UInt8)} {B : Nat} (h : ∀ x ∈ xs, x.length ≤ B) : Lib.lens xs ≤ xs.length * B := by
  induction xs with
  | nil => simp [Lib.lens]
  | cons x r ih =>
    have h1 := h x (by simp)
    have h2 := ih (fun y hy => h y (by simp [hy]))
    simp only [Lib.lens, List.map_cons, List.sum_cons, List.length_cons] at h2 ⊢
    rw [Nat.succ_mul]
    omega
theorem join_len {xs : List (List UInt8)} {B : Nat} (s : UInt8) (h : ∀ x ∈ xs, x.length ≤ B) : (Lib.join xs [s]).length ≤ xs.length * (B + 1) := by
  cases xs with
  | nil => simp [Lib.join_nil]
  | cons x r =>
    have h1 := h x (by simp)
    have h2 := lens_le (xs := r) (fun y hy => h y (by simp [hy]))
    rw [Lib.join_cons, List.length_append, Lib.joinTail_length]
    simp only [List.length_cons, List.length_nil]
    have e : (r.length + 1) * (B + 1) = r.length * B + r.length + B + 1 := by rw [Nat.add_mul, Nat.mul_add]; omega
    rw [e]
    omega
theorem getD_mapT {α : Type} (f : α → List UInt8) (l : List α) (d : α) {k : Nat} (h : k < l.length) : (l.map f).getD k [] = f (l.getD k d) := by
  simp [List.getD, h]
/-- The texts of the first k elements, joined. -/
def jn {α : Type} (f : α → List UInt8) (l : List α) (s : UInt8) (k : Nat) : List UInt8 := Lib.join ((l.map f).take k) [s]
theorem jn_zero {α : Type} (f : α → List UInt8) (l : List α) (s : UInt8) : jn f l s 0 = [] := by simp [jn, Lib.join_nil]
theorem jn_all {α : Type} (f : α → List UInt8) (l : List α) (s : UInt8) : jn f l s l.length = Lib.join (l.map f) [s] := by unfold jn; rw [List.take_of_length_le (by simp)]
theorem jn_one {α : Type} (f : α → List UInt8) (l : List α) (s : UInt8) (d : α) (h : 0 < l.length) : jn f l s 1 = f (l.getD 0 d) := by
  unfold jn
  rw [join_take _ _ 0 (by simpa using h), if_pos rfl, getD_mapT f l d h, List.nil_append]
theorem jn_succ {α : Type} (f : α → List UInt8) (l : List α) (s : UInt8) (d : α) {k : Nat} (h : k < l.length) (hk : 0 < k) : jn f l s (k + 1) = jn f l s k ++ [s] ++ f (l.getD k d) := by
  unfold jn
  rw [join_take _ _ k (by simpa using h), if_neg (by omega), getD_mapT f l d h]
theorem jn_len {α : Type} (f : α → List UInt8) (l : List α) (s : UInt8) (k B : Nat) (h : ∀ x ∈ l, (f x).length ≤ B) : (jn f l s k).length ≤ l.length * (B + 1) := by
  unfold jn
  refine Nat.le_trans (join_len s (B := B) (fun x hx => ?_)) (Nat.mul_le_mul_right _ (by simp; omega))
  obtain ⟨y, hy, rfl⟩ := List.mem_map.1 (List.mem_of_mem_take hx)
  exact h y hy
end Go.Proofs.YtlpidgdlbannbabDoor
