/- Plain lemmas on where a text is divided: no program in sight. -/
import Derived.Lib.IndexMore
import Derived.WalkKit
namespace Go.Proofs.YtjfkkmfbgmejbabDoor
/-- Where the first stroke at or behind a place is, or the length. -/
def cutAt (l : List UInt8) (k : Nat) : Nat := k + (l.drop k).findIdx (· == 47)
theorem cutAt_end (l : List UInt8) : cutAt l l.length = l.length := by
  unfold cutAt
  rw [List.drop_length]; rfl
theorem cutAt_hit {l : List UInt8} {k : Nat} (h : k < l.length) (e : l[k] = 47) : cutAt l k = k := by
  unfold cutAt
  rw [List.drop_eq_getElem_cons h, List.findIdx_cons, e]; rfl
theorem cutAt_miss {l : List UInt8} {k : Nat} (h : k < l.length) (e : ¬ l[k] = 47) : cutAt l k = cutAt l (k + 1) := by
  unfold cutAt
  have e' : (l[k] == 47) = false := by rw [beq_eq_false_iff_ne]; exact e
  rw [List.drop_eq_getElem_cons h, List.findIdx_cons, e']
  simp only [cond_false]
  omega
theorem cutAt_le {l : List UInt8} {k : Nat} (h : k ≤ l.length) : cutAt l k ≤ l.length := by
  unfold cutAt
  have := List.findIdx_le_length (p := (· == (47 : UInt8))) (xs := l.drop k)
  rw [List.length_drop] at this
  omega
theorem index_find : ∀ (l : List UInt8), Lib.index l [47] = if l.findIdx (· == 47) < l.length then (l.findIdx (· == 47) : Int) else -1 := by
  intro l
  induction l with
  | nil => rfl
  | cons b l ih =>
    unfold Lib.index
    by_cases h : b = 47
    · subst h
      simp [List.isPrefixOf, List.findIdx_cons]
    · have e : ([47] : List UInt8).isPrefixOf (b :: l) = false := by
        simp [List.isPrefixOf]
        exact fun e => h e.symm
      have e' : (b == 47) = false := by rw [beq_eq_false_iff_ne]; exact h
      rw [e, List.findIdx_cons, e']
      simp only [cond_false, List.length_cons, Bool.false_eq_true, if_false]
      by_cases hl : l.findIdx (· == 47) < l.length
      · rw [if_pos hl] at ih
        have : ((l.findIdx (· == (47 : UInt8)) : Int) == -1) = false := by rw [beq_eq_false_iff_ne]; omega
        rw [ih, this, if_neg (by decide), if_pos (by omega)]
        omega
      · rw [if_neg hl] at ih
        rw [ih, if_pos (by decide), if_neg (by omega)]
theorem index_cut_yes {l : List UInt8} (h : cutAt l 0 < l.length) : Lib.cut l [47] = (l.take (cutAt l 0), l.drop (cutAt l 0 + 1), true) := by
  unfold cutAt at *
  simp only [List.drop_zero, Nat.zero_add] at *
  unfold Lib.cut
  rw [index_find, if_pos h, if_pos (by omega)]
  simp
theorem index_cut_no {l : List UInt8} (h : ¬ cutAt l 0 < l.length) : Lib.cut l [47] = (l, [], false) := by
  unfold cutAt at *
  simp only [List.drop_zero, Nat.zero_add] at *
  unfold Lib.cut
  rw [index_find, if_neg h, if_neg (by omega)]
end Go.Proofs.YtjfkkmfbgmejbabDoor
