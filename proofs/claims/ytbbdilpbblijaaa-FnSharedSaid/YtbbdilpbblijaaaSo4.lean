/- Shares of a whole: the program's parts. -/
import Derived.Test.YtbbdilpbblijaaaSo3
import Derived.Test.YtbbdilpbblijaaaGf4
import Derived.Test.YtbbdilpbblijaaaGb0
namespace Go.Proofs.Ytbbdilpbblijaaa
open Go.ChangeShapes Go.WideShapes Go.ChangeAt Go.RowKit Go.Deep
set_option linter.unusedSimpArgs false
set_option linter.unusedVariables false
theorem gins_nodup (v : Nat → Int) (i : Nat) (G : List Nat) (h : G.Nodup) (hi : ¬ i ∈ G) : (gins v i G).Nodup := by
  induction G with
  | nil => simp [gins]
  | cons y ys ih =>
    rw [List.nodup_cons] at h
    unfold gins
    split
    · rw [List.nodup_cons]
      refine ⟨fun hy => ?_, ih h.2 (fun q => hi (by simp [q]))⟩
      rcases (mem_gins v i y ys).1 hy with e | e
      · exact hi (by simp [e])
      · exact h.1 e
    · rw [List.nodup_cons]
      exact ⟨hi, List.nodup_cons.2 h⟩
theorem gfL_nodup (v : Nat → Int) (n : Nat) : (gfL v n).Nodup := by
  induction n with
  | zero => simp [gfL]
  | succ n ih => unfold gfL; exact gins_nodup v n _ ih (fun h => by have := (mem_gfL _ _ _).1 h; omega)
theorem ordS_len (t : Int) (W : List Int) : (ordS t W).length = W.length := gfL_len _ _
theorem ordS_at (t : Int) (W : List Int) {s : Nat} (h : s < W.length) : (ordS t W).getD s 0 < W.length ∧ ¬ (ordS t W).getD s 0 ∈ (ordS t W).take s := by
  have hl := ordS_len t W
  have e : (ordS t W).getD s 0 = (ordS t W)[s]'(by omega) := by simp [List.getD, hl, h]
  refine ⟨?_, fun hx => ?_⟩
  · rw [e]; exact (mem_gfL _ _ _).1 (List.getElem_mem _)
  · obtain ⟨i, hi, q⟩ := List.getElem_of_mem hx
    rw [List.length_take] at hi
    have h1 := List.pairwise_iff_getElem.1 (gfL_nodup (rst t W) W.length) i s (by rw [gfL_len]; omega) (by rw [gfL_len]; omega) (by omega)
    apply h1
    rw [List.getElem_take] at q
    unfold ordS at q e
    rw [q, e]
theorem take_succN {l : List Nat} {m : Nat} (hm : m < l.length) (x : Nat) : x ∈ l.take (m + 1) ↔ x ∈ l.take m ∨ x = l.getD m 0 := by
  have e : l.getD m 0 = l[m] := by simp [List.getD, hm]
  rw [List.take_add_one, List.getElem?_eq_getElem hm, e, List.mem_append]
  simp only [Option.toList_some, List.mem_singleton]
theorem part_step (t : Int) (W : List Int) {s : Nat} (h : s < W.length) {q : Nat} (hq : (ordS t W).getD s 0 = q) (j : Nat) :
    part t W (ordS t W) (s + 1) j = if j = q then part t W (ordS t W) s q + 1 else part t W (ordS t W) s j := by
  have h1 := take_succN (l := ordS t W) (m := s) (by rw [ordS_len]; exact h) j
  have h2 := (ordS_at t W h).2
  rw [hq] at h1 h2
  unfold part
  by_cases e : j = q
  · subst e
    rw [if_pos rfl, if_pos (h1.2 (.inr rfl)), if_neg h2]; omega
  · rw [if_neg e]
    by_cases k : j ∈ (ordS t W).take s
    · rw [if_pos k, if_pos (h1.2 (.inl k))]
    · rw [if_neg k, if_neg (fun q => (h1.1 q).elim k e)]
theorem part_zero (t : Int) (W : List Int) (O : List Nat) (j : Nat) : part t W O 0 j = bse t W j := by simp [part]
theorem part_bd {t : Int} {W : List Int} (h : wOk t W) (O : List Nat) (s : Nat) {j : Nat} (hj : j < W.length) : 0 ≤ part t W O s j ∧ part t W O s j ≤ 1000000000000000001 := by
  have := bse_bd h hj
  unfold part
  split <;> omega
def rstL (t : Int) (W : List Int) : List Int := (List.range W.length).map (rst t W)
theorem rstL_len (t : Int) (W : List Int) : (rstL t W).length = W.length := by simp [rstL]
theorem rstL_at (t : Int) (W : List Int) {k : Nat} (h : k < W.length) : (rstL t W).getD k 0 = rst t W k := by simp [rstL, List.getD, h]
theorem ordS_eq (t : Int) (W : List Int) : gfL (vOf (rstL t W)) W.length = ordS t W := gfL_congr (fun k hk => rstL_at t W hk)
noncomputable def mSO (t : Int) (W : List Int) : List Int × Bool := if (inB t 0 1000000000 && inB (tot W) 1 1000000000) = true then (partL t W, true) else ([], false)
theorem wOk_of {t : Int} {W : List Int} (h : (inB t 0 1000000000 && inB (tot W) 1 1000000000) = true) : wOk t W ∧ tot W = wsum W W.length ∧ 0 < W.length := by
  simp only [Bool.and_eq_true] at h
  obtain ⟨h1, h2⟩ := h
  unfold inB at h1 h2
  simp only [Bool.and_eq_true, decide_eq_true_eq] at h1 h2
  have ht : (decide (W.length ≤ 20) && wInB W) = true ∧ tot W = wsum W W.length := by
    unfold tot at h2 ⊢
    split at h2
    · rename_i q; exact ⟨q, by rw [if_pos q]⟩
    · omega
  obtain ⟨ht, he⟩ := ht
  simp only [Bool.and_eq_true, decide_eq_true_eq] at ht
  rw [he] at h2
  refine ⟨⟨h1.1, h1.2, ht.1, wInB_iff.1 ht.2, h2.1, h2.2⟩, he, ?_⟩
  rcases Nat.eq_zero_or_pos W.length with q | q
  · have := List.eq_nil_of_length_eq_zero q
    subst this
    simp [wsum] at h2
  · exact q
theorem bse_nat {t : Int} {W : List Int} {k tn yn sn : Nat} (h1 : t = tn) (h2 : W.getD k 0 = yn) (h3 : wsum W W.length = sn) : bse t W k = ((tn * yn / sn : Nat) : Int) ∧ rst t W k = ((tn * yn % sn : Nat) : Int) := by
  unfold bse rst
  rw [h1, h2, h3]
  constructor <;> simp
/-- What lies in a row when the first k are laid. -/
def upF (f : Nat → Int) (k : Nat) : Nat → Value := fun j => if j < k then .int .i64 (f j) else .int .i64 0
theorem upF_step (f : Nat → Int) (k : Nat) (x : Int) (hx : f k = x) (j : Nat) : (if j = k then Value.int .i64 x else upF f k j) = upF f (k + 1) j := by
  unfold upF
  by_cases e : j = k
  · subst e; rw [if_pos rfl, if_pos (by omega), hx]
  · rw [if_neg e]
    by_cases h : j < k
    · rw [if_pos h, if_pos (by omega)]
    · rw [if_neg h, if_neg (by omega)]
theorem lft_succ (t : Int) (W : List Int) (k : Nat) : lft t W (k + 1) = lft t W k - bse t W k := by
  unfold lft; rw [bsum_succ]; omega
end Go.Proofs.Ytbbdilpbblijaaa
