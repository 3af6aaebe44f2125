/- Sets of members as lists, and what can be reached: plain mathematics. -/
import Derived.Test.YtlpidgdlbannbaaFc3
namespace Go.Proofs.Ytlpidgdlbannbaa
open Go.ChangeShapes Go.WideShapes Go.ChangeAt Go.RowKit Go.Deep
set_option linter.unusedSimpArgs false
set_option linter.unusedVariables false
noncomputable def dcd (p : Prop) : Bool := @decide p (Classical.propDecidable _)
theorem dcd_iff {p : Prop} : dcd p = true ↔ p := by unfold dcd; exact @decide_eq_true_iff p (Classical.propDecidable _)
theorem dcd_yes {p : Prop} (h : p) : dcd p = true := dcd_iff.2 h
theorem dcd_no {p : Prop} (h : ¬ p) : dcd p = false := by
  cases e : dcd p with
  | true => exact absurd (dcd_iff.1 e) h
  | false => rfl
/-- The numbers below n for which p holds. -/
noncomputable def setL (n : Nat) (p : Nat → Prop) : List Int := ((List.range n).filter fun i => dcd (p i)).map fun i : Nat => (i : Int)
theorem setL_zero (p : Nat → Prop) : setL 0 p = [] := rfl
theorem setL_succ (n : Nat) (p : Nat → Prop) : setL (n + 1) p = setL n p ++ if dcd (p n) = true then [(n : Int)] else [] := by
  unfold setL
  rw [List.range_succ, List.filter_append, List.map_append]
  congr 1
  by_cases h : dcd (p n) = true
  · rw [if_pos h]; simp [List.filter_cons, h]
  · rw [if_neg h]; simp [List.filter_cons, h]
theorem setL_len (n : Nat) (p : Nat → Prop) : (setL n p).length ≤ n := by
  unfold setL
  rw [List.length_map]
  have := List.length_filter_le (fun i => dcd (p i)) (List.range n)
  simpa using this
theorem mem_setL {n : Nat} {p : Nat → Prop} {x : Int} : x ∈ setL n p ↔ ∃ i, i < n ∧ p i ∧ x = (i : Int) := by
  unfold setL
  simp only [List.mem_map, List.mem_filter, List.mem_range]
  constructor
  · rintro ⟨i, ⟨h1, h2⟩, rfl⟩; exact ⟨i, h1, dcd_iff.1 h2, rfl⟩
  · rintro ⟨i, h1, h2, rfl⟩; exact ⟨i, ⟨h1, dcd_iff.2 h2⟩, rfl⟩
theorem setL_congr {n : Nat} {p q : Nat → Prop} (h : ∀ i, i < n → (p i ↔ q i)) : setL n p = setL n q := by
  unfold setL
  congr 1
  refine List.filter_congr fun i hi => ?_
  have := h i (by simpa using hi)
  rw [Bool.eq_iff_iff, dcd_iff, dcd_iff]
  exact this
theorem setL_sorted (n : Nat) (p : Nat → Prop) : (setL n p).Pairwise (· < ·) := by
  unfold setL
  rw [List.pairwise_map]
  exact (List.pairwise_lt_range.filter _).imp fun h => by omega
theorem nodup_of_lt {l : List Int} (h : l.Pairwise (· < ·)) : l.Nodup := h.imp fun h => by omega
theorem sort_set {n : Nat} {R : List Int} (h1 : R.Nodup) (h2 : ∀ x ∈ R, 0 ≤ x ∧ x < (n : Int)) : (R.mergeSort fun x y => decide (x ≤ y)) = setL n fun i => (i : Int) ∈ R := by
  have hp := List.mergeSort_perm R fun x y => decide (x ≤ y)
  have hs := List.pairwise_mergeSort (le := fun x y : Int => decide (x ≤ y)) (fun a b c h1 h2 => by simp at *; omega) (fun a b => by simp; omega) R
  refine List.Perm.eq_of_pairwise (le := fun x y : Int => decide (x ≤ y) = true) (fun a b _ _ h1 h2 => by simp at *; omega) hs ((setL_sorted n _).imp fun h => by simp; omega) ?_
  refine hp.trans ((List.perm_ext_iff_of_nodup h1 (nodup_of_lt (setL_sorted n _))).2 fun x => ?_)
  rw [mem_setL]
  constructor
  · intro hx
    obtain ⟨a, b⟩ := h2 x hx
    exact ⟨x.toNat, by omega, by rw [Int.toNat_of_nonneg a]; exact hx, (Int.toNat_of_nonneg a).symm⟩
  · rintro ⟨i, _, hi, rfl⟩; exact hi
/-- What steps of nx lead to from the members of s. -/
def Rch (nx : Int → List Int) (s : List Int) (x : Int) : Prop := ∀ S : Int → Prop, (∀ y ∈ s, S y) → (∀ y z, S y → z ∈ nx y → S z) → S x
theorem Rch.base {nx : Int → List Int} {s : List Int} {x : Int} (h : x ∈ s) : Rch nx s x := fun S h1 _ => h1 x h
theorem Rch.step {nx : Int → List Int} {s : List Int} {x y : Int} (h : Rch nx s x) (hy : y ∈ nx x) : Rch nx s y := fun S h1 h2 => h2 x y (h S h1 h2) hy
/-- How far the search has come: the members of R are reached; what the first i of them, and the first j steps of the next one, lead to is among them. -/
structure Srch (nx : Int → List Int) (s : List Int) (n : Nat) (R : List Int) (i : Nat) : Prop where
  nodup : R.Nodup
  rng : ∀ x ∈ R, 0 ≤ x ∧ x < (n : Int)
  sound : ∀ x ∈ R, Rch nx s x
  start : ∀ x ∈ s, x ∈ R
  closed : ∀ p, p < i → ∀ z ∈ nx (R.getD p 0), z ∈ R
theorem Srch.le {nx : Int → List Int} {s : List Int} {n : Nat} {R : List Int} {i : Nat} (h : Srch nx s n R i) : R.length ≤ n := pigeon n R h.nodup h.rng
theorem Srch.add {nx : Int → List Int} {s : List Int} {n : Nat} {R : List Int} {i : Nat} (h : Srch nx s n R i) (hi : i < R.length) {z : Int} (hz : z ∈ nx (R.getD i 0)) (hn : ¬ z ∈ R) (hr : 0 ≤ z ∧ z < (n : Int)) : Srch nx s n (R ++ [z]) i := by
  refine ⟨?_, fun x hx => ?_, fun x hx => ?_, fun x hx => List.mem_append_left _ (h.start x hx), fun p hp y hy => ?_⟩
  · rw [List.nodup_append]
    exact ⟨h.nodup, by simp, fun x hx y hy => by simp at hy; subst hy; exact fun e => hn (e ▸ hx)⟩
  · rcases List.mem_append.1 hx with hx | hx
    · exact h.rng x hx
    · simp at hx; subst hx; exact hr
  · rcases List.mem_append.1 hx with hx | hx
    · exact h.sound x hx
    · simp at hx; subst hx; exact (h.sound _ (mem_getD hi)).step hz
  · rw [getD_snoc_lt (by omega)] at hy
    exact List.mem_append_left _ (h.closed p hp y hy)
theorem Srch.next {nx : Int → List Int} {s : List Int} {n : Nat} {R : List Int} {i : Nat} (h : Srch nx s n R i) (hc : ∀ z ∈ nx (R.getD i 0), z ∈ R) : Srch nx s n R (i + 1) :=
  ⟨h.nodup, h.rng, h.sound, h.start, fun p hp z hz => by
    by_cases e : p = i
    · subst e; exact hc z hz
    · exact h.closed p (by omega) z hz⟩
theorem Srch.done {nx : Int → List Int} {s : List Int} {n : Nat} {R : List Int} (h : Srch nx s n R R.length) (x : Int) : x ∈ R ↔ Rch nx s x := by
  constructor
  · exact h.sound x
  · intro hx
    refine hx (· ∈ R) h.start fun y z hy hz => ?_
    obtain ⟨p, hp, rfl⟩ := getD_of_mem hy
    exact h.closed p hp z hz
theorem Srch.result {nx : Int → List Int} {s : List Int} {n : Nat} {R : List Int} (h : Srch nx s n R R.length) : (R.mergeSort fun x y => decide (x ≤ y)) = setL n fun i => Rch nx s (i : Int) := by
  rw [sort_set h.nodup h.rng]
  exact setL_congr fun i _ => h.done (i : Int)
end Go.Proofs.Ytlpidgdlbannbaa
