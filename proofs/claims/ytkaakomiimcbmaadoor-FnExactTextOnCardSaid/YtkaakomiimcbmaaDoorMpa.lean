/- Several of this claim's texts in one: Mp1, Mp2. -/
import Derived.Test.YtkaakomiimcbmaaDoorMga
import Derived.Test.YtkaakomiimcbmaaDoorCfa
/- Two patches in one that are not in conflict: pure, and the specification's answer. -/
namespace Go.Proofs.YtkaakomiimcbmaaDoor
open Go.ChangeShapes Go.WideShapes Go.ChangeAt Go.RowKit Go.Deep
set_option linter.unusedSimpArgs false
set_option linter.unusedVariables false
def fstE (x y : Ed) : Ed := x
/-- What the merged patch has at an Id. -/
def pq (P Q : List Ed) (i : Int) : Option Ed := (fnd P i).orElse fun _ => fnd Q i
theorem pq_eq (P Q : List Ed) (i : Int) : pq P Q i = mid fstE (fnd P i) (fnd Q i) := by
  unfold pq mid fstE
  cases fnd P i <;> cases fnd Q i <;> rfl
theorem pq_ok {P Q : List Ed} (hP : patF P) (hQ : patF Q) : ∀ i e, pq P Q i = some e → e.2.1 = i ∧ 1 ≤ i ∧ i ≤ 99 := by
  have key : ∀ L, patF L → ∀ i e, fnd L i = some e → e.2.1 = i ∧ 1 ≤ i ∧ i ≤ 99 := by
    intro L hL i e h
    obtain ⟨h1, h2⟩ := fnd_some h
    obtain ⟨k, hk, rfl⟩ := List.mem_iff_getElem.1 h1
    have h3 := (hL.2 k hk).1
    have : L.getD k e0 = L[k] := by simp [List.getD, hk]
    rw [this] at h3
    exact ⟨h2, by omega, by omega⟩
  intro i e h
  unfold pq at h
  cases hp : fnd P i with
  | none => rw [hp] at h; exact key Q hQ i e h
  | some x => rw [hp] at h; injection h with h; subst h; exact key P hP i x hp
/-- The Ids to k, in order. -/
def upTo (f : Int → Option Ed) (k : Nat) : List Ed := (List.range k).filterMap fun k : Nat => f ((k : Int) + 1)
theorem upTo_all (f : Int → Option Ed) : upTo f 99 = idsOf f := rfl
theorem upTo_succ (f : Int → Option Ed) (k : Nat) : upTo f (k + 1) = upTo f k ++ (match f ((k : Int) + 1) with | some e => [e] | none => []) := by
  unfold upTo
  rw [List.range_succ, List.filterMap_append]
  congr 1
  cases h : f ((k : Int) + 1) <;> simp [h]
theorem upTo_len (f : Int → Option Ed) (k : Nat) : (upTo f k).length ≤ k := by
  unfold upTo
  exact Nat.le_trans (List.length_filterMap_le _ _) (by simp)
theorem pq_mrg {P Q : List Ed} (hP : patF P) (hQ : patF Q) : upTo (pq P Q) 99 = mrg fstE P Q := by
  obtain ⟨h1, h2⟩ := mrg_incs fstE (fun _ _ => rfl) _ P Q (Nat.le_refl _) (pat_incs hP.2) (pat_incs hQ.2)
  rw [upTo_all]
  exact idsOf_eq (pq_ok hP hQ) h1 fun i => by rw [h2, pq_eq]
noncomputable def mMrg (P Q : List Ed) : List Ed × Bool := if ((patB P && patB Q) && (cfl P Q).isEmpty) && decide ((mrg fstE P Q).length ≤ 16) then (mrg fstE P Q, true) else ([], false)
end Go.Proofs.YtkaakomiimcbmaaDoor
/- Two patches in one that are not in conflict: the program's answer. -/
namespace Go.Proofs.YtkaakomiimcbmaaDoor
open Go.ChangeShapes Go.WideShapes Go.ChangeAt Go.RowKit Go.Deep
set_option linter.unusedSimpArgs false
set_option linter.unusedVariables false
theorem nan7 (x : Int) (w : World) : Calls Tryd.prog 68 #[.int .i64 x] w fun e w' => e = .returned (.bool false) ∧ w = w' := by
  go_enter Tryd.func68, Tryd.ntmps68
  go_wp2
  go_ret
  exact ⟨by simp, rfl⟩
set_option maxRecDepth 100000 in
theorem comp7 (x y : Int) (w : World) : Calls Tryd.prog 52 #[.int .i64 x, .int .i64 y] w fun e w' => e = .returned (.int .i64 (if x < y then -1 else if y < x then 1 else 0)) ∧ w = w' := by
  by_cases h1 : x < y
  · rw [if_pos h1]
    go_enter Tryd.func52, Tryd.ntmps52
    go_wp2_with fail
    refine (nan7 _ _).mono ?_
    rintro e w1 ⟨rfl, rfl⟩
    go_wp2_with fail
    refine (nan7 _ _).mono ?_
    rintro e w1 ⟨rfl, rfl⟩
    go_wp2
    go_ret
    exact ⟨rfl, rfl⟩
  · rw [if_neg h1]
    by_cases h2 : y < x
    · rw [if_pos h2]
      go_enter Tryd.func52, Tryd.ntmps52
      go_wp2_with fail
      refine (nan7 _ _).mono ?_
      rintro e w1 ⟨rfl, rfl⟩
      go_wp2_with fail
      refine (nan7 _ _).mono ?_
      rintro e w1 ⟨rfl, rfl⟩
      go_wp2
      go_ret
      exact ⟨rfl, rfl⟩
    · rw [if_neg h2]
      go_enter Tryd.func52, Tryd.ntmps52
      go_wp2_with fail
      refine (nan7 _ _).mono ?_
      rintro e w1 ⟨rfl, rfl⟩
      go_wp2_with fail
      refine (nan7 _ _).mono ?_
      rintro e w1 ⟨rfl, rfl⟩
      go_wp2
      go_ret
      exact ⟨rfl, rfl⟩
set_option maxHeartbeats 1000000 in
theorem icmpE (x y : Ed) (w : World) : Calls Tryd.prog 81 #[vE x, vE y] w fun e w' => e = .returned (.int .i64 (cmpI x y)) ∧ Below w.heap.size w w' := by
  obtain ⟨k, i, a, b⟩ := x
  obtain ⟨k', i', a', b'⟩ := y
  unfold vE cmpI
  simp only
  have b1 := ((Below.refl w.heap.size w).alloc (Nat.le_refl _) (.cells #[.int .i64 k, .int .i64 i, .string a, .string b] 93)).alloc (by simp) (.cells #[.int .i64 k', .int .i64 i', .string a', .string b'] 93)
  have HC := fun W => comp7 i i' W
  obtain ⟨c, hc⟩ : ∃ c, (if i < i' then (-1 : Int) else if i' < i then 1 else 0) = c := ⟨_, rfl⟩
  simp only [hc] at HC ⊢
  clear hc
  go_enter Tryd.func81, Tryd.ntmps81
  go_wp2_with fail
  refine (HC _).mono ?_
  rintro e w1 ⟨rfl, rfl⟩
  go_wp2
  go_ret
  exact ⟨rfl, b1⟩
theorem mMrg_no {P Q : List Ed} (h : ¬ (patB P && patB Q) = true) : mMrg P Q = ([], false) := by
  unfold mMrg
  rw [if_neg]
  intro k
  exact h (Bool.and_eq_true_iff.1 (Bool.and_eq_true_iff.1 k).1).1
theorem mMrg_conf {P Q : List Ed} (h : ¬ cfl P Q = []) : mMrg P Q = ([], false) := by
  unfold mMrg
  rw [if_neg]
  intro k
  exact h (by simpa using (Bool.and_eq_true_iff.1 (Bool.and_eq_true_iff.1 k).1).2)
theorem mMrg_long {P Q : List Ed} (h : ¬ (mrg fstE P Q).length ≤ 16) : mMrg P Q = ([], false) := by
  unfold mMrg
  rw [if_neg]
  intro k
  exact h (by simpa using (Bool.and_eq_true_iff.1 k).2)
theorem mMrg_yes {P Q : List Ed} (h1 : (patB P && patB Q) = true) (h2 : cfl P Q = []) (h3 : (mrg fstE P Q).length ≤ 16) : mMrg P Q = (mrg fstE P Q, true) := by
  unfold mMrg
  rw [if_pos]
  rw [h1, h2]
  simpa using h3
end Go.Proofs.YtkaakomiimcbmaaDoor
