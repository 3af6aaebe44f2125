/- The order of an audit: no program in sight. -/
import Derived.Test.YtgoocglcgkfgmaaSw1
namespace Go.Proofs.Ytgoocglcgkfgmaa
/-- The numbers below n. -/
def iota (n : Nat) : List Int := (List.range n).map fun i : Nat => (i : Int)
theorem iota_succ (n : Nat) : iota (n + 1) = iota n ++ [(n : Int)] := by unfold iota; rw [List.range_succ]; simp
theorem iota_len (n : Nat) : (iota n).length = n := by simp [iota]
theorem iota_at {n i : Nat} (h : i < n) : (iota n).getD i 0 = (i : Int) := by simp [iota, List.getD, h]
/-- Two places are exchanged. -/
def swF (f : Nat → Int) (i j : Nat) : Nat → Int := fun k => if k = j then f i else if k = i then f j else f k
/-- The next number that the order depends on. -/
def nxt (s : Int) : Int := (48271 * s + 11) % 2147483647
/-- What is left when the places from i down to 1 have been exchanged. -/
def shF (s : Int) (f : Nat → Int) : Nat → Nat → Int
  | 0 => f
  | i + 1 => shF (nxt s) (swF f (i + 1) (nxt s % ((i : Int) + 2)).toNat) i
def shL (s : Int) (n : Nat) : List Int := (List.range n).map fun k : Nat => shF s (fun j => (j : Int)) (n - 1) k
theorem shL_len (s : Int) (n : Nat) : (shL s n).length = n := by simp [shL]
theorem shL_at {s : Int} {n i : Nat} (h : i < n) : (shL s n).getD i 0 = shF s (fun j => (j : Int)) (n - 1) i := by simp [shL, List.getD, h]
def sdOk (s : Int) : Prop := 0 ≤ s ∧ s ≤ 2147483646
theorem nxt_ok (s : Int) : sdOk (nxt s) := ⟨Int.emod_nonneg _ (by omega), by unfold nxt; have := Int.emod_lt_of_pos (48271 * s + 11) (show (0 : Int) < 2147483647 by omega); omega⟩
/-- One step, with the facts that a walk wants. -/
theorem au_step (s : Int) (j : Nat) (hs : sdOk s) (hj : j < 30) : ∃ p q r a b m, 48271 * s = p ∧ IntKind.i64.wrap p = p ∧ p + 11 = q ∧ IntKind.i64.wrap q = q ∧ 0 ≤ q ∧ q % 2147483647 = r ∧ q.tmod 2147483647 = r ∧ IntKind.i64.wrap r = r ∧ 0 ≤ r ∧
    ((j : Int) + 1) + 1 = b ∧ IntKind.i64.wrap b = b ∧ 0 < b ∧ r % b = a ∧ r.tmod b = a ∧ IntKind.i64.wrap a = a ∧ a = ((m : Nat) : Int) ∧ m ≤ j + 1 ∧ r = nxt s ∧ (nxt s % ((j : Int) + 2)).toNat = m := by
  obtain ⟨s0, s1⟩ := hs
  have n0 := nxt_ok s
  obtain ⟨r0, r1⟩ := n0
  have hq : (48271 * s + 11) % 2147483647 = nxt s := rfl
  have a0 := Int.emod_nonneg (nxt s) (show ((j : Int) + 2) ≠ 0 by omega)
  have a1 := Int.emod_lt_of_pos (nxt s) (show 0 < ((j : Int) + 2) by omega)
  have e2 : ((j : Int) + 1) + 1 = (j : Int) + 2 := by omega
  refine ⟨48271 * s, _, nxt s, nxt s % ((j : Int) + 2), (j : Int) + 2, (nxt s % ((j : Int) + 2)).toNat, rfl, ?_, rfl, ?_, ?_, hq, ?_, ?_, r0, e2, ?_, by omega, rfl, ?_, ?_, ?_, ?_, rfl, rfl⟩
  · rw [IntKind.wrap_i64]; omega
  · rw [IntKind.wrap_i64]; omega
  · omega
  · rw [Int.tmod_eq_emod_of_nonneg (by omega)]; exact hq
  · rw [IntKind.wrap_i64]; omega
  · rw [IntKind.wrap_i64]; omega
  · exact Int.tmod_eq_emod_of_nonneg r0
  · rw [IntKind.wrap_i64]; omega
  · omega
  · omega
/-- A row whose first n places are numbers. -/
def rowF (n : Nat) (f : Nat → Int) (g : Nat → Value) : Nat → Value := fun k => if k < n then .int .i64 (f k) else g k
theorem rowF_at {n : Nat} {f : Nat → Int} {g : Nat → Value} {k : Nat} (h : k < n) : rowF n f g k = .int .i64 (f k) := by simp [rowF, h]
theorem rowF_sw (n : Nat) (f : Nat → Int) (g : Nat → Value) {i j : Nat} (hi : i < n) (hj : j < n) (k : Nat) :
    (if k = i then Value.int .i64 (f j) else if k = j then Value.int .i64 (f i) else rowF n f g k) = rowF n (swF f i j) g k := by
  unfold rowF swF
  by_cases h1 : k = i
  · subst h1
    rw [if_pos rfl, if_pos hi]
    by_cases h2 : k = j
    · subst h2; simp
    · simp [h2]
  · rw [if_neg h1]
    by_cases h2 : k = j
    · subst h2; simp [hj]
    · simp [h1, h2]
theorem rowF_sw2 (n : Nat) (f : Nat → Int) (g : Nat → Value) {i j : Nat} (hi : i < n) (hj : j < n) (k : Nat) :
    (if k = j then Value.int .i64 (f i) else if k = i then Value.int .i64 (f j) else rowF n f g k) = rowF n (swF f i j) g k := by
  unfold rowF swF
  by_cases h1 : k = j
  · subst h1; simp [hj]
  · rw [if_neg h1]
    by_cases h2 : k = i
    · subst h2; simp [hi, h1]
    · simp [h1, h2]
end Go.Proofs.Ytgoocglcgkfgmaa
