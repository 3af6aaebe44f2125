/- KeptParts on both sides. -/
import Derived.Test.YtlpidgdlbannbaaSh6
import Derived.Deep.AppendLies
namespace Go.Proofs.Ytlpidgdlbannbaa
open Go.ChangeShapes Go.WideShapes Go.ChangeAt Go.RowKit Go.Deep
set_option linter.unusedSimpArgs false
set_option linter.unusedVariables false
/-- What each member keeps. -/
def keptL (L : List (List Sq)) : List Int := L.map fun t => 12 - sumP t t.length
theorem keptL_len (L : List (List Sq)) : (keptL L).length = L.length := by simp [keptL]
theorem keptL_at (L : List (List Sq)) {k : Nat} (h : k < L.length) : (keptL L).getD k 0 = 12 - sumP (L.getD k []) (L.getD k []).length := by simp [keptL, List.getD, h]
noncomputable def mKept (L : List (List Sq)) : List Int × Bool := if okSB L = true then (keptL L, true) else ([], false)
theorem take_snocI (l : List Int) (k : Nat) (x : Int) (hk : k < l.length) (hx : l.getD k 0 = x) : (l.take k).map (Value.int .i64) ++ [Value.int .i64 x] = (l.take (k + 1)).map (Value.int .i64) := by
  rw [List.take_add_one]
  simp [List.getD, hk] at hx
  simp [hk, hx]
theorem rowS_bd {n i : Nat} {t : List Sq} (h : rowS n i t) {m : Nat} (hm : m ≤ t.length) : 0 ≤ sumP t m ∧ sumP t m ≤ 12 := by
  have h1 := sumP_bd (k := m) (fun j hj => h.1 j (by omega)) hm
  refine ⟨h1.1, ?_⟩
  have key : ∀ d, m + d ≤ t.length → sumP t m ≤ sumP t (m + d) := by
    intro d
    induction d with
    | zero => intro _; exact Int.le_refl _
    | succ d ih =>
      intro hd
      have h2 := ih (by omega)
      have h3 := sumP_succ t (m + d) (by omega)
      have h4 := (h.1 (m + d) (by omega)).2.2.2.1
      have e : m + (d + 1) = m + d + 1 := by omega
      rw [e]
      omega
  have h5 := key (t.length - m) (by omega)
  have e : m + (t.length - m) = t.length := by omega
  rw [e] at h5
  have := h.2
  omega
/-- Cell j of the row of what members keep, when m shares of member k have been taken off. -/
def kf (L : List (List Sq)) (k : Nat) (x : Int) : Nat → Value := fun j => if j < k then .int .i64 ((keptL L).getD j 0) else if j = k then .int .i64 x else .int .i64 0
theorem kf_at (L : List (List Sq)) (k : Nat) (x : Int) : kf L k x k = .int .i64 x := by simp [kf]
theorem mKept_yes {L : List (List Sq)} (h : okSB L = true) : mKept L = (keptL L, true) := by unfold mKept; rw [if_pos h]
theorem mKept_no {L : List (List Sq)} (h : okSB L = false) : mKept L = ([], false) := by unfold mKept; rw [if_neg (by rw [h]; decide)]
end Go.Proofs.Ytlpidgdlbannbaa
