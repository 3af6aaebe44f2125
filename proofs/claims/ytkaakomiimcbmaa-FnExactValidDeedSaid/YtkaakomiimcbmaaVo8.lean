/- areDifferentMembers and the program's ValidVoices by their contracts. -/
import Derived.Test.YtkaakomiimcbmaaVo7
import Derived.Maps.Own
import Derived.Maps.OwnSet
import Derived.Maps.Views
namespace Go.Proofs.Ytkaakomiimcbmaa
open Go.ChangeShapes Go.WideShapes Go.ChangeAt Go.RowKit Go.Deep Go.Maps
set_option linter.unusedSimpArgs false
set_option linter.unusedVariables false
set_option maxRecDepth 100000
abbrev TM : TypeId := 94
theorem keyI : Keyed Try.prog 2 := int_keyed Try.underlying2
theorem zeroB (w : World) : (zeroValue 4).run Try.prog w = .ok (.bool false) w := by kernel_rfl
/-- The call's own set holds just the numbers of l. -/
def SetIs (w : World) (b n : Nat) (l : List Int) : Prop :=
  ∃ D : DataW Unit, w.ownsMap Try.prog 2 (plainElem Try.prog 4) b n D ∧ ∀ y : Int, D.atKey (.int .i64 y) (.lit (.bool false)) = .lit (.bool (decide (y ∈ l)))
theorem bool_inv {v : Value} {z : DataW Unit × List MemPlace} (h : plainElem Try.prog 4 v = some z) : ∃ x, v = .bool x ∧ z.1 = .lit (.bool x) := by
  unfold plainElem at h
  rw [Try.underlying4] at h
  cases v <;> simp at h
  subst h
  exact ⟨_, rfl, rfl⟩
theorem SetIs.look {w : World} {b n : Nat} {l : List Int} (h : SetIs w b n l) (y : Int) (hy : (Lit.int .i64 y).wf = true) :
    (Instr.lookup TM (.map (some b)) (.int .i64 y) false).run Try.prog w = .ok (.bool (decide (y ∈ l))) w := by
  obtain ⟨D, h, hD⟩ := h
  obtain ⟨v, ps, hrun, hv⟩ := h.lookup keyI Try.underlying94 (zeroB w) (plainElem_bool Try.underlying4 false) (keyOf_int_mk Try.underlying2 hy)
  obtain ⟨x, rfl, hx⟩ := bool_inv hv
  have e : (DataW.lit (Lit.bool (decide (y ∈ l))) : DataW Unit) = .lit (.bool x) := (hD y).symm.trans hx
  injection e with e
  injection e with e
  rw [hrun, e]
theorem SetIs.store {w : World} {b n : Nat} {l : List Int} (h : SetIs w b n l) (hn : n < maxLen) (y : Int) (hy : (Lit.int .i64 y).wf = true) :
    ∃ w', (Instr.mapUpdate TM (.map (some b)) (.int .i64 y) (.bool true)).run Try.prog w = .ok () w' ∧ SetIs w' b (n + 1) (l ++ [y]) ∧ w.grownBy w' (some b) := by
  obtain ⟨D, h, hD⟩ := h
  obtain ⟨w', hrun, h', hg⟩ := h.update keyI Try.underlying94 hn (keyOf_int_mk Try.underlying2 hy) (plainElem_bool Try.underlying4 true)
  refine ⟨w', hrun, ⟨_, h', fun z => ?_⟩, hg⟩
  by_cases e : z = y
  · subst e
    rw [atKey_put_same h.isMap (by exact trivial)]
    simp
  · rw [atKey_put_other (by intro q; injection q; contradiction), hD]
    simp [e]
/-- The elements of l are numbers of n members, no two alike. -/
def allDiff (n : Nat) (l : List Int) : Prop := ∀ m, m < l.length → 0 ≤ l.getD m 0 ∧ l.getD m 0 < (n : Int) ∧ ¬ l.getD m 0 ∈ l.take m
noncomputable def allDiffB (n : Nat) (l : List Int) : Bool := @decide (allDiff n l) (Classical.propDecidable _)
theorem allDiffB_yes {n : Nat} {l : List Int} (h : allDiff n l) : allDiffB n l = true := by simp [allDiffB, h]
theorem allDiffB_no {n : Nat} {l : List Int} (h : ¬ allDiff n l) : allDiffB n l = false := by simp [allDiffB, h]
end Go.Proofs.Ytkaakomiimcbmaa
