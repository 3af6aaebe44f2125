/- The specification's ComparePaths by its contract. -/
import Derived.Test.YtlpidgdlbannbaaWa2
namespace Go.Proofs.Ytlpidgdlbannbaa
open Go.ChangeShapes Go.WideShapes Go.ChangeAt Go.RowKit Go.Deep
set_option linter.unusedSimpArgs false
set_option linter.unusedVariables false
def headEq (p q : List Int) : Bool := decide (p.getD 0 0 = q.getD 0 0)
noncomputable def cmpB (L : List Vc) (rule : Int) (p q : List Int) : Bool := okLB L && inB rule 0 2 && pathB L p && pathB L q && headEq p q
theorem srule_any (n : Int) (w : World) : Calls Try.prog 60 #[.int .i64 n] w fun e w' => e = .returned (.bool (inB n 0 2)) ∧ w = w' := by
  have H := in_val n 0 2 w
  go_enter Try.func60, Try.ntmps60
  go_wp2_with fail
  refine H.mono ?_
  rintro e w1 ⟨rfl, rfl⟩
  go_wp2
  go_ret
  exact ⟨rfl, rfl⟩
theorem path_of {L : List Vc} {p : List Int} (h : pathB L p = true) : pathOk L p := by unfold pathB at h; exact @of_decide_eq_true _ (Classical.propDecidable _) h
theorem OwnI.head {w : World} {b : Nat} {p : List Int} (h : OwnI w b p) (h1 : 1 ≤ p.length) : b < w.heap.size ∧ w.cell? ⟨b, 0, none⟩ = some (.int .i64 (p.getD 0 0)) := by
  have := (h.row p.length).cons (by intro e; subst e; simp at h1)
  obtain ⟨x, c, e, hx, hc⟩ := this
  simp only [Value.slice.injEq, Option.some.injEq] at e
  obtain ⟨rfl, -, -⟩ := e
  exact ⟨hx, by have := hc 0 (by omega); simpa [Addr.add] using this⟩
end Go.Proofs.Ytlpidgdlbannbaa
