/- Several of this claim's texts in one: At1, At2, At4. -/
import Derived.Test.YtllfopbpchjhpaaDoorFm2
import Derived.Defers
import Derived.Recover
import Derived.WalkLawsBesides
/- What a function requires, and what is attempted: a panic that is recovered. -/
namespace Go.Proofs.YtllfopbpchjhpaaDoor
open Go.ChangeShapes Go.WideShapes Go.ChangeAt Go.RowKit Go.Deep
set_option linter.unusedSimpArgs false
set_option linter.unusedVariables false
/-- The panic of what is required and does not hold. -/
abbrev notMet : Value := .iface 9 (.string ⟨#[97, 32, 114, 101, 113, 117, 105, 114, 101, 109, 101, 110, 116, 32, 105, 115, 32, 110, 111, 116, 32, 109, 101, 116]⟩)
def Panics (e : Ending) : Prop := ∃ u v, e = .panicked [{ v := .iface u v, recovered := false }]
theorem req_yes (w : World) : Calls Tryd.prog 15 #[.bool true] w fun e w' => e = .returned (.tuple #[]) ∧ w = w' := by
  go_enter Tryd.func15, Tryd.ntmps15
  go_wp2
  go_end0
  exact ⟨rfl, rfl⟩
theorem req_no (w : World) : Calls Tryd.prog 15 #[.bool false] w fun e w' => e = .panicked [{ v := notMet, recovered := false }] ∧ w = w' := by
  go_enter Tryd.func15, Tryd.ntmps15
  go_wp2
  exact ⟨rfl, rfl, rfl⟩
end Go.Proofs.YtllfopbpchjhpaaDoor
/- What is attempted: a graph. -/
namespace Go.Proofs.YtllfopbpchjhpaaDoor
open Go.ChangeShapes Go.WideShapes Go.ChangeAt Go.RowKit Go.Deep
set_option linter.unusedSimpArgs false
set_option linter.unusedVariables false
end Go.Proofs.YtllfopbpchjhpaaDoor
/- What is attempted: a list. -/
namespace Go.Proofs.YtllfopbpchjhpaaDoor
open Go.ChangeShapes Go.WideShapes Go.ChangeAt Go.RowKit Go.Deep
set_option linter.unusedSimpArgs false
set_option linter.unusedVariables false
theorem catchI_panic (u : TypeId) (v : Value) (older : List PanicEntry) (w : World) :
    CallsD Tryd.prog 21 #[] (.panicking ({ v := .iface u v, recovered := false } :: older)) w fun e u' w' =>
      e = .returned (.tuple #[]) ∧ u' = .panicking ({ v := .iface u v, recovered := true } :: older) ∧ w' = w := by
  refine callsD_of_wpS Tryd.func21 rfl fun c₀ cs hu => ?_
  apply wpS_region
  simp [wpOpsS, go_sem, recoverD, hu, Tryd.ntmps21, bodyPostS, results, Tryd.results21]
theorem catchI_idle (w : World) :
    CallsD Tryd.prog 21 #[] .returning w fun e u' w' => e = .returned (.tuple #[]) ∧ u' = .returning ∧ w' = w := by
  refine callsD_of_wpS Tryd.func21 rfl fun c₀ cs hu => ?_
  apply wpS_region
  cases c₀
  simp_all [wpOpsS, go_sem, recoverD, Tryd.ntmps21, bodyPostS, results, Tryd.results21]
theorem att_no_ints (F : FuncId) (HF : ∀ args w, (callFunc F args).run Tryd.prog w = .ok (.enter F args) w) (caps : Array Value) (w : World)
    (HR : Calls Tryd.prog F caps w fun e w' => Panics e ∧ Below w.heap.size w w') :
    Calls Tryd.prog 10 #[.func (.func F) #[] caps] w fun e w' => e = .returned (.tuple #[.slice none 0 0, .bool false]) ∧ Below w.heap.size w w' := by
  go_enter_defers Tryd.func10, Tryd.ntmps10
  go_wp2_with fail
  refine HR.mono ?_
  rintro e w1 ⟨⟨u, v, rfl⟩, hb⟩
  go_wp2
  refine leaves_cons (f := 21) (args := #[]) (by simp) (by simp [go_sem]) ?_
  refine (catchI_panic u v [] _).mono ?_
  rintro e u' w'' ⟨rfl, rfl, rfl⟩
  simp [Leaves, settle, results, Tryd.results10, go_sem]
  exact hb
theorem att_yes_ints (F : FuncId) (HF : ∀ args w, (callFunc F args).run Tryd.prog w = .ok (.enter F args) w) (caps : Array Value) (w : World) (l : List Int)
    (HR : Calls Tryd.prog F caps w fun e w' => (∃ v, e = .returned v ∧ OwI w' w.heap.size w'.heap.size v l) ∧ Below w.heap.size w w') :
    Calls Tryd.prog 10 #[.func (.func F) #[] caps] w fun e w' => (∃ v, e = .returned (.tuple #[v, .bool true]) ∧ OwI w' w.heap.size w'.heap.size v l) ∧ Below w.heap.size w w' := by
  go_enter_defers Tryd.func10, Tryd.ntmps10
  go_wp2_with fail
  refine HR.mono ?_
  rintro e w1 ⟨⟨v, rfl, ho⟩, hb⟩
  go_wp2
  refine leaves_cons (f := 21) (args := #[]) (by simp) (by simp [go_sem]) ?_
  refine (catchI_idle _).mono ?_
  rintro e u' w'' ⟨rfl, rfl, rfl⟩
  simp [Leaves, settle, results, Tryd.results10, go_sem]
  exact ⟨ho, hb⟩
end Go.Proofs.YtllfopbpchjhpaaDoor
