/- What is attempted: a list. -/
import Derived.Test.YtgoocglcgkfgmaaAt1
namespace Go.Proofs.Ytgoocglcgkfgmaa
open Go.ChangeShapes Go.WideShapes Go.ChangeAt Go.RowKit Go.Deep
set_option linter.unusedSimpArgs false
set_option linter.unusedVariables false
theorem catchI_panic (u : TypeId) (v : Value) (older : List PanicEntry) (w : World) :
    CallsD Try.prog 67 #[] (.panicking ({ v := .iface u v, recovered := false } :: older)) w fun e u' w' =>
      e = .returned (.tuple #[]) ∧ u' = .panicking ({ v := .iface u v, recovered := true } :: older) ∧ w' = w := by
  refine callsD_of_wpS Try.func67 rfl fun c₀ cs hu => ?_
  apply wpS_region
  simp [wpOpsS, go_sem, recoverD, hu, Try.ntmps67, bodyPostS, results, Try.results67]
theorem catchI_idle (w : World) :
    CallsD Try.prog 67 #[] .returning w fun e u' w' => e = .returned (.tuple #[]) ∧ u' = .returning ∧ w' = w := by
  refine callsD_of_wpS Try.func67 rfl fun c₀ cs hu => ?_
  apply wpS_region
  cases c₀
  simp_all [wpOpsS, go_sem, recoverD, Try.ntmps67, bodyPostS, results, Try.results67]
theorem att_no_ints (F : FuncId) (HF : ∀ args w, (callFunc F args).run Try.prog w = .ok (.enter F args) w) (caps : Array Value) (w : World)
    (HR : Calls Try.prog F caps w fun e w' => Panics e ∧ Below w.heap.size w w') :
    Calls Try.prog 53 #[.func (.func F) #[] caps] w fun e w' => e = .returned (.tuple #[.slice none 0 0, .bool false]) ∧ Below w.heap.size w w' := by
  go_enter_defers Try.func53, Try.ntmps53
  go_wp2_with fail
  refine HR.mono ?_
  rintro e w1 ⟨⟨u, v, rfl⟩, hb⟩
  go_wp2
  refine leaves_cons (f := 67) (args := #[]) (by simp) (by simp [go_sem]) ?_
  refine (catchI_panic u v [] _).mono ?_
  rintro e u' w'' ⟨rfl, rfl, rfl⟩
  simp [Leaves, settle, results, Try.results53, go_sem]
  exact hb
theorem att_yes_ints (F : FuncId) (HF : ∀ args w, (callFunc F args).run Try.prog w = .ok (.enter F args) w) (caps : Array Value) (w : World) (l : List Int)
    (HR : Calls Try.prog F caps w fun e w' => (∃ v, e = .returned v ∧ OwI w' w.heap.size w'.heap.size v l) ∧ Below w.heap.size w w') :
    Calls Try.prog 53 #[.func (.func F) #[] caps] w fun e w' => (∃ v, e = .returned (.tuple #[v, .bool true]) ∧ OwI w' w.heap.size w'.heap.size v l) ∧ Below w.heap.size w w' := by
  go_enter_defers Try.func53, Try.ntmps53
  go_wp2_with fail
  refine HR.mono ?_
  rintro e w1 ⟨⟨v, rfl, ho⟩, hb⟩
  go_wp2
  refine leaves_cons (f := 67) (args := #[]) (by simp) (by simp [go_sem]) ?_
  refine (catchI_idle _).mono ?_
  rintro e u' w'' ⟨rfl, rfl, rfl⟩
  simp [Leaves, settle, results, Try.results53, go_sem]
  exact ⟨ho, hb⟩
end Go.Proofs.Ytgoocglcgkfgmaa
