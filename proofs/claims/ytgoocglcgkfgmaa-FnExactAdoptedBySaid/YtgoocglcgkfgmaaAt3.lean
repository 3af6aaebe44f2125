/- What is attempted: a bool. -/
import Derived.Test.YtgoocglcgkfgmaaAt1
namespace Go.Proofs.Ytgoocglcgkfgmaa
open Go.ChangeShapes Go.WideShapes Go.ChangeAt Go.RowKit Go.Deep
set_option linter.unusedSimpArgs false
set_option linter.unusedVariables false
theorem catchB_panic (u : TypeId) (v : Value) (older : List PanicEntry) (w : World) :
    CallsD Try.prog 70 #[] (.panicking ({ v := .iface u v, recovered := false } :: older)) w fun e u' w' =>
      e = .returned (.tuple #[]) ∧ u' = .panicking ({ v := .iface u v, recovered := true } :: older) ∧ w' = w := by
  refine callsD_of_wpS Try.func70 rfl fun c₀ cs hu => ?_
  apply wpS_region
  simp [wpOpsS, go_sem, recoverD, hu, Try.ntmps70, bodyPostS, results, Try.results70]
theorem catchB_idle (w : World) :
    CallsD Try.prog 70 #[] .returning w fun e u' w' => e = .returned (.tuple #[]) ∧ u' = .returning ∧ w' = w := by
  refine callsD_of_wpS Try.func70 rfl fun c₀ cs hu => ?_
  apply wpS_region
  cases c₀
  simp_all [wpOpsS, go_sem, recoverD, Try.ntmps70, bodyPostS, results, Try.results70]
theorem att_no_bool (F : FuncId) (HF : ∀ args w, (callFunc F args).run Try.prog w = .ok (.enter F args) w) (caps : Array Value) (w : World)
    (HR : Calls Try.prog F caps w fun e w' => Panics e ∧ Below w.heap.size w w') :
    Calls Try.prog 58 #[.func (.func F) #[] caps] w fun e w' => e = .returned (.tuple #[.bool false, .bool false]) ∧ Below w.heap.size w w' := by
  go_enter_defers Try.func58, Try.ntmps58
  go_wp2_with fail
  refine HR.mono ?_
  rintro e w1 ⟨⟨u, v, rfl⟩, hb⟩
  go_wp2
  refine leaves_cons (f := 70) (args := #[]) (by simp) (by simp [go_sem]) ?_
  refine (catchB_panic u v [] _).mono ?_
  rintro e u' w'' ⟨rfl, rfl, rfl⟩
  simp [Leaves, settle, results, Try.results58, go_sem]
  exact hb
theorem att_yes_bool (F : FuncId) (HF : ∀ args w, (callFunc F args).run Try.prog w = .ok (.enter F args) w) (caps : Array Value) (w : World) (z : Bool)
    (HR : Calls Try.prog F caps w fun e w' => e = .returned (.bool z) ∧ Below w.heap.size w w') :
    Calls Try.prog 58 #[.func (.func F) #[] caps] w fun e w' => e = .returned (.tuple #[.bool z, .bool true]) ∧ Below w.heap.size w w' := by
  go_enter_defers Try.func58, Try.ntmps58
  go_wp2_with fail
  refine HR.mono ?_
  rintro e w1 ⟨rfl, hb⟩
  go_wp2
  refine leaves_cons (f := 70) (args := #[]) (by simp) (by simp [go_sem]) ?_
  refine (catchB_idle _).mono ?_
  rintro e u' w'' ⟨rfl, rfl, rfl⟩
  simp [Leaves, settle, results, Try.results58, go_sem]
  exact hb
end Go.Proofs.Ytgoocglcgkfgmaa
