/- Several of this claim's texts in one: At1, At2. -/
import Derived.Test.YtfkeadifmjbodaaDoorFm2
import Derived.Defers
import Derived.Recover
import Derived.WalkLawsBesides
/- What a function requires, and what is attempted: a panic that is recovered. -/
namespace Go.Proofs.YtfkeadifmjbodaaDoor
open Go.ChangeShapes Go.WideShapes Go.ChangeAt Go.RowKit Go.Deep
set_option linter.unusedSimpArgs false
set_option linter.unusedVariables false
/-- The panic of what is required and does not hold. -/
abbrev notMet : Value := .iface 9 (.string ⟨#[97, 32, 114, 101, 113, 117, 105, 114, 101, 109, 101, 110, 116, 32, 105, 115, 32, 110, 111, 116, 32, 109, 101, 116]⟩)
def Panics (e : Ending) : Prop := ∃ u v, e = .panicked [{ v := .iface u v, recovered := false }]
theorem req_yes (w : World) : Calls Tryd.prog 59 #[.bool true] w fun e w' => e = .returned (.tuple #[]) ∧ w = w' := by
  go_enter Tryd.func59, Tryd.ntmps59
  go_wp2
  go_end0
  exact ⟨rfl, rfl⟩
theorem req_no (w : World) : Calls Tryd.prog 59 #[.bool false] w fun e w' => e = .panicked [{ v := notMet, recovered := false }] ∧ w = w' := by
  go_enter Tryd.func59, Tryd.ntmps59
  go_wp2
  exact ⟨rfl, rfl, rfl⟩
theorem catchG_panic (u : TypeId) (v : Value) (older : List PanicEntry) (w : World) :
    CallsD Tryd.prog 138 #[] (.panicking ({ v := .iface u v, recovered := false } :: older)) w fun e u' w' =>
      e = .returned (.tuple #[]) ∧ u' = .panicking ({ v := .iface u v, recovered := true } :: older) ∧ w' = w := by
  refine callsD_of_wpS Tryd.func138 rfl fun c₀ cs hu => ?_
  apply wpS_region
  simp [wpOpsS, go_sem, recoverD, hu, Tryd.ntmps138, bodyPostS, results, Tryd.results138]
theorem catchG_idle (w : World) :
    CallsD Tryd.prog 138 #[] .returning w fun e u' w' => e = .returned (.tuple #[]) ∧ u' = .returning ∧ w' = w := by
  refine callsD_of_wpS Tryd.func138 rfl fun c₀ cs hu => ?_
  apply wpS_region
  cases c₀
  simp_all [wpOpsS, go_sem, recoverD, Tryd.ntmps138, bodyPostS, results, Tryd.results138]
end Go.Proofs.YtfkeadifmjbodaaDoor
/- What is attempted: a graph. -/
namespace Go.Proofs.YtfkeadifmjbodaaDoor
open Go.ChangeShapes Go.WideShapes Go.ChangeAt Go.RowKit Go.Deep
set_option linter.unusedSimpArgs false
set_option linter.unusedVariables false
theorem att_no_graph (F : FuncId) (HF : ∀ args w, (callFunc F args).run Tryd.prog w = .ok (.enter F args) w) (caps : Array Value) (w : World)
    (HR : Calls Tryd.prog F caps (w.alloc (.cells #[.int .i64 0, .map none] 79)) fun e w' => Panics e ∧ Below (w.alloc (.cells #[.int .i64 0, .map none] 79)).heap.size (w.alloc (.cells #[.int .i64 0, .map none] 79)) w') :
    Calls Tryd.prog 112 #[.func (.func F) #[] caps] w fun e w' => e = .returned (.tuple #[.agg #[.int .i64 0, .map none], .bool false]) ∧ Below w.heap.size w w' := by
  go_enter_defers Tryd.func112, Tryd.ntmps112
  go_wp2_with fail
  refine HR.mono ?_
  rintro e w1 ⟨⟨u, v, rfl⟩, hb⟩
  have c0 : w1.cell? ⟨w.heap.size, 0, none⟩ = some (.int .i64 0) := by rw [hb.cell (p := ⟨w.heap.size, 0, none⟩) (by simp)]; go_simp
  have c1 : w1.cell? ⟨w.heap.size, 1, none⟩ = some (.map none) := by rw [hb.cell (p := ⟨w.heap.size, 1, none⟩) (by simp)]; go_simp
  go_wp2
  refine leaves_cons (f := 138) (args := #[]) (by simp) (by simp [go_sem]) ?_
  refine (catchG_panic u v [] _).mono ?_
  rintro e u' w'' ⟨rfl, rfl, rfl⟩
  simp [Leaves, settle, results, Tryd.results112, go_sem, c0, c1]
  exact ((Below.refl _ _).alloc (Nat.le_refl _) _).trans (hb.mono (by simp))
theorem att_yes_graph (F : FuncId) (HF : ∀ args w, (callFunc F args).run Tryd.prog w = .ok (.enter F args) w) (caps : Array Value) (w : World) (n : Int) (Q : Nat → World → Prop)
    (HR : Calls Tryd.prog F caps (w.alloc (.cells #[.int .i64 0, .map none] 79)) fun e w' => ∃ m, e = .returned (.agg #[.int .i64 n, .map (some m)]) ∧ Below (w.alloc (.cells #[.int .i64 0, .map none] 79)).heap.size (w.alloc (.cells #[.int .i64 0, .map none] 79)) w' ∧ Q m w') :
    Calls Tryd.prog 112 #[.func (.func F) #[] caps] w fun e w' => ∃ m, e = .returned (.tuple #[.agg #[.int .i64 n, .map (some m)], .bool true]) ∧ Below w.heap.size w w' := by
  go_enter_defers Tryd.func112, Tryd.ntmps112
  go_wp2_with fail
  refine HR.mono ?_
  rintro e w1 ⟨m, rfl, hb, hq⟩
  have c0 : w1.cell? ⟨w.heap.size, 0, none⟩ = some (.int .i64 0) := by rw [hb.cell (p := ⟨w.heap.size, 0, none⟩) (by simp)]; go_simp
  have c1 : w1.cell? ⟨w.heap.size, 1, none⟩ = some (.map none) := by rw [hb.cell (p := ⟨w.heap.size, 1, none⟩) (by simp)]; go_simp
  have f0 : w1.frozen? ⟨w.heap.size, 0, none⟩ = false := by rw [hb.frozen (p := ⟨w.heap.size, 0, none⟩) (by simp)]; go_simp
  have f1 : w1.frozen? ⟨w.heap.size, 1, none⟩ = false := by rw [hb.frozen (p := ⟨w.heap.size, 1, none⟩) (by simp)]; go_simp
  go_wp2
  refine leaves_cons (f := 138) (args := #[]) (by simp) (by simp [go_sem]) ?_
  refine (catchG_idle _).mono ?_
  rintro e u' w'' ⟨rfl, rfl, rfl⟩
  simp [Leaves, settle, results, Tryd.results112, go_sem, c0, c1]
  exact ((((Below.refl _ _).alloc (Nat.le_refl _) _).trans (hb.mono (by simp))).setCell (Nat.le_refl _) _).setCell (Nat.le_refl _) _
end Go.Proofs.YtfkeadifmjbodaaDoor
