/- What is attempted: a graph. -/
import Derived.Test.YthffhllkfadejaaAt1
namespace Go.Proofs.Ythffhllkfadejaa
open Go.ChangeShapes Go.WideShapes Go.ChangeAt Go.RowKit Go.Deep
set_option linter.unusedSimpArgs false
set_option linter.unusedVariables false
theorem att_no_graph (F : FuncId) (HF : ∀ args w, (callFunc F args).run Try.prog w = .ok (.enter F args) w) (caps : Array Value) (w : World)
    (HR : Calls Try.prog F caps (w.alloc (.cells #[.int .i64 0, .map none] 42)) fun e w' => Panics e ∧ Below (w.alloc (.cells #[.int .i64 0, .map none] 42)).heap.size (w.alloc (.cells #[.int .i64 0, .map none] 42)) w') :
    Calls Try.prog 20 #[.func (.func F) #[] caps] w fun e w' => e = .returned (.tuple #[.agg #[.int .i64 0, .map none], .bool false]) ∧ Below w.heap.size w w' := by
  go_enter_defers Try.func20, Try.ntmps20
  go_wp2_with fail
  refine HR.mono ?_
  rintro e w1 ⟨⟨u, v, rfl⟩, hb⟩
  have c0 : w1.cell? ⟨w.heap.size, 0, none⟩ = some (.int .i64 0) := by rw [hb.cell (p := ⟨w.heap.size, 0, none⟩) (by simp)]; go_simp
  have c1 : w1.cell? ⟨w.heap.size, 1, none⟩ = some (.map none) := by rw [hb.cell (p := ⟨w.heap.size, 1, none⟩) (by simp)]; go_simp
  go_wp2
  refine leaves_cons (f := 37) (args := #[]) (by simp) (by simp [go_sem]) ?_
  refine (catchG_panic u v [] _).mono ?_
  rintro e u' w'' ⟨rfl, rfl, rfl⟩
  simp [Leaves, settle, results, Try.results20, go_sem, c0, c1]
  exact ((Below.refl _ _).alloc (Nat.le_refl _) _).trans (hb.mono (by simp))
theorem att_yes_graph (F : FuncId) (HF : ∀ args w, (callFunc F args).run Try.prog w = .ok (.enter F args) w) (caps : Array Value) (w : World) (n : Int) (Q : Nat → World → Prop)
    (HR : Calls Try.prog F caps (w.alloc (.cells #[.int .i64 0, .map none] 42)) fun e w' => ∃ m, e = .returned (.agg #[.int .i64 n, .map (some m)]) ∧ Below (w.alloc (.cells #[.int .i64 0, .map none] 42)).heap.size (w.alloc (.cells #[.int .i64 0, .map none] 42)) w' ∧ Q m w') :
    Calls Try.prog 20 #[.func (.func F) #[] caps] w fun e w' => ∃ m, e = .returned (.tuple #[.agg #[.int .i64 n, .map (some m)], .bool true]) ∧ Below w.heap.size w w' := by
  go_enter_defers Try.func20, Try.ntmps20
  go_wp2_with fail
  refine HR.mono ?_
  rintro e w1 ⟨m, rfl, hb, hq⟩
  have c0 : w1.cell? ⟨w.heap.size, 0, none⟩ = some (.int .i64 0) := by rw [hb.cell (p := ⟨w.heap.size, 0, none⟩) (by simp)]; go_simp
  have c1 : w1.cell? ⟨w.heap.size, 1, none⟩ = some (.map none) := by rw [hb.cell (p := ⟨w.heap.size, 1, none⟩) (by simp)]; go_simp
  have f0 : w1.frozen? ⟨w.heap.size, 0, none⟩ = false := by rw [hb.frozen (p := ⟨w.heap.size, 0, none⟩) (by simp)]; go_simp
  have f1 : w1.frozen? ⟨w.heap.size, 1, none⟩ = false := by rw [hb.frozen (p := ⟨w.heap.size, 1, none⟩) (by simp)]; go_simp
  go_wp2
  refine leaves_cons (f := 37) (args := #[]) (by simp) (by simp [go_sem]) ?_
  refine (catchG_idle _).mono ?_
  rintro e u' w'' ⟨rfl, rfl, rfl⟩
  simp [Leaves, settle, results, Try.results20, go_sem, c0, c1]
  exact ((((Below.refl _ _).alloc (Nat.le_refl _) _).trans (hb.mono (by simp))).setCell (Nat.le_refl _) _).setCell (Nat.le_refl _) _
end Go.Proofs.Ythffhllkfadejaa
