/- Laws on fractions, walked: FractionOf. -/
import Derived.Test.YtoppbeojmkbmcaaDoorFOf
namespace Go.Proofs.YtoppbeojmkbmcaaDoor
open Go.ChangeShapes Go.WideShapes Go.ChangeAt Go.RowKit
theorem eqf (x y : Int) (w : World) : Calls Tryd.prog 21 #[.agg #[.int .i64 x, .int .i64 y], .agg #[.int .i64 x, .int .i64 y]] w fun e w' => e = .returned (.bool true) ∧ Below w.heap.size w w' := by
  go_enter Tryd.func21, Tryd.ntmps21
  go_wp2
  go_ret
  exact ⟨rfl, ((Below.refl _ _).alloc (Nat.le_refl _) _).alloc (by simp) _⟩
theorem lawFractionOf_core (n d x y : Int) (b : Bool) (w : World) (hg : ErrT w) (hs : ∀ w, Calls Tryd.prog 19 #[.int .i64 n, .int .i64 d] w (frP b x y w)) (hi : ∀ w, ErrT w → Calls Tryd.prog 20 #[.int .i64 n, .int .i64 d] w (frP b x y w)) :
    Calls Tryd.prog 5 #[.int .i64 n, .int .i64 d] w fun e w' => e = .returned (.bool true) ∧ Below w.heap.size w w' := by
  have HS := Lib.hid hs
  have HI := Lib.hid hi
  have HG := Lib.hid hg
  clear hs hi hg
  go_enter Tryd.func5, Tryd.ntmps5
  go_wp2_with fail
  refine (HS.out _).mono ?_
  rintro e w1 ⟨rfl, b1⟩
  have e1 := HG.out.below b1
  go_wp2_with fail
  refine (HI.out _ (e1.below ((Below.refl _ _).alloc (Nat.le_refl _) _))).mono ?_
  rintro e w2 ⟨rfl, hb2⟩
  obtain ⟨hc2, hf2⟩ := bcell hb2
  have A0 : w2.cell? ⟨w1.heap.size, 0, none⟩ = some (.int .i64 x) := by rw [hc2 _ _ (by simp)]; go_simp
  have A1 : w2.cell? ⟨w1.heap.size, 1, none⟩ = some (.int .i64 y) := by rw [hc2 _ _ (by simp)]; go_simp
  have z2 : w1.heap.size < w2.heap.size := by have := hb2.size; simp at this; omega
  have b2 := (b1.alloc b1.size (.cells #[.int .i64 x, .int .i64 y] 28)).trans (hb2.mono (by have := b1.size; simp; omega))
  clear hc2 hf2
  go_wp2_with fail
  refine (eqf _ _ _).mono ?_
  rintro e w3 ⟨rfl, hb3⟩
  have b3 := (b2.alloc b2.size (.cells #[.int .i64 x, .int .i64 y] 28)).trans (hb3.mono (by have := b2.size; simp; omega))
  go_wp2
  go_ret
  exact ⟨rfl, b3⟩
theorem lawFractionOf (n d : Int) (w : World) (_h1 : (Lit.int .i64 n).wf = true) (_h2 : (Lit.int .i64 d).wf = true) (hg : ErrT w) :
    Calls Tryd.prog 5 #[.int .i64 n, .int .i64 d] w fun e w' => e = .returned (.bool true) ∧ Below w.heap.size w w' :=
  lawFractionOf_core n d _ _ _ w hg (fun w => sfo_any n d w) (fun w h => ifo_any n d w h)
end Go.Proofs.YtoppbeojmkbmcaaDoor
