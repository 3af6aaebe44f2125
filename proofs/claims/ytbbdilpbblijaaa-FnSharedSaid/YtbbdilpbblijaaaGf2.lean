/- Indices by decreasing values: the program's comparison and its stable sort of at most 20. -/
import Derived.Test.YtbbdilpbblijaaaGf1
import Derived.Test.YtbbdilpbblijaaaK1
import Derived.Test.YtbbdilpbblijaaaPo3
namespace Go.Proofs.Ytbbdilpbblijaaa
open Go.ChangeShapes Go.WideShapes Go.ChangeAt Go.RowKit Go.Deep
set_option linter.unusedSimpArgs false
set_option linter.unusedVariables false
def cmpJ (x y : Int) : Int := if x < y then -1 else if y < x then 1 else 0
theorem nanJ (x : Int) (w : World) : Calls Try.prog 21 #[.int .i64 x] w fun e w' => e = .returned (.bool false) ∧ w = w' := by
  go_enter Try.func21, Try.ntmps21
  go_wp2
  go_ret
  simp
set_option maxRecDepth 100000 in
theorem cmpJ_any (x y : Int) (w : World) : Calls Try.prog 18 #[.int .i64 x, .int .i64 y] w fun e w' => e = .returned (.int .i64 (cmpJ x y)) ∧ w = w' := by
  unfold cmpJ
  by_cases h1 : x < y
  · rw [if_pos h1]
    go_enter Try.func18, Try.ntmps18
    go_wp2_with (go_at_call 21; refine (nanJ _ _).mono ?_; rintro e w1 ⟨rfl, rfl⟩)
    go_ret
    exact ⟨rfl, rfl⟩
  · rw [if_neg h1]
    by_cases h2 : y < x
    · rw [if_pos h2]
      go_enter Try.func18, Try.ntmps18
      go_wp2_with (go_at_call 21; refine (nanJ _ _).mono ?_; rintro e w1 ⟨rfl, rfl⟩)
      go_ret
      exact ⟨rfl, rfl⟩
    · rw [if_neg h2]
      go_enter Try.func18, Try.ntmps18
      go_wp2_with (go_at_call 21; refine (nanJ _ _).mono ?_; rintro e w1 ⟨rfl, rfl⟩)
      go_ret
      exact ⟨rfl, rfl⟩
set_option maxRecDepth 100000 in
theorem gcmp (V : List Int) (lv : Value) (p i j : Nat) (w : World) (hp : w.cell? ⟨p, 0, none⟩ = some lv) (hv : RowV w lv V) (hi : i < V.length) (hj : j < V.length) :
    Calls Try.prog 17 #[.int .i64 (i : Int), .int .i64 (j : Int), .pointer (some ⟨p, 0, none⟩)] w fun e w' => e = .returned (.int .i64 (cmpJ (V.getD j 0) (V.getD i 0))) ∧ Drw w w' := by
  obtain ⟨x, cap, rfl, hx, hc⟩ := hv.cons (by intro h; subst h; simp at hi)
  have c1 := hc i hi
  have c2 := hc j hj
  have HC : ∀ n, Calls Try.prog 18 #[.int .i64 (V.getD j 0), .int .i64 (V.getD i 0)] (w.drewN n) fun e w' => e = .returned (.int .i64 (cmpJ (V.getD j 0) (V.getD i 0))) ∧ w.drewN n = w' := fun n => cmpJ_any _ _ _
  generalize cmpJ (V.getD j 0) (V.getD i 0) = z at HC ⊢
  generalize V.getD i 0 = a at c1 HC
  generalize V.getD j 0 = b at c2 HC
  clear hv hc
  go_enter Try.func17, Try.ntmps17
  go_wp2_with fail
  go_quiet ((first | (go_at_call 18; exact quiet_left (HC _))))
  go_wp2
  go_ret
  exact ⟨rfl, (Drw.refl _).drewN _⟩
end Go.Proofs.Ytbbdilpbblijaaa
