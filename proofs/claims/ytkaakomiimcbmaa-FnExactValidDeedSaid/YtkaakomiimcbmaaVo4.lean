/- The size of what came in; lists of numbers asked for a number; lists of voices compared. -/
import Derived.Test.YtkaakomiimcbmaaVo3
namespace Go.Proofs.Ytkaakomiimcbmaa
open Go.ChangeShapes Go.WideShapes Go.ChangeAt Go.RowKit Go.Deep
set_option linter.unusedSimpArgs false
set_option linter.unusedVariables false
theorem RowV.shape {w : World} {v : Value} {l : List Int} (h : RowV w v l) : ∃ a cap, v = .slice a l.length cap := by
  rcases h with ⟨rfl, rfl⟩ | ⟨x, cap, rfl, -, -⟩
  · exact ⟨none, 0, rfl⟩
  · exact ⟨_, cap, rfl⟩
def szOf (n : Nat) (left : Int) : Int := if left - n < 0 then -1 else left - n
theorem szI (v : Value) (l : List Int) (left : Int) (w : World) (h : RowV w v l) (hl : l.length ≤ 9223372036854775807) (h1 : 0 ≤ left) (h2 : left ≤ 1048576) :
    Calls Try.prog 9 #[v, .int .i64 left] w fun e w' => e = .returned (.int .i64 (szOf l.length left)) ∧ w = w' := by
  obtain ⟨a, cap, rfl⟩ := h.shape
  unfold szOf
  by_cases hc : left - l.length < 0
  · go_enter Try.func9, Try.ntmps9
    go_wp2
    go_ret
    simp [hc]
  · go_enter Try.func9, Try.ntmps9
    go_wp2
    go_ret
    simp [hc]
/-- What the law's size test lets through. -/
def Fits (L : List Vc) : Prop := L.length ≤ 1048576 ∧ ∀ k, k < L.length → (L.getD k (false, [])).2.length ≤ 1048576
def Room (L : List Vc) : Prop := L.length ≤ 9223372036854775807 ∧ ∀ k, k < L.length → (L.getD k (false, [])).2.length ≤ 9223372036854775807
end Go.Proofs.Ytkaakomiimcbmaa
