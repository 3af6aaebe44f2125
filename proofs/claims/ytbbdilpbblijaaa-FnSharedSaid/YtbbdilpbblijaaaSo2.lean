/- Shares of a whole: the sums of weights, both sides; one exact share. -/
import Derived.Test.YtbbdilpbblijaaaSo1
import Derived.Test.YtbbdilpbblijaaaK1
import Derived.Test.YtbbdilpbblijaaaPo3
import Derived.Test.YtbbdilpbblijaaaShelfM
namespace Go.Proofs.Ytbbdilpbblijaaa
open Go.ChangeShapes Go.WideShapes Go.ChangeAt Go.RowKit Go.Deep
set_option linter.unusedSimpArgs false
set_option linter.unusedVariables false
def wIn (W : List Int) : Prop := ∀ k, k < W.length → 0 ≤ W.getD k 0 ∧ W.getD k 0 ≤ 1000000000
noncomputable def wInB (W : List Int) : Bool := @decide (wIn W) (Classical.propDecidable _)
theorem wInB_yes {W : List Int} (h : wIn W) : wInB W = true := by simp [wInB, h]
theorem wInB_no {W : List Int} (h : ¬ wIn W) : wInB W = false := by simp [wInB, h]
theorem wInB_iff {W : List Int} : wInB W = true ↔ wIn W := by simp [wInB]
/-- The specification's sum: -1 if the weights are not as they must be. -/
noncomputable def tot (W : List Int) : Int := if (decide (W.length ≤ 20) && wInB W) = true then wsum W W.length else -1
/-- What the program's bounded sum answers. -/
def BSum (W : List Int) (w : World) (e : Ending) (w' : World) : Prop := ∃ (x : Int) (z : Bool), e = .returned (.tuple #[.int .i64 x, .bool z]) ∧ w = w' ∧ z = wInB W ∧ (z = true → x = wsum W W.length)
theorem isumb (v : Value) (W : List Int) (w : World) (h : RowV w v W) (hl : W.length ≤ 20) :
    Calls Try.prog 13 #[v, .int .i64 1000000000] w (BSum W w) := by
  by_cases e : W = []
  · subst e
    obtain ⟨a, cap, rfl⟩ := h.shape
    clear h
    go_enter Try.func13, Try.ntmps13
    go_wp2
    go_loopg [6, 11] 0 (fun g s i wr => s = .int .i64 0 ∧ i = .int .i64 0 ∧ w = wr)
    case atStart => exact ⟨rfl, rfl, rfl⟩
    case round =>
      obtain ⟨rfl, rfl, rfl⟩ := hrel
      go_wp2
      go_ret2
      exact ⟨_, _, rfl, rfl, (wInB_yes (fun k hk => absurd hk (Nat.not_lt_zero _))).symm, fun _ => rfl⟩
  · obtain ⟨x, cap, rfl, hx, hc⟩ := h.cons e
    clear h
    go_enter Try.func13, Try.ntmps13
    go_wp2
    go_loopg [6, 11] W.length (fun g s i wr => ∃ (k : Nat) (z : Int), k ≤ W.length ∧ g = W.length - k ∧ s = .int .i64 z ∧ i = .int .i64 k ∧ w = wr ∧ 0 ≤ z ∧ z ≤ 1000000000 * k ∧ Hid (z = wsum W k) ∧ Hid (∀ j, j < k → 0 ≤ W.getD j 0 ∧ W.getD j 0 ≤ 1000000000))
    case atStart => exact ⟨0, 0, Nat.zero_le _, rfl, rfl, rfl, rfl, by omega, by omega, Lib.hid (by simp [wsum]), fun j hj => absurd hj (Nat.not_lt_zero _)⟩
    case round =>
      obtain ⟨k, z, hk, rfl, rfl, rfl, rfl, z1, z2, HZ, HK⟩ := hrel
      by_cases hlt : k < W.length
      · have c1 := hc k hlt
        have hs := wsum_succ W k hlt
        obtain ⟨y, hy⟩ : ∃ y, W.getD k 0 = y := ⟨_, rfl⟩
        rw [hy] at c1 hs
        have HY := Lib.hid hy
        have HS : Hid (wsum W (k + 1) = z + y) := Lib.hid (by rw [hs, HZ.out])
        clear hy hs hc
        by_cases y1 : y < 0
        · go_wp2
          go_ret2
          exact ⟨_, _, rfl, rfl, (wInB_no (fun ho => by have := ho k hlt; rw [HY.out] at this; omega)).symm, fun q => by cases q⟩
        · by_cases y2 : 1000000000 < y
          · go_wp2
            go_ret2
            exact ⟨_, _, rfl, rfl, (wInB_no (fun ho => by have := ho k hlt; rw [HY.out] at this; omega)).symm, fun q => by cases q⟩
          · have wz : IntKind.i64.wrap (z + y) = z + y := by rw [IntKind.wrap_i64]; omega
            go_wp2
            go_roundg (W.length - (k + 1))
            case measure => omega
            case rel =>
              refine ⟨k + 1, z + y, by omega, rfl, by first | rfl | rw [wz], by simp, rfl, by omega, by simp; omega, HS.out.symm, fun j hj => ?_⟩
              by_cases e : j = k
              · subst e; rw [HY.out]; omega
              · exact HK.out j (by omega)
      · have e : k = W.length := by omega
        subst e
        go_wp2
        go_ret2
        exact ⟨_, _, rfl, rfl, (wInB_yes (fun j hj => HK.out j hj)).symm, fun _ => HZ.out⟩
/-- What the program's sum of weights answers. -/
def WSum (W : List Int) (w : World) (e : Ending) (w' : World) : Prop := ∃ (x : Int) (z : Bool), e = .returned (.tuple #[.int .i64 x, .bool z]) ∧ w = w' ∧ z = (decide (W.length ≤ 20) && inB (tot W) 1 1000000000) ∧ (z = true → x = wsum W W.length)
end Go.Proofs.Ytbbdilpbblijaaa
