/- Lists of bounded numbers: the program's look; SealOf. -/
import Derived.Test.YtjfkkmfbgmejbabSl2
import Derived.Test.YtjfkkmfbgmejbabSw1
namespace Go.Proofs.Ytjfkkmfbgmejbab
open Go.ChangeShapes Go.WideShapes Go.ChangeAt Go.RowKit Go.Deep
set_option linter.unusedSimpArgs false
set_option linter.unusedVariables false
theorem iexs (v : Value) (l : List Int) (w : World) (h : RowV w v l) (hl : l.length ≤ 1048576) :
    Calls Try.prog 28 #[v] w fun e w' => e = .returned (.bool (allIn 500000002 l)) ∧ w = w' := by
  have HS := isumm 500000002 v l w h hl (by omega) (by omega)
  obtain ⟨a, cap, rfl⟩ := h.shape
  generalize hz : allIn 500000002 l = z
  unfold SumM at HS
  rw [hz] at HS
  clear h hz
  go_enter Try.func28, Try.ntmps28
  go_wp2_with fail
  refine HS.mono ?_
  rintro e w1 ⟨x, rfl, rfl⟩
  go_wp2
  go_ret
  exact ⟨rfl, rfl⟩
/-- A row of two numbers. -/
theorem row_two (w : World) (b : Nat) (x y : Int) (hb : b < w.heap.size) (h0 : w.cell? ⟨b, 0, none⟩ = some (.int .i64 x)) (h1 : w.cell? ⟨b, 1, none⟩ = some (.int .i64 y)) (cap : Nat) :
    RowV w (.slice (some ⟨b, 0, none⟩) 2 cap) [x, y] := by
  refine .inr ⟨⟨b, 0, none⟩, cap, rfl, fun _ => hb, fun i hi => ?_⟩
  have : i < 2 := hi
  rw [Addr.add_lit, Nat.zero_add]
  match i, this with
  | 0, _ => exact h0
  | 1, _ => exact h1
def mSealOf (v k : Int) : Int × Bool := if isEx v = true ∧ isEx k = true then (seal9 v.toNat k.toNat, true) else (0, false)
def Pnb (m : Int × Bool) (w : World) (e : Ending) (w' : World) : Prop := e = .returned (.tuple #[.int .i64 m.1, .bool m.2]) ∧ Below w.heap.size w w'
theorem Pnb.out {n : Int} {b : Bool} {w : World} {e : Ending} {w' : World} (h : Pnb (n, b) w e w') : e = .returned (.tuple #[.int .i64 n, .bool b]) ∧ Below w.heap.size w w' := h
abbrev Qnb := Pnb
theorem allIn_two (x y : Int) : allIn 500000002 [x, y] = (isEx x && isEx y) := by simp [allIn, isEx]
set_option maxHeartbeats 1000000 in
theorem iSealOf (v k : Int) (w : World) (wf0 : (Lit.int .i64 v).wf = true) (wf1 : (Lit.int .i64 k).wf = true) :
    Calls Try.prog 10 #[.int .i64 v, .int .i64 k] w (Pnb (mSealOf v k) w) := by
  have b1 := (Below.refl w.heap.size w).alloc (Nat.le_refl _) (.cells #[.int .i64 v, .int .i64 k] 2)
  have R := row_two (w.alloc (.cells #[.int .i64 v, .int .i64 k] 2)) w.heap.size v k (by simp) (by go_simp) (by go_simp) 2
  have P1 := iexs _ _ _ R (by simp)
  rw [allIn_two] at P1
  clear R
  cases e1 : isEx v && isEx k with
  | false =>
    rw [e1] at P1
    have hm : mSealOf v k = (0, false) := by unfold mSealOf; rw [if_neg (by simp at e1; intro h; rw [e1 h.1] at h; simp at h)]
    rw [hm]
    go_enter Try.func10, Try.ntmps10
    go_wp2_with fail
    refine P1.mono ?_
    rintro e w1 ⟨rfl, rfl⟩
    go_wp2
    go_ret2
    exact ⟨rfl, b1⟩
  | true =>
    rw [e1] at P1
    simp only [Bool.and_eq_true] at e1
    obtain ⟨e1, e2⟩ := e1
    have hm : mSealOf v k = (seal9 v.toNat k.toNat, true) := by simp [mSealOf, e1, e2]
    rw [hm]
    clear hm
    obtain ⟨a, rfl, ha, hta⟩ := exof e1
    obtain ⟨b, rfl, hb, htb⟩ := exof e2
    rw [hta, htb]
    have T := fun w' => iof_any a b w' ha hb
    generalize seal9 a b = z at T ⊢
    clear hta htb e1 e2
    go_enter Try.func10, Try.ntmps10
    go_wp2_with fail
    refine P1.mono ?_
    rintro e w1 ⟨rfl, rfl⟩
    go_wp2_with fail
    refine (T _).mono ?_
    rintro e w1 ⟨rfl, rfl⟩
    go_wp2
    go_ret2
    exact ⟨rfl, b1⟩
end Go.Proofs.Ytjfkkmfbgmejbab
