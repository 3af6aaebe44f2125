/- Frames: copied, their size. -/
import Derived.Test.YtfkeadifmjbodaaDoorEl2
namespace Go.Proofs.YtfkeadifmjbodaaDoor
open Go.ChangeShapes Go.WideShapes Go.ChangeAt Go.RowKit Go.Deep
set_option linter.unusedSimpArgs false
set_option linter.unusedVariables false
abbrev Fm := Int × List (List Int)
/-- The value v is the frame X. -/
def ListG (w : World) (v : Value) (X : Fm) : Prop := ∃ a, v = .agg #[.int .i64 X.1, a] ∧ ListJ w a X.2
theorem ListG.below {w w' : World} {v : Value} {X : Fm} (h : ListG w v X) (hb : Below w.heap.size w w') : ListG w' v X := by
  obtain ⟨a, e, h2⟩ := h
  exact ⟨a, e, h2.below hb⟩
def RoomG (X : Fm) : Prop := RoomJ X.2 ∧ (Lit.int .i64 X.1).wf = true
def FitsG (X : Fm) : Prop := FitsJ X.2 ∧ (Lit.int .i64 X.1).wf = true
set_option maxHeartbeats 1000000 in
theorem szFr (v : Value) (X : Fm) (w : World) (h : ListG w v X) (hr : RoomG X) :
    Calls Tryd.prog 12 #[v, .int .i64 1048576] w fun e w' => (∃ r, e = .returned (.int .i64 r) ∧ -1 ≤ r ∧ r ≤ 1048576 ∧ (0 ≤ r → FitsG X)) ∧ Below w.heap.size w w' := by
  obtain ⟨a, rfl, ha⟩ := h
  obtain ⟨r2, r3⟩ := hr
  have b1 := (Below.refl w.heap.size w).alloc (Nat.le_refl _) (.cells #[.int .i64 X.1, a] 24)
  have HJ := szJ a X.2 _ 1048576 (by omega) (by omega) (ha.below b1) r2
  have R := Lib.hid r3
  clear ha r2 r3
  go_enter Tryd.func12, Tryd.ntmps12
  go_wp2_with fail
  refine HJ.mono ?_
  rintro e w1 ⟨⟨r, rfl, q1, q2, q3⟩, hb1⟩
  have Q3 := Lib.hid q3
  clear q3
  by_cases hn2 : r < 0
  · go_wp2
    go_ret
    exact ⟨⟨_, rfl, by omega, by omega, fun h => absurd h (by omega)⟩, b1.trans (hb1.mono b1.size)⟩
  · go_wp2
    go_ret
    exact ⟨⟨_, rfl, q1, q2, fun h => ⟨Q3.out h, R.out⟩⟩, b1.trans (hb1.mono b1.size)⟩
set_option maxHeartbeats 2000000 in
theorem toFr (m : Int) (va : Value) (A : List (List Int)) (w : World) (ha : ListJ w va A) (fa : FitsJ A) :
    Calls Tryd.prog 14 #[.agg #[.int .i64 m, va]] w fun e w' => (∃ b, e = .returned (.agg #[.int .i64 m, .slice (some ⟨b, 0, none⟩) A.length A.length]) ∧ w.heap.size < b ∧ Js w' b b A) ∧ Below w.heap.size w w' := by
  have HJ := fun w' (hw : Below w.heap.size w w') => toJ_any va A w' (ha.below hw) fa.1 fa.2
  clear ha
  go_enter Tryd.func14, Tryd.ntmps14
  go_wp2_with fail
  refine (HJ _ ?_).mono ?_
  · repeat first
      | exact Below.refl _ _
      | refine Below.setCell ?_ (by simp) _
      | refine Below.alloc ?_ (by first | exact Nat.le_refl _ | (simp <;> omega)) _
  rintro e w1 ⟨rfl, hrow, hb1⟩
  obtain ⟨hc1, hf1⟩ := bcell hb1
  have R0 : w1.cell? ⟨w.heap.size + 1 + 1, 0, none⟩ = some (.int .i64 m) := by rw [hc1 _ _ (by simp)]; go_simp
  have R1 : w1.cell? ⟨w.heap.size + 1 + 1, 1, none⟩ = some (.slice none 0 0) := by rw [hc1 _ _ (by simp)]; go_simp
  have ZR1 : w1.frozen? ⟨w.heap.size + 1 + 1, 1, none⟩ = false := by rw [hf1 _ _ (by simp)]; go_simp
  have Q0 : w1.cell? ⟨w.heap.size + 1, 0, none⟩ = some (.int .i64 0) := by rw [hc1 _ _ (by first | (simp; done) | (simp; omega))]; go_simp
  have Q1 : w1.cell? ⟨w.heap.size + 1, 1, none⟩ = some (.slice none 0 0) := by rw [hc1 _ _ (by first | (simp; done) | (simp; omega))]; go_simp
  have ZQ0 : w1.frozen? ⟨w.heap.size + 1, 0, none⟩ = false := by rw [hf1 _ _ (by first | (simp; done) | (simp; omega))]; go_simp
  have ZQ1 : w1.frozen? ⟨w.heap.size + 1, 1, none⟩ = false := by rw [hf1 _ _ (by first | (simp; done) | (simp; omega))]; go_simp
  have b1 : Below w.heap.size w w1 := ((((Below.refl _ _).alloc (Nat.le_refl _) _).alloc (by simp) _).alloc (by simp; omega) _).trans (hb1.mono (by simp; omega))
  obtain ⟨n1, hn1⟩ : ∃ n, w.heap.size + 1 + 1 + 1 = n := ⟨_, rfl⟩
  have hrj : Js w1 n1 n1 A := by rw [← hn1]; simpa using hrow
  have hsn : w.heap.size + 1 + 1 < n1 := by omega
  have HN := Lib.hid hn1
  clear hc1 hf1 hrow hb1
  go_wp2
  refine bodyPost_ret (v := .agg #[.int .i64 m, .slice (some ⟨n1, 0, none⟩) A.length A.length]) (by simp [results, Tryd.results14, go_sem, Q0, Q1, HN.out]) rfl ⟨⟨_, rfl, by omega, ?_⟩, ?_⟩
  · iterate 3 refine Js.other ?_ (by show _ + _ ≠ _; omega) (by show _ + _ ≤ _; omega) _
    exact hrj
  · iterate 3 refine Below.setCell ?_ (by show _ ≤ _ + _; omega) _
    exact b1
end Go.Proofs.YtfkeadifmjbodaaDoor
