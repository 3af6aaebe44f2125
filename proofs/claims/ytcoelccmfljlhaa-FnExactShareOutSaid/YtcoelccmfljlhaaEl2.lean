/- Elections: copied, their size, compared, marked. -/
import Derived.Test.YtcoelccmfljlhaaEl1
import Derived.Deep.RegionHeld3
namespace Go.Proofs.Ytcoelccmfljlhaa
open Go.ChangeShapes Go.WideShapes Go.ChangeAt Go.RowKit Go.Deep
set_option linter.unusedSimpArgs false
set_option linter.unusedVariables false
abbrev El := Int × List Int × List (List Int)
theorem Kept.ofBelow {w w' : World} {S : Nat → Prop} (h : Below w.heap.size w w') : Kept w w' S := ⟨h.os, h.tape, h.output, h.size, fun b hb _ => h.block b hb⟩
/-- The value v is the election X. -/
def ListE (w : World) (v : Value) (X : El) : Prop := ∃ c a, v = .agg #[.int .i64 X.1, c, a] ∧ RowV w c X.2.1 ∧ ListJ w a X.2.2
theorem ListE.below {w w' : World} {v : Value} {X : El} (h : ListE w v X) (hb : Below w.heap.size w w') : ListE w' v X := by
  obtain ⟨c, a, e, h1, h2⟩ := h
  exact ⟨c, a, e, h1.below hb, h2.below hb⟩
def RoomE (X : El) : Prop := X.2.1.length ≤ 9223372036854775807 ∧ RoomJ X.2.2 ∧ (Lit.int .i64 X.1).wf = true ∧ ∀ n ∈ X.2.1, (Lit.int .i64 n).wf = true
def FitsE (X : El) : Prop := X.2.1.length ≤ 1048576 ∧ FitsJ X.2.2 ∧ (Lit.int .i64 X.1).wf = true ∧ ∀ n ∈ X.2.1, (Lit.int .i64 n).wf = true
set_option maxHeartbeats 1000000 in
theorem szEl (v : Value) (X : El) (w : World) (h : ListE w v X) (hr : RoomE X) :
    Calls Try.prog 10 #[v, .int .i64 1048576] w fun e w' => (∃ r, e = .returned (.int .i64 r) ∧ -1 ≤ r ∧ r ≤ 1048576 ∧ (0 ≤ r → FitsE X)) ∧ Below w.heap.size w w' := by
  obtain ⟨c, a, rfl, hc, ha⟩ := h
  obtain ⟨r1, r2, r3, r4⟩ := hr
  have b1 := (Below.refl w.heap.size w).alloc (Nat.le_refl _) (.cells #[.int .i64 X.1, c, a] 25)
  have HI := szI c X.2.1 1048576 _ (hc.below b1) r1 (by omega) (by omega)
  obtain ⟨z, hz⟩ : ∃ z, szOf X.2.1.length 1048576 = z := ⟨_, rfl⟩
  have hzr : -1 ≤ z ∧ z ≤ 1048576 ∧ (z < 0 → z = -1) ∧ (0 ≤ z → X.2.1.length ≤ 1048576) := by rw [← hz]; unfold szOf; split <;> omega
  obtain ⟨z1, z2, z3, z4⟩ := hzr
  rw [hz] at HI
  have Z4 := Lib.hid z4
  have R := Lib.hid (And.intro r3 r4)
  have HJ := fun w' (hw : Below w.heap.size w w') (h0 : 0 ≤ z) => szJ a X.2.2 w' z h0 z2 (ha.below hw) r2
  clear hz z4 hc ha r1 r2 r3 r4
  by_cases hneg : z < 0
  · obtain rfl := z3 hneg
    clear HJ
    go_enter Try.func10, Try.ntmps10
    go_wp2_with fail
    refine HI.mono ?_
    rintro e w1 ⟨rfl, rfl⟩
    go_wp2
    go_ret
    exact ⟨⟨_, rfl, by omega, by omega, fun h => absurd h (by omega)⟩, b1⟩
  · have HJ' := HJ _ b1 (by omega)
    clear HJ
    go_enter Try.func10, Try.ntmps10
    go_wp2_with fail
    refine HI.mono ?_
    rintro e w1 ⟨rfl, rfl⟩
    go_wp2_with fail
    refine HJ'.mono ?_
    rintro e w1 ⟨⟨r, rfl, q1, q2, q3⟩, hb1⟩
    have Q3 := Lib.hid q3
    clear q3
    by_cases hn2 : r < 0
    · go_wp2
      go_ret
      exact ⟨⟨_, rfl, by omega, by omega, fun h => absurd h (by omega)⟩, b1.trans (hb1.mono b1.size)⟩
    · go_wp2
      go_ret
      exact ⟨⟨_, rfl, q1, q2, fun h => ⟨Z4.out (by omega), Q3.out h, R.out.1, R.out.2⟩⟩, b1.trans (hb1.mono b1.size)⟩
theorem Js.other {w : World} {base b x o : Nat} {L : List (List Int)} (h : Js w base b L) (hx : x ≠ b) (hy : x ≤ base) (v : Value) : Js (w.setCell ⟨x, o, none⟩ v) base b L := by
  obtain ⟨c, h⟩ := h
  exact ⟨c, World.rowIs.setOther h.row (by show b ≠ x; omega) _, fun j hj => ⟨(h.own j hj).1, World.rowIs.setOther (h.own j hj).2 (by have := (h.own j hj).1; show c j ≠ x; omega) _⟩, h.inj⟩
set_option maxHeartbeats 2000000 in
theorem toEl (m : Int) (vc va : Value) (C : List Int) (A : List (List Int)) (w : World) (hc : RowV w vc C) (ha : ListJ w va A) (fc : C.length ≤ 1048576) (fa : FitsJ A) :
    Calls Try.prog 12 #[.agg #[.int .i64 m, vc, va]] w fun e w' => (∃ c b, e = .returned (.agg #[.int .i64 m, .slice (some ⟨c, 0, none⟩) C.length C.length, .slice (some ⟨b, 0, none⟩) A.length A.length]) ∧ w.heap.size < c ∧ c < b ∧ OwnI w' c C ∧ Js w' b b A) ∧ Below w.heap.size w w' := by
  have HJ := fun w' (hw : Below w.heap.size w w') => toJ_any va A w' (ha.below hw) fa.1 fa.2
  clear ha
  go_enter Try.func12, Try.ntmps12
  go_wp2_with fail
  refine (toI vc C _ (hc.below ?_) fc).mono ?_
  · repeat first
      | exact Below.refl _ _
      | refine Below.setCell ?_ (by simp) _
      | refine Below.alloc ?_ (by first | exact Nat.le_refl _ | (simp <;> omega)) _
  rintro e w1 ⟨rfl, hrow, hb1⟩
  obtain ⟨hc1, hf1⟩ := bcell hb1
  have R0 : w1.cell? ⟨w.heap.size + 1 + 1, 0, none⟩ = some (.int .i64 m) := by rw [hc1 _ _ (by simp)]; go_simp
  have R1 : w1.cell? ⟨w.heap.size + 1 + 1, 1, none⟩ = some (.slice none 0 0) := by rw [hc1 _ _ (by simp)]; go_simp
  have R2 : w1.cell? ⟨w.heap.size + 1 + 1, 2, none⟩ = some (.slice none 0 0) := by rw [hc1 _ _ (by simp)]; go_simp
  have ZR1 : w1.frozen? ⟨w.heap.size + 1 + 1, 1, none⟩ = false := by rw [hf1 _ _ (by simp)]; go_simp
  have ZR2 : w1.frozen? ⟨w.heap.size + 1 + 1, 2, none⟩ = false := by rw [hf1 _ _ (by simp)]; go_simp
  have A0 : w1.cell? ⟨w.heap.size, 2, none⟩ = some va := by rw [hc1 _ _ (by first | (simp; done) | (simp; omega))]; go_simp
  have Q0 : w1.cell? ⟨w.heap.size + 1, 0, none⟩ = some (.int .i64 0) := by rw [hc1 _ _ (by first | (simp; done) | (simp; omega))]; go_simp
  have Q1 : w1.cell? ⟨w.heap.size + 1, 1, none⟩ = some (.slice none 0 0) := by rw [hc1 _ _ (by first | (simp; done) | (simp; omega))]; go_simp
  have Q2 : w1.cell? ⟨w.heap.size + 1, 2, none⟩ = some (.slice none 0 0) := by rw [hc1 _ _ (by first | (simp; done) | (simp; omega))]; go_simp
  have ZQ0 : w1.frozen? ⟨w.heap.size + 1, 0, none⟩ = false := by rw [hf1 _ _ (by first | (simp; done) | (simp; omega))]; go_simp
  have ZQ1 : w1.frozen? ⟨w.heap.size + 1, 1, none⟩ = false := by rw [hf1 _ _ (by first | (simp; done) | (simp; omega))]; go_simp
  have ZQ2 : w1.frozen? ⟨w.heap.size + 1, 2, none⟩ = false := by rw [hf1 _ _ (by first | (simp; done) | (simp; omega))]; go_simp
  have hrow' : OwnI w1 (w.heap.size + 1 + 1 + 1) C := by unfold OwnI; simpa using hrow
  have b1 : Below w.heap.size w w1 := ((((Below.refl _ _).alloc (Nat.le_refl _) _).alloc (by simp) _).alloc (by simp; omega) _).trans (hb1.mono (by simp; omega))
  have hs1 : w.heap.size + 1 + 1 + 1 < w1.heap.size := World.rowIs.lt hrow'
  clear hc1 hf1 hrow hb1 hc
  go_wp2_with fail
  refine (HJ _ (b1.setCell (by show _ ≤ _ + _; omega) _)).mono ?_
  rintro e w2 ⟨rfl, hrj, hb2⟩
  have hse : (w1.setCell ⟨w.heap.size + 1 + 1, 1, none⟩ (.slice (some ⟨w.heap.size + 1 + 1 + 1, 0, none⟩) C.length C.length)).heap.size = w1.heap.size := by simp [World.setCell]
  obtain ⟨hc2, hf2⟩ := bcell hb2
  have R0' : w2.cell? ⟨w.heap.size + 1 + 1, 0, none⟩ = some (.int .i64 m) := by rw [hc2 _ _ (by rw [hse]; omega)]; first | (go_simp; done) | (go_simp; exact R0)
  have R1' : w2.cell? ⟨w.heap.size + 1 + 1, 1, none⟩ = some (.slice (some ⟨w.heap.size + 1 + 1 + 1, 0, none⟩) C.length C.length) := by rw [hc2 _ _ (by rw [hse]; omega)]; first | (go_simp; done) | (go_simp; exact R1)
  have R2' : w2.cell? ⟨w.heap.size + 1 + 1, 2, none⟩ = some (.slice none 0 0) := by rw [hc2 _ _ (by rw [hse]; omega)]; first | (go_simp; done) | (go_simp; exact R2)
  have ZR2' : w2.frozen? ⟨w.heap.size + 1 + 1, 2, none⟩ = false := by rw [hf2 _ _ (by rw [hse]; omega)]; first | (go_simp; done) | (go_simp; exact ZR2)
  have Q0' : w2.cell? ⟨w.heap.size + 1, 0, none⟩ = some (.int .i64 0) := by rw [hc2 _ _ (by rw [hse]; omega)]; first | (go_simp; done) | (go_simp; exact Q0)
  have Q1' : w2.cell? ⟨w.heap.size + 1, 1, none⟩ = some (.slice none 0 0) := by rw [hc2 _ _ (by rw [hse]; omega)]; first | (go_simp; done) | (go_simp; exact Q1)
  have Q2' : w2.cell? ⟨w.heap.size + 1, 2, none⟩ = some (.slice none 0 0) := by rw [hc2 _ _ (by rw [hse]; omega)]; first | (go_simp; done) | (go_simp; exact Q2)
  have ZQ0' : w2.frozen? ⟨w.heap.size + 1, 0, none⟩ = false := by rw [hf2 _ _ (by rw [hse]; omega)]; first | (go_simp; done) | (go_simp; exact ZQ0)
  have ZQ1' : w2.frozen? ⟨w.heap.size + 1, 1, none⟩ = false := by rw [hf2 _ _ (by rw [hse]; omega)]; first | (go_simp; done) | (go_simp; exact ZQ1)
  have ZQ2' : w2.frozen? ⟨w.heap.size + 1, 2, none⟩ = false := by rw [hf2 _ _ (by rw [hse]; omega)]; first | (go_simp; done) | (go_simp; exact ZQ2)
  have hro : OwnI w2 (w.heap.size + 1 + 1 + 1) C := World.rowIs.of_block (World.rowIs.setOther hrow' (by show _ + _ ≠ _ + _; omega) _) (hb2.block _ (by rw [hse]; omega))
  rw [hse] at hrj
  have b2 : Below w.heap.size w w2 := (b1.setCell (by show _ ≤ _ + _; omega) _).trans (hb2.mono (by rw [hse]; omega))
  obtain ⟨n1, hn1⟩ : ∃ n, w1.heap.size = n := ⟨_, rfl⟩
  simp only [hse, hn1] at hrj ⊢
  have hsn : w.heap.size + 1 + 1 + 1 < n1 := by omega
  clear hc2 hf2 hse hb2 R0 R1 R2 ZR1 ZR2 A0 Q0 Q1 Q2 ZQ0 ZQ1 ZQ2 hrow' b1 hs1 hn1
  go_wp2
  refine bodyPost_ret (v := .agg #[.int .i64 m, .slice (some ⟨w.heap.size + 1 + 1 + 1, 0, none⟩) C.length C.length, .slice (some ⟨n1, 0, none⟩) A.length A.length]) (by simp [results, Try.results12, go_sem, Q0', Q1', Q2']) rfl ⟨⟨_, _, rfl, by omega, hsn, ?_, ?_⟩, ?_⟩
  · iterate 4 refine World.rowIs.setOther ?_ (by show _ + _ ≠ _ + _; omega) _
    exact hro
  · iterate 4 refine Js.other ?_ (by show _ + _ ≠ _; omega) (by show _ + _ ≤ _; omega) _
    exact hrj
  · iterate 4 refine Below.setCell ?_ (by show _ ≤ _ + _; omega) _
    exact b2
end Go.Proofs.Ytcoelccmfljlhaa
