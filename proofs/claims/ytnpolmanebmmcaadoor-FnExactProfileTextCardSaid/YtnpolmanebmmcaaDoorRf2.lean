/- Profiles: copied, their size. -/
import Derived.Test.YtnpolmanebmmcaaDoorEl1
import Derived.Deep.RegionHeld3
namespace Go.Proofs.YtnpolmanebmmcaaDoor
open Go.ChangeShapes Go.WideShapes Go.ChangeAt Go.RowKit Go.Deep
set_option linter.unusedSimpArgs false
set_option linter.unusedVariables false
abbrev Pr := List (List Int) × List Int
theorem Kept.ofBelow {w w' : World} {S : Nat → Prop} (h : Below w.heap.size w w') : Kept w w' S := ⟨h.os, h.tape, h.output, h.size, fun b hb _ => h.block b hb⟩
/-- The value v is the profile X. -/
def ListR (w : World) (v : Value) (X : Pr) : Prop := ∃ a c, v = .agg #[a, c] ∧ ListJ w a X.1 ∧ RowV w c X.2
theorem ListR.below {w w' : World} {v : Value} {X : Pr} (h : ListR w v X) (hb : Below w.heap.size w w') : ListR w' v X := by
  obtain ⟨a, c, e, h1, h2⟩ := h
  exact ⟨a, c, e, h1.below hb, h2.below hb⟩
def RoomR (X : Pr) : Prop := RoomJ X.1 ∧ X.2.length ≤ 9223372036854775807 ∧ ∀ n ∈ X.2, (Lit.int .i64 n).wf = true
def FitsR (X : Pr) : Prop := FitsJ X.1 ∧ X.2.length ≤ 1048576 ∧ ∀ n ∈ X.2, (Lit.int .i64 n).wf = true
set_option maxHeartbeats 1000000 in
theorem szPr (v : Value) (X : Pr) (w : World) (h : ListR w v X) (hr : RoomR X) :
    Calls Tryd.prog 4 #[v, .int .i64 1048576] w fun e w' => (∃ r, e = .returned (.int .i64 r) ∧ -1 ≤ r ∧ r ≤ 1048576 ∧ (0 ≤ r → FitsR X)) ∧ Below w.heap.size w w' := by
  obtain ⟨a, c, rfl, ha, hc⟩ := h
  obtain ⟨r1, r2, r3⟩ := hr
  have b1 := (Below.refl w.heap.size w).alloc (Nat.le_refl _) (.cells #[a, c] 25)
  have HJ := szJ a X.1 _ 1048576 (by omega) (by omega) (ha.below b1) r1
  have HI := fun w' (hw : Below w.heap.size w w') z (z0 : 0 ≤ z) (z1 : z ≤ 1048576) => szI c X.2 z w' (hc.below hw) r2 z0 z1
  have k1 : (w.alloc (.cells #[a, c] 25)).cell? ⟨w.heap.size, 1, none⟩ = some c := by go_simp
  have K1 := Lib.hid k1
  have R := Lib.hid r3
  clear hc ha r1 r2 r3 k1
  go_enter Tryd.func4, Tryd.ntmps4
  go_wp2_with fail
  refine HJ.mono ?_
  rintro e w1 ⟨⟨r, rfl, q1, q2, q3⟩, hb1⟩
  have a1 : w1.cell? ⟨w.heap.size, 1, none⟩ = some c := (hb1.cell (p := ⟨w.heap.size, 1, none⟩) (by simp)).trans K1.out
  have b2 := b1.trans (hb1.mono b1.size)
  have Q3 := Lib.hid q3
  clear q3 hb1
  by_cases hneg : r < 0
  · clear HI
    go_wp2
    go_ret
    exact ⟨⟨_, rfl, by omega, by omega, fun h => absurd h (by omega)⟩, b2⟩
  · have HI' := HI _ b2 r (by omega) q2
    obtain ⟨z, hz⟩ : ∃ z, szOf X.2.length r = z := ⟨_, rfl⟩
    have hzr : -1 ≤ z ∧ z ≤ 1048576 ∧ (z < 0 → z = -1) ∧ (0 ≤ z → X.2.length ≤ 1048576) := by rw [← hz]; unfold szOf; split <;> omega
    obtain ⟨z1, z2, z3, z4⟩ := hzr
    rw [hz] at HI'
    have Z4 := Lib.hid z4
    clear hz z4 HI
    by_cases hn2 : z < 0
    · obtain rfl := z3 hn2
      go_wp2_with fail
      refine HI'.mono ?_
      rintro e w2 ⟨rfl, rfl⟩
      go_wp2
      go_ret
      exact ⟨⟨_, rfl, by omega, by omega, fun h => absurd h (by omega)⟩, b2⟩
    · go_wp2_with fail
      refine HI'.mono ?_
      rintro e w2 ⟨rfl, rfl⟩
      go_wp2
      go_ret
      exact ⟨⟨_, rfl, z1, z2, fun h => ⟨Q3.out (by omega), Z4.out h, R.out⟩⟩, b2⟩
theorem Js.other {w : World} {base b x o : Nat} {L : List (List Int)} (h : Js w base b L) (hx : x ≠ b) (hy : x ≤ base) (v : Value) : Js (w.setCell ⟨x, o, none⟩ v) base b L := by
  obtain ⟨c, h⟩ := h
  exact ⟨c, World.rowIs.setOther h.row (by show b ≠ x; omega) _, fun j hj => ⟨(h.own j hj).1, World.rowIs.setOther (h.own j hj).2 (by have := (h.own j hj).1; show c j ≠ x; omega) _⟩, h.inj⟩
theorem OwJ.other {w : World} {lo hi x o : Nat} {v : Value} {L : List (List Int)} (h : OwJ w lo hi v L) (hx : x < lo) (u : Value) : OwJ (w.setCell ⟨x, o, none⟩ u) lo hi v L :=
  h.at fun c h1 _ _ => heap_setCell_other _ _ _ _ (by show c ≠ x; omega)
set_option maxHeartbeats 2000000 in
theorem toPr (va vc : Value) (A : List (List Int)) (C : List Int) (w : World) (ha : ListJ w va A) (hc : RowV w vc C) (fa : FitsJ A) (fc : C.length ≤ 1048576) :
    Calls Tryd.prog 6 #[.agg #[va, vc]] w fun e w' => (∃ b c, e = .returned (.agg #[.slice (some ⟨b, 0, none⟩) A.length A.length, .slice (some ⟨c, 0, none⟩) C.length C.length]) ∧ w.heap.size < b ∧ b < c ∧ Js w' b b A ∧ OwJ w' b c (.slice (some ⟨b, 0, none⟩) A.length A.length) A ∧ OwnI w' c C) ∧ Below w.heap.size w w' := by
  have HI := fun w' (hw : Below w.heap.size w w') => toI vc C w' (hc.below hw) fc
  clear hc
  go_enter Tryd.func6, Tryd.ntmps6
  go_wp2_with fail
  refine (toJ_any va A _ (ha.below ?_) fa.1 fa.2).mono ?_
  · repeat first
      | exact Below.refl _ _
      | refine Below.setCell ?_ (by simp) _
      | refine Below.alloc ?_ (by first | exact Nat.le_refl _ | (simp <;> omega)) _
  rintro e w1 ⟨rfl, hrow, hb1⟩
  obtain ⟨hc1, hf1⟩ := bcell hb1
  have R0 : w1.cell? ⟨w.heap.size + 1 + 1, 0, none⟩ = some (.slice none 0 0) := by rw [hc1 _ _ (by simp)]; go_simp
  have R1 : w1.cell? ⟨w.heap.size + 1 + 1, 1, none⟩ = some (.slice none 0 0) := by rw [hc1 _ _ (by simp)]; go_simp
  have ZR0 : w1.frozen? ⟨w.heap.size + 1 + 1, 0, none⟩ = false := by rw [hf1 _ _ (by simp)]; go_simp
  have ZR1 : w1.frozen? ⟨w.heap.size + 1 + 1, 1, none⟩ = false := by rw [hf1 _ _ (by simp)]; go_simp
  have A1 : w1.cell? ⟨w.heap.size, 1, none⟩ = some vc := by rw [hc1 _ _ (by first | (simp; done) | (simp; omega))]; go_simp
  have Q0 : w1.cell? ⟨w.heap.size + 1, 0, none⟩ = some (.slice none 0 0) := by rw [hc1 _ _ (by first | (simp; done) | (simp; omega))]; go_simp
  have Q1 : w1.cell? ⟨w.heap.size + 1, 1, none⟩ = some (.slice none 0 0) := by rw [hc1 _ _ (by first | (simp; done) | (simp; omega))]; go_simp
  have ZQ0 : w1.frozen? ⟨w.heap.size + 1, 0, none⟩ = false := by rw [hf1 _ _ (by first | (simp; done) | (simp; omega))]; go_simp
  have ZQ1 : w1.frozen? ⟨w.heap.size + 1, 1, none⟩ = false := by rw [hf1 _ _ (by first | (simp; done) | (simp; omega))]; go_simp
  have hrow' : Js w1 (w.heap.size + 1 + 1 + 1) (w.heap.size + 1 + 1 + 1) A := by simpa using hrow
  have b1 : Below w.heap.size w w1 := ((((Below.refl _ _).alloc (Nat.le_refl _) _).alloc (by simp) _).alloc (by simp; omega) _).trans (hb1.mono (by simp; omega))
  have hs1 : w.heap.size + 1 + 1 + 1 < w1.heap.size := hrow'.lt
  have hown := hrow'.own (Nat.le_refl _) fa A.length
  clear hc1 hf1 hrow hb1 ha
  go_wp2_with fail
  refine (HI _ (b1.setCell (by show _ ≤ _ + _; omega) _)).mono ?_
  rintro e w2 ⟨rfl, hri, hb2⟩
  have hse : (w1.setCell ⟨w.heap.size + 1 + 1, 0, none⟩ (.slice (some ⟨w.heap.size + 1 + 1 + 1, 0, none⟩) A.length A.length)).heap.size = w1.heap.size := by simp [World.setCell]
  obtain ⟨hc2, hf2⟩ := bcell hb2
  have R0' : w2.cell? ⟨w.heap.size + 1 + 1, 0, none⟩ = some (.slice (some ⟨w.heap.size + 1 + 1 + 1, 0, none⟩) A.length A.length) := by rw [hc2 _ _ (by rw [hse]; omega)]; first | (go_simp; done) | (go_simp; exact R0)
  have R1' : w2.cell? ⟨w.heap.size + 1 + 1, 1, none⟩ = some (.slice none 0 0) := by rw [hc2 _ _ (by rw [hse]; omega)]; first | (go_simp; done) | (go_simp; exact R1)
  have ZR1' : w2.frozen? ⟨w.heap.size + 1 + 1, 1, none⟩ = false := by rw [hf2 _ _ (by rw [hse]; omega)]; first | (go_simp; done) | (go_simp; exact ZR1)
  have Q0' : w2.cell? ⟨w.heap.size + 1, 0, none⟩ = some (.slice none 0 0) := by rw [hc2 _ _ (by rw [hse]; omega)]; first | (go_simp; done) | (go_simp; exact Q0)
  have Q1' : w2.cell? ⟨w.heap.size + 1, 1, none⟩ = some (.slice none 0 0) := by rw [hc2 _ _ (by rw [hse]; omega)]; first | (go_simp; done) | (go_simp; exact Q1)
  have ZQ0' : w2.frozen? ⟨w.heap.size + 1, 0, none⟩ = false := by rw [hf2 _ _ (by rw [hse]; omega)]; first | (go_simp; done) | (go_simp; exact ZQ0)
  have ZQ1' : w2.frozen? ⟨w.heap.size + 1, 1, none⟩ = false := by rw [hf2 _ _ (by rw [hse]; omega)]; first | (go_simp; done) | (go_simp; exact ZQ1)
  have hro : Js w2 (w.heap.size + 1 + 1 + 1) (w.heap.size + 1 + 1 + 1) A := (hrow'.other (by omega) (by omega) _).below hb2
  have hoo : OwJ w2 (w.heap.size + 1 + 1 + 1) w1.heap.size (.slice (some ⟨w.heap.size + 1 + 1 + 1, 0, none⟩) A.length A.length) A := (hown.other (by omega) _).below hb2
  rw [hse] at hri
  have b2 : Below w.heap.size w w2 := (b1.setCell (by show _ ≤ _ + _; omega) _).trans (hb2.mono (by rw [hse]; omega))
  obtain ⟨n1, hn1⟩ : ∃ n, w1.heap.size = n := ⟨_, rfl⟩
  simp only [hse, hn1] at hri hoo ⊢
  have hsn : w.heap.size + 1 + 1 + 1 < n1 := by omega
  clear hc2 hf2 hse hb2 R0 R1 ZR0 ZR1 A1 Q0 Q1 ZQ0 ZQ1 hrow' b1 hs1 hn1 hown
  go_wp2
  refine bodyPost_ret (v := .agg #[.slice (some ⟨w.heap.size + 1 + 1 + 1, 0, none⟩) A.length A.length, .slice (some ⟨n1, 0, none⟩) C.length C.length]) (by simp [results, Tryd.results6, go_sem, Q0', Q1']) rfl ⟨⟨_, _, rfl, by omega, hsn, ?_, ?_, ?_⟩, ?_⟩
  · iterate 3 refine Js.other ?_ (by show _ + _ ≠ _; omega) (by show _ + _ ≤ _; omega) _
    exact hro
  · iterate 3 refine OwJ.other ?_ (by show _ + _ < _; omega) _
    exact hoo
  · iterate 3 refine World.rowIs.setOther ?_ (by show _ ≠ _ + _; omega) _
    exact hri
  · iterate 3 refine Below.setCell ?_ (by show _ ≤ _ + _; omega) _
    exact b2
end Go.Proofs.YtnpolmanebmmcaaDoor
