/- Proofs of bits: copied, compared; what a law carries of them. -/
import Derived.Test.YtjfkkmfbgmejbaaBk1
namespace Go.Proofs.Ytjfkkmfbgmejbaa
open Go.ChangeShapes Go.WideShapes Go.ChangeAt Go.RowKit Go.Deep
set_option linter.unusedSimpArgs false
set_option linter.unusedVariables false
/-- The copy of a proof: its lists in blocks a, b, c. -/
structure BfR (w : World) (a b c : Nat) (X : Bq) : Prop where
  ra : OwnI w a X.1
  rb : OwnI w b X.2.1
  rc : OwnI w c X.2.2
  ab : a < b
  bc : b < c
  fits : FitsB X
theorem BfR.below {w w' : World} {a b c : Nat} {X : Bq} (h : BfR w a b c X) (hb : Below w.heap.size w w') : BfR w' a b c X :=
  ⟨h.ra.below hb, h.rb.below hb, h.rc.below hb, h.ab, h.bc, h.fits⟩
abbrev bpV (a b c : Nat) (X : Bq) : Value := .agg #[.slice (some ⟨a, 0, none⟩) X.1.length X.1.length, .slice (some ⟨b, 0, none⟩) X.2.1.length X.2.1.length, .slice (some ⟨c, 0, none⟩) X.2.2.length X.2.2.length]
set_option maxHeartbeats 2000000 in
theorem toBp (v : Value) (X : Bq) (w : World) (h : ListB w v X) (hf : FitsB X) :
    Calls Try.prog 21 #[v] w fun e w' => (∃ a b c, e = .returned (bpV a b c X) ∧ w.heap.size < a ∧ BfR w' a b c X) ∧ Below w.heap.size w w' := by
  obtain ⟨va, vb, vc, rfl, ha, hb, hc⟩ := h
  obtain ⟨X1, X2, X3⟩ := X
  simp only at ha hb hc ⊢
  have f1 := hf.1
  have f2 := hf.2.1
  have f3 := hf.2.2
  simp only at f1 f2 f3
  have HF := Lib.hid hf
  have H1 := fun w' (hw : Below w.heap.size w w') => toI va X1 w' (ha.below hw) f1
  have H2 := fun w' (hw : Below w.heap.size w w') => toI vb X2 w' (hb.below hw) f2
  have H3 := fun w' (hw : Below w.heap.size w w') => toI vc X3 w' (hc.below hw) f3
  have T0 : TB w (((w.alloc (.cells #[va, vb, vc] 33)).alloc (.cells #[.slice none 0 0, .slice none 0 0, .slice none 0 0] 24)).alloc (.cells #[.slice none 0 0, .slice none 0 0, .slice none 0 0] 24)) va vb vc (.slice none 0 0) (.slice none 0 0) (.slice none 0 0) :=
    ⟨by go_simp, by go_simp, by go_simp, by go_simp, by go_simp, by go_simp, by go_simp, by go_simp, by go_simp, fun i => by go_simp, fun i => by go_simp, (((Below.refl _ _).alloc (Nat.le_refl _) _).alloc (by simp) _).alloc (by simp; omega) _, by simp⟩
  have H1' := H1 _ T0.bel
  have T := Lib.hid T0
  clear ha hb hc H1 T0 hf
  go_enter Try.func21, Try.ntmps21
  go_wp2_with fail
  refine H1'.mono ?_
  rintro e w1 ⟨rfl, q1, hb1⟩
  have T1 := (T.out.below hb1)
  have T1s : TB w (w1.setCell ⟨w.heap.size + 1 + 1, 0, none⟩ (.slice (some ⟨w.heap.size + 1 + 1 + 1, 0, none⟩) X1.length X1.length)) va vb vc (.slice (some ⟨w.heap.size + 1 + 1 + 1, 0, none⟩) X1.length X1.length) (.slice none 0 0) (.slice none 0 0) := T1.set 0 _
  have H2' := H2 _ T1s.bel
  have Q1 : OwnI w1 (w.heap.size + 1 + 1 + 1) X1 := by unfold OwnI; simpa using q1
  have L1 := Q1.lt
  have Q1s : Hid (OwnI (w1.setCell ⟨w.heap.size + 1 + 1, 0, none⟩ (.slice (some ⟨w.heap.size + 1 + 1 + 1, 0, none⟩) X1.length X1.length)) (w.heap.size + 1 + 1 + 1) X1) := Lib.hid (World.rowIs.setOther Q1 (by show w.heap.size + 1 + 1 + 1 ≠ w.heap.size + 1 + 1; omega) _)
  obtain ⟨a0, a1, a2, r0, r1, r2, o0, o1, o2, fr, fo, bel, lt⟩ := T1
  have z0 := fo 0
  have TT := Lib.hid T1s
  have hse : (w1.setCell ⟨w.heap.size + 1 + 1, 0, none⟩ (.slice (some ⟨w.heap.size + 1 + 1 + 1, 0, none⟩) X1.length X1.length)).heap.size = w1.heap.size := by simp
  obtain ⟨n1, hn1⟩ : ∃ n, w1.heap.size = n := ⟨_, rfl⟩
  have hse2 := hse.trans hn1
  have HSE := Lib.hid hse2
  simp only [hse, hn1] at H2'
  rw [hn1] at L1
  clear H1' H2 T hb1 r0 r1 r2 fr fo bel a0 a2 T1s q1 hse hse2 hn1 Q1 lt
  go_wp2_with fail
  refine H2'.mono ?_
  rintro e w2 ⟨rfl, q2, hb2⟩
  have T2 := TT.out.below (by rw [HSE.out]; exact hb2)
  have T2s : TB w (w2.setCell ⟨w.heap.size + 1 + 1, 1, none⟩ (.slice (some ⟨n1, 0, none⟩) X2.length X2.length)) va vb vc (.slice (some ⟨w.heap.size + 1 + 1 + 1, 0, none⟩) X1.length X1.length) (.slice (some ⟨n1, 0, none⟩) X2.length X2.length) (.slice none 0 0) := T2.set 1 _
  have H3' := H3 _ T2s.bel
  have Q1t : OwnI w2 (w.heap.size + 1 + 1 + 1) X1 := Q1s.out.below (by rw [HSE.out]; exact hb2)
  have Q1u : Hid (OwnI (w2.setCell ⟨w.heap.size + 1 + 1, 1, none⟩ (.slice (some ⟨n1, 0, none⟩) X2.length X2.length)) (w.heap.size + 1 + 1 + 1) X1) := Lib.hid (World.rowIs.setOther Q1t (by show w.heap.size + 1 + 1 + 1 ≠ w.heap.size + 1 + 1; omega) _)
  have Q2 : OwnI w2 n1 X2 := q2
  have L2 := Q2.lt
  have Q2u : Hid (OwnI (w2.setCell ⟨w.heap.size + 1 + 1, 1, none⟩ (.slice (some ⟨n1, 0, none⟩) X2.length X2.length)) n1 X2) := Lib.hid (World.rowIs.setOther Q2 (by show n1 ≠ w.heap.size + 1 + 1; omega) _)
  obtain ⟨a0, a1, a2, r0, r1, r2, o0, o1, o2, fr, fo, bel, lt⟩ := T2
  have z0 := fo 1
  have TT2 := Lib.hid T2s
  have hse : (w2.setCell ⟨w.heap.size + 1 + 1, 1, none⟩ (.slice (some ⟨n1, 0, none⟩) X2.length X2.length)).heap.size = w2.heap.size := by simp
  obtain ⟨n2, hn2⟩ : ∃ n, w2.heap.size = n := ⟨_, rfl⟩
  have hse2 := hse.trans hn2
  have HSE2 := Lib.hid hse2
  simp only [hse, hn2] at H3'
  rw [hn2] at L2
  clear H2' H3 TT HSE hb2 r0 r1 r2 fr fo bel a0 a1 T2s q2 hse hse2 hn2 Q1s Q1t Q2 lt
  go_wp2_with fail
  refine H3'.mono ?_
  rintro e w3 ⟨rfl, q3, hb3⟩
  have T3 := TT2.out.below (by rw [HSE2.out]; exact hb3)
  have T3s : TB w (w3.setCell ⟨w.heap.size + 1 + 1, 2, none⟩ (.slice (some ⟨n2, 0, none⟩) X3.length X3.length)) va vb vc (.slice (some ⟨w.heap.size + 1 + 1 + 1, 0, none⟩) X1.length X1.length) (.slice (some ⟨n1, 0, none⟩) X2.length X2.length) (.slice (some ⟨n2, 0, none⟩) X3.length X3.length) := T3.set 2 _
  have U1 : OwnI w3 (w.heap.size + 1 + 1 + 1) X1 := Q1u.out.below (by rw [HSE2.out]; exact hb3)
  have U2 : OwnI w3 n1 X2 := Q2u.out.below (by rw [HSE2.out]; exact hb3)
  have U3 : OwnI w3 n2 X3 := q3
  have V1 := Lib.hid U1
  have V2 := Lib.hid U2
  have V3 := Lib.hid U3
  have B3 := Lib.hid T3.bel
  obtain ⟨a0, a1, a2, r0, r1, r2, o0, o1, o2, fr, fo, bel, lt⟩ := T3
  have z0 := fo 2
  have y0 := fr 0
  have y1 := fr 1
  have y2 := fr 2
  clear H3' TT2 HSE2 hb3 fr fo bel a0 a1 a2 T3s q3 Q1u Q2u U1 U2 U3 lt
  go_wp2
  refine bodyPost_ret (v := .agg #[.slice (some ⟨w.heap.size + 1 + 1 + 1, 0, none⟩) X1.length X1.length, .slice (some ⟨n1, 0, none⟩) X2.length X2.length, .slice (some ⟨n2, 0, none⟩) X3.length X3.length]) (by simp [results, Try.results21, go_sem, r0, r1, r2]) rfl ⟨⟨_, _, _, rfl, by omega, ⟨?_, ?_, ?_, L1, L2, HF.out⟩⟩, ?_⟩
  · iterate 4 refine World.rowIs.setOther ?_ (by show w.heap.size + 1 + 1 + 1 ≠ _; show _ ≠ _ + 1; omega) _
    exact V1.out
  · iterate 4 refine World.rowIs.setOther ?_ (by show n1 ≠ _ + 1; omega) _
    exact V2.out
  · iterate 4 refine World.rowIs.setOther ?_ (by show n2 ≠ _ + 1; omega) _
    exact V3.out
  · iterate 4 refine Below.setCell ?_ (by show _ ≤ _ + 1; omega) _
    exact B3.out
end Go.Proofs.Ytjfkkmfbgmejbaa
