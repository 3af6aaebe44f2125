/- Whether a profile is valid: the program's answer. -/
import Derived.Test.YtnpolmanebmmcaaDoorRp3
import Derived.Test.YtnpolmanebmmcaaDoorSw1
namespace Go.Proofs.YtnpolmanebmmcaaDoor
open Go.ChangeShapes Go.WideShapes Go.ChangeAt Go.RowKit Go.Deep
set_option linter.unusedSimpArgs false
set_option linter.unusedVariables false
set_option maxHeartbeats 2000000 in
set_option maxRecDepth 100000 in
theorem ival (X : Pr) (b c hi : Nat) (w : World) (h : RfR w b c hi X) :
    Calls Tryd.prog 15 #[.agg #[.slice (some ⟨b, 0, none⟩) X.1.length X.1.length, .slice (some ⟨c, 0, none⟩) X.2.length X.2.length]] w fun e w' => e = .returned (.bool (pOkB X)) ∧ Below w.heap.size w w' := by
  have hf := h.fits
  have hf1 := hf.1.1
  have hf2 := hf.2.1
  have hfr := hf.1.2
  have HN := Lib.hid (fun hn => pOkB_no (X := X) hn)
  have HY := Lib.hid (fun hy => pOkB_yes (X := X) hy)
  have HS := fun w' (hw : Below w.heap.size w w') => iwts (.slice (some ⟨c, 0, none⟩) X.2.length X.2.length) X.2 X.1.length w' ((h.wts.below hw).row X.2.length) hf2 hf1
  have HA : ∀ (n : Nat) w' p, n ≤ 1048576 → Below w.heap.size w w' → p < w'.heap.size → w'.cell? ⟨p, 0, none⟩ = some (.int .i64 (n : Int)) → Calls Tryd.prog 28 #[.slice (some ⟨b, 0, none⟩) X.1.length X.1.length, .func (.func 26) #[] #[.pointer (some ⟨p, 0, none⟩)]] w' fun e w'' => (∃ z, e = .returned (.bool z) ∧ (z = false ↔ ∀ k, k < X.1.length → (!rkB n (X.1.getD k [])) = false)) ∧ Below w'.heap.size w' w'' := fun n w' p hn hw hpl hp =>
    contJ _ (fun _ _ => rfl) #[.pointer (some ⟨p, 0, none⟩)] X.1 (fun k => !rkB n (X.1.getD k [])) _ w' ((h.rows.below hw).list X.1.length) hf1 (fun k w1 u hk hb1 hu => ival1 n p u _ w1 hu (hfr k hk) hn ((hb1.cell (p := ⟨p, 0, none⟩) hpl).trans hp))
  have hrows := h.rows
  obtain ⟨A, C⟩ := X
  simp only at HS HA hf1 hf2 hrows ⊢
  clear h hf
  have b1 := ((Below.refl w.heap.size w).alloc (Nat.le_refl _) (.cells #[.slice (some ⟨b, 0, none⟩) A.length A.length, .slice (some ⟨c, 0, none⟩) C.length C.length] 29))
  have HNN : Hid (∀ hn : ¬ pOk (A, C), pOkB (A, C) = false) := HN
  by_cases g0 : A.length < 1
  · clear HS HA HY hrows
    go_enter Tryd.func15, Tryd.ntmps15
    go_wp2
    go_ret
    exact ⟨by rw [HN.out (fun ho => by have := ho.1; simp only at this; omega)]; rfl, b1⟩
  by_cases g1 : 12 < A.length
  · clear HS HA HY hrows
    go_enter Tryd.func15, Tryd.ntmps15
    go_wp2
    go_ret
    exact ⟨by rw [HN.out (fun ho => by have := ho.2.1; simp only at this; omega)]; rfl, b1⟩
  have g0' : ¬ ((A.length : Int) < 1) := by omega
  have g1' : ¬ (12 < (A.length : Int)) := by omega
  have HS1 := HS _ b1
  obtain ⟨z, hz⟩ : ∃ z, (C.all wB && decide (C.length = A.length)) = z := ⟨_, rfl⟩
  rw [hz] at HS1
  have HZ := Lib.hid hz
  clear HS hz
  cases z with
  | false =>
    clear HA HY hrows
    go_enter Tryd.func15, Tryd.ntmps15
    go_wp2_with fail
    refine HS1.mono ?_
    rintro e w1 ⟨rfl, rfl⟩
    go_wp2
    go_ret
    refine ⟨?_, b1⟩
    rw [HN.out (fun ho => by
      have h9 := HZ.out
      rw [decide_eq_true ho.2.2.1, all_yes (fun k hk => wB_of ((ho.2.2.2.2.2 k (by have h8 := ho.2.2.1; have h7 : k < C.length := hk; simp only at h8; show k < A.length; omega)).2))] at h9
      cases h9)]; rfl
  | true =>
    have hz2 := HZ.out
    simp only [Bool.and_eq_true, decide_eq_true_eq] at hz2
    have G2 : Hid (C.length = A.length) := Lib.hid hz2.2
    have HW : Hid (∀ k, k < A.length → 0 ≤ C.getD k 0 ∧ C.getD k 0 ≤ 1000) := fun k hk => wB_ok (all_at hz2.1 (by rw [hz2.2]; exact hk))
    obtain ⟨c', a1, a2⟩ := (hrows.below b1).at (k := 0) (by omega)
    obtain ⟨m, hm⟩ : ∃ m, (A.getD 0 []).length = m := ⟨_, rfl⟩
    have hml : m ≤ 1048576 := by rw [← hm]; exact hfr 0 (by show 0 < A.length; omega)
    rw [hm] at a1
    have HM : Hid ((A.getD 0 []).length = m) := Lib.hid hm
    have b2 := b1.alloc (by simp) (.cells #[.int .i64 (m : Int)] 3)
    have HA2 := HA m
    obtain ⟨W2, hW2⟩ : ∃ W2, W2 = ((w.alloc (.cells #[.slice (some ⟨b, 0, none⟩) A.length A.length, .slice (some ⟨c, 0, none⟩) C.length C.length] 29)).alloc (.cells #[.int .i64 (m : Int)] 3)) := ⟨_, rfl⟩
    have kp : W2.cell? ⟨w.heap.size + 1, 0, none⟩ = some (.int .i64 (m : Int)) := by rw [hW2]; go_simp
    have ks : w.heap.size + 1 < W2.heap.size := by rw [hW2]; simp
    rw [← hW2] at b2
    have HAV := HA2 W2 (w.heap.size + 1) hml b2 ks kp
    rw [hW2] at HAV
    rw [hW2] at b2
    have HCC : Hid (0 < A.length) := Lib.hid (by omega)
    clear HA HA2 hrows a2 hm hW2 hfr HNN hz2 kp ks
    go_enter Tryd.func15, Tryd.ntmps15
    go_wp2_with fail
    refine HS1.mono ?_
    rintro e w1 ⟨rfl, rfl⟩
    clear HS1 b1
    by_cases g3 : m < 1
    · clear HAV
      go_wp2
      go_ret
      refine ⟨?_, b2⟩
      rw [HN.out (fun ho => by have := ho.2.2.2.1; have := HM.out; simp only at *; omega)]; rfl
    by_cases g4 : 6 < m
    · clear HAV
      go_wp2
      go_ret
      refine ⟨?_, b2⟩
      rw [HN.out (fun ho => by have := ho.2.2.2.2.1; have := HM.out; simp only at *; omega)]; rfl
    go_wp2_with fail
    refine HAV.mono ?_
    rintro e w4 ⟨⟨y, rfl, hy⟩, hb4⟩
    have HYY := Lib.hid hy
    clear hy HAV
    have b4 := b2.trans (hb4.mono b2.size)
    clear hb4
    go_wp2
    go_ret
    refine ⟨?_, b4⟩
    have hm := HM.out
    have hg := G2.out
    cases y with
    | false =>
      rw [HY.out ⟨by show 1 ≤ A.length; omega, by show A.length ≤ 12; omega, hg, by show 1 ≤ (A.getD 0 []).length; omega, by show (A.getD 0 []).length ≤ 6; omega, fun k hk => ⟨?_, HW.out k hk⟩⟩]
      · rfl
      · show rkOk (A.getD 0 []).length (A.getD k [])
        rw [hm]
        have h9 := HYY.out.1 (by first | exact rfl | trivial) k hk
        have h8 : rkB m (A.getD k []) = true := by simpa using h9
        exact rkB_iff.1 h8
    | true =>
      rw [HN.out (fun ho => by
        have := HYY.out.2 (fun k hk => by
          have h7 := (ho.2.2.2.2.2 k hk).1
          simp only [hm] at h7
          rw [rkB_yes h7]; rfl)
        cases this)]; rfl
end Go.Proofs.YtnpolmanebmmcaaDoor
