/- Whether an election is valid: the program's look. -/
import Derived.Test.YtcoelccmfljlhaaEv1
import Derived.Test.YtcoelccmfljlhaaCt1
namespace Go.Proofs.Ytcoelccmfljlhaa
open Go.ChangeShapes Go.WideShapes Go.ChangeAt Go.RowKit Go.Deep
set_option linter.unusedSimpArgs false
set_option linter.unusedVariables false
theorem icost (y : Int) (w : World) : Calls Try.prog 36 (#[.int .i64 y] ++ #[]) w fun e w' => e = .returned (.bool (!inB y 1 60)) ∧ Below w.heap.size w w' := by
  show Calls Try.prog 36 #[.int .i64 y] w _
  by_cases h1 : 1 ≤ y
  · by_cases h2 : y ≤ 60
    · have i := inB_yes h1 h2
      go_enter Try.func36, Try.ntmps36
      go_wp2
      go_ret
      exact ⟨by simp only [i]; first | rfl | (simp; omega), Below.refl _ _⟩
    · have i := inB_no (show ¬ (1 ≤ y ∧ y ≤ 60) by omega)
      go_enter Try.func36, Try.ntmps36
      go_wp2
      go_ret
      exact ⟨by simp only [i]; first | rfl | (simp; omega), Below.refl _ _⟩
  · have i := inB_no (show ¬ (1 ≤ y ∧ y ≤ 60) by omega)
    go_enter Try.func36, Try.ntmps36
    go_wp2
    go_ret
    exact ⟨by simp only [i]; rfl, Below.refl _ _⟩
theorem iset (n p : Nat) (u : Value) (l : List Int) (w : World) (hu : RowV w u l) (hl : l.length ≤ 1048576) (hc : w.cell? ⟨p, 0, none⟩ = some (.int .i64 (n : Int))) :
    Calls Try.prog 37 (#[u] ++ #[.pointer (some ⟨p, 0, none⟩)]) w fun e w' => e = .returned (.bool (!risB l 0 ((n : Int) - 1))) ∧ Below w.heap.size w w' := by
  show Calls Try.prog 37 #[u, .pointer (some ⟨p, 0, none⟩)] w _
  have HS := isetb u l n w hu (by omega)
  generalize risB l 0 ((n : Int) - 1) = z at HS ⊢
  clear hu
  go_enter Try.func37, Try.ntmps37
  go_wp2_with fail
  refine HS.mono ?_
  rintro e w1 ⟨rfl, rfl⟩
  go_wp2
  go_ret
  exact ⟨by first | rfl | (cases z <;> rfl), Below.refl _ _⟩
set_option maxHeartbeats 1000000 in
set_option maxRecDepth 100000 in
theorem ielok (X : El) (c b hi : Nat) (w : World) (h : ElR w c b hi X) :
    Calls Try.prog 13 #[.agg #[.int .i64 X.1, .slice (some ⟨c, 0, none⟩) X.2.1.length X.2.1.length, .slice (some ⟨b, 0, none⟩) X.2.2.length X.2.2.length]] w fun e w' => e = .returned (.bool (eOkB X)) ∧ Below w.heap.size w w' := by
  have hf := h.fits
  have hf1 := hf.1
  have hf2 := hf.2.1.1
  have hfr := hf.2.1.2
  have HN := Lib.hid (fun hn => eOkB_no (X := X) hn)
  have HY := Lib.hid (fun hy => eOkB_yes (X := X) hy)
  have HC : ∀ w', Below w.heap.size w w' → Calls Try.prog 39 #[.slice (some ⟨c, 0, none⟩) X.2.1.length X.2.1.length, .func (.func 36) #[] #[]] w' fun e w'' => (∃ z, e = .returned (.bool z) ∧ (z = false ↔ ∀ k, k < X.2.1.length → (!inB (X.2.1.getD k 0) 1 60) = false)) ∧ Below w'.heap.size w' w'' := fun w' hw =>
    contI _ (fun _ _ => rfl) #[] X.2.1 (fun k => !inB (X.2.1.getD k 0) 1 60) _ w' ((h.costs.below hw).row X.2.1.length) hf1 (fun k w1 _ _ => icost _ w1)
  have HA : ∀ w' p, Below w.heap.size w w' → p < w'.heap.size → w'.cell? ⟨p, 0, none⟩ = some (.int .i64 (X.2.1.length : Int)) → Calls Try.prog 40 #[.slice (some ⟨b, 0, none⟩) X.2.2.length X.2.2.length, .func (.func 37) #[] #[.pointer (some ⟨p, 0, none⟩)]] w' fun e w'' => (∃ z, e = .returned (.bool z) ∧ (z = false ↔ ∀ k, k < X.2.2.length → (!risB (X.2.2.getD k []) 0 ((X.2.1.length : Int) - 1)) = false)) ∧ Below w'.heap.size w' w'' := fun w' p hw hpl hp =>
    contJ _ (fun _ _ => rfl) #[.pointer (some ⟨p, 0, none⟩)] X.2.2 (fun k => !risB (X.2.2.getD k []) 0 ((X.2.1.length : Int) - 1)) _ w' ((h.rows.below hw).list X.2.2.length) hf2 (fun k w1 u hk hb1 hu => iset X.2.1.length p u _ w1 hu (hfr k hk) ((hb1.cell (p := ⟨p, 0, none⟩) hpl).trans hp))
  obtain ⟨M, C, A⟩ := X
  simp only at HC HA hf1 hf2 ⊢
  have b1 := ((Below.refl w.heap.size w).alloc (Nat.le_refl _) (.cells #[.int .i64 M, .slice (some ⟨c, 0, none⟩) C.length C.length, .slice (some ⟨b, 0, none⟩) A.length A.length] 28))
  have b2 := (b1.alloc (by simp) (.cells #[.int .i64 (C.length : Int)] 3)).drew
  obtain ⟨W2, hW2⟩ : ∃ W2, W2 = ((w.alloc (.cells #[.int .i64 M, .slice (some ⟨c, 0, none⟩) C.length C.length, .slice (some ⟨b, 0, none⟩) A.length A.length] 28)).alloc (.cells #[.int .i64 (C.length : Int)] 3)).drew := ⟨_, rfl⟩
  have k2 : W2.cell? ⟨w.heap.size, 2, none⟩ = some (.slice (some ⟨b, 0, none⟩) A.length A.length) := by rw [hW2]; go_simp
  have kp : W2.cell? ⟨w.heap.size + 1, 0, none⟩ = some (.int .i64 (C.length : Int)) := by rw [hW2]; go_simp
  have ks : w.heap.size + 1 < W2.heap.size := by rw [hW2]; simp
  rw [← hW2] at b2
  have HW2 := Lib.hid hW2
  have HC2 := HC _ b2
  rw [hW2] at HC2
  clear h hf hfr hW2 HC
  by_cases g0 : M < 0
  · clear HC2 HA HY k2 kp ks
    go_enter Try.func13, Try.ntmps13
    go_wp2_with fail
    go_region_held3 (fun w' => w'.cell? ⟨w.heap.size, 1, none⟩ = some (.slice (some ⟨c, 0, none⟩) C.length C.length) ∧ w'.cell? ⟨w.heap.size, 2, none⟩ = some (.slice (some ⟨b, 0, none⟩) A.length A.length))
      (first
        | go_keep
        | assumption
        | (go_split_ands; go_simp))
      (first | fail)
    go_wp2
    go_ret
    exact ⟨by rw [HN.out (fun ho => by have := ho.1; simp only at this; omega)]; rfl, by rw [HW2.out] at b2; exact b2⟩
  · skip
    by_cases g1 : 60 < M
    · clear HC2 HA HY k2 kp ks
      go_enter Try.func13, Try.ntmps13
      go_wp2_with fail
      go_region_held3 (fun w' => w'.cell? ⟨w.heap.size, 1, none⟩ = some (.slice (some ⟨c, 0, none⟩) C.length C.length) ∧ w'.cell? ⟨w.heap.size, 2, none⟩ = some (.slice (some ⟨b, 0, none⟩) A.length A.length))
        (first
          | go_keep
          | assumption
          | (go_split_ands; go_simp))
        (first | fail)
      go_wp2
      go_ret
      exact ⟨by rw [HN.out (fun ho => by have := ho.2.1; simp only at this; omega)]; rfl, by rw [HW2.out] at b2; exact b2⟩
    · skip
      by_cases g2 : C.length < 1
      · clear HC2 HA HY k2 kp ks
        go_enter Try.func13, Try.ntmps13
        go_wp2_with fail
        go_region_held3 (fun w' => w'.cell? ⟨w.heap.size, 1, none⟩ = some (.slice (some ⟨c, 0, none⟩) C.length C.length) ∧ w'.cell? ⟨w.heap.size, 2, none⟩ = some (.slice (some ⟨b, 0, none⟩) A.length A.length))
          (first
            | go_keep
            | assumption
            | (go_split_ands; go_simp))
          (first | fail)
        go_wp2
        go_ret
        exact ⟨by rw [HN.out (fun ho => by have := ho.2.2.1; simp only at this; omega)]; rfl, by rw [HW2.out] at b2; exact b2⟩
      · skip
        by_cases g3 : 6 < C.length
        · clear HC2 HA HY k2 kp ks
          go_enter Try.func13, Try.ntmps13
          go_wp2_with fail
          go_region_held3 (fun w' => w'.cell? ⟨w.heap.size, 1, none⟩ = some (.slice (some ⟨c, 0, none⟩) C.length C.length) ∧ w'.cell? ⟨w.heap.size, 2, none⟩ = some (.slice (some ⟨b, 0, none⟩) A.length A.length))
            (first
              | go_keep
              | assumption
              | (go_split_ands; go_simp))
            (first | fail)
          go_wp2
          go_ret
          exact ⟨by rw [HN.out (fun ho => by have := ho.2.2.2.1; simp only at this; omega)]; rfl, by rw [HW2.out] at b2; exact b2⟩
        · skip
          by_cases g4 : A.length < 1
          · clear HC2 HA HY k2 kp ks
            go_enter Try.func13, Try.ntmps13
            go_wp2_with fail
            go_region_held3 (fun w' => w'.cell? ⟨w.heap.size, 1, none⟩ = some (.slice (some ⟨c, 0, none⟩) C.length C.length) ∧ w'.cell? ⟨w.heap.size, 2, none⟩ = some (.slice (some ⟨b, 0, none⟩) A.length A.length))
              (first
                | go_keep
                | assumption
                | (go_split_ands; go_simp))
              (first | fail)
            go_wp2
            go_ret
            exact ⟨by rw [HN.out (fun ho => by have := ho.2.2.2.2.1; simp only at this; omega)]; rfl, by rw [HW2.out] at b2; exact b2⟩
          · skip
            by_cases g5 : 6 < A.length
            · clear HC2 HA HY k2 kp ks
              go_enter Try.func13, Try.ntmps13
              go_wp2_with fail
              go_region_held3 (fun w' => w'.cell? ⟨w.heap.size, 1, none⟩ = some (.slice (some ⟨c, 0, none⟩) C.length C.length) ∧ w'.cell? ⟨w.heap.size, 2, none⟩ = some (.slice (some ⟨b, 0, none⟩) A.length A.length))
                (first
                  | go_keep
                  | assumption
                  | (go_split_ands; go_simp))
                (first | fail)
              go_wp2
              go_ret
              exact ⟨by rw [HN.out (fun ho => by have := ho.2.2.2.2.2.1; simp only at this; omega)]; rfl, by rw [HW2.out] at b2; exact b2⟩
            · skip
              have HCC := HC2
              clear HC2
              go_enter Try.func13, Try.ntmps13
              go_wp2_with fail
              go_region_held3 (fun w' => w'.cell? ⟨w.heap.size, 1, none⟩ = some (.slice (some ⟨c, 0, none⟩) C.length C.length) ∧ w'.cell? ⟨w.heap.size, 2, none⟩ = some (.slice (some ⟨b, 0, none⟩) A.length A.length))
                (first
                  | go_keep
                  | assumption
                  | (go_split_ands; go_simp))
                (first | fail)
              go_wp2_with fail
              refine HCC.mono ?_
              rintro e w3 ⟨⟨z, rfl, hz⟩, hb3⟩
              rw [← HW2.out] at hb3
              have HZ := Lib.hid hz
              have b3 := b2.trans (hb3.mono b2.size)
              have e2 := (hb3.cell (p := ⟨w.heap.size, 2, none⟩) (by show w.heap.size < _; omega)).trans k2
              have ep := (hb3.cell (p := ⟨w.heap.size + 1, 0, none⟩) ks).trans kp
              have s3 := hb3.size
              have HAA := HA _ (w.heap.size + 1) b3 (by omega) ep
              clear HA hz hb3
              cases z with
              | true =>
                go_wp2
                go_ret
                refine ⟨?_, b3⟩
                rw [HN.out (fun ho => ?_)]
                · rfl
                · have := HZ.out.2 (fun k hk => by
                    have h7 := ho.2.2.2.2.2.2.1 k hk
                    unfold costOk at h7
                    simp only at h7
                    rw [inB_yes h7.1 h7.2]; rfl)
                  cases this
              | false =>
                go_wp2_with fail
                refine HAA.mono ?_
                rintro e w4 ⟨⟨y, rfl, hy⟩, hb4⟩
                have HYY := Lib.hid hy
                clear hy
                go_wp2
                go_ret
                refine ⟨?_, b3.trans (hb4.mono b3.size)⟩
                cases y with
                | false =>
                  rw [HY.out ⟨by show 0 ≤ M; omega, by show M ≤ 60; omega, by show 1 ≤ C.length; omega, by show C.length ≤ 6; omega, by show 1 ≤ A.length; omega, by show A.length ≤ 6; omega, fun k hk => ?_, fun k hk => ?_⟩]
                  · rfl
                  · have h9 := HZ.out.1 (by first | exact rfl | trivial) k hk
                    have h8 : inB (C.getD k 0) 1 60 = true := by simpa using h9
                    unfold inB at h8
                    simp only [Bool.and_eq_true, decide_eq_true_eq] at h8
                    exact h8
                  · have h9 := HYY.out.1 (by first | exact rfl | trivial) k hk
                    exact risB_iff.1 (by simpa using h9)
                | true =>
                  rw [HN.out (fun ho => ?_)]
                  · rfl
                  · have := HYY.out.2 (fun k hk => by
                      have h7 := risB_yes (ho.2.2.2.2.2.2.2 k hk)
                      simp only at h7
                      rw [h7]; rfl)
                    cases this
end Go.Proofs.Ytcoelccmfljlhaa
