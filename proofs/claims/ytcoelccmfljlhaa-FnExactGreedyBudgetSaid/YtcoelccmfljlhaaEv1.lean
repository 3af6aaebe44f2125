/- Whether an election is valid: the specification's look. -/
import Derived.Test.YtcoelccmfljlhaaEl3
import Derived.Test.YtcoelccmfljlhaaPo3
namespace Go.Proofs.Ytcoelccmfljlhaa
open Go.ChangeShapes Go.WideShapes Go.ChangeAt Go.RowKit Go.Deep
set_option linter.unusedSimpArgs false
set_option linter.unusedVariables false
def costOk (C : List Int) (k : Nat) : Prop := 1 ≤ C.getD k 0 ∧ C.getD k 0 ≤ 60
def eOk (X : El) : Prop := 0 ≤ X.1 ∧ X.1 ≤ 60 ∧ 1 ≤ X.2.1.length ∧ X.2.1.length ≤ 6 ∧ 1 ≤ X.2.2.length ∧ X.2.2.length ≤ 6 ∧ (∀ k, k < X.2.1.length → costOk X.2.1 k) ∧ ∀ k, k < X.2.2.length → ris (X.2.2.getD k []) 0 ((X.2.1.length : Int) - 1)
noncomputable def eOkB (X : El) : Bool := @decide (eOk X) (Classical.propDecidable _)
theorem eOkB_iff {X : El} : eOkB X = true ↔ eOk X := by simp [eOkB]
theorem eOkB_yes {X : El} (h : eOk X) : eOkB X = true := by simp [eOkB, h]
theorem eOkB_no {X : El} (h : ¬ eOk X) : eOkB X = false := by simp [eOkB, h]
set_option maxHeartbeats 1000000 in
set_option maxRecDepth 100000 in
theorem selok (X : El) (c b hi p : Nat) (w : World) (h : ElR w c b hi X) (hp : ElAt w p X.1 (.slice (some ⟨c, 0, none⟩) X.2.1.length X.2.1.length) (.slice (some ⟨b, 0, none⟩) X.2.2.length X.2.2.length)) :
    Calls Try.prog 34 #[.pointer (some ⟨p, 0, none⟩)] w fun e w' => e = .returned (.bool (eOkB X)) ∧ Drw w w' := by
  have hf := h.fits
  have hf1 := hf.1
  have hf2 := hf.2.1.1
  have HF := Lib.hid hf.2.1.2
  have HN := Lib.hid (fun hn => eOkB_no (X := X) hn)
  obtain ⟨M, C, A⟩ := X
  simp only at hp hf1 hf2 HF
  obtain ⟨p0, p1, p2, pl⟩ := hp
  have H := Lib.hid h
  clear h hf
  by_cases h1 : 0 ≤ M ∧ M ≤ 60
  · have i1 := inB_yes h1.1 h1.2
    by_cases h2 : 1 ≤ C.length
    · by_cases h3 : C.length ≤ 6
      · by_cases h4 : 1 ≤ A.length
        · by_cases h5 : A.length ≤ 6
          · have H1 := Lib.hid h1
            clear h1
            go_enter Try.func34, Try.ntmps34
            go_wp2_with (go_at_call 55; refine (in_val _ _ _ _).mono ?_; rintro e w1 ⟨rfl, rfl⟩)
            go_loopg [3] C.length (fun g i wr => ∃ k : Nat, k ≤ C.length ∧ g = C.length - k ∧ i = .int .i64 k ∧ w = wr ∧ Hid (∀ j, j < k → costOk C j))
            case atStart => exact ⟨0, Nat.zero_le _, rfl, rfl, rfl, fun j hj => absurd hj (Nat.not_lt_zero _)⟩
            case round =>
              obtain ⟨k, hk, rfl, rfl, rfl, HK⟩ := hrel
              by_cases hlt : k < C.length
              · have c1 := H.out.costs.cell (i := k) hlt
                obtain ⟨y, hy⟩ : ∃ y, C.getD k 0 = y := ⟨_, rfl⟩
                simp only [hy] at c1
                have HY := Lib.hid hy
                clear hy
                by_cases hin : 1 ≤ y ∧ y ≤ 60
                · have i2 := inB_yes hin.1 hin.2
                  have HIN := Lib.hid hin
                  clear hin
                  go_wp2_with (go_at_call 55; refine (in_val _ _ _ _).mono ?_; rintro e w1 ⟨rfl, rfl⟩)
                  go_roundg (C.length - (k + 1))
                  case measure => omega
                  case rel =>
                    refine ⟨k + 1, by omega, rfl, by simp, rfl, fun j hj => ?_⟩
                    by_cases e : j = k
                    · subst e; unfold costOk; rw [HY.out]; exact HIN.out
                    · exact HK.out j (by omega)
                · have i2 := inB_no hin
                  have HIN := Lib.hid hin
                  clear hin
                  go_wp2_with (go_at_call 55; refine (in_val _ _ _ _).mono ?_; rintro e w1 ⟨rfl, rfl⟩)
                  go_ret
                  refine ⟨?_, Drw.refl _⟩
                  rw [HN.out (fun ho => HIN.out (by have := ho.2.2.2.2.2.2.1 k hlt; unfold costOk at this; rw [HY.out] at this; exact this))]; rfl
              · have HC : Hid (∀ j, j < C.length → costOk C j) := fun j hj => HK.out j (by omega)
                clear HK
                obtain rfl : k = C.length := by omega
                go_wp2
                go_loopg [4] A.length (fun g i wr => ∃ k : Nat, k ≤ A.length ∧ g = A.length - k ∧ i = .int .i64 k ∧ Drw w wr ∧ Hid (∀ j, j < k → ris (A.getD j []) 0 ((C.length : Int) - 1)))
                case atStart => exact ⟨0, Nat.zero_le _, rfl, rfl, Drw.refl _, fun j hj => absurd hj (Nat.not_lt_zero _)⟩
                case round =>
                  obtain ⟨k, hk, rfl, rfl, hd, HK⟩ := hrel
                  have hb := hd.below
                  have z0 := (hb.cell (p := ⟨p, 0, none⟩) pl).trans p0
                  have z1 := (hb.cell (p := ⟨p, 1, none⟩) pl).trans p1
                  have z2 := (hb.cell (p := ⟨p, 2, none⟩) pl).trans p2
                  by_cases hlt : k < A.length
                  · obtain ⟨c', a1, a2⟩ := (H.out.rows.below hb).at hlt
                    simp only at a1 a2
                    have hlen := HF.out k hlt
                    obtain ⟨P', hP'⟩ : ∃ P' : Int, (C.length : Int) - 1 = P' := ⟨_, rfl⟩
                    have wq1 : IntKind.i64.wrap ((C.length : Int) - 1) = P' := by rw [IntKind.wrap_i64]; omega
                    have wq3 : IntKind.i64.wrap P' = P' := by rw [IntKind.wrap_i64]; omega
                    obtain ⟨l, hl⟩ : ∃ l, A.getD k [] = l := ⟨_, rfl⟩
                    rw [hl] at a1 a2 hlen
                    obtain ⟨z, hz⟩ : ∃ z, risB l 0 P' = z := ⟨_, rfl⟩
                    have HR : ∀ n, Calls Try.prog 62 #[.slice (some ⟨c', 0, none⟩) l.length l.length, .int .i64 0, .int .i64 P'] (wr.drewN n) fun e w' => e = .returned (.bool z) ∧ Drw (wr.drewN n) w' := fun n => by
                      have := srises (.slice (some ⟨c', 0, none⟩) l.length l.length) l 0 P' (wr.drewN n) ((OwnI.below a2 (below_drewN (Below.refl _ _) n)).row l.length) (by omega)
                      rw [hz] at this
                      exact this
                    have HZ := Lib.hid hz
                    have HL := Lib.hid hl
                    have wq2 : (C.length : Int) - 1 = P' := hP'
                    clear hz hl a2 hP'
                    cases z with
                    | false =>
                      go_wp2_with fail
                      go_quiet ((first | (go_at_call 62; exact Drw.quiet (HR _))))
                      go_wp2
                      go_ret
                      refine ⟨?_, hd.drewN _⟩
                      rw [HN.out (fun ho => by have := risB_yes (ho.2.2.2.2.2.2.2 k hlt); simp only [HL.out, wq2, HZ.out] at this; cases this)]; rfl
                    | true =>
                      go_wp2_with fail
                      go_quiet ((first | (go_at_call 62; exact Drw.quiet (HR _))))
                      go_wp2
                      go_roundg (A.length - (k + 1))
                      case measure => omega
                      case rel =>
                        refine ⟨k + 1, by omega, rfl, by simp, hd.drewN _, fun j hj => ?_⟩
                        by_cases e : j = k
                        · subst e; rw [HL.out, wq2]; exact risB_iff.1 HZ.out
                        · exact HK.out j (by omega)
                  · obtain rfl : k = A.length := by omega
                    go_wp2
                    go_ret
                    refine ⟨?_, hd⟩
                    rw [eOkB_yes ⟨H1.out.1, H1.out.2, h2, h3, h4, h5, HC.out, HK.out⟩]; rfl
          · have HX := Lib.hid (show ¬ _ from h5)
            clear HF H
            go_enter Try.func34, Try.ntmps34
            go_wp2_with (go_at_call 55; refine (in_val _ _ _ _).mono ?_; rintro e w1 ⟨rfl, rfl⟩)
            go_ret
            exact ⟨by rw [HN.out (fun ho => HX.out ho.2.2.2.2.2.1)]; rfl, Drw.refl _⟩
        · have HX := Lib.hid (show ¬ _ from h4)
          clear HF H
          go_enter Try.func34, Try.ntmps34
          go_wp2_with (go_at_call 55; refine (in_val _ _ _ _).mono ?_; rintro e w1 ⟨rfl, rfl⟩)
          go_ret
          exact ⟨by rw [HN.out (fun ho => HX.out ho.2.2.2.2.1)]; rfl, Drw.refl _⟩
      · have HX := Lib.hid (show ¬ _ from h3)
        clear HF H
        go_enter Try.func34, Try.ntmps34
        go_wp2_with (go_at_call 55; refine (in_val _ _ _ _).mono ?_; rintro e w1 ⟨rfl, rfl⟩)
        go_ret
        exact ⟨by rw [HN.out (fun ho => HX.out ho.2.2.2.1)]; rfl, Drw.refl _⟩
    · have HX := Lib.hid (show ¬ _ from h2)
      clear HF H
      go_enter Try.func34, Try.ntmps34
      go_wp2_with (go_at_call 55; refine (in_val _ _ _ _).mono ?_; rintro e w1 ⟨rfl, rfl⟩)
      go_ret
      exact ⟨by rw [HN.out (fun ho => HX.out ho.2.2.1)]; rfl, Drw.refl _⟩
  · have i1 := inB_no h1
    have HX := Lib.hid h1
    clear h1 HF H
    go_enter Try.func34, Try.ntmps34
    go_wp2_with (go_at_call 55; refine (in_val _ _ _ _).mono ?_; rintro e w1 ⟨rfl, rfl⟩)
    go_ret
    exact ⟨by rw [HN.out (fun ho => HX.out ⟨ho.1, ho.2.1⟩)]; rfl, Drw.refl _⟩
end Go.Proofs.Ytcoelccmfljlhaa
