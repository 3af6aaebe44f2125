/- Patches: whether a list of edits is one: the specification's look. -/
import Derived.Test.YtkaakomiimcbmaaEd4
namespace Go.Proofs.Ytkaakomiimcbmaa
open Go.ChangeShapes Go.WideShapes Go.ChangeAt Go.RowKit Go.Deep
set_option linter.unusedSimpArgs false
set_option linter.unusedVariables false
def pat1 (L : List Ed) (k : Nat) : Prop := (1 ≤ (L.getD k e0).2.1 ∧ (L.getD k e0).2.1 ≤ 99) ∧ edF (L.getD k e0) ∧ (0 < k → (L.getD (k - 1) e0).2.1 < (L.getD k e0).2.1)
def patF (L : List Ed) : Prop := L.length ≤ 16 ∧ ∀ k, k < L.length → pat1 L k
noncomputable def patB (L : List Ed) : Bool := @decide (patF L) (Classical.propDecidable _)
theorem patB_iff {L : List Ed} : patB L = true ↔ patF L := by simp [patB]
theorem patB_yes {L : List Ed} (h : patF L) : patB L = true := by simp [patB, h]
theorem patB_no {L : List Ed} (h : ¬ patF L) : patB L = false := by simp [patB, h]
set_option maxHeartbeats 4000000 in
set_option maxRecDepth 100000 in
theorem spatch (L : List Ed) (b cap : Nat) (w : World) (h : Es w b L) (hf : FitsE L) :
    Calls Try.prog 22 #[.slice (some ⟨b, 0, none⟩) L.length cap] w fun e w' => e = .returned (.bool (patB L)) ∧ Drw w w' := by
  obtain ⟨hf1, hf2⟩ := hf
  have HF := Lib.hid hf2
  have HX := Lib.hid h
  clear h hf2
  go_enter Try.func22, Try.ntmps22
  go_wp2
  go_loopg [3] L.length (fun g i wr => ∃ k : Nat, k ≤ L.length ∧ g = L.length - k ∧ i = .int .i64 k ∧ Drw w wr ∧ Hid (∀ j, j < k → pat1 L j))
  case atStart => exact ⟨0, Nat.zero_le _, rfl, rfl, Drw.refl _, fun j hj => absurd hj (Nat.not_lt_zero _)⟩
  case round =>
    obtain ⟨k, hk, rfl, rfl, hd, H⟩ := hrel
    have hb := hd.below
    by_cases hlt : k < L.length
    · have ha := (HX.out.below hb).at hlt
      obtain ⟨l1, l2⟩ := HF.out k hlt
      have hno : ¬ pat1 L k → patB L = false := fun hn => patB_no (fun ho => hn (ho.2 k hlt))
      have HN := Lib.hid hno
      obtain ⟨q, hq⟩ : ∃ q, L.getD k e0 = q := ⟨_, rfl⟩
      rw [hq] at ha l1 l2
      have HS : ∀ n z, edB q = z → Calls Try.prog 32 #[.pointer (some ⟨b, k * 4, none⟩)] (wr.drewN n) fun e w' => e = .returned (.bool z) ∧ Drw (wr.drewN n) w' := fun n z hz => hz ▸ sedit b (k * 4) q (wr.drewN n) (ha.below (below_drewN (Below.refl _ _) n)) l1 l2
      obtain ⟨z, hz⟩ : ∃ z, edB q = z := ⟨_, rfl⟩
      have HS2 := fun n => HS n z hz
      have HQ := Lib.hid hq
      have HZ := Lib.hid hz
      obtain ⟨a1, a2, a3, a4⟩ := ha
      obtain ⟨y, hy⟩ : ∃ y, q.2.1 = y := ⟨_, rfl⟩
      rw [hy] at a2
      have HY := Lib.hid hy
      clear hno hq hz hy HS a1 a3 a4 l1 l2
      by_cases hin : 1 ≤ y ∧ y ≤ 99
      · have i2 := inB_yes hin.1 hin.2
        have HIN := Lib.hid hin
        cases z with
        | false =>
          go_wp2_with fail
          go_quiet ((first | (go_at_call 18; exact quiet_left (in_val _ _ _ _)) | (go_at_call 32; exact Drw.quiet (HS2 _))))
          go_wp2
          go_ret
          refine ⟨?_, hd.drewN _⟩
          rw [HN.out (fun ho => by have h2 := edB_yes ho.2.1; simp only [HQ.out, HZ.out] at h2; cases h2)]; rfl
        | true =>
          by_cases hk0 : k = 0
          · have hk1 : ¬ 0 < k := by omega
            clear hk0
            go_wp2_with fail
            go_quiet ((first | (go_at_call 18; exact quiet_left (in_val _ _ _ _)) | (go_at_call 32; exact Drw.quiet (HS2 _))))
            go_wp2
            go_roundg (L.length - (k + 1))
            case measure => omega
            case rel =>
              refine ⟨k + 1, by omega, rfl, by simp, hd.drewN _, fun j hj => ?_⟩
              by_cases ej : j = k
              · subst ej
                unfold pat1
                rw [HQ.out, HY.out]
                exact ⟨HIN.out, edB_iff.1 HZ.out, fun h => absurd h hk1⟩
              · exact H.out j (by omega)
          · obtain ⟨k', hkk'⟩ : ∃ k', k = k' + 1 := ⟨k - 1, by omega⟩
            have c2 := ((HX.out.below hb).at (k := k') (by omega)).2.1
            obtain ⟨y', hy'⟩ : ∃ y, (L.getD k' e0).2.1 = y := ⟨_, rfl⟩
            rw [hy'] at c2
            have HY2 := Lib.hid hy'
            have hlk : k' < L.length := by omega
            have wk1 : IntKind.i64.wrap ((k : Int) - 1) = k' := by rw [IntKind.wrap_i64]; omega
            have wk2 : (k : Int) - 1 = k' := by omega
            have wk3 : IntKind.i64.wrap (k' : Int) = k' := by rw [IntKind.wrap_i64]; omega
            have hpk : 0 < k := by omega
            have HKK := Lib.hid hkk'
            clear hy' hk0 hkk'
            by_cases hle : y ≤ y'
            · have HLE := Lib.hid hle
              go_wp2_with fail
              go_quiet ((first | (go_at_call 18; exact quiet_left (in_val _ _ _ _)) | (go_at_call 32; exact Drw.quiet (HS2 _))))
              go_wp2
              go_ret
              refine ⟨?_, hd.drewN _⟩
              rw [HN.out (fun ho => by
                have h3 := ho.2.2 hpk
                have e1 : k - 1 = k' := by have := HKK.out; omega
                rw [e1, HQ.out, HY.out, HY2.out] at h3
                have := HLE.out
                omega)]; rfl
            · have HLE := Lib.hid hle
              go_wp2_with fail
              go_quiet ((first | (go_at_call 18; exact quiet_left (in_val _ _ _ _)) | (go_at_call 32; exact Drw.quiet (HS2 _))))
              go_wp2
              go_roundg (L.length - (k + 1))
              case measure => omega
              case rel =>
                refine ⟨k + 1, by omega, rfl, by simp, hd.drewN _, fun j hj => ?_⟩
                by_cases ej : j = k
                · subst ej
                  unfold pat1
                  have e1 : j - 1 = k' := by have := HKK.out; omega
                  rw [e1, HQ.out, HY.out, HY2.out]
                  exact ⟨HIN.out, edB_iff.1 HZ.out, fun _ => by have := HLE.out; omega⟩
                · exact H.out j (by omega)
      · have i2 := inB_no hin
        have HIN := Lib.hid hin
        clear hin HS2
        go_wp2_with fail
        go_quiet ((first | (go_at_call 18; exact quiet_left (in_val _ _ _ _))))
        go_wp2
        go_ret
        refine ⟨?_, hd.drewN _⟩
        rw [HN.out (fun ho => HIN.out (by have := ho.1; rw [HQ.out, HY.out] at this; exact this))]; rfl
    · obtain rfl : k = L.length := by omega
      by_cases h16 : L.length ≤ 16
      · have HYY := Lib.hid (patB_yes (L := L) ⟨h16, H.out⟩)
        go_wp2
        go_ret
        refine ⟨?_, hd⟩
        rw [HYY.out]
        exact ret_bool (by simp; omega)
      · have HNN := Lib.hid (patB_no (L := L) (fun h => h16 h.1))
        go_wp2
        go_ret
        refine ⟨?_, hd⟩
        rw [HNN.out]
        exact ret_bool (by simp; omega)
end Go.Proofs.Ytkaakomiimcbmaa
