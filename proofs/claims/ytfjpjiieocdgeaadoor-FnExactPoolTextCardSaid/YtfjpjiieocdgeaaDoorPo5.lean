/- The specification's look at a pool. -/
import Derived.Test.YtfjpjiieocdgeaaDoorPo4
import Derived.Test.YtfjpjiieocdgeaaDoorK5
namespace Go.Proofs.YtfjpjiieocdgeaaDoor
open Go.ChangeShapes Go.WideShapes Go.ChangeAt Go.RowKit Go.Deep
set_option linter.unusedSimpArgs false
set_option linter.unusedVariables false
set_option maxHeartbeats 1000000 in
set_option maxRecDepth 100000 in
theorem spool (P S : Int) (L : List Qt) (B b cap p : Nat) (w : World) (h : Qs w B b L) (hf : FitsQ L) (hp : PoolAt w p P S (.slice (some ⟨b, 0, none⟩) L.length cap)) :
    Calls Tryd.prog 40 #[.pointer (some ⟨p, 0, none⟩)] w fun e w' => e = .returned (.bool (pOkB P S L)) ∧ Drw w w' := by
  obtain ⟨hf1, hf2⟩ := hf
  have HN := Lib.hid (fun hn => pOkB_no (P := P) (S := S) (L := L) hn)
  obtain ⟨p0, p1, p2, pl⟩ := hp
  by_cases h1 : 1 ≤ P ∧ P ≤ 7
  · have i1 := inB_yes h1.1 h1.2
    obtain ⟨g1, g2⟩ := h1
    by_cases h2 : 1 ≤ S ∧ S ≤ P
    · have i2 := inB_yes h2.1 h2.2
      obtain ⟨g3, g4⟩ := h2
      by_cases h3 : L.length ≤ 6
      · go_enter Tryd.func40, Tryd.ntmps40
        go_wp2_with fail
        go_quiet ((first | (go_at_call 48; exact quiet_left (in_val _ _ _ _))))
        go_wp2
        go_loopg [3] L.length (fun g i wr => ∃ k : Nat, k ≤ L.length ∧ g = L.length - k ∧ i = .int .i64 k ∧ Drw w wr ∧ Hid (∀ j, j < k → qOk P (L.getD j q0)))
        case atStart => exact ⟨0, Nat.zero_le _, rfl, rfl, (Drw.refl _).drewN _, fun j hj => absurd hj (Nat.not_lt_zero _)⟩
        case round =>
          obtain ⟨k, hk, rfl, rfl, hd, H⟩ := hrel
          have hb := hd.below
          have z0 := (hb.cell (p := ⟨p, 0, none⟩) pl).trans p0
          have z2 := (hb.cell (p := ⟨p, 2, none⟩) pl).trans p2
          by_cases hlt : k < L.length
          · obtain ⟨c, a1, a2, a3, a4⟩ := (h.below hb).at hlt
            have hlen := hf2 k hlt
            obtain ⟨q, hq⟩ : ∃ q, L.getD k q0 = q := ⟨_, rfl⟩
            rw [hq] at a1 a2 a3 a4 hlen
            have HQ := Lib.hid hq
            obtain ⟨l, m, n⟩ := q
            simp only at a1 a2 a3 a4 hlen
            have hno : ¬ qOk P (l, m, n) → pOkB P S L = false := fun hn => HN.out (fun ho => hn (by have := ho.2.2.2.2.2 k hlt; rw [hq] at this; exact this))
            have HO := Lib.hid hno
            obtain ⟨P', hP'⟩ : ∃ P', P - 1 = P' := ⟨_, rfl⟩
            have wq1 : IntKind.i64.wrap (P - 1) = P' := by rw [IntKind.wrap_i64]; omega
            have wq2 : P - 1 = P' := hP'
            have wq3 : IntKind.i64.wrap P' = P' := by rw [IntKind.wrap_i64]; omega
            obtain ⟨z, hz⟩ : ∃ z, risB l 0 (P - 1) = z := ⟨_, rfl⟩
            have HR : ∀ n, Calls Tryd.prog 61 #[.slice (some ⟨c, 0, none⟩) l.length l.length, .int .i64 0, .int .i64 P'] (wr.drewN n) fun e w' => e = .returned (.bool z) ∧ Drw (wr.drewN n) w' := fun n => by
              have := srises _ l 0 (P - 1) (wr.drewN n) (a4.below (below_drewN (Below.refl _ _) n)) (by omega)
              rw [hz, hP'] at this
              exact this
            have HZ := Lib.hid hz
            clear hz hq a4 hno hP'
            by_cases h0 : l.length = 0
            · have HX := Lib.hid h0
              have e0 : ((l.length : Int) == 0) = true := beq_iff_eq.2 (by omega)
              clear h0
              go_wp2_with fail
              go_quiet ((first | (go_at_call 48; exact quiet_left (in_val _ _ _ _))))
              go_wp2
              go_ret
              exact ⟨by rw [HO.out (fun ho => ho.1 HX.out)]; rfl, hd.drewN _⟩
            · have e0 : ((l.length : Int) == 0) = false := beq_eq_false_iff_ne.2 (by omega)
              have HX := Lib.hid h0
              clear h0
              cases z with
              | false =>
                go_wp2_with fail
                go_quiet ((first | (go_at_call 48; exact quiet_left (in_val _ _ _ _)) | (go_at_call 61; exact Drw.quiet (HR _))))
                go_wp2
                go_ret
                exact ⟨by rw [HO.out (fun ho => by have := risB_yes ho.2.1; rw [HZ.out] at this; simp at this)]; rfl, hd.drewN _⟩
              | true =>
                by_cases h5 : 0 ≤ m ∧ m ≤ n
                · have i5 := inB_yes h5.1 h5.2
                  by_cases h6 : n ≤ 7
                  · have H5 := Lib.hid h5
                    have H6 := Lib.hid h6
                    clear h5
                    go_wp2_with fail
                    go_quiet ((first | (go_at_call 48; exact quiet_left (in_val _ _ _ _)) | (go_at_call 61; exact Drw.quiet (HR _))))
                    go_wp2
                    go_roundg (L.length - (k + 1))
                    case measure => omega
                    case rel =>
                      refine ⟨k + 1, by omega, rfl, by simp, hd.drewN _, fun j hj => ?_⟩
                      by_cases ej : j = k
                      · subst ej; rw [HQ.out]; exact ⟨HX.out, risB_iff.1 HZ.out, H5.out.1, H5.out.2, H6.out⟩
                      · exact H.out j (by omega)
                  · have H6 := Lib.hid h6
                    clear h5
                    go_wp2_with fail
                    go_quiet ((first | (go_at_call 48; exact quiet_left (in_val _ _ _ _)) | (go_at_call 61; exact Drw.quiet (HR _))))
                    go_wp2
                    go_ret
                    exact ⟨by rw [HO.out (fun ho => by have h7 := H6.out; have h8 := ho.2.2.2.2; simp only at h8; omega)]; rfl, hd.drewN _⟩
                · have i5 := inB_no h5
                  have H5 := Lib.hid h5
                  clear h5
                  go_wp2_with fail
                  go_quiet ((first | (go_at_call 48; exact quiet_left (in_val _ _ _ _)) | (go_at_call 61; exact Drw.quiet (HR _))))
                  go_wp2
                  go_ret
                  exact ⟨by rw [HO.out (fun ho => H5.out ⟨ho.2.2.1, ho.2.2.2.1⟩)]; rfl, hd.drewN _⟩
          · have e : k = L.length := by omega
            subst e
            go_wp2
            go_ret
            exact ⟨by rw [pOkB_yes ⟨g1, g2, g3, g4, h3, H.out⟩]; rfl, hd⟩
      · have HX := Lib.hid h3
        clear h hf2
        go_enter Tryd.func40, Tryd.ntmps40
        go_wp2_with fail
        go_quiet ((first | (go_at_call 48; exact quiet_left (in_val _ _ _ _))))
        go_wp2
        go_ret
        exact ⟨by rw [HN.out (fun ho => HX.out ho.2.2.2.2.1)]; rfl, (Drw.refl _).drewN _⟩
    · have i2 := inB_no h2
      have HX := Lib.hid h2
      clear h2 h hf2
      go_enter Tryd.func40, Tryd.ntmps40
      go_wp2_with fail
      go_quiet ((first | (go_at_call 48; exact quiet_left (in_val _ _ _ _))))
      go_wp2
      go_ret
      exact ⟨by rw [HN.out (fun ho => HX.out ⟨ho.2.2.1, ho.2.2.2.1⟩)]; rfl, (Drw.refl _).drewN _⟩
  · have i1 := inB_no h1
    have HX := Lib.hid h1
    clear h1 h hf2
    go_enter Tryd.func40, Tryd.ntmps40
    go_wp2_with fail
    go_quiet ((first | (go_at_call 48; exact quiet_left (in_val _ _ _ _))))
    go_wp2
    go_ret
    exact ⟨by rw [HN.out (fun ho => HX.out ⟨ho.1, ho.2.1⟩)]; rfl, (Drw.refl _).drewN _⟩
end Go.Proofs.YtfjpjiieocdgeaaDoor
