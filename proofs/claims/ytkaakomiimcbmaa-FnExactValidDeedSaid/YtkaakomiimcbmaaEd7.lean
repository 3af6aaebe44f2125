/- Patches: whether a list of edits is one: the program's look. -/
import Derived.Test.YtkaakomiimcbmaaEd6
namespace Go.Proofs.Ytkaakomiimcbmaa
open Go.ChangeShapes Go.WideShapes Go.ChangeAt Go.RowKit Go.Deep
set_option linter.unusedSimpArgs false
set_option linter.unusedVariables false
set_option maxHeartbeats 4000000 in
set_option maxRecDepth 100000 in
theorem ipatch (L : List Ed) (b cap : Nat) (w : World) (h : Es w b L) (hf : ∀ k, k < L.length → (L.getD k e0).2.2.1.size ≤ 1048576 ∧ (L.getD k e0).2.2.2.size ≤ 1048576) (hl : L.length ≤ 1048576) :
    Calls Try.prog 65 #[.slice (some ⟨b, 0, none⟩) L.length cap] w fun e w' => e = .returned (.bool (patB L)) ∧ Below w.heap.size w w' := by
  have HF := Lib.hid hf
  have HX := Lib.hid h
  clear h hf
  by_cases h16 : 16 < L.length
  · have HNN := Lib.hid (patB_no (L := L) (fun h => by have := h.1; omega))
    go_enter Try.func65, Try.ntmps65
    go_wp2
    go_ret
    exact ⟨by rw [HNN.out]; rfl, Below.refl _ _⟩
  go_enter Try.func65, Try.ntmps65
  go_wp2
  go_loopg [3, 5, 11] L.length (fun g y _ i wr => ∃ (k : Nat) (z : Int), k ≤ L.length ∧ g = L.length - k ∧ y = .int .i64 z ∧ i = .int .i64 k ∧ Below w.heap.size w wr ∧ 0 ≤ z ∧ Hid (k = 0 → z = 0) ∧ Hid (0 < k → z = (L.getD (k - 1) e0).2.1) ∧ Hid (∀ j, j < k → pat1 L j))
  case atStart => exact ⟨0, 0, Nat.zero_le _, rfl, rfl, rfl, Below.refl _ _, by omega, fun _ => rfl, fun h => absurd h (by omega), fun j hj => absurd hj (Nat.not_lt_zero _)⟩
  case round =>
    obtain ⟨k, z, hk, rfl, rfl, rfl, hb, hz0, HZ0, HZ, H⟩ := hrel
    by_cases hlt : k < L.length
    · obtain ⟨a1, a2, a3, a4⟩ := (HX.out.below hb).at hlt
      obtain ⟨l1, l2⟩ := HF.out k hlt
      have hno : ¬ pat1 L k → patB L = false := fun hn => patB_no (fun ho => hn (ho.2 k hlt))
      have HN := Lib.hid hno
      obtain ⟨q, hq⟩ : ∃ q, L.getD k e0 = q := ⟨_, rfl⟩
      rw [hq] at a1 a2 a3 a4 l1 l2
      have HQ := Lib.hid hq
      obtain ⟨n, y, sa, sb⟩ := q
      simp only at a1 a2 a3 a4 l1 l2
      have lb := (HX.out.below hb).lt
      have ba := (Below.refl wr.heap.size wr).alloc (Nat.le_refl _) (.cells #[.int .i64 n, .int .i64 y, .string sa, .string sb] 54)
      obtain ⟨v, hv⟩ : ∃ v, edB (n, y, sa, sb) = v := ⟨_, rfl⟩
      have HE := fun w' => iedit (n, y, sa, sb) w' l1 l2
      rw [hv] at HE
      simp only at HE
      have HV := Lib.hid hv
      have hbb := hb.trans (ba.mono hb.size)
      have HBB := Lib.hid hbb
      clear hq hno hv l1 l2
      by_cases h1 : y ≤ z
      · have H1 := Lib.hid h1
        clear HE
        go_wp2
        go_ret
        refine ⟨?_, HBB.out⟩
        rw [HN.out (fun ho => by
          obtain ⟨o1, o2, o3⟩ := ho
          have h1 := H1.out
          rw [HQ.out] at o1 o3
          simp only at o1 o3
          by_cases e : 0 < k
          · have e2 := HZ.out e; have := o3 e; omega
          · have hz := HZ0.out (by omega)
            have := o1.1
            omega)]; rfl
      · by_cases h2 : 99 < y
        · have H2 := Lib.hid h2
          clear HE
          go_wp2
          go_ret
          refine ⟨?_, HBB.out⟩
          rw [HN.out (fun ho => by
            have o1 := ho.1.2
            have h2 := H2.out
            rw [HQ.out] at o1
            simp only at o1
            omega)]; rfl
        · cases v with
          | false =>
            go_wp2_with fail
            refine (HE _).mono ?_
            rintro e w1 ⟨rfl, hb1⟩
            go_wp2
            go_ret
            refine ⟨?_, HBB.out.trans (hb1.mono HBB.out.size)⟩
            rw [HN.out (fun ho => by have o2 := edB_yes ho.2.1; rw [HQ.out, HV.out] at o2; cases o2)]; rfl
          | true =>
            have k0 : (wr.alloc (.cells #[.int .i64 n, .int .i64 y, .string sa, .string sb] 54)).cell? ⟨wr.heap.size, 1, none⟩ = some (.int .i64 y) := by go_simp
            have K0 := Lib.hid k0
            clear k0
            go_wp2_with fail
            refine (HE _).mono ?_
            rintro e w1 ⟨rfl, hb1⟩
            have k1 := (hb1.cell (p := ⟨wr.heap.size, 1, none⟩) (by simp)).trans K0.out
            have HB1 := Lib.hid (HBB.out.trans (hb1.mono HBB.out.size))
            clear hb1 HE
            go_wp2
            go_roundg (L.length - (k + 1))
            case measure => omega
            case rel =>
              refine ⟨k + 1, y, by omega, rfl, rfl, by simp, HB1.out, by omega, fun h => absurd h (by omega), fun _ => ?_, fun j hj => ?_⟩
              · rw [Nat.add_sub_cancel, HQ.out]
              · by_cases ej : j = k
                · subst ej
                  unfold pat1
                  rw [HQ.out]
                  refine ⟨⟨by show 1 ≤ y; omega, by show y ≤ 99; omega⟩, edB_iff.1 HV.out, fun h => ?_⟩
                  rw [← HZ.out h]
                  show z < y
                  omega
                · exact H.out j (by omega)
    · obtain rfl : k = L.length := by omega
      have HYY := Lib.hid (patB_yes (L := L) ⟨by omega, H.out⟩)
      go_wp2
      go_ret
      exact ⟨by rw [HYY.out]; rfl, hb⟩
end Go.Proofs.Ytkaakomiimcbmaa
