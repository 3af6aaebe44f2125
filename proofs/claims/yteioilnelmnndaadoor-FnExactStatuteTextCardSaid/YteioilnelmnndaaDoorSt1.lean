/- Statutes: whether a list of articles is one: the specification's look. -/
import Derived.Test.YteioilnelmnndaaDoorK7
namespace Go.Proofs.YteioilnelmnndaaDoor
open Go.ChangeShapes Go.WideShapes Go.ChangeAt Go.RowKit Go.Deep
set_option linter.unusedSimpArgs false
set_option linter.unusedVariables false
def sta1 (L : List Ar) (k : Nat) : Prop := (1 ≤ (L.getD k a0).1 ∧ (L.getD k a0).1 ≤ 99) ∧ senF (L.getD k a0).2 ∧ (0 < k → (L.getD (k - 1) a0).1 < (L.getD k a0).1)
def staF (L : List Ar) : Prop := L.length ≤ 8 ∧ ∀ k, k < L.length → sta1 L k
noncomputable def staB (L : List Ar) : Bool := @decide (staF L) (Classical.propDecidable _)
theorem staB_iff {L : List Ar} : staB L = true ↔ staF L := by simp [staB]
theorem staB_yes {L : List Ar} (h : staF L) : staB L = true := by simp [staB, h]
theorem staB_no {L : List Ar} (h : ¬ staF L) : staB L = false := by simp [staB, h]
set_option maxHeartbeats 4000000 in
set_option maxRecDepth 100000 in
theorem sstat (L : List Ar) (b cap : Nat) (w : World) (h : As w b L) (hf : FitsA L) :
    Calls Tryd.prog 10 #[.slice (some ⟨b, 0, none⟩) L.length cap] w fun e w' => e = .returned (.bool (staB L)) ∧ Drw w w' := by
  obtain ⟨hf1, hf2⟩ := hf
  have HF := Lib.hid hf2
  have HX := Lib.hid h
  clear h hf2
  go_enter Tryd.func10, Tryd.ntmps10
  go_wp2
  go_loopg [3] L.length (fun g i wr => ∃ k : Nat, k ≤ L.length ∧ g = L.length - k ∧ i = .int .i64 k ∧ Drw w wr ∧ Hid (∀ j, j < k → sta1 L j))
  case atStart => exact ⟨0, Nat.zero_le _, rfl, rfl, Drw.refl _, fun j hj => absurd hj (Nat.not_lt_zero _)⟩
  case round =>
    obtain ⟨k, hk, rfl, rfl, hd, H⟩ := hrel
    have hb := hd.below
    by_cases hlt : k < L.length
    · have ha := (HX.out.below hb).at hlt
      have l1 := HF.out k hlt
      have hno : ¬ sta1 L k → staB L = false := fun hn => staB_no (fun ho => hn (ho.2 k hlt))
      have HN := Lib.hid hno
      obtain ⟨q, hq⟩ : ∃ q, L.getD k a0 = q := ⟨_, rfl⟩
      rw [hq] at ha l1
      obtain ⟨y, t⟩ := q
      have HQ := Lib.hid hq
      obtain ⟨a1, a2⟩ := ha
      simp only at a1 a2 l1
      obtain ⟨z, hz⟩ : ∃ z, senB t = z := ⟨_, rfl⟩
      have HS2 := fun n => ssenN t wr n z (by omega) hz
      have HZ := Lib.hid hz
      clear hno hq hz
      by_cases hin : 1 ≤ y ∧ y ≤ 99
      · have i2 := inB_yes hin.1 hin.2
        have HIN := Lib.hid hin
        cases z with
        | false =>
          go_wp2_with fail
          go_quiet ((first | (go_at_call 17; exact quiet_left (in_val _ _ _ _)) | (go_at_call 18; exact quiet_left (HS2 _))))
          go_wp2
          go_ret
          refine ⟨?_, hd.drewN _⟩
          rw [HN.out (fun ho => by have h2 := senB_yes ho.2.1; simp only [HQ.out, HZ.out] at h2; cases h2)]; rfl
        | true =>
          by_cases hk0 : k = 0
          · have hk1 : ¬ 0 < k := by omega
            clear hk0
            go_wp2_with fail
            go_quiet ((first | (go_at_call 17; exact quiet_left (in_val _ _ _ _)) | (go_at_call 18; exact quiet_left (HS2 _))))
            go_wp2
            go_roundg (L.length - (k + 1))
            case measure => omega
            case rel =>
              refine ⟨k + 1, by omega, rfl, by simp, hd.drewN _, fun j hj => ?_⟩
              by_cases ej : j = k
              · subst ej
                unfold sta1
                rw [HQ.out]
                exact ⟨HIN.out, senB_iff.1 HZ.out, fun h => absurd h hk1⟩
              · exact H.out j (by omega)
          · obtain ⟨k', hkk'⟩ : ∃ k', k = k' + 1 := ⟨k - 1, by omega⟩
            have c2 := ((HX.out.below hb).at (k := k') (by omega)).1
            obtain ⟨y', hy'⟩ : ∃ y, (L.getD k' a0).1 = y := ⟨_, rfl⟩
            rw [hy'] at c2
            have HY2 := Lib.hid hy'
            have hlk : k' < L.length := by omega
            have wk1 : IntKind.i64.wrap ((k : Int) - 1) = k' := by rw [IntKind.wrap_i64]; omega
            have wk2 : (k : Int) - 1 = k' := by omega
            have wk3 : IntKind.i64.wrap (k' : Int) = k' := by rw [IntKind.wrap_i64]; omega
            have hpk : 0 < k := by omega
            have HKK := Lib.hid hkk'
            clear hy' hk0 hkk'
            by_cases hle : y ≤ y'
            · have HLE := Lib.hid hle
              go_wp2_with fail
              go_quiet ((first | (go_at_call 17; exact quiet_left (in_val _ _ _ _)) | (go_at_call 18; exact quiet_left (HS2 _))))
              go_wp2
              go_ret
              refine ⟨?_, hd.drewN _⟩
              rw [HN.out (fun ho => by
                have h3 := ho.2.2 hpk
                have e1 : k - 1 = k' := by have := HKK.out; omega
                rw [e1, HQ.out, HY2.out] at h3
                have := HLE.out
                simp only at h3
                omega)]; rfl
            · have HLE := Lib.hid hle
              go_wp2_with fail
              go_quiet ((first | (go_at_call 17; exact quiet_left (in_val _ _ _ _)) | (go_at_call 18; exact quiet_left (HS2 _))))
              go_wp2
              go_roundg (L.length - (k + 1))
              case measure => omega
              case rel =>
                refine ⟨k + 1, by omega, rfl, by simp, hd.drewN _, fun j hj => ?_⟩
                by_cases ej : j = k
                · subst ej
                  unfold sta1
                  have e1 : j - 1 = k' := by have := HKK.out; omega
                  rw [e1, HQ.out, HY2.out]
                  exact ⟨HIN.out, senB_iff.1 HZ.out, fun _ => by have := HLE.out; show y' < y; omega⟩
                · exact H.out j (by omega)
      · have i2 := inB_no hin
        have HIN := Lib.hid hin
        clear hin HS2
        go_wp2_with fail
        go_quiet ((first | (go_at_call 17; exact quiet_left (in_val _ _ _ _))))
        go_wp2
        go_ret
        refine ⟨?_, hd.drewN _⟩
        rw [HN.out (fun ho => HIN.out (by have := ho.1; rw [HQ.out] at this; exact this))]; rfl
    · obtain rfl : k = L.length := by omega
      by_cases h8 : L.length ≤ 8
      · have HYY := Lib.hid (staB_yes (L := L) ⟨h8, H.out⟩)
        go_wp2
        go_ret
        refine ⟨?_, hd⟩
        rw [HYY.out]
        exact ret_bool (by simp; omega)
      · have HNN := Lib.hid (staB_no (L := L) (fun h => h8 h.1))
        go_wp2
        go_ret
        refine ⟨?_, hd⟩
        rw [HNN.out]
        exact ret_bool (by simp; omega)
/-- The edits that make a statute of an empty one. -/
def adds (L : List Ar) : List Ed := L.map fun a => (1, a.1, ⟨#[]⟩, a.2)
theorem adds_len (L : List Ar) : (adds L).length = L.length := by simp [adds]
theorem adds_get (L : List Ar) {k : Nat} (hk : k < L.length) : (adds L).getD k e0 = (1, (L.getD k a0).1, ⟨#[]⟩, (L.getD k a0).2) := by
  simp [adds, List.getD, hk]
theorem edF_add (i : Int) (t : ByteArray) : edF (1, i, ⟨#[]⟩, t) ↔ senF t := by
  unfold edF
  simp only
  constructor
  · rintro (h | h | h)
    · exact h.2.2
    · exact absurd h.1 (by omega)
    · exact absurd h.1 (by omega)
  · intro h
    exact .inl (by simpa using h)
theorem pat_adds (L : List Ar) {k : Nat} (hk : k < L.length) : pat1 (adds L) k ↔ sta1 L k := by
  unfold pat1 sta1
  rw [adds_get L hk]
  by_cases h0 : 0 < k
  · rw [adds_get L (k := k - 1) (by omega)]
    simp only [edF_add]
  · simp only [edF_add]
    constructor
    · rintro ⟨h1, h2, h3⟩; exact ⟨h1, h2, fun h => absurd h h0⟩
    · rintro ⟨h1, h2, h3⟩; exact ⟨h1, h2, fun h => absurd h h0⟩
theorem sta_adds (L : List Ar) : staF L ↔ L.length ≤ 8 ∧ patF (adds L) := by
  unfold staF patF
  rw [adds_len]
  constructor
  · rintro ⟨h1, h2⟩
    exact ⟨h1, by omega, fun k hk => (pat_adds L hk).2 (h2 k hk)⟩
  · rintro ⟨h1, h2, h3⟩
    exact ⟨h1, fun k hk => (pat_adds L hk).1 (h3 k hk)⟩
end Go.Proofs.YteioilnelmnndaaDoor
