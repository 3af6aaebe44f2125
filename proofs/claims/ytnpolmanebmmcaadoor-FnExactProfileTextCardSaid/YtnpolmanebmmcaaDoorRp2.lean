/- Whether a profile is valid: the specification's look. -/
import Derived.Test.YtnpolmanebmmcaaDoorRp1
namespace Go.Proofs.YtnpolmanebmmcaaDoor
open Go.ChangeShapes Go.WideShapes Go.ChangeAt Go.RowKit Go.Deep
set_option linter.unusedSimpArgs false
set_option linter.unusedVariables false
/-- The profile X lies at block p, its lists copied. -/
structure PrX (w : World) (p b c : Nat) (X : Pr) : Prop where
  at_ : PrAt w p (.slice (some ⟨b, 0, none⟩) X.1.length X.1.length) (.slice (some ⟨c, 0, none⟩) X.2.length X.2.length)
  rows : Js w b b X.1
  wts : OwnI w c X.2
theorem PrX.below {w w' : World} {p b c : Nat} {X : Pr} (h : PrX w p b c X) (hb : Below w.heap.size w w') : PrX w' p b c X := ⟨h.at_.below hb, h.rows.below hb, h.wts.below hb⟩
theorem RfR.prx {w : World} {b c hi p : Nat} {X : Pr} (h : RfR w b c hi X) (hp : PrAt w p (.slice (some ⟨b, 0, none⟩) X.1.length X.1.length) (.slice (some ⟨c, 0, none⟩) X.2.length X.2.length)) : PrX w p b c X := ⟨hp, h.rows, h.wts⟩
set_option maxHeartbeats 1000000 in
/-- The number of options. -/
theorem scnt (p b c : Nat) (X : Pr) (w : World) (h : PrX w p b c X) (h1 : 1 ≤ X.1.length) :
    Calls Tryd.prog 22 #[.pointer (some ⟨p, 0, none⟩)] w fun e w' => e = .returned (.int .i64 ((X.1.getD 0 []).length : Int)) ∧ w = w' := by
  obtain ⟨⟨p0, p1, pl⟩, hr, -⟩ := h
  obtain ⟨c', a1, -⟩ := hr.at (k := 0) (by omega)
  clear hr
  obtain ⟨A, C⟩ := X
  simp only at p0 p1 a1 h1 ⊢
  go_enter Tryd.func22, Tryd.ntmps22
  go_wp2
  go_ret
  exact ⟨rfl, rfl⟩
set_option maxHeartbeats 2000000 in
set_option maxRecDepth 100000 in
theorem sIs (X : Pr) (p b c : Nat) (w : World) (h : PrX w p b c X) (hf : FitsR X) :
    Calls Tryd.prog 11 #[.pointer (some ⟨p, 0, none⟩)] w fun e w' => e = .returned (.bool (pOkB X)) ∧ Below w.heap.size w w' := by
  have hf1 := hf.1.1
  have hf2 := hf.2.1
  have HF0 := Lib.hid hf.1.2
  have HN := Lib.hid (fun hn => pOkB_no (X := X) hn)
  have HY := Lib.hid (fun hn => pOkB_yes (X := X) hn)
  have HX := Lib.hid h
  have HC := Lib.hid (fun w' (hw : PrX w' p b c X) (h1 : 1 ≤ X.1.length) => scnt p b c X w' hw h1)
  obtain ⟨A, C⟩ := X
  simp only at hf1 hf2
  have HF : Hid (∀ k, k < A.length → (A.getD k []).length ≤ 1048576) := Lib.hid HF0.out
  clear HF0
  obtain ⟨⟨p0, p1, pl⟩, -, -⟩ := h
  simp only at p0 p1
  clear hf
  by_cases h1 : 1 ≤ (A.length : Int) ∧ (A.length : Int) ≤ 12
  · have i1 := inB_yes h1.1 h1.2
    have H1 := Lib.hid h1
    by_cases h2 : C.length = A.length
    · have H2 := Lib.hid h2
      have HC0 := fun n => HC.out (w.drewN n) (HX.out.below (below_drewN (Below.refl _ _) n)) (show 1 ≤ A.length by omega)
      obtain ⟨m, hm⟩ : ∃ m, (A.getD 0 []).length = m := ⟨_, rfl⟩
      simp only [hm] at HC0
      have hml : m ≤ 1048576 := by rw [← hm]; exact HF.out 0 (by omega)
      have HM : Hid ((A.getD 0 []).length = m) := Lib.hid hm
      clear hm
      have h2' : (C.length : Int) = A.length := by omega
      have hAC : (.int .i64 (C.length : Int) : Value) = .int .i64 (A.length : Int) := by rw [h2]
      by_cases h3 : 1 ≤ (m : Int) ∧ (m : Int) ≤ 6
      · have i3 := inB_yes h3.1 h3.2
        have H3 := Lib.hid h3
        go_enter Tryd.func11, Tryd.ntmps11
        go_wp2_with fail
        go_quiet ((first | (go_at_call 21; exact quiet_left (in_val _ _ _ _))))
        go_wp2_with (first
          | (go_at_call 22; refine (HC0 _).mono ?_; rintro e w1 ⟨rfl, rfl⟩)
          | (go_at_call 21; refine (in_val _ _ _ _).mono ?_; rintro e w1 ⟨rfl, rfl⟩))
        go_loopg [4] A.length (fun g i wr => ∃ k : Nat, k ≤ A.length ∧ g = A.length - k ∧ i = .int .i64 k ∧ Below w.heap.size w wr ∧ Hid (∀ j, j < k → rkOk m (A.getD j []) ∧ 0 ≤ C.getD j 0 ∧ C.getD j 0 ≤ 1000))
        case atStart => exact ⟨0, Nat.zero_le _, rfl, rfl, below_drewN (Below.refl _ _) _, fun j hj => absurd hj (Nat.not_lt_zero _)⟩
        case round =>
          obtain ⟨k, hk, rfl, rfl, hb, HK⟩ := hrel
          have z0 := (hb.cell (p := ⟨p, 0, none⟩) pl).trans p0
          have z1 := (hb.cell (p := ⟨p, 1, none⟩) pl).trans p1
          by_cases hlt : k < A.length
          · obtain ⟨c', a1, a2⟩ := (HX.out.rows.below hb).at hlt
            simp only at a1 a2
            have c1 := (HX.out.wts.below hb).cell (i := k) (by show k < C.length; omega)
            simp only at c1
            have hlen := HF.out k hlt
            obtain ⟨l, hl⟩ : ∃ l, A.getD k [] = l := ⟨_, rfl⟩
            rw [hl] at a1 a2 hlen
            obtain ⟨y, hy⟩ : ∃ y, C.getD k 0 = y := ⟨_, rfl⟩
            rw [hy] at c1
            obtain ⟨z, hz⟩ : ∃ z, rkB m l = z := ⟨_, rfl⟩
            have HR := srank (.slice (some ⟨c', 0, none⟩) l.length l.length) l m wr (a2.row l.length) (by omega) hml
            rw [hz] at HR
            have HZ := Lib.hid hz
            have HL := Lib.hid hl
            have HYY := Lib.hid hy
            clear hz hl hy
            cases z with
            | false =>
              go_wp2_with fail
              refine HR.mono ?_
              rintro e w1 ⟨rfl, hb1⟩
              go_wp2
              go_ret
              refine ⟨?_, hb.trans (hb1.mono hb.size)⟩
              rw [HN.out (fun ho => by have := rkB_yes (ho.2.2.2.2.2 k hlt).1; simp only [HL.out, HM.out, HZ.out] at this; cases this)]; rfl
            | true =>
              have hcl := World.rowIs.lt (HX.out.wts.below hb)
              by_cases h4 : 0 ≤ y ∧ y ≤ 1000
              · have i4 := inB_yes h4.1 h4.2
                go_wp2_with fail
                refine HR.mono ?_
                rintro e w1 ⟨rfl, hb1⟩
                have y1 := (hb1.cell (p := ⟨p, 1, none⟩) (Nat.lt_of_lt_of_le pl hb.size)).trans z1
                have y2 := (hb1.cell (p := ⟨c, k, none⟩) hcl).trans c1
                have hb2 := hb.trans (hb1.mono hb.size)
                clear hb1 HR
                go_wp2_with (go_at_call 21; refine (in_val _ _ _ _).mono ?_; rintro e w1 ⟨rfl, rfl⟩)
                go_roundg (A.length - (k + 1))
                case measure => omega
                case rel =>
                  refine ⟨k + 1, by omega, rfl, by simp, hb2, fun j hj => ?_⟩
                  by_cases e : j = k
                  · subst e; rw [HL.out, HYY.out]; exact ⟨rkB_iff.1 HZ.out, h4⟩
                  · exact HK.out j (by omega)
              · have i4 := inB_no h4
                have H4 := Lib.hid h4
                go_wp2_with fail
                refine HR.mono ?_
                rintro e w1 ⟨rfl, hb1⟩
                have y1 := (hb1.cell (p := ⟨p, 1, none⟩) (Nat.lt_of_lt_of_le pl hb.size)).trans z1
                have y2 := (hb1.cell (p := ⟨c, k, none⟩) hcl).trans c1
                have hb2 := hb.trans (hb1.mono hb.size)
                clear hb1 HR
                go_wp2_with (go_at_call 21; refine (in_val _ _ _ _).mono ?_; rintro e w1 ⟨rfl, rfl⟩)
                go_ret
                refine ⟨?_, hb2⟩
                rw [HN.out (fun ho => H4.out (by have := (ho.2.2.2.2.2 k hlt).2; simp only [HYY.out] at this; exact this))]; rfl
          · obtain rfl : k = A.length := by omega
            go_wp2
            go_ret
            refine ⟨?_, hb⟩
            have h1' := H1.out
            have h3' := H3.out
            have hm' := HM.out
            rw [HY.out ⟨by show 1 ≤ A.length; omega, by show A.length ≤ 12; omega, H2.out, by show 1 ≤ (A.getD 0 []).length; omega, by show (A.getD 0 []).length ≤ 6; omega, fun k hk => by show rkOk (A.getD 0 []).length _ ∧ _; rw [hm']; exact HK.out k hk⟩]; rfl
      · have i3 := inB_no h3
        have H3 := Lib.hid h3
        go_enter Tryd.func11, Tryd.ntmps11
        go_wp2_with fail
        go_quiet ((first | (go_at_call 21; exact quiet_left (in_val _ _ _ _))))
        go_wp2_with (first
          | (go_at_call 22; refine (HC0 _).mono ?_; rintro e w1 ⟨rfl, rfl⟩)
          | (go_at_call 21; refine (in_val _ _ _ _).mono ?_; rintro e w1 ⟨rfl, rfl⟩))
        go_ret
        refine ⟨?_, below_drewN (Below.refl _ _) _⟩
        rw [HN.out (fun ho => H3.out (by have := ho.2.2.2.1; have := ho.2.2.2.2.1; have := HM.out; simp only at *; omega))]; rfl
    · have h2' : ¬ (C.length : Int) = A.length := by omega
      have H2 := Lib.hid h2
      clear HC
      go_enter Tryd.func11, Tryd.ntmps11
      go_wp2_with fail
      go_quiet ((first | (go_at_call 21; exact quiet_left (in_val _ _ _ _))))
      go_wp2
      go_ret
      refine ⟨?_, below_drewN (Below.refl _ _) _⟩
      rw [HN.out (fun ho => H2.out ho.2.2.1)]; rfl
  · have i1 := inB_no h1
    have H1 := Lib.hid h1
    clear HC
    go_enter Tryd.func11, Tryd.ntmps11
    go_wp2_with fail
    go_quiet ((first | (go_at_call 21; exact quiet_left (in_val _ _ _ _))))
    go_wp2
    go_ret
    refine ⟨?_, below_drewN (Below.refl _ _) _⟩
    rw [HN.out (fun ho => H1.out (by have := ho.1; have := ho.2.1; simp only at *; omega))]; rfl
end Go.Proofs.YtnpolmanebmmcaaDoor
