/- The specification's look at a frame: l08Is, ValidFrame. -/
import Derived.Test.YtfkeadifmjbodaaDoorGr1
import Derived.Test.YtfkeadifmjbodaaDoorFm2
import Derived.Test.YtfkeadifmjbodaaDoorPo3
namespace Go.Proofs.YtfkeadifmjbodaaDoor
open Go.ChangeShapes Go.WideShapes Go.ChangeAt Go.RowKit Go.Deep Go.Maps
set_option linter.unusedSimpArgs false
set_option linter.unusedVariables false
theorem in_quiet (n a b : Int) (z : Bool) (hz : inB n a b = z) (w : World) (m : Nat) : Calls Tryd.prog 109 #[.int .i64 n, .int .i64 a, .int .i64 b] (w.drewN m) fun e w'' => e = .returned (.bool z) ∧ ∃ k, w'' = w.drewN k :=
  (in_val n a b (w.drewN m)).mono fun e w' h => ⟨by rw [h.1, hz], m, h.2.symm⟩
/-- Attacks 0 to k - 1 are as they must be. -/
def okUp (n : Int) (L : List (List Int)) (k : Nat) : Prop := ∀ i, i < k → atkOk n (L.getD i []) ∧ ∀ j, j + 1 = i → keyA (L.getD j []) < keyA (L.getD i [])
set_option maxHeartbeats 4000000 in
set_option maxRecDepth 100000 in
theorem sfok (X : Fm) (b hi p : Nat) (w : World) (h : FmR w b hi X) (hp : FmAt w p X.1 (.slice (some ⟨b, 0, none⟩) X.2.length X.2.length)) :
    Calls Tryd.prog 45 #[.pointer (some ⟨p, 0, none⟩)] w fun e w' => e = .returned (.bool (fOkB X)) ∧ Drw w w' := by
  have hf := h.fits
  have hf1 := hf.1.1
  have HF := Lib.hid hf.1.2
  have hr := Lib.hid h.rows
  have HN := Lib.hid (fun hn => fOkB_no (X := X) hn)
  have HY := Lib.hid (fun hn => fOkB_yes (X := X) hn)
  clear h hf
  obtain ⟨n, L⟩ := X
  simp only at hf1 HF hr hp
  obtain ⟨p0, p1, pl⟩ := hp
  by_cases h1 : 0 ≤ n ∧ n ≤ 10
  · have i1 := inB_yes h1.1 h1.2
    obtain ⟨N, rfl⟩ : ∃ N : Nat, n = (N : Int) := ⟨n.toNat, by omega⟩
    obtain ⟨P', hP'⟩ : ∃ P' : Int, (N : Int) - 1 = P' := ⟨_, rfl⟩
    have wq1 : IntKind.i64.wrap ((N : Int) - 1) = P' := by rw [IntKind.wrap_i64]; omega
    have wq3 : IntKind.i64.wrap P' = P' := by rw [IntKind.wrap_i64]; omega
    have hP1 : P' < (N : Int) := by omega
    have hP2 : (N : Int) ≤ P' + 1 := by omega
    have HP := Lib.hid hP'
    have H1 := Lib.hid h1
    have b2 : (N : Int) ≤ 10 := h1.2
    clear h1
    go_enter Tryd.func45, Tryd.ntmps45
    go_wp2_with (go_at_call 109; refine (in_val _ _ _ _).mono ?_; rintro e w1 ⟨rfl, rfl⟩)
    go_loopg [3, 4] L.length (fun g la i wr => ∃ (k : Nat) (z : Int), k ≤ L.length ∧ g = L.length - k ∧ i = .int .i64 (k : Int) ∧ la = .int .i64 z ∧ Drw w wr ∧ Hid (okUp (N : Int) L k) ∧ Hid ((k = 0 ∧ z = -1) ∨ (0 < k ∧ z = keyA (L.getD (k - 1) []))))
    case atStart => exact ⟨0, -1, Nat.zero_le _, rfl, rfl, rfl, Drw.refl _, fun j hj => absurd hj (Nat.not_lt_zero _), .inl ⟨rfl, rfl⟩⟩
    case round =>
      obtain ⟨k, z, hk, rfl, rfl, rfl, hd, HK, HZ⟩ := hrel
      have hb := hd.below
      have z0 := (hb.cell (p := ⟨p, 0, none⟩) pl).trans p0
      have z1 := (hb.cell (p := ⟨p, 1, none⟩) pl).trans p1
      by_cases hlt : k < L.length
      · obtain ⟨c, a1, a2⟩ := (hr.out.below hb).at hlt
        obtain ⟨l, hl⟩ : ∃ l, L.getD k [] = l := ⟨_, rfl⟩
        rw [hl] at a1 a2
        have hlen := HF.out k hlt
        rw [hl] at hlen
        have HL := Lib.hid hl
        clear hl
        by_cases q1 : l.length = 2
        · have x1 : wr.cell? ⟨c, 0, none⟩ = some (.int .i64 (l.getD 0 0)) := a2.cell (i := 0) (by omega)
          have x2 : wr.cell? ⟨c, 1, none⟩ = some (.int .i64 (l.getD 1 0)) := a2.cell (i := 1) (by omega)
          obtain ⟨x, hx⟩ : ∃ x, l.getD 0 0 = x := ⟨_, rfl⟩
          obtain ⟨y, hy⟩ : ∃ y, l.getD 1 0 = y := ⟨_, rfl⟩
          rw [hx] at x1
          rw [hy] at x2
          have HX := Lib.hid hx
          have HY' := Lib.hid hy
          have q1b : ((l.length : Int) == 2) = true := by simp; omega
          have q1c : ((l.length : Int) != 2) = false := by simp; omega
          have l0 : 0 < l.length := by omega
          have l1 : 1 < l.length := by omega
          have Q1 := Lib.hid q1
          clear q1 hx hy
          by_cases q2 : 0 ≤ x ∧ x ≤ P'
          · have C2 := fun m => in_quiet x 0 P' true (inB_yes q2.1 q2.2) wr m
            by_cases q3 : 0 ≤ y ∧ y ≤ P'
            · have C3 := fun m => in_quiet y 0 P' true (inB_yes q3.1 q3.2) wr m
              go_wp2_with fail
              go_quiet ((first | (go_at_call 109; (with_reducible exact C2 _)) | (go_at_call 109; (with_reducible exact C3 _))))
              obtain ⟨W2, hW2⟩ : ∃ W2, W2 = wr.drewN nq := ⟨_, rfl⟩
              have d2 : Drw w W2 := by rw [hW2]; exact hd.drewN _
              have y1 : W2.cell? ⟨c, 0, none⟩ = some (.int .i64 x) := by rw [hW2]; exact x1
              have y2 : W2.cell? ⟨c, 1, none⟩ = some (.int .i64 y) := by rw [hW2]; exact x2
              obtain ⟨pp, hpp⟩ : ∃ q : Int, x * 10 = q := ⟨_, rfl⟩
              obtain ⟨ss, hss⟩ : ∃ q : Int, pp + y = q := ⟨_, rfl⟩
              have wp1 : IntKind.i64.wrap pp = pp := by rw [IntKind.wrap_i64]; omega
              have wp2 : IntKind.i64.wrap ss = ss := by rw [IntKind.wrap_i64]; omega
              have HS : Hid (keyA l = ss) := by show keyA l = ss; unfold keyA; rw [HX.out, HY'.out, hpp, hss]
              have hs0 : 0 ≤ ss := by omega
              have Q23 := Lib.hid (And.intro q2 q3)
              have OKL : Hid (atkOk (N : Int) l) := ⟨Q1.out, by rw [HX.out]; exact q2.1, by rw [HX.out]; omega, by rw [HY'.out]; exact q3.1, by rw [HY'.out]; omega⟩
              rw [← hW2]
              clear hW2 q2 q3 C2 C3 hd hb a1 x1 x2 z0 z1
              have hb := d2.below
              by_cases q4 : ss ≤ z
              · go_wp2_with fail
                go_quiet (fail)
                go_wp2
                go_ret
                refine ⟨?_, d2.drewN _⟩
                rw [HN.out (fun ho => ?_)]; rfl
                rcases HZ.out with ⟨e1, e2⟩ | ⟨e1, e2⟩
                · omega
                · have o1 := (ho.2.2 k hlt).2 (k - 1) (by omega)
                  simp only at o1
                  rw [HL.out, HS.out, ← e2] at o1
                  omega
              · go_wp2_with fail
                go_quiet (fail)
                go_wp2
                go_roundg (L.length - (k + 1))
                case measure => omega
                case rel =>
                  refine ⟨k + 1, ss, by omega, rfl, by simp, rfl, d2.drewN _, fun i hi => ?_, .inr ⟨by omega, ?_⟩⟩
                  · by_cases ei : i = k
                    · subst ei
                      refine ⟨by rw [HL.out]; exact OKL.out, fun j hj => ?_⟩
                      rw [HL.out, HS.out]
                      rcases HZ.out with ⟨e1, e2⟩ | ⟨e1, e2⟩
                      · omega
                      · have ej : j = i - 1 := by omega
                        rw [ej, ← e2]; omega
                    · exact HK.out i (by omega)
                  · show ss = keyA (L.getD (k + 1 - 1) [])
                    rw [Nat.add_sub_cancel, HL.out, HS.out]
            · have C3 := fun m => in_quiet y 0 P' false (inB_no q3) wr m
              have Q3 := Lib.hid q3
              clear q3
              go_wp2_with fail
              go_quiet ((first | (go_at_call 109; (with_reducible exact C2 _)) | (go_at_call 109; (with_reducible exact C3 _))))
              go_wp2
              go_ret
              refine ⟨?_, hd.drewN _⟩
              rw [HN.out (fun ho => ?_)]; rfl
              have := (ho.2.2 k hlt).1.2.2.2
              simp only [HL.out, HY'.out] at this
              exact Q3.out ⟨this.1, by omega⟩
          · have C2 := fun m => in_quiet x 0 P' false (inB_no q2) wr m
            have Q2 := Lib.hid q2
            clear q2
            go_wp2_with fail
            go_quiet ((go_at_call 109; exact C2 _))
            go_wp2
            go_ret
            refine ⟨?_, hd.drewN _⟩
            rw [HN.out (fun ho => ?_)]; rfl
            have := (ho.2.2 k hlt).1.2
            simp only [HL.out, HX.out] at this
            exact Q2.out ⟨this.1, by omega⟩
        · have q1b : ((l.length : Int) == 2) = false := by simp; omega
          have q1c : ((l.length : Int) != 2) = true := by simp; omega
          have Q1 := Lib.hid q1
          clear q1
          go_wp2_with fail
          go_quiet (fail)
          go_wp2
          go_ret
          refine ⟨?_, hd.drewN _⟩
          rw [HN.out (fun ho => ?_)]; rfl
          have := (ho.2.2 k hlt).1.1
          simp only [HL.out] at this
          exact Q1.out this
      · obtain rfl : k = L.length := by omega
        go_wp2
        go_ret
        refine ⟨?_, hd⟩
        rw [HY.out ⟨H1.out.1, H1.out.2, HK.out⟩]; rfl
  · have i1 := inB_no h1
    have HX := Lib.hid h1
    clear h1
    go_enter Tryd.func45, Tryd.ntmps45
    go_wp2_with (go_at_call 109; refine (in_val _ _ _ _).mono ?_; rintro e w1 ⟨rfl, rfl⟩)
    go_ret
    exact ⟨by rw [HN.out (fun ho => HX.out ⟨ho.1, ho.2.1⟩)]; rfl, Drw.refl _⟩
end Go.Proofs.YtfkeadifmjbodaaDoor
