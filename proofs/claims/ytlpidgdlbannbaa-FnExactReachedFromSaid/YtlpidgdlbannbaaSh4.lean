/- The look at a list of shares, on both sides. -/
import Derived.Test.YtlpidgdlbannbaaSh3
import Derived.Test.YtlpidgdlbannbaaK1
namespace Go.Proofs.Ytlpidgdlbannbaa
open Go.ChangeShapes Go.WideShapes Go.ChangeAt Go.RowKit Go.Deep
set_option linter.unusedSimpArgs false
set_option linter.unusedVariables false
/-- The parts of the first k shares added up. -/
def sumP (t : List Sq) (k : Nat) : Int := ((t.take k).map Prod.snd).sum
theorem sumP_succ (t : List Sq) (k : Nat) (h : k < t.length) : sumP t (k + 1) = sumP t k + (t.getD k (0, 0)).2 := by
  unfold sumP
  rw [List.take_add_one, List.getElem?_eq_getElem h, List.map_append, List.sum_append]
  simp [List.getD, h]
/-- Share m of the list t of member i of n is one. -/
def elS (n i : Nat) (t : List Sq) (m : Nat) : Prop :=
  (0 ≤ (t.getD m (0, 0)).1 ∧ (t.getD m (0, 0)).1 ≤ (n : Int) - 1) ∧ (t.getD m (0, 0)).1 ≠ (i : Int) ∧ (0 < m → (t.getD (m - 1) (0, 0)).1 < (t.getD m (0, 0)).1) ∧ (1 ≤ (t.getD m (0, 0)).2 ∧ (t.getD m (0, 0)).2 ≤ 12)
def rowS (n i : Nat) (t : List Sq) : Prop := (∀ m, m < t.length → elS n i t m) ∧ sumP t t.length ≤ 12
def okS (L : List (List Sq)) : Prop := 1 ≤ L.length ∧ L.length ≤ 6 ∧ ∀ i, i < L.length → rowS L.length i (L.getD i [])
noncomputable def okSB (L : List (List Sq)) : Bool := @decide (okS L) (Classical.propDecidable _)
theorem okSB_yes {L : List (List Sq)} (h : okS L) : okSB L = true := by simp [okSB, h]
theorem okSB_no {L : List (List Sq)} (h : ¬ okS L) : okSB L = false := by simp [okSB, h]
theorem okSB_of {L : List (List Sq)} (h : okSB L = true) : okS L := by unfold okSB at h; exact @of_decide_eq_true _ (Classical.propDecidable _) h
noncomputable def rowSB (n i : Nat) (t : List Sq) : Bool := @decide (rowS n i t) (Classical.propDecidable _)
theorem rowSB_yes {n i : Nat} {t : List Sq} (h : rowS n i t) : rowSB n i t = true := by simp [rowSB, h]
theorem rowSB_no {n i : Nat} {t : List Sq} (h : ¬ rowS n i t) : rowSB n i t = false := by simp [rowSB, h]
theorem sumP_bd {n i : Nat} {t : List Sq} {k : Nat} (h : ∀ m, m < k → elS n i t m) (hk : k ≤ t.length) : 0 ≤ sumP t k ∧ sumP t k ≤ 12 * k := by
  induction k with
  | zero => simp [sumP]
  | succ k ih =>
    obtain ⟨a, b⟩ := ih (fun m hm => h m (by omega)) (by omega)
    have := (h k (by omega)).2.2.2
    rw [sumP_succ t k (by omega)]
    omega
set_option maxHeartbeats 1000000 in
set_option maxRecDepth 100000 in
theorem sis_any (L : List (List Sq)) (B b cap : Nat) (w : World) (h : SS w B b L) (hf : FitsS L) :
    Calls Try.prog 107 #[.slice (some ⟨b, 0, none⟩) L.length cap] w fun e w' => e = .returned (.bool (okSB L)) ∧ Below w.heap.size w w' := by
  obtain ⟨hf1, hf2⟩ := hf
  by_cases hn : 1 ≤ L.length ∧ L.length ≤ 6
  · obtain ⟨n1, n2⟩ := hn
    have i1 : inB (L.length : Int) 1 6 = true := inB_yes (by omega) (by omega)
    have wrl : IntKind.i64.wrap ((L.length : Int) - 1) = (L.length : Int) - 1 := by rw [IntKind.wrap_i64]; omega
    go_enter Try.func107, Try.ntmps107
    go_wp2_with (go_at_call 73; refine (in_val _ _ _ _).mono ?_; rintro e w1 ⟨rfl, rfl⟩)
    go_loopg [4] L.length (fun g i wr => ∃ k : Nat, k ≤ L.length ∧ g = L.length - k ∧ i = .int .i64 k ∧ Below w.heap.size w wr ∧ Hid (∀ i, i < k → rowS L.length i (L.getD i [])))
    case atStart => exact ⟨0, Nat.zero_le _, rfl, rfl, Below.refl _ _, fun j hj => absurd hj (Nat.not_lt_zero _)⟩
    case round =>
      obtain ⟨k, hk, rfl, rfl, hb, H⟩ := hrel
      by_cases hlt : k < L.length
      · obtain ⟨c, a2, a3⟩ := (h.below hb).at hlt
        have hlen := hf2 k hlt
        obtain ⟨t, hq⟩ : ∃ q, L.getD k [] = q := ⟨_, rfl⟩
        rw [hq] at a2 a3 hlen
        have HQ := Lib.hid hq
        clear hq
        have lb := (h.below hb).lt
        have lc := World.rowIs.lt a3
        go_wp2
        go_loopg [5, 6] t.length (fun g s j wi => ∃ m : Nat, m ≤ t.length ∧ g = t.length - m ∧ s = .int .i64 (sumP t m) ∧ j = .int .i64 m ∧ Below wr.heap.size wr wi ∧ Hid (∀ j, j < m → elS L.length k t j))
        case atStart => exact ⟨0, Nat.zero_le _, rfl, by simp [sumP], rfl, Below.refl _ _, fun j hj => absurd hj (Nat.not_lt_zero _)⟩
        case round =>
          obtain ⟨m, hm, rfl, rfl, rfl, hbi, HI⟩ := hrel
          have d2 := (hbi.cell (p := ⟨b, k, none⟩) lb).trans a2
          have hsz := hbi.size
          have lb' := Nat.lt_of_lt_of_le lb hsz
          have lc' := Nat.lt_of_lt_of_le lc hsz
          have nb := Nat.ne_of_lt lb'
          have nc := Nat.ne_of_lt lc'
          by_cases hml : m < t.length
          · obtain ⟨c1, c2⟩ := (Shs.below a3 hbi).at hml
            obtain ⟨⟨y, p⟩, hy⟩ : ∃ y, t.getD m (0, 0) = y := ⟨_, rfl⟩
            rw [hy] at c1 c2
            simp only at c1 c2
            have HY := Lib.hid hy
            have hsum : sumP t (m + 1) = sumP t m + p := by rw [sumP_succ t m hml, hy]
            have HS := Lib.hid hsum
            have hbd := sumP_bd HI.out hm
            obtain ⟨bd1, bd2⟩ := hbd
            have hno : ¬ elS L.length k t m → okSB L = false := fun hn => okSB_no (fun ho => hn (by have h9 := (ho.2.2 k hlt).1 m; rw [HQ.out] at h9; exact h9 hml))
            have HN := Lib.hid hno
            have bal := (hb.trans (hbi.mono hb.size)).alloc (by have := hb.size; omega) (.cells #[.int .i64 y, .int .i64 p] 86)
            have BAL := Lib.hid bal
            clear hy a2 hsum hno bal
            generalize hsg : sumP t m = sg at bd1 bd2 HS ⊢
            have HSG := Lib.hid hsg
            clear hsg
            by_cases hin : 0 ≤ y ∧ y ≤ (L.length : Int) - 1
            · have i2 := inB_yes hin.1 hin.2
              by_cases hke : y = (k : Int)
              · have e2 : (y == (k : Int)) = true := by simp [hke]
                have HK := Lib.hid hke
                clear hke
                go_wp2_with fail
                go_quiet ((first
                  | (go_at_call 73; exact quiet_left (in_val _ _ _ _))))
                go_wp2
                go_ret
                refine ⟨?_, below_drewN BAL.out _⟩
                rw [HN.out (fun ho => by unfold elS at ho; rw [HY.out] at ho; exact ho.2.1 HK.out)]; rfl
              · have e2 : (y == (k : Int)) = false := by simp [hke]
                have HK := Lib.hid hke
                clear hke
                have HIN := Lib.hid hin
                clear hin
                by_cases hm0 : m = 0
                · have hm1 : ¬ 0 < m := by omega
                  have HM0 := Lib.hid hm0
                  clear hm0
                  by_cases hp : 1 ≤ p ∧ p ≤ 12
                  · have i3 := inB_yes hp.1 hp.2
                    have HP := Lib.hid hp
                    obtain ⟨p1, p2⟩ := hp
                    go_wp2_with fail
                    go_quiet ((first
                      | (go_at_call 73; exact quiet_left (in_val _ _ _ _))))
                    go_wp2
                    go_roundg (t.length - (m + 1))
                    case measure => omega
                    case rel =>
                      refine ⟨m + 1, by omega, rfl, by rw [HS.out], by simp, below_drewN (hbi.alloc hbi.size _) _, fun j hj => ?_⟩
                      by_cases ej : j = m
                      · subst ej
                        unfold elS
                        rw [HY.out]
                        exact ⟨HIN.out, HK.out, fun q => absurd q (by have := HM0.out; omega), HP.out⟩
                      · exact HI.out j (by omega)
                  · have i3 := inB_no hp
                    have HP := Lib.hid hp
                    clear hp
                    go_wp2_with fail
                    go_quiet ((first
                      | (go_at_call 73; exact quiet_left (in_val _ _ _ _))))
                    go_wp2
                    go_ret
                    refine ⟨?_, below_drewN BAL.out _⟩
                    rw [HN.out (fun ho => by unfold elS at ho; rw [HY.out] at ho; exact HP.out ho.2.2.2)]; rfl
                · obtain ⟨m', hmm⟩ : ∃ m', m = m' + 1 := ⟨m - 1, by omega⟩
                  obtain ⟨c3, -⟩ := (Shs.below a3 hbi).at (k := m') (by omega)
                  obtain ⟨⟨y', p'⟩, hy'⟩ : ∃ y, t.getD m' (0, 0) = y := ⟨_, rfl⟩
                  rw [hy'] at c3
                  simp only at c3
                  have hym : t.getD (m - 1) (0, 0) = (y', p') := by rw [show m - 1 = m' by omega]; exact hy'
                  have HYM := Lib.hid hym
                  have wk1 : IntKind.i64.wrap ((m : Int) - 1) = m' := by rw [IntKind.wrap_i64]; omega
                  have wk2 : (m : Int) - 1 = m' := by omega
                  have wk3 : IntKind.i64.wrap (m' : Int) = m' := by rw [IntKind.wrap_i64]; omega
                  have hmp : 0 < m := by omega
                  have hml' : m' < t.length := by omega
                  clear hy' hym hm0 hmm
                  by_cases hge : y ≤ y'
                  · have HG := Lib.hid hge
                    go_wp2_with fail
                    go_quiet ((first
                      | (go_at_call 73; exact quiet_left (in_val _ _ _ _))))
                    go_wp2
                    go_ret
                    refine ⟨?_, below_drewN BAL.out _⟩
                    rw [HN.out (fun ho => by unfold elS at ho; rw [HY.out] at ho; have h7 := ho.2.2.1 hmp; rw [HYM.out] at h7; have := HG.out; simp only at h7; omega)]; rfl
                  · have HG := Lib.hid hge
                    by_cases hp : 1 ≤ p ∧ p ≤ 12
                    · have i3 := inB_yes hp.1 hp.2
                      have HP := Lib.hid hp
                      obtain ⟨p1, p2⟩ := hp
                      go_wp2_with fail
                      go_quiet ((first
                        | (go_at_call 73; exact quiet_left (in_val _ _ _ _))))
                      go_wp2
                      go_roundg (t.length - (m + 1))
                      case measure => omega
                      case rel =>
                        refine ⟨m + 1, by omega, rfl, by rw [HS.out], by simp, below_drewN (hbi.alloc hbi.size _) _, fun j hj => ?_⟩
                        by_cases ej : j = m
                        · subst ej
                          unfold elS
                          rw [HY.out]
                          exact ⟨HIN.out, HK.out, fun _ => by rw [HYM.out]; have := HG.out; show y' < y; omega, HP.out⟩
                        · exact HI.out j (by omega)
                    · have i3 := inB_no hp
                      have HP := Lib.hid hp
                      clear hp
                      go_wp2_with fail
                      go_quiet ((first
                        | (go_at_call 73; exact quiet_left (in_val _ _ _ _))))
                      go_wp2
                      go_ret
                      refine ⟨?_, below_drewN BAL.out _⟩
                      rw [HN.out (fun ho => by unfold elS at ho; rw [HY.out] at ho; exact HP.out ho.2.2.2)]; rfl
            · have i2 := inB_no hin
              have HIN := Lib.hid hin
              clear hin
              go_wp2_with fail
              go_quiet ((first
                | (go_at_call 73; exact quiet_left (in_val _ _ _ _))))
              go_wp2
              go_ret
              refine ⟨?_, below_drewN BAL.out _⟩
              rw [HN.out (fun ho => by unfold elS at ho; rw [HY.out] at ho; exact HIN.out ho.1)]; rfl
          · have e : m = t.length := by omega
            subst e
            have hbd := sumP_bd HI.out hm
            obtain ⟨bd1, bd2⟩ := hbd
            by_cases hgt : 12 < sumP t t.length
            · go_wp2
              go_ret
              refine ⟨?_, hb.trans (hbi.mono hb.size)⟩
              rw [okSB_no (fun ho => by have h9 := (ho.2.2 k hlt).2; rw [HQ.out] at h9; omega)]; rfl
            · go_wp2
              go_roundg (L.length - (k + 1))
              case measure => omega
              case rel =>
                refine ⟨k + 1, by omega, rfl, by simp, hb.trans (hbi.mono hb.size), fun j hj => ?_⟩
                by_cases ej : j = k
                · subst ej
                  rw [HQ.out]
                  exact ⟨HI.out, by omega⟩
                · exact H.out j (by omega)
      · have e : k = L.length := by omega
        subst e
        go_wp2
        go_ret
        exact ⟨by rw [okSB_yes ⟨n1, n2, H.out⟩]; rfl, hb⟩
  · have i1 : inB (L.length : Int) 1 6 = false := inB_no (by omega)
    go_enter Try.func107, Try.ntmps107
    go_wp2_with (go_at_call 73; refine (in_val _ _ _ _).mono ?_; rintro e w1 ⟨rfl, rfl⟩)
    go_ret
    exact ⟨by rw [okSB_no (fun ho => hn ⟨ho.1, ho.2.1⟩)]; rfl, Below.refl _ _⟩
end Go.Proofs.Ytlpidgdlbannbaa
