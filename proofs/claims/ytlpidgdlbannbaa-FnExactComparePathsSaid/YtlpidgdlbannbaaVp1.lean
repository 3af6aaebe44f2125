/- The specification's look at a path, by its contract. -/
import Derived.Test.YtlpidgdlbannbaaVo9
namespace Go.Proofs.Ytlpidgdlbannbaa
open Go.ChangeShapes Go.WideShapes Go.ChangeAt Go.RowKit Go.Deep
set_option linter.unusedSimpArgs false
set_option linter.unusedVariables false
def vAt (L : List Vc) (y : Int) : Vc := L.getD y.toNat (false, [])
def stOk (L : List Vc) (p : List Int) (m : Nat) : Prop :=
  (0 ≤ p.getD m 0 ∧ p.getD m 0 ≤ (L.length : Int) - 1) ∧ ¬ p.getD m 0 ∈ p.take m ∧ (vAt L (p.getD m 0)).1 = ((m : Int) == (p.length : Int) - 1) ∧ (0 < m → p.getD m 0 ∈ (vAt L (p.getD (m - 1) 0)).2)
def pathOk (L : List Vc) (p : List Int) : Prop := 1 ≤ p.length ∧ p.length ≤ L.length ∧ ∀ m, m < p.length → stOk L p m
noncomputable def pathB (L : List Vc) (p : List Int) : Bool := @decide (pathOk L p) (Classical.propDecidable _)
theorem pathB_yes {L : List Vc} {p : List Int} (h : pathOk L p) : pathB L p = true := by simp [pathB, h]
theorem pathB_no {L : List Vc} {p : List Int} (h : ¬ pathOk L p) : pathB L p = false := by simp [pathB, h]
theorem mem_any (a : Option Addr) (n cap : Nat) (y : Int) (w : World) (hn : n ≤ 1048576) :
    Calls Try.prog 69 #[.slice a n cap, .int .i64 y] w fun e w' => e = .returned (.bool (inB y 0 ((n : Int) - 1))) ∧ w = w' := by
  have wrp : IntKind.i64.wrap ((n : Int) - 1) = (n : Int) - 1 := by rw [IntKind.wrap_i64]; omega
  go_enter Try.func69, Try.ntmps69
  go_wp2_with fail
  refine (in_val _ _ _ _).mono ?_
  rintro e w1 ⟨rfl, rfl⟩
  go_wp2
  go_ret
  exact ⟨rfl, rfl⟩
set_option maxHeartbeats 2000000 in
set_option maxRecDepth 100000 in
theorem spath_any (L : List Vc) (B b cap bp : Nat) (p : List Int) (w : World) (h : Vs w B b L) (hf : Fits L) (hp : OwnI w bp p) (hl : p.length ≤ 1048576) :
    Calls Try.prog 55 #[.slice (some ⟨b, 0, none⟩) L.length cap, .slice (some ⟨bp, 0, none⟩) p.length p.length] w fun e w' => e = .returned (.bool (pathB L p)) ∧ Below w.heap.size w w' := by
  obtain ⟨hf1, hf2⟩ := hf
  by_cases e : p = []
  · subst e
    go_enter Try.func55, Try.ntmps55
    go_wp2
    go_ret
    exact ⟨by rw [pathB_no (fun ho => by have := ho.1; simp at this)]; rfl, Below.refl _ _⟩
  · have hpos : 1 ≤ p.length := List.length_pos_iff.2 e
    have hne : ((p.length : Int) == 0) = false := by simp [e]
    have wrl : IntKind.i64.wrap ((p.length : Int) - 1) = (p.length : Int) - 1 := by rw [IntKind.wrap_i64]; omega
    by_cases hlong : L.length < p.length
    · go_enter Try.func55, Try.ntmps55
      go_wp2
      go_ret
      exact ⟨by rw [pathB_no (fun ho => by have := ho.2.1; omega)]; rfl, Below.refl _ _⟩
    · go_enter Try.func55, Try.ntmps55
      go_wp2
      go_loopg [5] p.length (fun g i wr => ∃ k : Nat, k ≤ p.length ∧ g = p.length - k ∧ i = .int .i64 k ∧ Below w.heap.size w wr ∧ Hid (∀ m, m < k → stOk L p m))
      case atStart => exact ⟨0, Nat.zero_le _, rfl, rfl, Below.refl _ _, fun j hj => absurd hj (Nat.not_lt_zero _)⟩
      case round =>
        obtain ⟨k, hk, rfl, rfl, hb, H⟩ := hrel
        by_cases hlt : k < p.length
        · have c1 : wr.cell? ⟨bp, k, none⟩ = some (.int .i64 (p.getD k 0)) := World.rowIs.cell (hp.below hb) hlt
          have hrow := ((hp.below hb).row p.length).take hk p.length
          obtain ⟨y, hy⟩ : ∃ y, p.getD k 0 = y := ⟨_, rfl⟩
          rw [hy] at c1
          have HY := Lib.hid hy
          clear hy
          by_cases hin : 0 ≤ y ∧ y ≤ (L.length : Int) - 1
          · obtain ⟨j, rfl⟩ : ∃ j : Nat, y = j := ⟨y.toNat, by omega⟩
            have i2 := inB_yes hin.1 hin.2
            have hj : j < L.length := by omega
            obtain ⟨c, a1, a2, a3⟩ := (h.below hb).at hj
            have hvq : vAt L (j : Int) = L.getD j (false, []) := by simp [vAt]
            obtain ⟨⟨s, t⟩, hq⟩ : ∃ q, L.getD j (false, []) = q := ⟨_, rfl⟩
            rw [hq] at a1 a2 a3 hvq
            simp only at a1 a2 a3
            have HQ := Lib.hid hvq
            obtain ⟨z, hz⟩ : ∃ z, decide ((j : Int) ∈ p.take k) = z := ⟨_, rfl⟩
            have HH : ∀ n, Calls Try.prog 87 #[.slice (some ⟨bp, 0, none⟩) k p.length, .int .i64 (j : Int)] (wr.drewN n) fun e w' => e = .returned (.bool z) ∧ wr.drewN n = w' := fun n => by
              have := has_any _ _ (j : Int) (wr.drewN n) (hrow.below (below_drewN (Below.refl _ _) n)) (by simp; omega)
              rw [hz] at this
              exact this
            have HZ := Lib.hid hz
            have HIN := Lib.hid hin
            obtain ⟨f, hfq⟩ : ∃ f, ((k : Int) == (p.length : Int) - 1) = f := ⟨_, rfl⟩
            clear hin hz hrow hvq hq a2 a3
            cases z with
            | true =>
              go_wp2_with fail
              go_quiet ((first
                | (go_at_call 69; exact quiet_left (mem_any _ _ _ _ _ hf1))
                | (go_at_call 87; exact quiet_left (HH _))))
              go_wp2
              go_ret
              refine ⟨?_, below_drewN hb _⟩
              rw [pathB_no (fun ho => by have h9 := ho.2.2 k hlt; unfold stOk at h9; rw [HY.out] at h9; exact h9.2.1 (of_decide_eq_true HZ.out))]; rfl
            | false =>
              cases s with
              | false =>
                cases f with
                | false =>
                  have hok : (0 < k → (j : Int) ∈ (vAt L (p.getD (k - 1) 0)).2) → stOk L p k := fun h3 => by
                    unfold stOk
                    rw [HY.out, HQ.out, hfq]
                    exact ⟨HIN.out, of_decide_eq_false HZ.out, rfl, h3⟩
                  have HK := Lib.hid hok
                  clear hok
                  by_cases hk0 : k = 0
                  · have hk1 : ¬ 0 < k := by omega
                    clear hk0
                    go_wp2_with fail
                    go_quiet ((first
                      | (go_at_call 69; exact quiet_left (mem_any _ _ _ _ _ hf1))
                      | (go_at_call 87; exact quiet_left (HH _))))
                    go_wp2_with fail
                    go_quiet ((first
                      | (go_at_call 69; exact quiet_left (mem_any _ _ _ _ _ hf1))))
                    go_wp2
                    go_roundg (p.length - (k + 1))
                    case measure => omega
                    case rel =>
                      refine ⟨k + 1, by omega, rfl, by simp, by first | exact below_drewN hb _ | exact below_drewN (below_drewN hb _) _, fun m hm => ?_⟩
                      by_cases em : m = k
                      · rw [em]; exact HK.out (fun h => absurd h (by omega))
                      · exact H.out m (by omega)
                  · obtain ⟨k', hkk'⟩ : ∃ k', k = k' + 1 := ⟨k - 1, by omega⟩
                    have c2 : wr.cell? ⟨bp, k', none⟩ = some (.int .i64 (p.getD k' 0)) := World.rowIs.cell (hp.below hb) (by omega)
                    obtain ⟨y', hy'⟩ : ∃ y, p.getD k' 0 = y := ⟨_, rfl⟩
                    have hlk : k' < p.length := by omega
                    have hst := (H.out k' (by omega)).1
                    rw [hy'] at c2 hst
                    obtain ⟨j', rfl⟩ : ∃ j' : Nat, y' = j' := ⟨y'.toNat, by omega⟩
                    have HY2 := Lib.hid hy'
                    have hj' : j' < L.length := by omega
                    obtain ⟨c', d1, d2, d3⟩ := (h.below hb).at hj'
                    have hlen' := hf2 j' hj'
                    have hvq' : vAt L (j' : Int) = L.getD j' (false, []) := by simp [vAt]
                    obtain ⟨⟨s', t'⟩, hq'⟩ : ∃ q, L.getD j' (false, []) = q := ⟨_, rfl⟩
                    rw [hq'] at d1 d2 d3 hvq' hlen'
                    simp only at d1 d2 d3 hlen'
                    have HQ2 := Lib.hid hvq'
                    obtain ⟨z', hz'⟩ : ∃ z, decide ((j : Int) ∈ t') = z := ⟨_, rfl⟩
                    have HH2 : ∀ n, Calls Try.prog 87 #[.slice (some ⟨c', 0, none⟩) t'.length t'.length, .int .i64 (j : Int)] (wr.drewN n) fun e w' => e = .returned (.bool z') ∧ wr.drewN n = w' := fun n => by
                      have := has_any _ _ (j : Int) (wr.drewN n) (d3.below (below_drewN (Below.refl _ _) n)) (by omega)
                      rw [hz'] at this
                      exact this
                    have HZ2 := Lib.hid hz'
                    have wk1 : IntKind.i64.wrap ((k : Int) - 1) = k' := by rw [IntKind.wrap_i64]; omega
                    have wk2 : (k : Int) - 1 = k' := by omega
                    have wk3 : IntKind.i64.wrap (k' : Int) = k' := by rw [IntKind.wrap_i64]; omega
                    have hpk : 0 < k := by omega
                    have HKK := Lib.hid hkk'
                    clear hz' d1 d3 hq' hvq' hst hy' hk0 hlen' hkk'
                    go_wp2_with fail
                    go_quiet ((first
                      | (go_at_call 69; exact quiet_left (mem_any _ _ _ _ _ hf1))
                      | (go_at_call 87; exact quiet_left (HH _))))
                    go_wp2_with fail
                    cases z' with
                    | true =>
                      go_quiet ((first
                        | (go_at_call 69; exact quiet_left (mem_any _ _ _ _ _ hf1))
                        | (go_at_call 87; exact (HH2 _).mono fun _ _ ⟨he, hm⟩ => ⟨he, _, hm.symm⟩)))
                      go_wp2
                      go_roundg (p.length - (k + 1))
                      case measure => omega
                      case rel =>
                        refine ⟨k + 1, by omega, rfl, by simp, by first | exact below_drewN hb _ | exact below_drewN (below_drewN hb _) _, fun m hm => ?_⟩
                        by_cases em : m = k
                        · rw [em]; exact HK.out (fun _ => (show k - 1 = k' by have := HKK.out; omega) ▸ (by rw [HY2.out, HQ2.out]; exact of_decide_eq_true HZ2.out))
                        · exact H.out m (by omega)
                    | false =>
                      go_quiet ((first
                        | (go_at_call 69; exact quiet_left (mem_any _ _ _ _ _ hf1))
                        | (go_at_call 87; exact (HH2 _).mono fun _ _ ⟨he, hm⟩ => ⟨he, _, hm.symm⟩)))
                      go_wp2
                      go_ret
                      refine ⟨?_, by first | exact below_drewN hb _ | exact below_drewN (below_drewN hb _) _⟩
                      rw [pathB_no (fun ho => by have h9 := ho.2.2 k hlt; unfold stOk at h9; rw [HY.out] at h9; have h8 := h9.2.2.2 (by omega); have e9 : k - 1 = k' := (by have := HKK.out; omega); rw [e9, HY2.out, HQ2.out] at h8; exact of_decide_eq_false HZ2.out h8)]; rfl
                | true =>
                  go_wp2_with fail
                  go_quiet ((first
                    | (go_at_call 69; exact quiet_left (mem_any _ _ _ _ _ hf1))
                    | (go_at_call 87; exact quiet_left (HH _))))
                  go_wp2
                  go_ret
                  refine ⟨?_, by first | exact below_drewN hb _ | exact below_drewN (below_drewN hb _) _⟩
                  rw [pathB_no (fun ho => by have h9 := ho.2.2 k hlt; unfold stOk at h9; rw [HY.out] at h9; have h8 := h9.2.2.1; rw [HQ.out, hfq] at h8; simp at h8)]; rfl
              | true =>
                cases f with
                | false =>
                  go_wp2_with fail
                  go_quiet ((first
                    | (go_at_call 69; exact quiet_left (mem_any _ _ _ _ _ hf1))
                    | (go_at_call 87; exact quiet_left (HH _))))
                  go_wp2
                  go_ret
                  refine ⟨?_, by first | exact below_drewN hb _ | exact below_drewN (below_drewN hb _) _⟩
                  rw [pathB_no (fun ho => by have h9 := ho.2.2 k hlt; unfold stOk at h9; rw [HY.out] at h9; have h8 := h9.2.2.1; rw [HQ.out, hfq] at h8; simp at h8)]; rfl
                | true =>
                  have hok : (0 < k → (j : Int) ∈ (vAt L (p.getD (k - 1) 0)).2) → stOk L p k := fun h3 => by
                    unfold stOk
                    rw [HY.out, HQ.out, hfq]
                    exact ⟨HIN.out, of_decide_eq_false HZ.out, rfl, h3⟩
                  have HK := Lib.hid hok
                  clear hok
                  by_cases hk0 : k = 0
                  · have hk1 : ¬ 0 < k := by omega
                    clear hk0
                    go_wp2_with fail
                    go_quiet ((first
                      | (go_at_call 69; exact quiet_left (mem_any _ _ _ _ _ hf1))
                      | (go_at_call 87; exact quiet_left (HH _))))
                    go_wp2_with fail
                    go_quiet ((first
                      | (go_at_call 69; exact quiet_left (mem_any _ _ _ _ _ hf1))))
                    go_wp2
                    go_roundg (p.length - (k + 1))
                    case measure => omega
                    case rel =>
                      refine ⟨k + 1, by omega, rfl, by simp, by first | exact below_drewN hb _ | exact below_drewN (below_drewN hb _) _, fun m hm => ?_⟩
                      by_cases em : m = k
                      · rw [em]; exact HK.out (fun h => absurd h (by omega))
                      · exact H.out m (by omega)
                  · obtain ⟨k', hkk'⟩ : ∃ k', k = k' + 1 := ⟨k - 1, by omega⟩
                    have c2 : wr.cell? ⟨bp, k', none⟩ = some (.int .i64 (p.getD k' 0)) := World.rowIs.cell (hp.below hb) (by omega)
                    obtain ⟨y', hy'⟩ : ∃ y, p.getD k' 0 = y := ⟨_, rfl⟩
                    have hlk : k' < p.length := by omega
                    have hst := (H.out k' (by omega)).1
                    rw [hy'] at c2 hst
                    obtain ⟨j', rfl⟩ : ∃ j' : Nat, y' = j' := ⟨y'.toNat, by omega⟩
                    have HY2 := Lib.hid hy'
                    have hj' : j' < L.length := by omega
                    obtain ⟨c', d1, d2, d3⟩ := (h.below hb).at hj'
                    have hlen' := hf2 j' hj'
                    have hvq' : vAt L (j' : Int) = L.getD j' (false, []) := by simp [vAt]
                    obtain ⟨⟨s', t'⟩, hq'⟩ : ∃ q, L.getD j' (false, []) = q := ⟨_, rfl⟩
                    rw [hq'] at d1 d2 d3 hvq' hlen'
                    simp only at d1 d2 d3 hlen'
                    have HQ2 := Lib.hid hvq'
                    obtain ⟨z', hz'⟩ : ∃ z, decide ((j : Int) ∈ t') = z := ⟨_, rfl⟩
                    have HH2 : ∀ n, Calls Try.prog 87 #[.slice (some ⟨c', 0, none⟩) t'.length t'.length, .int .i64 (j : Int)] (wr.drewN n) fun e w' => e = .returned (.bool z') ∧ wr.drewN n = w' := fun n => by
                      have := has_any _ _ (j : Int) (wr.drewN n) (d3.below (below_drewN (Below.refl _ _) n)) (by omega)
                      rw [hz'] at this
                      exact this
                    have HZ2 := Lib.hid hz'
                    have wk1 : IntKind.i64.wrap ((k : Int) - 1) = k' := by rw [IntKind.wrap_i64]; omega
                    have wk2 : (k : Int) - 1 = k' := by omega
                    have wk3 : IntKind.i64.wrap (k' : Int) = k' := by rw [IntKind.wrap_i64]; omega
                    have hpk : 0 < k := by omega
                    have HKK := Lib.hid hkk'
                    clear hz' d1 d3 hq' hvq' hst hy' hk0 hlen' hkk'
                    go_wp2_with fail
                    go_quiet ((first
                      | (go_at_call 69; exact quiet_left (mem_any _ _ _ _ _ hf1))
                      | (go_at_call 87; exact quiet_left (HH _))))
                    go_wp2_with fail
                    cases z' with
                    | true =>
                      go_quiet ((first
                        | (go_at_call 69; exact quiet_left (mem_any _ _ _ _ _ hf1))
                        | (go_at_call 87; exact (HH2 _).mono fun _ _ ⟨he, hm⟩ => ⟨he, _, hm.symm⟩)))
                      go_wp2
                      go_roundg (p.length - (k + 1))
                      case measure => omega
                      case rel =>
                        refine ⟨k + 1, by omega, rfl, by simp, by first | exact below_drewN hb _ | exact below_drewN (below_drewN hb _) _, fun m hm => ?_⟩
                        by_cases em : m = k
                        · rw [em]; exact HK.out (fun _ => (show k - 1 = k' by have := HKK.out; omega) ▸ (by rw [HY2.out, HQ2.out]; exact of_decide_eq_true HZ2.out))
                        · exact H.out m (by omega)
                    | false =>
                      go_quiet ((first
                        | (go_at_call 69; exact quiet_left (mem_any _ _ _ _ _ hf1))
                        | (go_at_call 87; exact (HH2 _).mono fun _ _ ⟨he, hm⟩ => ⟨he, _, hm.symm⟩)))
                      go_wp2
                      go_ret
                      refine ⟨?_, by first | exact below_drewN hb _ | exact below_drewN (below_drewN hb _) _⟩
                      rw [pathB_no (fun ho => by have h9 := ho.2.2 k hlt; unfold stOk at h9; rw [HY.out] at h9; have h8 := h9.2.2.2 (by omega); have e9 : k - 1 = k' := (by have := HKK.out; omega); rw [e9, HY2.out, HQ2.out] at h8; exact of_decide_eq_false HZ2.out h8)]; rfl
          · have i2 := inB_no hin
            have HIN := Lib.hid hin
            clear hin hrow
            go_wp2_with fail
            go_quiet ((first | (go_at_call 69; exact quiet_left (mem_any _ _ _ _ _ hf1))))
            go_wp2
            go_ret
            refine ⟨?_, below_drewN hb _⟩
            rw [pathB_no (fun ho => by have := (ho.2.2 k hlt).1; rw [HY.out] at this; exact HIN.out this)]; rfl
        · have e : k = p.length := by omega
          subst e
          go_wp2
          go_ret
          exact ⟨by rw [pathB_yes ⟨hpos, by omega, H.out⟩]; rfl, hb⟩
end Go.Proofs.Ytlpidgdlbannbaa
