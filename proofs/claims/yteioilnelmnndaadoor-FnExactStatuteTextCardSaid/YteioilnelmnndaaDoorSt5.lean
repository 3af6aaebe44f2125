/- StatuteText: the specification's call by its contract. -/
import Derived.Test.YteioilnelmnndaaDoorSt4
namespace Go.Proofs.YteioilnelmnndaaDoor
open Go.ChangeShapes Go.WideShapes Go.ChangeAt Go.RowKit Go.Deep
set_option linter.unusedSimpArgs false
set_option linter.unusedVariables false
set_option maxRecDepth 100000
set_option maxHeartbeats 4000000 in
theorem satext (L : List Ar) (b cap : Nat) (w : World) (h : As w b L) (hl : L.length ≤ 8) (hs : ∀ k, k < L.length → smA (L.getD k a0)) :
    Calls Tryd.prog 11 #[.slice (some ⟨b, 0, none⟩) L.length cap] w fun e w' => e = .returned (.string (bytesOf (atl L L.length))) ∧ Below w.heap.size w w' := by
  have HAL := Lib.hid (atl_len hs)
  have HS := Lib.hid hs
  have HX := Lib.hid h
  have hqs : ∀ k, atl L (k + 1) = atl L k ++ (aline (L.getD k a0) ++ [10]) := fun k => rfl
  have hq0 : atl L 0 = [] := rfl
  generalize atl L = P at HAL hqs hq0 ⊢
  have HQ := Lib.hid hqs
  have HQ0 := Lib.hid hq0
  clear hs h hqs hq0
  go_enter Tryd.func11, Tryd.ntmps11
  go_wp2
  go_loopg [3, 4] L.length (fun g o i wr => ∃ k : Nat, k ≤ L.length ∧ g = L.length - k ∧ o = .string (bytesOf (P k)) ∧ i = .int .i64 (k : Int) ∧ Below w.heap.size w wr)
  case atStart => exact ⟨0, Nat.zero_le _, rfl, by rw [HQ0.out]; rfl, rfl, Below.refl _ _⟩
  case round =>
    obtain ⟨k, hk, rfl, rfl, rfl, hb⟩ := hrel
    by_cases hlt : k < L.length
    · obtain ⟨a1, a2⟩ := (HX.out.below hb).at hlt
      have hsm := HS.out k hlt
      have hpl := HAL.out k hk
      have hqs := HQ.out k
      obtain ⟨q, hq⟩ : ∃ q, L.getD k a0 = q := ⟨_, rfl⟩
      rw [hq] at a1 a2 hsm hqs
      obtain ⟨y, t⟩ := q
      simp only at a1 a2
      obtain ⟨⟨h1, h2⟩, h3⟩ := hsm
      simp only at h1 h2 h3
      unfold aline at hqs
      simp only at hqs
      have e2 := bo t
      generalize t.data.toList = T at e2 h3 hqs
      have hdl := itoa_len9 (n := y) (by omega) (by omega)
      have HD := Lib.hid (fun w => sdecb7 y w (by omega) (by omega))
      obtain ⟨D, hD⟩ : ∃ D, Lib.itoa y = D := ⟨_, rfl⟩
      rw [hD] at HD hqs hdl
      obtain ⟨N, hN⟩ : ∃ N, P (k + 1) = N := ⟨_, rfl⟩
      obtain ⟨O, hO⟩ : ∃ O, P k = O := ⟨_, rfl⟩
      rw [hN, hO] at hqs
      rw [hO] at hpl
      obtain ⟨E1, hE1⟩ : ∃ T, D ++ [32] = T := ⟨_, rfl⟩
      obtain ⟨E2, hE2⟩ : ∃ S, E1 ++ T = S := ⟨_, rfl⟩
      obtain ⟨E3, hE3⟩ : ∃ T, E2 ++ [10] = T := ⟨_, rfl⟩
      have g1 : E1.length = D.length + 1 := by rw [← hE1]; simp
      have g2 : E2.length = E1.length + T.length := by rw [← hE2]; simp
      have g3 : E3.length = E2.length + 1 := by rw [← hE3]; simp
      have hfin : O ++ E3 = N := by rw [hqs, ← hE3, ← hE2, ← hE1]; simp
      have A1 := add_d D [32] E1 (bytesOf D) ⟨#[32]⟩ rfl rfl hE1 (by simp; omega)
      have A2 := add_d E1 T E2 (bytesOf E1) t rfl e2 hE2 (by omega)
      have A3 := add_d E2 [10] E3 (bytesOf E2) ⟨#[10]⟩ rfl rfl hE3 (by simp; omega)
      have A4 := add_d O E3 N (bytesOf O) (bytesOf E3) rfl rfl hfin (by omega)
      have HNN := Lib.hid hN
      have BA : Ba wr b (k * 2) y t wr := ⟨a1, a2, Lib.hid (Below.refl _ _)⟩
      have HB := Lib.hid hb
      rw [hO]
      clear hq hqs hD hN hO hE1 hE2 hE3 hfin e2 hpl hb
      go_wp2_with fail
      go_region_held3 (fun w' => w'.cell? ⟨b, k * 2, none⟩ = some (.int .i64 y) ∧ w'.cell? ⟨b, k * 2 + 1, none⟩ = some (.string t) ∧ Hid (Below wr.heap.size wr w'))
        (first | exact BA.drew | exact Ba.below (w := wr) (by assumption) (by assumption))
        (first
          | (go_at_call 19; refine (HD.out _).mono ?_; rintro e w5 ⟨rfl, hb5⟩))
      all_goals
        go_wp2_with fail
        go_roundg (L.length - (k + 1))
      all_goals first
        | omega
        | exact ⟨k + 1, by omega, rfl, by rw [HNN.out], by simp, HB.out.trans ((show Ba wr b (k * 2) y t _ from by assumption).bel.mono HB.out.size)⟩
    · obtain rfl : k = L.length := by omega
      go_wp2
      go_ret
      exact ⟨rfl, hb⟩
set_option maxHeartbeats 2000000 in
theorem sSTx (L : List Ar) (w : World) (lo hi : Nat) (u : Value) (c : CpA w lo hi u L) : Calls Tryd.prog 5 #[u] w (Psb (mSTx L) w) := by
  obtain ⟨rfl, h1, -, hf⟩ := c
  have HS := sstat L lo L.length w h1 hf
  unfold Psb mSTx
  obtain ⟨z, hz⟩ : ∃ z, staB L = z := ⟨_, rfl⟩
  rw [hz] at HS ⊢
  cases z with
  | false =>
    rw [if_neg (by simp)]
    clear h1 hf
    go_enter Tryd.func5, Tryd.ntmps5
    go_wp2_with fail
    refine HS.mono ?_
    rintro e w1 ⟨rfl, hd1⟩
    have hb1 := hd1.below
    go_wp2
    go_ret2
    exact ⟨rfl, hb1⟩
  | true =>
    obtain ⟨s1, s2⟩ := sta_small (staB_iff.1 hz)
    rw [if_pos rfl]
    have HT := fun w' (hw : Below w.heap.size w w') => satext L lo L.length w' (h1.below hw) s1 s2
    generalize atl L L.length = T at HT ⊢
    clear h1 hf s1 s2 hz
    go_enter Tryd.func5, Tryd.ntmps5
    go_wp2_with fail
    refine HS.mono ?_
    rintro e w1 ⟨rfl, hd1⟩
    have hb1 := hd1.below
    have HT1 := HT _ hb1
    clear HT
    go_wp2_with fail
    refine HT1.mono ?_
    rintro e w2 ⟨rfl, hb2⟩
    go_wp2
    go_ret2
    exact ⟨rfl, hb1.trans (hb2.mono hb1.size)⟩
end Go.Proofs.YteioilnelmnndaaDoor
