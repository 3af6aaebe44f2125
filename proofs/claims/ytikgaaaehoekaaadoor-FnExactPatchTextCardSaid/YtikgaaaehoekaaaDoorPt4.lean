/- PatchText: the specification's call by its contract. -/
import Derived.Test.YtikgaaaehoekaaaDoorPt3
namespace Go.Proofs.YtikgaaaehoekaaaDoor
open Go.ChangeShapes Go.WideShapes Go.ChangeAt Go.RowKit Go.Deep
set_option linter.unusedSimpArgs false
set_option linter.unusedVariables false
set_option maxRecDepth 100000
/-- What a round of the text of a patch reads, kept. -/
def By (w : World) (b o : Nat) (s t : ByteArray) (w' : World) : Prop := w'.cell? ⟨b, o + 2, none⟩ = some (.string s) ∧ w'.cell? ⟨b, o + 3, none⟩ = some (.string t) ∧ Hid (Below w.heap.size w w')
theorem By.drew {w w' : World} {b o : Nat} {s t : ByteArray} (h : By w b o s t w') : By w b o s t w'.drew := ⟨h.1, h.2.1, Lib.hid h.2.2.out.drew⟩
theorem By.bel {w w' : World} {b o : Nat} {s t : ByteArray} (h : By w b o s t w') : Below w.heap.size w w' := h.2.2.out
set_option maxHeartbeats 4000000 in
theorem sptx (L : List Ed) (b cap : Nat) (w : World) (h : Es w b L) (hl : L.length ≤ 16) (hs : ∀ k, k < L.length → smE (L.getD k e0) ∧ edF (L.getD k e0)) :
    Calls Tryd.prog 11 #[.slice (some ⟨b, 0, none⟩) L.length cap] w fun e w' => e = .returned (.string (bytesOf (etl L L.length))) ∧ Below w.heap.size w w' := by
  have HAL := Lib.hid (etl_len (fun k hk => (hs k hk).1))
  have HS := Lib.hid hs
  have HX := Lib.hid h
  have hqs : ∀ k, etl L (k + 1) = etl L k ++ (eline (L.getD k e0) ++ [10]) := fun k => rfl
  have hq0 : etl L 0 = [] := rfl
  generalize etl L = P at HAL hqs hq0 ⊢
  have HQ := Lib.hid hqs
  have HQ0 := Lib.hid hq0
  clear hs h hqs hq0
  go_enter Tryd.func11, Tryd.ntmps11
  go_wp2
  go_loopg [3, 4] L.length (fun g o i wr => ∃ k : Nat, k ≤ L.length ∧ g = L.length - k ∧ o = .string (bytesOf (P k)) ∧ i = .int .i64 (k : Int) ∧ Below w.heap.size w wr)
  case atStart => exact ⟨0, Nat.zero_le _, rfl, by rw [HQ0.out]; rfl, rfl, Below.refl _ _⟩
  case round =>
    obtain ⟨k, hk, rfl, rfl, rfl, hb⟩ := hrel
    by_cases hlt : k < L.length
    · obtain ⟨a1, a2, a3, a4⟩ := (HX.out.below hb).at hlt
      obtain ⟨hsm, hed⟩ := HS.out k hlt
      have hpl := HAL.out k hk
      have hqs := HQ.out k
      have lb := (HX.out.below hb).lt
      obtain ⟨q, hq⟩ : ∃ q, L.getD k e0 = q := ⟨_, rfl⟩
      rw [hq] at a1 a2 a3 a4 hsm hqs hed
      obtain ⟨kd, y, t, u⟩ := q
      simp only at a1 a2 a3 a4
      obtain ⟨⟨h1, h2⟩, h3, h4⟩ := hsm
      simp only at h1 h2 h3 h4
      have hdl := itoa_len9 (n := y) (by omega) (by omega)
      have HD := sdecb7 y wr (by omega) (by omega)
      have em : (⟨#[]⟩ : ByteArray).data.toList = [] := rfl
      unfold eline wdE at hqs
      simp only at hqs
      obtain ⟨D, hD⟩ : ∃ D, Lib.itoa y = D := ⟨_, rfl⟩
      rw [hD] at HD hqs hdl
      obtain ⟨N, hN⟩ : ∃ N, P (k + 1) = N := ⟨_, rfl⟩
      obtain ⟨O, hO⟩ : ∃ O, P k = O := ⟨_, rfl⟩
      rw [hN, hO] at hqs
      rw [hO] at hpl ⊢
      have HNN := Lib.hid hN
      have HB := Lib.hid hb
      clear hq hD hN hO
      rcases hed with ⟨e1, e2, -⟩ | ⟨e1, -, e2⟩ | ⟨e1, -, -, -⟩
      all_goals
        simp only at e1
        subst e1
      · simp only at e2
        subst e2
        have eu := bo u
        generalize u.data.toList = U at eu h4 hqs
        rw [if_neg (by decide), em, show sgE 1 = 43 from rfl] at hqs
        obtain ⟨E1, hE1⟩ : ∃ T, [43] ++ D = T := ⟨_, rfl⟩
        obtain ⟨E2, hE2⟩ : ∃ T, E1 ++ [32] = T := ⟨_, rfl⟩
        obtain ⟨E3, hE3⟩ : ∃ T, E2 ++ U = T := ⟨_, rfl⟩
        obtain ⟨E4, hE4⟩ : ∃ T, E3 ++ [10] = T := ⟨_, rfl⟩
        have g1 : E1.length = D.length + 1 := by rw [← hE1]; simp
        have g2 : E2.length = E1.length + 1 := by rw [← hE2]; simp
        have g3 : E3.length = E2.length + U.length := by rw [← hE3]; simp
        have g4 : E4.length = E3.length + 1 := by rw [← hE4]; simp
        have A1 := add_d [43] D E1 ⟨#[43]⟩ (bytesOf D) rfl rfl hE1 (by simp; omega)
        have A2 := add_d E1 [32] E2 (bytesOf E1) ⟨#[32]⟩ rfl rfl hE2 (by simp; omega)
        have A3 := add_d E2 U E3 (bytesOf E2) u rfl eu hE3 (by omega)
        have A4 := add_d E3 [10] E4 (bytesOf E3) ⟨#[10]⟩ rfl rfl hE4 (by simp; omega)
        have A5 := add_d O E4 N (bytesOf O) (bytesOf E4) rfl rfl (by rw [hqs, ← hE4, ← hE3, ← hE2, ← hE1]; simp) (by omega)
        clear hqs hE1 hE2 hE3 hE4 eu em hpl
        go_wp2_with fail
        refine HD.mono ?_
        rintro e w5 ⟨rfl, hb5⟩
        have d1 := (hb5.cell (p := ⟨b, k * 4, none⟩) lb).trans a1
        have d3 := (hb5.cell (p := ⟨b, k * 4 + 2, none⟩) lb).trans a3
        have d4 := (hb5.cell (p := ⟨b, k * 4 + 3, none⟩) lb).trans a4
        go_wp2
        go_roundg (L.length - (k + 1))
        case measure => omega
        case rel => exact ⟨k + 1, by omega, rfl, by rw [HNN.out], by simp, HB.out.trans (hb5.mono HB.out.size)⟩
      · simp only at e2
        subst e2
        have eu := bo t
        generalize t.data.toList = U at eu h3 hqs
        rw [if_neg (by decide), em, show sgE 2 = 45 from rfl] at hqs
        obtain ⟨E1, hE1⟩ : ∃ T, [45] ++ D = T := ⟨_, rfl⟩
        obtain ⟨E2, hE2⟩ : ∃ T, E1 ++ [32] = T := ⟨_, rfl⟩
        obtain ⟨E3, hE3⟩ : ∃ T, E2 ++ U = T := ⟨_, rfl⟩
        obtain ⟨E4, hE4⟩ : ∃ T, E3 ++ [10] = T := ⟨_, rfl⟩
        have g1 : E1.length = D.length + 1 := by rw [← hE1]; simp
        have g2 : E2.length = E1.length + 1 := by rw [← hE2]; simp
        have g3 : E3.length = E2.length + U.length := by rw [← hE3]; simp
        have g4 : E4.length = E3.length + 1 := by rw [← hE4]; simp
        have A1 := add_d [45] D E1 ⟨#[45]⟩ (bytesOf D) rfl rfl hE1 (by simp; omega)
        have A2 := add_d E1 [32] E2 (bytesOf E1) ⟨#[32]⟩ rfl rfl hE2 (by simp; omega)
        have A3 := add_d E2 U E3 (bytesOf E2) t rfl eu hE3 (by omega)
        have A4 := add_d E3 [10] E4 (bytesOf E3) ⟨#[10]⟩ rfl rfl hE4 (by simp; omega)
        have A5 := add_d O E4 N (bytesOf O) (bytesOf E4) rfl rfl (by rw [hqs, ← hE4, ← hE3, ← hE2, ← hE1]; simp) (by omega)
        clear hqs hE1 hE2 hE3 hE4 eu em hpl
        go_wp2_with fail
        refine HD.mono ?_
        rintro e w5 ⟨rfl, hb5⟩
        have d1 := (hb5.cell (p := ⟨b, k * 4, none⟩) lb).trans a1
        have d3 := (hb5.cell (p := ⟨b, k * 4 + 2, none⟩) lb).trans a3
        have d4 := (hb5.cell (p := ⟨b, k * 4 + 3, none⟩) lb).trans a4
        go_wp2
        go_roundg (L.length - (k + 1))
        case measure => omega
        case rel => exact ⟨k + 1, by omega, rfl, by rw [HNN.out], by simp, HB.out.trans (hb5.mono HB.out.size)⟩
      · have es := bo t
        have eu := bo u
        generalize t.data.toList = S at es h3 hqs
        generalize u.data.toList = U at eu h4 hqs
        rw [if_pos rfl, show sgE 3 = 126 from rfl] at hqs
        obtain ⟨E1, hE1⟩ : ∃ T, [126] ++ D = T := ⟨_, rfl⟩
        obtain ⟨E2, hE2⟩ : ∃ T, E1 ++ [32] = T := ⟨_, rfl⟩
        obtain ⟨F1, hF1⟩ : ∃ T, E2 ++ S = T := ⟨_, rfl⟩
        obtain ⟨F2, hF2⟩ : ∃ T, F1 ++ [124] = T := ⟨_, rfl⟩
        obtain ⟨E3, hE3⟩ : ∃ T, F2 ++ U = T := ⟨_, rfl⟩
        obtain ⟨E4, hE4⟩ : ∃ T, E3 ++ [10] = T := ⟨_, rfl⟩
        have g1 : E1.length = D.length + 1 := by rw [← hE1]; simp
        have g2 : E2.length = E1.length + 1 := by rw [← hE2]; simp
        have g5 : F1.length = E2.length + S.length := by rw [← hF1]; simp
        have g6 : F2.length = F1.length + 1 := by rw [← hF2]; simp
        have g3 : E3.length = F2.length + U.length := by rw [← hE3]; simp
        have g4 : E4.length = E3.length + 1 := by rw [← hE4]; simp
        have A1 := add_d [126] D E1 ⟨#[126]⟩ (bytesOf D) rfl rfl hE1 (by simp; omega)
        have A2 := add_d E1 [32] E2 (bytesOf E1) ⟨#[32]⟩ rfl rfl hE2 (by simp; omega)
        have A6 := add_d E2 S F1 (bytesOf E2) t rfl es hF1 (by omega)
        have A7 := add_d F1 [124] F2 (bytesOf F1) ⟨#[124]⟩ rfl rfl hF2 (by simp; omega)
        have A3 := add_d F2 U E3 (bytesOf F2) u rfl eu hE3 (by omega)
        have A4 := add_d E3 [10] E4 (bytesOf E3) ⟨#[10]⟩ rfl rfl hE4 (by simp; omega)
        have A5 := add_d O E4 N (bytesOf O) (bytesOf E4) rfl rfl (by rw [hqs, ← hE4, ← hE3, ← hF2, ← hF1, ← hE2, ← hE1]; simp) (by omega)
        clear hqs hE1 hE2 hE3 hE4 hF1 hF2 eu es em hpl
        go_wp2_with fail
        refine HD.mono ?_
        rintro e w5 ⟨rfl, hb5⟩
        have d1 := (hb5.cell (p := ⟨b, k * 4, none⟩) lb).trans a1
        have d3 := (hb5.cell (p := ⟨b, k * 4 + 2, none⟩) lb).trans a3
        have d4 := (hb5.cell (p := ⟨b, k * 4 + 3, none⟩) lb).trans a4
        have BY : By w5 b (k * 4) t u w5 := ⟨d3, d4, Lib.hid (Below.refl _ _)⟩
        go_wp2_with fail
        go_region_held3 (fun w' => w'.cell? ⟨b, k * 4 + 2, none⟩ = some (.string t) ∧ w'.cell? ⟨b, k * 4 + 3, none⟩ = some (.string u) ∧ Hid (Below w5.heap.size w5 w'))
          (first | exact BY.drew | exact By.drew (by assumption))
          (fail)
        all_goals
          go_wp2_with fail
          go_roundg (L.length - (k + 1))
        all_goals first
          | omega
          | exact ⟨k + 1, by omega, rfl, by rw [HNN.out], by simp, HB.out.trans ((hb5.trans ((show By w5 b (k * 4) t u _ from by assumption).bel.mono hb5.size)).mono HB.out.size)⟩
    · obtain rfl : k = L.length := by omega
      go_wp2
      go_ret
      exact ⟨rfl, hb⟩
set_option maxHeartbeats 2000000 in
theorem sPTx (L : List Ed) (w : World) (lo hi : Nat) (u : Value) (c : CpD w lo hi u L) : Calls Tryd.prog 5 #[u] w (Psb (mPTx L) w) := by
  obtain ⟨rfl, h1, -, hf⟩ := c
  have HS := spatch L lo L.length w h1 hf
  unfold Psb mPTx
  obtain ⟨z, hz⟩ : ∃ z, patB L = z := ⟨_, rfl⟩
  rw [hz] at HS ⊢
  cases z with
  | false =>
    rw [if_neg (by simp)]
    clear h1 hf
    go_enter Tryd.func5, Tryd.ntmps5
    go_wp2_with fail
    refine HS.mono ?_
    rintro e w1 ⟨rfl, hd1⟩
    have hb1 := hd1.below
    go_wp2
    go_ret2
    exact ⟨rfl, hb1⟩
  | true =>
    obtain ⟨s1, s2⟩ := pat_small (patB_iff.1 hz)
    rw [if_pos rfl]
    have HT := fun w' (hw : Below w.heap.size w w') => sptx L lo L.length w' (h1.below hw) s1 s2
    generalize etl L L.length = T at HT ⊢
    clear h1 hf s1 s2 hz
    go_enter Tryd.func5, Tryd.ntmps5
    go_wp2_with fail
    refine HS.mono ?_
    rintro e w1 ⟨rfl, hd1⟩
    have hb1 := hd1.below
    have HT1 := HT _ hb1
    clear HT
    go_wp2_with fail
    refine HT1.mono ?_
    rintro e w2 ⟨rfl, hb2⟩
    go_wp2
    go_ret2
    exact ⟨rfl, hb1.trans (hb2.mono hb1.size)⟩
end Go.Proofs.YtikgaaaehoekaaaDoor
