/- PoolText: the specification's call by its contract. -/
import Derived.Test.YtfjpjiieocdgeaaDoorTx8
namespace Go.Proofs.YtfjpjiieocdgeaaDoor
open Go.ChangeShapes Go.WideShapes Go.ChangeAt Go.RowKit Go.Deep
set_option linter.unusedSimpArgs false
set_option linter.unusedVariables false
theorem sdecb7 (n : Int) (w : World) (h1 : -1000000000 ≤ n) (h2 : n ≤ 1000000000) :
    Calls Tryd.prog 50 #[.int .i64 n] w fun e w' => e = .returned (.string (bytesOf (Lib.itoa n))) ∧ Below w.heap.size w w' := sdec n w (by omega) (by omega)
/-- The members of a quota as they are written, and the mark ahead of the next one. -/
def sgq (A : List Int) (j : Nat) : List UInt8 := if j = 0 then [] else 59 :: jn Lib.itoa A 44 j
def mkq (j : Nat) : List UInt8 := if j = 0 then [59] else [44]
theorem sgq_succ (A : List Int) (j : Nat) (h : j < A.length) : sgq A (j + 1) = sgq A j ++ (mkq j ++ Lib.itoa (A.getD j 0)) := by
  unfold sgq mkq
  rw [if_neg (by omega)]
  by_cases h0 : j = 0
  · subst h0
    rw [if_pos rfl, if_pos rfl, jn_one Lib.itoa A 44 0 h]
    rfl
  · rw [if_neg h0, if_neg h0, jn_succ Lib.itoa A 44 0 h (by omega)]
    simp
theorem sgq_all (A : List Int) (h : A.length ≠ 0) : sgq A A.length = 59 :: Lib.join (A.map Lib.itoa) [44] := by
  unfold sgq
  rw [if_neg h, jn_all]
theorem sgq_len {A : List Int} (h : smallI A) (j : Nat) : (sgq A j).length ≤ 145 := by
  have := jn_int_len h 44 j
  unfold sgq
  split
  · simp
  · simp only [List.length_cons]; omega
theorem mkq_len (j : Nat) : (mkq j).length = 1 := by unfold mkq; split <;> rfl
/-- What the end of the text of a quota reads, kept. -/
def Be (w : World) (b o : Nat) (m n : Int) (w' : World) : Prop := w'.cell? ⟨b, o + 1, none⟩ = some (.int .i64 m) ∧ w'.cell? ⟨b, o + 2, none⟩ = some (.int .i64 n) ∧ Hid (Below w.heap.size w w')
theorem Be.drew {w w' : World} {b o : Nat} {m n : Int} (h : Be w b o m n w') : Be w b o m n w'.drew := ⟨h.1, h.2.1, Lib.hid h.2.2.out.drew⟩
theorem Be.bel {w w' : World} {b o : Nat} {m n : Int} (h : Be w b o m n w') : Below w.heap.size w w' := h.2.2.out
theorem Be.below {w w' w'' : World} {b o : Nat} {m n : Int} (h : Be w b o m n w') (hb : Below w'.heap.size w' w'') : Be w b o m n w'' := by
  obtain ⟨a1, a2, g⟩ := h
  have q : ∀ {b : Nat} {o : Nat} {v : Value}, w'.cell? ⟨b, o, none⟩ = some v → w''.cell? ⟨b, o, none⟩ = some v := fun {b o v} hc => (hb.cell (p := ⟨b, o, none⟩) (World.block_lt_of_cell? _ _ hc)).trans hc
  exact ⟨q a1, q a2, Lib.hid (g.out.trans (hb.mono g.out.size))⟩
set_option maxHeartbeats 4000000 in
set_option maxRecDepth 100000 in
theorem sqtext (P S : Int) (L : List Qt) (B b cap p : Nat) (w : World) (h : Qs w B b L) (hp : PoolAt w p P S (.slice (some ⟨b, 0, none⟩) L.length cap)) (hok : pOk P S L) :
    Calls Tryd.prog 41 #[.pointer (some ⟨p, 0, none⟩)] w fun e w' => e = .returned (.string (bytesOf (ptext P S L))) ∧ Below w.heap.size w w' := by
  obtain ⟨hl6, hsm⟩ := pOk_small hok
  have hne : ∀ k, k < L.length → (L.getD k q0).1.length ≠ 0 := fun k hk => (hok.2.2.2.2.2 k hk).1
  have hP : -1000000000 ≤ P ∧ P ≤ 1000000000 := by have := hok.1; have := hok.2.1; omega
  have hS : -1000000000 ≤ S ∧ S ≤ 1000000000 := by have := hok.2.2.1; have := hok.2.2.2.1; omega
  have hqt := qtail_len hsm
  have l1 := itoa_len9 hP.1 hP.2
  have l2 := itoa_len9 hS.1 hS.2
  obtain ⟨p1, p2⟩ := hP
  obtain ⟨s1, s2⟩ := hS
  have HN := Lib.hid (fun (x : Int) (h1 : -1000000000 ≤ x) (h2 : x ≤ 1000000000) w => sdecb7 x w h1 h2)
  have HSM := Lib.hid hsm
  have HNE := Lib.hid hne
  have HQT := Lib.hid hqt
  obtain ⟨T1, hT1⟩ : ∃ T, Lib.itoa P ++ [47] = T := ⟨_, rfl⟩
  obtain ⟨T2, hT2⟩ : ∃ T, T1 ++ Lib.itoa S = T := ⟨_, rfl⟩
  have hpt : ptext P S L = T2 ++ qtail L L.length := by rw [← hT2, ← hT1]; simp [ptext]
  rw [hpt]
  have q1 : T1.length = (Lib.itoa P).length + 1 := by rw [← hT1]; simp
  have q2 : T2.length = T1.length + (Lib.itoa S).length := by rw [← hT2]; simp
  have A1 := add_d (Lib.itoa P) [47] T1 (bytesOf (Lib.itoa P)) ⟨#[47]⟩ rfl rfl hT1 (by simp; omega)
  have A2 := add_d T1 (Lib.itoa S) T2 (bytesOf T1) (bytesOf (Lib.itoa S)) rfl rfl hT2 (by omega)
  obtain ⟨pc0, pc1, pc2, pcl⟩ := hp
  have BV : Bv w p (.int .i64 P) (.int .i64 S) (.slice (some ⟨b, 0, none⟩) L.length cap) w := ⟨pc0, pc1, pc2, Lib.hid (Below.refl _ _)⟩
  have H3 := Lib.hid h
  clear hsm hne hqt hT1 hT2 hpt hok h
  go_enter Tryd.func41, Tryd.ntmps41
  go_upto_region 1 with fail
  go_cut [3] (fun s3 wx => s3 = .string (bytesOf T2) ∧ Bv w p (.int .i64 P) (.int .i64 S) (.slice (some ⟨b, 0, none⟩) L.length cap) wx)
  case first =>
    go_region_held3 (fun w' => w'.cell? ⟨p, 0, none⟩ = some (.int .i64 P) ∧ w'.cell? ⟨p, 1, none⟩ = some (.int .i64 S) ∧ w'.cell? ⟨p, 2, none⟩ = some (.slice (some ⟨b, 0, none⟩) L.length cap) ∧ Hid (Below w.heap.size w w'))
      (first | exact BV.drew | exact Bv.below (w := w) (by assumption) (by assumption))
      (first
        | (go_at_call 50; refine (HN.out _ (by omega) (by omega) _).mono ?_; rintro e w2 ⟨rfl, hb⟩))
    all_goals
      go_wp2_with fail
      go_meet
      refine ⟨rfl, ?_⟩
      assumption
  case rest =>
    obtain ⟨rfl, hBV⟩ := hcut
    have hbx := hBV.bel
    have HBX := Lib.hid hbx
    clear hbx hBV BV A1 A2
    go_wp2
    go_loopg [3, 4] L.length (fun g o i wr => ∃ k : Nat, k ≤ L.length ∧ g = L.length - k ∧ o = .string (bytesOf (T2 ++ qtail L k)) ∧ i = .int .i64 k ∧ Below w.heap.size w wr)
    case atStart => exact ⟨0, Nat.zero_le _, rfl, by rw [qtail_zero, List.append_nil], rfl, HBX.out⟩
    case round =>
      obtain ⟨k, hk, rfl, rfl, rfl, hb⟩ := hrel
      have z2 := (hb.cell (p := ⟨p, 2, none⟩) pcl).trans pc2
      by_cases hlt : k < L.length
      · obtain ⟨c, a1, a2, a3, a4⟩ := (H3.out.below hb).at hlt
        have hsm := HSM.out k hlt
        have hne := HNE.out k hlt
        have hql := HQT.out k hk
        have hqs := qtail_succ L k hlt
        obtain ⟨q, hq⟩ : ∃ q, L.getD k q0 = q := ⟨_, rfl⟩
        rw [hq] at a1 a2 a3 a4 hsm hqs hne
        obtain ⟨A, m, n⟩ := q
        simp only at a1 a2 a3 a4 hne
        have lb := (H3.out.below hb).lt
        obtain ⟨hA, ⟨m1, m2⟩, n1, n2⟩ := hsm
        simp only at hA m1 m2 n1 n2
        have lm := itoa_len9 m1 m2
        have ln := itoa_len9 n1 n2
        have hsg := fun j => sgq_len hA j
        obtain ⟨E1, hE1⟩ : ∃ T, [61] ++ Lib.itoa m = T := ⟨_, rfl⟩
        obtain ⟨E2, hE2⟩ : ∃ T, E1 ++ [46, 46] = T := ⟨_, rfl⟩
        obtain ⟨E3, hE3⟩ : ∃ T, E2 ++ Lib.itoa n = T := ⟨_, rfl⟩
        have g1 : E1.length = (Lib.itoa m).length + 1 := by rw [← hE1]; simp
        have g2 : E2.length = E1.length + 2 := by rw [← hE2]; simp
        have g3 : E3.length = E2.length + (Lib.itoa n).length := by rw [← hE3]; simp
        obtain ⟨O, hO⟩ : ∃ O, T2 ++ qtail L k = O := ⟨_, rfl⟩
        obtain ⟨N, hN⟩ : ∃ N, T2 ++ qtail L (k + 1) = N := ⟨_, rfl⟩
        have q3 : O.length ≤ 2000 := by rw [← hO]; simp; omega
        have hfin : O ++ sgq A A.length ++ E3 = N := by rw [← hN, hqs, ← hO, ← hE3, ← hE2, ← hE1, sgq_all A hne]; simp [qtext]
        have B1 := add_d [61] (Lib.itoa m) E1 ⟨#[61]⟩ (bytesOf (Lib.itoa m)) rfl rfl hE1 (by simp; omega)
        have B2 := add_d E1 [46, 46] E2 (bytesOf E1) ⟨#[46, 46]⟩ rfl rfl hE2 (by simp; omega)
        have B3 := add_d E2 (Lib.itoa n) E3 (bytesOf E2) (bytesOf (Lib.itoa n)) rfl rfl hE3 (by omega)
        have B4 := add_d (O ++ sgq A A.length) E3 N (bytesOf (O ++ sgq A A.length)) (bytesOf E3) rfl rfl hfin (by have := hsg A.length; simp; omega)
        have HA := Lib.hid hA
        have HNN := Lib.hid hN
        have HSG := Lib.hid hsg
        rw [hO]
        obtain ⟨w2, rfl⟩ : ∃ w2, w2 = wr := ⟨_, rfl⟩
        clear hq hsg hqs hne hE1 hE2 hE3 hO hN hfin hql
        go_wp2_with fail
        go_loopg [3, 6, 7] A.length (fun g o mk i wi => ∃ j : Nat, j ≤ A.length ∧ g = A.length - j ∧ o = .string (bytesOf (O ++ sgq A j)) ∧ mk = .string (bytesOf (mkq j)) ∧ i = .int .i64 j ∧ Below w2.heap.size w2 wi)
        case atStart => exact ⟨0, Nat.zero_le _, rfl, by rw [show sgq A 0 = [] from rfl, List.append_nil], rfl, rfl, Below.refl _ _⟩
        case round =>
          obtain ⟨j, hj, rfl, rfl, rfl, rfl, hbi⟩ := hrel
          have e1 := (hbi.cell (p := ⟨b, k * 3, none⟩) lb).trans a1
          by_cases hml : j < A.length
          · obtain ⟨x, cp, hx0, hx, hc⟩ := (a4.below hbi).cons (by intro h; subst h; simp at hml)
            obtain ⟨rfl, rfl⟩ : x = ⟨c, 0, none⟩ ∧ cp = A.length := by simpa [eq_comm] using hx0
            have c1 := hc j hml
            rw [Addr.add_lit, Nat.zero_add] at c1
            have hss := sgq_succ A j hml
            have hsl := HSG.out j
            obtain ⟨y, hy⟩ : ∃ y, A.getD j 0 = y := ⟨_, rfl⟩
            have hym : y ∈ A := by rw [← hy]; simp [List.getD, hml]
            obtain ⟨y1, y2⟩ := HA.out.2 y hym
            have hq12 := HA.out.1
            rw [hy] at c1 hss
            have HD := fun W => sdecb7 y W y1 y2
            have hyl := itoa_len9 y1 y2
            have hmj := mkq_len j
            obtain ⟨M, hM⟩ : ∃ M, mkq j = M := ⟨_, rfl⟩
            rw [hM] at hss hmj ⊢
            obtain ⟨M2, hM2⟩ : ∃ T, M ++ Lib.itoa y = T := ⟨_, rfl⟩
            obtain ⟨O1, hO1⟩ : ∃ T, O ++ sgq A j = T := ⟨_, rfl⟩
            obtain ⟨O2, hO2⟩ : ∃ T, O ++ sgq A (j + 1) = T := ⟨_, rfl⟩
            have r1 : M2.length = (Lib.itoa y).length + 1 := by rw [← hM2]; simp; omega
            have r2 : O1.length ≤ 2145 := by rw [← hO1]; simp; omega
            have D1 := add_d M (Lib.itoa y) M2 (bytesOf M) (bytesOf (Lib.itoa y)) rfl rfl hM2 (by omega)
            have D2 := add_d O1 M2 O2 (bytesOf O1) (bytesOf M2) rfl rfl (by rw [← hO2, hss, hM2, ← hO1]; simp) (by omega)
            have HO2 := Lib.hid hO2
            have HB2 := Lib.hid hbi
            rw [hO1]
            clear hx0 hc hy hym hss hM hM2 hO1 hO2 hsl a1 a2 a3 a4 B1 B2 B3 B4 hbi
            go_wp2_with fail
            refine (HD _).mono ?_
            rintro e w5 ⟨rfl, hb5⟩
            go_wp2
            go_roundg (A.length - (j + 1))
            case measure => omega
            case rel => exact ⟨j + 1, by omega, rfl, by rw [HO2.out], by unfold mkq; rw [if_neg (by omega)]; rfl, by simp, HB2.out.trans (hb5.mono HB2.out.size)⟩
          · have e : j = A.length := by omega
            subst e
            have e2 := (hbi.cell (p := ⟨b, k * 3 + 1, none⟩) lb).trans a2
            have e3 := (hbi.cell (p := ⟨b, k * 3 + 2, none⟩) lb).trans a3
            have BE : Be wr b (k * 3) m n wr := ⟨e2, e3, Lib.hid (Below.refl _ _)⟩
            have HB2 := Lib.hid (hb.trans (hbi.mono hb.size))
            clear a1 a2 a3 a4 hbi hb
            go_wp2_with fail
            go_region_held3 (fun w' => w'.cell? ⟨b, k * 3 + 1, none⟩ = some (.int .i64 m) ∧ w'.cell? ⟨b, k * 3 + 2, none⟩ = some (.int .i64 n) ∧ Hid (Below wr.heap.size wr w'))
              (first | exact BE.drew | exact Be.below (w := wr) (by assumption) (by assumption))
              (first
                | (go_at_call 50; refine (HN.out _ (by omega) (by omega) _).mono ?_; rintro e w5 ⟨rfl, hb5⟩))
            all_goals
              go_wp2_with fail
              go_roundg (L.length - (k + 1))
            all_goals first
              | omega
              | exact ⟨k + 1, by omega, rfl, by rw [HNN.out], by simp, HB2.out.trans ((show Be wr b (k * 3) m n _ from by assumption).bel.mono HB2.out.size)⟩
      · have e : k = L.length := by omega
        subst e
        go_wp2
        go_ret
        exact ⟨rfl, hb⟩
set_option maxHeartbeats 4000000 in
set_option maxRecDepth 100000 in
theorem sPText (X : Pl) (w : World) (lo hi : Nat) (u : Value) (c : CpP w lo hi u X) : Calls Tryd.prog 17 #[u] w (Psb (mPText X) w) := by
  obtain ⟨P, S, L⟩ := X
  obtain ⟨b, rfl, h1, h2, h3, hf, _, _⟩ := c
  simp only at h3 hf
  have b1 := (Below.refl w.heap.size w).alloc (Nat.le_refl _) (.cells #[.int .i64 P, .int .i64 S, .slice (some ⟨b, 0, none⟩) L.length L.length] 44)
  have hpa := pool_at w P S (.slice (some ⟨b, 0, none⟩) L.length L.length)
  have HS := spool P S L b b L.length w.heap.size _ (h3.below b1) hf hpa
  unfold Psb mPText
  simp only
  obtain ⟨z, hz⟩ : ∃ z, pOkB P S L = z := ⟨_, rfl⟩
  rw [hz] at HS ⊢
  cases z with
  | false =>
    clear h3 hpa
    go_enter Tryd.func17, Tryd.ntmps17
    go_wp2_with fail
    refine HS.mono ?_
    rintro e w1 ⟨rfl, hb1⟩
    go_wp2
    go_ret2
    exact ⟨rfl, b1.trans (hb1.below.mono b1.size)⟩
  | true =>
    have hok := pOkB_iff.1 hz
    rw [if_pos rfl]
    have HT : ∀ w1 (hw : Below (w.alloc (.cells #[.int .i64 P, .int .i64 S, .slice (some ⟨b, 0, none⟩) L.length L.length] 44)).heap.size (w.alloc (.cells #[.int .i64 P, .int .i64 S, .slice (some ⟨b, 0, none⟩) L.length L.length] 44)) w1), Calls Tryd.prog 41 #[.pointer (some ⟨w.heap.size, 0, none⟩)] w1 fun e w' => e = .returned (.string (bytesOf (ptext P S L))) ∧ Below w1.heap.size w1 w' := fun w1 hw => sqtext P S L b b L.length w.heap.size w1 ((h3.below b1).below hw) (hpa.below hw) hok
    obtain ⟨T, hT⟩ : ∃ T, ptext P S L = T := ⟨_, rfl⟩
    rw [hT] at HT ⊢
    clear h3 hpa hok hz hT
    go_enter Tryd.func17, Tryd.ntmps17
    go_wp2_with fail
    refine HS.mono ?_
    rintro e w1 ⟨rfl, hb1⟩
    have hbb := hb1.below
    go_wp2_with fail
    refine (HT _ hbb).mono ?_
    rintro e w2 ⟨rfl, hb2⟩
    have hb3 := b1.trans (hbb.mono b1.size)
    go_wp2
    go_ret2
    exact ⟨rfl, hb3.trans (hb2.mono hb3.size)⟩
end Go.Proofs.YtfjpjiieocdgeaaDoor
