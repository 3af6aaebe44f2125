/- PoolText: the program's call by its contract. -/
import Derived.Test.YtfjpjiieocdgeaaDoorTx7
import Derived.Deep.DeepCutAuto
namespace Go.Proofs.YtfjpjiieocdgeaaDoor
open Go.ChangeShapes Go.WideShapes Go.ChangeAt Go.RowKit Go.Deep
set_option linter.unusedSimpArgs false
set_option linter.unusedVariables false
theorem pOk_small {P S : Int} {L : List Qt} (h : pOk P S L) : L.length ≤ 6 ∧ ∀ k, k < L.length → smallQ (L.getD k q0) := by
  refine ⟨h.2.2.2.2.1, fun k hk => ?_⟩
  obtain ⟨h1, h2, h3, h4, h5⟩ := h.2.2.2.2.2 k hk
  have hP := h.2.1
  generalize L.getD k q0 = q at h1 h2 h3 h4 h5 ⊢
  have hr := ris_room h2 hP
  refine ⟨⟨by omega, fun x hx => ?_⟩, by omega, by omega⟩
  obtain ⟨j, hj, e⟩ := List.mem_iff_getElem.1 hx
  obtain ⟨g1, g2, _⟩ := h2 j hj
  have e2 : q.1.getD j 0 = x := by simp [List.getD, hj, ← e]
  rw [e2] at g1 g2
  omega
/-- What the first words of the text of a pool read, kept. -/
def Bv (w : World) (p : Nat) (v0 v1 v2 : Value) (w' : World) : Prop := w'.cell? ⟨p, 0, none⟩ = some v0 ∧ w'.cell? ⟨p, 1, none⟩ = some v1 ∧ w'.cell? ⟨p, 2, none⟩ = some v2 ∧ Hid (Below w.heap.size w w')
theorem Bv.drew {w w' : World} {p : Nat} {v0 v1 v2 : Value} (h : Bv w p v0 v1 v2 w') : Bv w p v0 v1 v2 w'.drew := ⟨h.1, h.2.1, h.2.2.1, Lib.hid h.2.2.2.out.drew⟩
theorem Bv.bel {w w' : World} {p : Nat} {v0 v1 v2 : Value} (h : Bv w p v0 v1 v2 w') : Below w.heap.size w w' := h.2.2.2.out
theorem Bv.below {w w' w'' : World} {p : Nat} {v0 v1 v2 : Value} (h : Bv w p v0 v1 v2 w') (hb : Below w'.heap.size w' w'') : Bv w p v0 v1 v2 w'' := by
  obtain ⟨a1, a2, a3, g⟩ := h
  have q : ∀ {b : Nat} {o : Nat} {v : Value}, w'.cell? ⟨b, o, none⟩ = some v → w''.cell? ⟨b, o, none⟩ = some v := fun {b o v} hc => (hb.cell (p := ⟨b, o, none⟩) (World.block_lt_of_cell? _ _ hc)).trans hc
  exact ⟨q a1, q a2, q a3, Lib.hid (g.out.trans (hb.mono g.out.size))⟩
def ptext (P S : Int) (L : List Qt) : List UInt8 := Lib.itoa P ++ ([47] ++ Lib.itoa S) ++ qtail L L.length
/-- A text and a bool. -/
def Psb (m : ByteArray × Bool) (w : World) (e : Ending) (w' : World) : Prop := e = .returned (.tuple #[.string m.1, .bool m.2]) ∧ Below w.heap.size w w'
theorem Psb.out {s : ByteArray} {z : Bool} {w w' : World} {e : Ending} (h : Psb (s, z) w e w') : e = .returned (.tuple #[.string s, .bool z]) ∧ Below w.heap.size w w' := h
abbrev Qsb := Psb
noncomputable def mPText (X : Pl) : ByteArray × Bool := if pOkB X.1 X.2.1 X.2.2 then (bytesOf (ptext X.1 X.2.1 X.2.2), true) else (⟨#[]⟩, false)
set_option maxHeartbeats 4000000 in
set_option maxRecDepth 100000 in
theorem iPText (X : Pl) (w : World) (lo hi : Nat) (u : Value) (c : CpP w lo hi u X) (hg : PowT w) : Calls Tryd.prog 19 #[u] w (Psb (mPText X) w) := by
  obtain ⟨P, S, L⟩ := X
  obtain ⟨b, rfl, h1, h2, h3, hf, _, _⟩ := c
  simp only at h3 hf
  have b1 := (Below.refl w.heap.size w).alloc (Nat.le_refl _) (.cells #[.int .i64 P, .int .i64 S, .slice (some ⟨b, 0, none⟩) L.length L.length] 44)
  have hpa := pool_at w P S (.slice (some ⟨b, 0, none⟩) L.length L.length)
  have HS := ivalid P S L b b L.length _ (h3.below b1) hf
  unfold Psb mPText
  simp only
  obtain ⟨z, hz⟩ : ∃ z, pOkB P S L = z := ⟨_, rfl⟩
  rw [hz] at HS ⊢
  cases z with
  | false =>
    clear h3 hpa hg
    go_enter Tryd.func19, Tryd.ntmps19
    go_wp2_with fail
    refine HS.mono ?_
    rintro e w1 ⟨rfl, hb1⟩
    go_wp2
    go_ret2
    exact ⟨rfl, b1.trans (hb1.mono b1.size)⟩
  | true =>
    have hok := pOkB_iff.1 hz
    obtain ⟨hl6, hsm⟩ := pOk_small hok
    have hP : -1000000000 ≤ P ∧ P ≤ 1000000000 := by have := hok.1; have := hok.2.1; omega
    have hS : -1000000000 ≤ S ∧ S ≤ 1000000000 := by have := hok.2.2.1; have := hok.2.2.2.1; omega
    have hqt := qtail_len hsm
    have l1 := itoa_len9 hP.1 hP.2
    have l2 := itoa_len9 hS.1 hS.2
    obtain ⟨p1, p2⟩ := hP
    obtain ⟨s1, s2⟩ := hS
    rw [if_pos rfl]
    have HN := Lib.hid (fun (x : Int) (h1 : -1000000000 ≤ x) (h2 : x ≤ 1000000000) w (hp : PowT w) => idecb7 x w h1 h2 hp)
    have HP := Lib.hid hg
    have HPA := Lib.hid hpa
    have HSM := Lib.hid hsm
    have HQT := Lib.hid hqt
    obtain ⟨T1, hT1⟩ : ∃ T, Lib.itoa P ++ [47] = T := ⟨_, rfl⟩
    obtain ⟨T2, hT2⟩ : ∃ T, T1 ++ Lib.itoa S = T := ⟨_, rfl⟩
    have hpt : ptext P S L = T2 ++ qtail L L.length := by rw [← hT2, ← hT1]; simp [ptext]
    rw [hpt]
    have q1 : T1.length = (Lib.itoa P).length + 1 := by rw [← hT1]; simp
    have q2 : T2.length = T1.length + (Lib.itoa S).length := by rw [← hT2]; simp
    have A1 := add_d (Lib.itoa P) [47] T1 (bytesOf (Lib.itoa P)) ⟨#[47]⟩ rfl rfl hT1 (by simp; omega)
    have A2 := add_d T1 (Lib.itoa S) T2 (bytesOf T1) (bytesOf (Lib.itoa S)) rfl rfl hT2 (by omega)
    have H3 := Lib.hid h3
    have B1 := Lib.hid b1
    clear h3 hg hpa hsm hqt hT1 hT2 hpt hz hok b1
    go_enter Tryd.func19, Tryd.ntmps19
    go_wp2_with fail
    refine HS.mono ?_
    rintro e w1 ⟨rfl, hb1⟩
    have hb1' := B1.out.trans (hb1.mono B1.out.size)
    obtain ⟨pc0, pc1, pc2, pcl⟩ := HPA.out.below hb1
    have BV : Bv w1 w.heap.size (.int .i64 P) (.int .i64 S) (.slice (some ⟨b, 0, none⟩) L.length L.length) w1 := ⟨pc0, pc1, pc2, Lib.hid (Below.refl _ _)⟩
    have BW := Lib.hid hb1'
    clear hb1 hb1'
    go_upto_region 3 with fail
    go_cut [4] (fun s4 wx => s4 = .string (bytesOf T2) ∧ Bv w1 w.heap.size (.int .i64 P) (.int .i64 S) (.slice (some ⟨b, 0, none⟩) L.length L.length) wx)
    case first =>
      go_region_held3 (fun w' => w'.cell? ⟨w.heap.size, 0, none⟩ = some (.int .i64 P) ∧ w'.cell? ⟨w.heap.size, 1, none⟩ = some (.int .i64 S) ∧ w'.cell? ⟨w.heap.size, 2, none⟩ = some (.slice (some ⟨b, 0, none⟩) L.length L.length) ∧ Hid (Below w1.heap.size w1 w'))
        (first | exact BV.drew | exact Bv.below (w := w1) (by assumption) (by assumption))
        (first
          | (go_at_call 44; refine (HN.out _ (by omega) (by omega) _ ?_).mono ?_; (exact HP.out.below (BW.out.trans ((show Bv w1 w.heap.size (.int .i64 P) (.int .i64 S) (.slice (some ⟨b, 0, none⟩) L.length L.length) _ from by assumption).bel.mono BW.out.size))); rintro e w2 ⟨rfl, hb⟩))
      all_goals
        go_wp2_with fail
        go_meet
        refine ⟨rfl, ?_⟩
        assumption
    case rest =>
      obtain ⟨rfl, hBV⟩ := hcut
      have hbx := BW.out.trans (hBV.bel.mono BW.out.size)
      obtain ⟨k0, k1, k2, _⟩ := hBV
      clear pc0 pc1 pc2 BV A1 A2
      have HBX := Lib.hid hbx
      clear hbx
      go_wp2
      go_loopg [4, 21] L.length (fun g o i wr => ∃ k : Nat, k ≤ L.length ∧ g = L.length - k ∧ o = .string (bytesOf (T2 ++ qtail L k)) ∧ i = .int .i64 k ∧ Below w.heap.size w wr)
      case atStart => exact ⟨0, Nat.zero_le _, rfl, by rw [qtail_zero, List.append_nil], rfl, HBX.out⟩
      case round =>
        obtain ⟨k, hk, rfl, rfl, rfl, hb⟩ := hrel
        by_cases hlt : k < L.length
        · obtain ⟨c, a1, a2, a3, a4⟩ := (H3.out.below hb).at hlt
          have hsm := HSM.out k hlt
          have hql := HQT.out k hk
          have hqs := qtail_succ L k hlt
          obtain ⟨q, hq⟩ : ∃ q, L.getD k q0 = q := ⟨_, rfl⟩
          rw [hq] at a1 a2 a3 a4 hsm hqs
          obtain ⟨A, m, n⟩ := q
          simp only at a1 a2 a3 a4
          have hqtl := qtext_len hsm
          have lb := (H3.out.below hb).lt
          have bq := (Below.refl wr.heap.size wr).alloc (Nat.le_refl _) (.cells #[.slice (some ⟨c, 0, none⟩) A.length A.length, .int .i64 m, .int .i64 n] 81)
          have HD := iqtext A _ m n _ (a4.below bq) hsm ((HP.out.below hb).below bq)
          obtain ⟨Q, hQ⟩ : ∃ Q, qtext (A, m, n) = Q := ⟨_, rfl⟩
          rw [hQ] at HD hqtl hqs
          obtain ⟨N, hN⟩ : ∃ N, T2 ++ qtail L (k + 1) = N := ⟨_, rfl⟩
          obtain ⟨O, hO⟩ : ∃ O, T2 ++ qtail L k = O := ⟨_, rfl⟩
          obtain ⟨Q1, hQ1⟩ : ∃ Q1, [59] ++ Q = Q1 := ⟨_, rfl⟩
          have q3 : O.length ≤ 2000 := by rw [← hO]; simp; omega
          have q4 : Q1.length = Q.length + 1 := by rw [← hQ1]; simp
          have A5 := add_d [59] Q Q1 ⟨#[59]⟩ (bytesOf Q) rfl rfl hQ1 (by simp; omega)
          have A6 := add_d O Q1 N (bytesOf O) (bytesOf Q1) rfl rfl (by rw [← hN, hqs, ← hO, ← hQ1]; simp) (by omega)
          rw [hO]
          have HNN := Lib.hid hN
          have BQ := Lib.hid bq
          clear hq hsm hqs hQ hQ1 hN hO a4 bq hql
          go_wp2_with fail
          refine HD.mono ?_
          rintro e w5 ⟨rfl, hb5⟩
          go_wp2
          go_roundg (L.length - (k + 1))
          case measure => omega
          case rel =>
            have hb2 := BQ.out.trans (hb5.mono BQ.out.size)
            exact ⟨k + 1, by omega, rfl, by rw [HNN.out], by simp, hb.trans (hb2.mono hb.size)⟩
        · have e : k = L.length := by omega
          subst e
          go_wp2
          go_ret2
          exact ⟨rfl, hb⟩
end Go.Proofs.YtfjpjiieocdgeaaDoor
