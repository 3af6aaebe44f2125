/- ValidDeed: both calls. -/
import Derived.Test.YtkaakomiimcbmaaDdc
namespace Go.Proofs.Ytkaakomiimcbmaa
open Go.ChangeShapes Go.WideShapes Go.ChangeAt Go.RowKit Go.Deep Go.Maps
set_option linter.unusedSimpArgs false
set_option linter.unusedVariables false
noncomputable def iB (X : Dd) : Bool :=
  if X.k = 1 then trB 12 X.m X.t && emptB { X with m := 0, t := [] }
  else if X.k = 2 then voteB X.m X.n X.v && emptB { X with m := 0, n := ⟨#[]⟩, v := 0 }
  else if X.k = 3 then propB X.n X.m X.f X.u X.c X.p && emptB { X with m := 0, n := ⟨#[]⟩, p := [], f := 0, u := 0, c := 0 }
  else if X.k = 4 then true && emptB X else false
theorem trB_in {m : Int} {t : List Int} (h : trB 12 m t = true) : inB m 0 11 = true := by
  unfold trB at h
  rw [Bool.and_eq_true] at h
  have h2 : allDiff 12 (m :: t) := by have := h.2; unfold allDiffB at this; simpa using this
  have := (allDiff_cons.1 h2).1
  exact inB_yes this.1 (by omega)
theorem em_nil : emB ⟨#[]⟩ = true := by
  unfold emB ByteArray.toList
  rw [ByteArray.toList.loop]
  rfl
theorem span_act (f u c : Int) (l : List Ed) : (actBq (f, u, l) && (decide (1 ≤ c) && decide (c ≤ f))) = (patB l && spanB f u c) := by
  by_cases hs : (1 ≤ c ∧ c ≤ 999) ∧ (1 ≤ u ∧ u ≤ 1000) ∧ (c ≤ f ∧ f ≤ u - 1)
  · obtain ⟨h1, h2, h3⟩ := hs
    have e1 : spanB f u c = true := by unfold spanB; rw [inB_yes h1.1 h1.2, inB_yes h2.1 h2.2, inB_yes h3.1 h3.2]; rfl
    have e2 : actBq (f, u, l) = patB l := actBq_pat (X := (f, u, l)) ⟨by show 0 ≤ f; omega, by show f < u; omega, by show u ≤ 1000; omega⟩
    rw [e1, e2, decide_eq_true h1.1, decide_eq_true h3.1]; cases patB l <;> rfl
  · have e1 : spanB f u c = false := by
      unfold spanB
      by_cases h1 : 1 ≤ c ∧ c ≤ 999
      · by_cases h2 : 1 ≤ u ∧ u ≤ 1000
        · have h3 : ¬ (c ≤ f ∧ f ≤ u - 1) := fun h3 => hs ⟨h1, h2, h3⟩
          rw [inB_no h3]; cases inB c 1 999 <;> cases inB u 1 1000 <;> rfl
        · rw [inB_no h2]; cases inB c 1 999 <;> rfl
      · rw [inB_no h1]; rfl
    rw [e1]
    by_cases ha : 0 ≤ f ∧ f < u ∧ u ≤ 1000
    · by_cases h1 : 1 ≤ c
      · by_cases h2 : c ≤ f
        · exact absurd ⟨⟨h1, by omega⟩, ⟨by omega, ha.2.2⟩, h2, by omega⟩ hs
        · rw [decide_eq_false h2]; cases actBq (f, u, l) <;> cases patB l <;> cases decide (1 ≤ c) <;> rfl
      · rw [decide_eq_false h1]; cases actBq (f, u, l) <;> cases patB l <;> rfl
    · have : actBq (f, u, l) = false := actBq_no (fun q => ha q.1)
      rw [this]; cases patB l <;> rfl
theorem dB_iB (X : Dd) : dB X = iB X := by
  obtain ⟨k, m, t, n, v, p, f, u, c⟩ := X
  unfold dB iB
  simp only
  by_cases k1 : k = 1
  · rw [if_pos k1, if_pos k1]
    unfold d1B emptB plainB
    simp only
    cases ht : trB 12 m t with
    | false => cases inB m 0 11 <;> rfl
    | true => rw [trB_in ht]; rfl
  rw [if_neg k1, if_neg k1]
  by_cases k2 : k = 2
  · rw [if_pos k2, if_pos k2]
    unfold d2B emptB voteB plainB
    simp only [em_nil]
    cases inB m 0 11 <;> cases nameB n.data.toList <;> cases inB v 0 3 <;> cases decide (t.length = 0) <;> rfl
  rw [if_neg k2, if_neg k2]
  by_cases k3 : k = 3
  · rw [if_pos k3, if_pos k3]
    unfold d3B emptB propB plainB
    simp only [em_nil]
    rw [span_act]
    cases inB m 0 11 <;> cases nameB n.data.toList <;> cases decide (t.length = 0) <;> cases (v == 0) <;> cases decide (0 < p.length) <;> cases patB p <;> cases spanB f u c <;> rfl
  rw [if_neg k3, if_neg k3]
  by_cases k4 : k = 4
  · rw [if_pos k4, if_pos k4]; rfl
  rw [if_neg k4, if_neg k4]
set_option maxHeartbeats 4000000 in
set_option maxRecDepth 100000 in
theorem ievent0 (X : Dd) (ct cp : Nat) (ma : Option Addr) (mc : Nat) (w : World) (k1 : X.k ≠ 1) (k2 : X.k ≠ 2) (k3 : X.k ≠ 3) (k4 : X.k ≠ 4) (hw : (Lit.int .i64 X.k).wf = true) :
    Calls Try.prog 14 #[ddR X ct cp, .slice ma 12 mc] w fun e w' => (∃ v, e = .returned (.tuple #[v, .bool false])) ∧ Below w.heap.size w w' := by
  obtain ⟨w3, w4, w5, w6, r3, r4, r5, r6, h6, b6, hD⟩ := kinds_laid X (.slice (some ⟨ct, 0, none⟩) X.t.length X.t.length) (.slice (some ⟨cp, 0, none⟩) X.p.length X.p.length) w
  have hlk := h6.look X.k hw
  have c0 := hD.at'.c0
  have hl1 : (decide ((1 : Int) ≤ X.k ∧ X.k ≤ ((4 : Nat) : Int))) = false := decide_eq_false (by omega)
  have hl2 : fvk w.heap.size (kOf 4 X.k) = .nilFunc := by
    unfold kOf
    rw [if_neg (by omega)]; rfl
  rw [hl1, hl2] at hlk
  unfold fv1 at r3
  unfold fv2 at r4
  unfold fv3 at r5
  unfold fv4 at r6
  have hmm := @run_makeMap Try.prog
  clear h6 hD
  unfold ddR ddV
  go_enter Try.func14, Try.ntmps14
  go_wp2
  go_ret2
  exact ⟨⟨_, rfl⟩, b6⟩
theorem ievent (X : Dd) (ct cp : Nat) (ma : Option Addr) (mc : Nat) (w : World) (ht : OwnI w ct X.t) (hp : Es w cp X.p) (hf : FitsDd X) (hw : (Lit.int .i64 X.k).wf = true) :
    Calls Try.prog 14 #[ddR X ct cp, .slice ma 12 mc] w fun e w' => (∃ v, e = .returned (.tuple #[v, .bool (iB X)])) ∧ Below w.heap.size w w' := by
  unfold iB
  by_cases k1 : X.k = 1
  · rw [if_pos k1]; exact ievent1 X ct cp ma mc w ht hp hf k1
  rw [if_neg k1]
  by_cases k2 : X.k = 2
  · rw [if_pos k2]; exact ievent2 X ct cp ma mc w ht hp hf k2
  rw [if_neg k2]
  by_cases k3 : X.k = 3
  · rw [if_pos k3]; exact ievent3 X ct cp ma mc w ht hp hf k3
  rw [if_neg k3]
  by_cases k4 : X.k = 4
  · rw [if_pos k4]; exact ievent4 X ct cp ma mc w ht hp hf k4
  rw [if_neg k4]
  exact ievent0 X ct cp ma mc w k1 k2 k3 k4 hw
set_option maxRecDepth 100000 in
theorem infoISd : (Try.prog.info? 22).map (fun i => (i.zero, i.size, i.bytes)) = some (some (.slice none 0 0), 1, 24) := by kernel_rfl
set_option maxHeartbeats 4000000 in
set_option maxRecDepth 100000 in
theorem iVD (X : Dd) (w : World) (lo hi : Nat) (u : Value) (h : CpDd w lo hi u X) (hw : (Lit.int .i64 X.k).wf = true) : Calls Try.prog 7 #[u] w (Pb (dB X) w) := by
  obtain ⟨ct, cp, rfl, -, -, ht, hp, hf⟩ := h
  rw [dB_iB]
  have b1 := (Below.refl w.heap.size w).alloc (Nat.le_refl _) (.cells #[.int .i64 X.k, .int .i64 X.m, .slice (some ⟨ct, 0, none⟩) X.t.length X.t.length, .string X.n, .int .i64 X.v, .slice (some ⟨cp, 0, none⟩) X.p.length X.p.length, .int .i64 X.f, .int .i64 X.u, .int .i64 X.c] 30)
  obtain ⟨o, hmk⟩ : ∃ o, ∀ w', (Instr.makeSlice 44 (.int .i64 12) (.int .i64 12)).run Try.prog w' = .ok (.slice (some ⟨w'.heap.size, 0, none⟩) 12 12) (w'.alloc o) := ⟨_, fun w' => run_make_row' (P := Try.prog) 44 22 (.slice none 0 0) 24 Try.underlying44 infoISd rfl .i64 .i64 12 (by omega) (by omega) w'⟩
  have HE := Lib.hid (fun ma mc w' (hx : Below w.heap.size w w') => ievent X ct cp ma mc w' (ht.below hx) (hp.below hx) hf hw)
  obtain ⟨z, hz⟩ : ∃ z, iB X = z := ⟨_, rfl⟩
  unfold Pb
  rw [hz] at HE ⊢
  have B1 := Lib.hid b1
  clear ht hp hz b1
  unfold ddR ddV
  go_enter Try.func7, Try.ntmps7
  go_wp2_with fail
  go_region_with (go_at_call 14; refine (HE.out _ _ _ (by first | exact B1.out.alloc B1.out.size _ | exact (B1.out.alloc B1.out.size _).drew | exact B1.out.drew.alloc B1.out.drew.size _)).mono ?_; rintro e w2 ⟨⟨v, rfl⟩, hb2⟩)
  all_goals
    have hbz : Below w.heap.size w w2 := by
      first
        | exact (B1.out.alloc B1.out.size _).trans (hb2.mono (B1.out.alloc B1.out.size _).size)
        | exact ((B1.out.alloc B1.out.size _).drew).trans (hb2.mono ((B1.out.alloc B1.out.size _).drew).size)
        | exact ((B1.out.drew).alloc B1.out.drew.size _).trans (hb2.mono ((B1.out.drew).alloc B1.out.drew.size _).size)
    clear hb2 HE
    go_wp2
    go_ret
    first
      | exact ⟨rfl, hbz⟩
      | exact ⟨rfl, hbz.drew⟩
end Go.Proofs.Ytkaakomiimcbmaa
