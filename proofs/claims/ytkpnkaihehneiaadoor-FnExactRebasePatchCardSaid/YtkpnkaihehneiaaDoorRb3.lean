/- What is left of a patch behind another one: both answers. -/
import Derived.Test.YtkpnkaihehneiaaDoorRb2
namespace Go.Proofs.YtkpnkaihehneiaaDoor
open Go.ChangeShapes Go.WideShapes Go.ChangeAt Go.RowKit Go.Deep
set_option linter.unusedSimpArgs false
set_option linter.unusedVariables false
theorem cfl_nil {P Q : List Ed} (hP : incs P) (hc : cfl P Q = []) {x y : Ed} (hx : x ∈ P) (hy : fnd Q x.2.1 = some y) : y = x := by
  by_cases e : y = x
  · exact e
  · have : x.2.1 ∈ cfl P Q := cfl_mem.2 ⟨x, hx, rfl, y, hy, e⟩
    rw [hc] at this
    cases this
/-- Q without the edits that P has, too. -/
def reb (P Q : List Ed) : List Ed := Q.filter fun y => (fnd P y.2.1).isNone
theorem reb_len (P Q : List Ed) : (reb P Q).length ≤ Q.length := List.length_filter_le _ _
theorem reb_mem {P Q : List Ed} (hP : incs P) (hQ : incs Q) (hc : cfl P Q = []) : reb P Q = Q.filter fun y => !memE P y := by
  unfold reb
  refine List.filter_congr fun y hy => ?_
  cases hf : fnd P y.2.1 with
  | none =>
    rw [memE_no (fun hm => fnd_none.1 hf y hm rfl)]
    rfl
  | some x =>
    obtain ⟨h1, h2⟩ := fnd_some hf
    have : y = x := cfl_nil hP hc h1 (by rw [h2]; exact fnd_of_mem hQ hy)
    subst this
    rw [memE_yes h1]
    rfl
theorem reb_take {P Q : List Ed} {k : Nat} (hk : k < Q.length) : reb P (Q.take (k + 1)) = reb P (Q.take k) ++ (if (fnd P (Q.getD k e0).2.1).isNone then [Q.getD k e0] else []) := by
  rw [take_snoc hk]
  unfold reb
  rw [List.filter_append]
  congr 1
  generalize Q.getD k e0 = q
  cases hl : fnd P q.2.1 with
  | none => simp [hl]
  | some x => simp [hl]
noncomputable def mReb (P Q : List Ed) : List Ed × Bool := if (patB P && patB Q) && (cfl P Q).isEmpty then (reb P Q, true) else ([], false)
theorem mReb_conf {P Q : List Ed} (h : mConf P Q = (cfl P Q, true)) (hc : cfl P Q = []) : mReb P Q = (reb P Q, true) := by
  unfold mConf at h
  unfold mReb
  split at h
  · rename_i hq; rw [hq, hc]; rfl
  · injection h with _ h; cases h
set_option maxHeartbeats 2000000 in
set_option maxRecDepth 100000 in
theorem iRB (P Q : List Ed) (w : World) (lo0 hi0 : Nat) (u0 : Value) (h0 : CpD w lo0 hi0 u0 P) (lo1 hi1 : Nat) (u1 : Value) (h1 : CpD w lo1 hi1 u1 Q) : Calls Tryd.prog 31 #[u0, u1] w (QDb (mReb P Q) w) := by
  have ba := (Below.refl w.heap.size w).alloc (Nat.le_refl _) (.cells #[u0] 32)
  have HC := iCO P Q _ lo0 hi0 u0 (h0.below ba) lo1 hi1 u1 (h1.below ba)
  obtain ⟨rfl, hp, -, fp⟩ := h0
  obtain ⟨rfl, hq, -, fq⟩ := h1
  have lp := fp.1
  have lq := fq.1
  have kp : (w.alloc (.cells #[.slice (some ⟨lo0, 0, none⟩) P.length P.length] 32)).cell? ⟨w.heap.size, 0, none⟩ = some (.slice (some ⟨lo0, 0, none⟩) P.length P.length) := by go_simp
  have hsz : w.heap.size < (w.alloc (.cells #[.slice (some ⟨lo0, 0, none⟩) P.length P.length] 32)).heap.size := by simp
  have hlo0 := hp.lt
  have hlo1 := hq.lt
  unfold QDb
  by_cases hv : (patB P && patB Q) = true
  · have hm : mConf P Q = (cfl P Q, true) := by unfold mConf; rw [if_pos hv]
    rw [hm] at HC
    by_cases hc : cfl P Q = []
    · rw [mReb_conf hm hc]
      rw [hc] at HC
      have oP : patF P := patB_iff.1 (by simpa using (Bool.and_eq_true_iff.1 hv).1)
      have oQ : patF Q := patB_iff.1 (by simpa using (Bool.and_eq_true_iff.1 hv).2)
      have hrm := reb_mem (pat_incs oP.2) (pat_incs oQ.2) hc
      rw [hrm]
      have hfl := List.length_filter_le (fun y => !memE P y) Q
      clear hm hc hv oP oQ hrm
      have KP := Lib.hid kp
      have BA := Lib.hid ba
      have HP := Lib.hid hp
      have HQ := Lib.hid hq
      have HCL := Lib.hid (fun w' (hw : Below w.heap.size w w') => clone7 lo1 Q.length Q w' (hq.below hw) lq)
      clear kp hp hq ba
      go_enter Tryd.func31, Tryd.ntmps31
      go_wp2_with fail
      refine HC.mono ?_
      intro e w2 hpo
      obtain ⟨v, rfl, hv, hb2⟩ := hpo
      obtain ⟨va, vc, rfl⟩ := hv.rd.1.shape
      have hbw := BA.out.trans (hb2.mono BA.out.size)
      have k2 := Lib.hid ((hb2.cell (p := ⟨w.heap.size, 0, none⟩) hsz).trans KP.out)
      have HCL2 := HCL.out w2 hbw
      have l2 : w.heap.size < w2.heap.size := Nat.lt_of_lt_of_le hsz hb2.size
      clear hv hb2 HC
      go_wp2_with fail
      refine HCL2.mono ?_
      rintro e w3 ⟨⟨g, cp, N, f, rfl, g1, g2, hrow, hN, hcp, hfv⟩, hb3⟩
      have k3 := (hb3.cell (p := ⟨w.heap.size, 0, none⟩) l2).trans k2.out
      have hbw3 := hbw.trans (hb3.mono hbw.size)
      have hR3 : Rbs w.heap.size lo0 P w3 := ⟨k3, HP.out.below hbw3, Nat.lt_of_lt_of_le l2 hb3.size⟩
      have HD := del_any7 (fun y => !memE P y) 63 (fun _ _ => rfl) #[.pointer (some ⟨w.heap.size, 0, none⟩)] (Rbs w.heap.size lo0 P)
        (fun x w' hw => by simpa using ireb1 w.heap.size lo0 P x w' hw lp) g cp N (fun w' w'' h hk => h.kept hk (by omega) (by omega)) f Q w3 hR3 lq hrow hN hcp hfv
      clear k3 hR3 hrow hfv HCL2
      go_wp2_with fail
      refine HD.mono ?_
      rintro e w4 ⟨⟨f', rfl, hrow', hfv'⟩, hk4⟩
      have hb4 : Below w.heap.size w w4 := hbw3.trans (hk4.below (by have := hbw3.size; omega) (fun x hx => by omega))
      have hOW : OwD w4 w.heap.size w4.heap.size (.slice (some ⟨g, 0, none⟩) (Q.filter fun y => !memE P y).length cp) (Q.filter fun y => !memE P y) :=
        ⟨.inr ⟨g, cp, N, f', rfl, by have := hbw.size; omega, by have := hk4.size; omega, by omega, hrow', hfv'⟩, by omega⟩
      have HOW := Lib.hid hOW
      clear hOW hrow' hfv' hk4 HD
      go_wp2
      go_ret2
      exact ⟨_, rfl, HOW.out, hb4⟩
    · have hmr : mReb P Q = ([], false) := by
        unfold mReb
        rw [if_neg]
        intro h
        have h2 := (Bool.and_eq_true_iff.1 h).2
        exact hc (by simpa using h2)
      rw [hmr]
      have hpos : 0 < (cfl P Q).length := List.length_pos_iff.2 hc
      have hpl : (0 : Int) < ((cfl P Q).length : Int) := by omega
      have hcl := cfl_len P Q
      obtain ⟨C, hC⟩ : ∃ C, cfl P Q = C := ⟨_, rfl⟩
      rw [hC] at HC hpos hpl hcl
      have BA := Lib.hid ba
      clear hm hc hv hmr hC kp hp hq ba
      go_enter Tryd.func31, Tryd.ntmps31
      go_wp2_with fail
      refine HC.mono ?_
      intro e w2 hpo
      obtain ⟨v, rfl, hv, hb2⟩ := hpo
      obtain ⟨va, vc, rfl⟩ := hv.rd.1.shape
      have hbw := BA.out.trans (hb2.mono BA.out.size)
      clear hv hb2 HC
      go_wp2
      go_ret2
      exact ⟨_, rfl, OwD.nil _ _ _, hbw⟩
  · have hm : mConf P Q = ([], false) := by unfold mConf; rw [if_neg hv]
    have hmr : mReb P Q = ([], false) := by
      unfold mReb
      rw [if_neg]
      intro h
      exact hv (Bool.and_eq_true_iff.1 h).1
    rw [hm] at HC
    rw [hmr]
    have BA := Lib.hid ba
    clear hm hv hmr kp hp hq ba
    go_enter Tryd.func31, Tryd.ntmps31
    go_wp2_with fail
    refine HC.mono ?_
    intro e w2 hpo
    obtain ⟨v, rfl, hv, hb2⟩ := hpo
    obtain ⟨va, vc, rfl⟩ := hv.rd.1.shape
    have hbw := BA.out.trans (hb2.mono BA.out.size)
    clear hv hb2 HC
    go_wp2
    go_ret2
    exact ⟨_, rfl, OwD.nil _ _ _, hbw⟩
end Go.Proofs.YtkpnkaihehneiaaDoor
