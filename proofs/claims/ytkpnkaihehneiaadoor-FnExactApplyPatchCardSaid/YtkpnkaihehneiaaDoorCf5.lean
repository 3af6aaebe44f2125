/- Conflicts of two patches: both answers. -/
import Derived.Test.YtkpnkaihehneiaaDoorCf4
namespace Go.Proofs.YtkpnkaihehneiaaDoor
open Go.ChangeShapes Go.WideShapes Go.ChangeAt Go.RowKit Go.Deep Go.Maps
set_option linter.unusedSimpArgs false
set_option linter.unusedVariables false
theorem CpD.kept {w w' : World} {lo hi : Nat} {v : Value} {l : List Ed} {S : Nat → Prop} (h : CpD w lo hi v l) (hk : Kept w w' S) (hs : ∀ b, lo ≤ b → b < hi → ¬ S b) : CpD w' lo hi v l := ⟨h.1, hk.row h.2.1 (hs lo (Nat.le_refl _) h.2.2.1), h.2.2⟩
theorem CpA.kept {w w' : World} {lo hi : Nat} {v : Value} {l : List Ar} {S : Nat → Prop} (h : CpA w lo hi v l) (hk : Kept w w' S) (hs : ∀ b, lo ≤ b → b < hi → ¬ S b) : CpA w' lo hi v l := ⟨h.1, hk.row h.2.1 (hs lo (Nat.le_refl _) h.2.2.1), h.2.2⟩
theorem pat_wf {L : List Ed} (h : patF L) : ∀ k, k < L.length → (Lit.int .i64 (L.getD k e0).2.1).wf = true := fun k hk => by
  have := (h.2 k hk).1
  exact Go.WalkArith.wf_i64 ⟨by omega, by omega⟩
theorem pat_ok {L : List Ed} (h : patF L) : ∀ e ∈ L, edF e := fun e he => by
  obtain ⟨k, hk, rfl⟩ := List.mem_iff_getElem.1 he
  have := (h.2 k hk).2.1
  simpa [List.getD, hk] using this
theorem cfl_len (P Q : List Ed) : (cfl P Q).length ≤ P.length := by
  unfold cfl
  rw [List.length_map]
  exact List.length_filter_le _ _
noncomputable def mConf (P Q : List Ed) : List Int × Bool := if patB P && patB Q then (cfl P Q, true) else ([], false)
set_option maxHeartbeats 2000000 in
theorem sCO (P Q : List Ed) (w : World) (lo0 hi0 : Nat) (u0 : Value) (h0 : CpD w lo0 hi0 u0 P) (lo1 hi1 : Nat) (u1 : Value) (h1 : CpD w lo1 hi1 u1 Q) : Calls Tryd.prog 25 #[u0, u1] w (PIb (mConf P Q) w) := by
  obtain ⟨rfl, hp, -, fp⟩ := h0
  obtain ⟨rfl, hq, -, fq⟩ := h1
  have HP := spatch P lo0 P.length w hp fp
  have HQ := Lib.hid (fun w' (hw : Below w.heap.size w w') => spatch Q lo1 Q.length w' (hq.below hw) fq)
  have lp := fp.1
  have lq := fq.1
  unfold PIb mConf
  cases ep : patB P with
  | false =>
    rw [ep] at HP
    simp only [Bool.false_and, Bool.false_eq_true, if_false]
    clear ep hp hq HQ
    go_enter Tryd.func25, Tryd.ntmps25
    go_wp2_with fail
    refine HP.mono ?_
    rintro e w1 ⟨rfl, hd⟩
    have hb := hd.below
    go_wp2
    go_ret2
    exact ⟨_, rfl, RdI.nil _ _ _, hb⟩
  | true =>
    rw [ep] at HP
    cases eq : patB Q with
    | false =>
      rw [eq] at HQ
      simp only [Bool.and_false, Bool.false_eq_true, if_false]
      clear ep eq hp hq
      go_enter Tryd.func25, Tryd.ntmps25
      go_wp2_with fail
      refine HP.mono ?_
      rintro e w1 ⟨rfl, hd⟩
      have hb := hd.below
      have HQ1 := HQ.out w1 hb
      go_wp2_with fail
      refine HQ1.mono ?_
      rintro e w2 ⟨rfl, hd2⟩
      have hb2 := hb.trans (hd2.below.mono hb.size)
      go_wp2
      go_ret2
      exact ⟨_, rfl, RdI.nil _ _ _, hb2⟩
    | true =>
      rw [eq] at HQ
      simp only [Bool.and_true, if_true]
      have HC := Lib.hid (fun w' (hw : Below w.heap.size w w') => sconf P Q lo0 P.length lo1 Q.length w' (hp.below hw) (hq.below hw) lp lq (pat_ok (patB_iff.1 eq)))
      clear ep eq hp hq
      go_enter Tryd.func25, Tryd.ntmps25
      go_wp2_with fail
      refine HP.mono ?_
      rintro e w1 ⟨rfl, hd⟩
      have hb := hd.below
      have HQ1 := HQ.out w1 hb
      go_wp2_with fail
      refine HQ1.mono ?_
      rintro e w2 ⟨rfl, hd2⟩
      have hb2 := hb.trans (hd2.below.mono hb.size)
      have HC2 := HC.out w2 hb2
      go_wp2_with fail
      refine HC2.mono ?_
      rintro e w3 ⟨⟨v, rfl, hv⟩, hb3⟩
      have hv' := (hv.mono hb2.size (Nat.le_refl _)).rd
      go_wp2
      go_ret2
      exact ⟨_, rfl, hv', hb2.trans (hb3.mono hb2.size)⟩
set_option maxHeartbeats 2000000 in
set_option maxRecDepth 100000 in
theorem iCO (P Q : List Ed) (w : World) (lo0 hi0 : Nat) (u0 : Value) (h0 : CpD w lo0 hi0 u0 P) (lo1 hi1 : Nat) (u1 : Value) (h1 : CpD w lo1 hi1 u1 Q) : Calls Tryd.prog 26 #[u0, u1] w (QIb (mConf P Q) w) := by
  obtain ⟨rfl, hp, -, fp⟩ := h0
  obtain ⟨rfl, hq, -, fq⟩ := h1
  have HP := ipatch P lo0 P.length w hp fp.2 fp.1
  have HQ := Lib.hid (fun w' (hw : Below w.heap.size w w') => ipatch Q lo1 Q.length w' (hq.below hw) fq.2 fq.1)
  have lp := fp.1
  have lq := fq.1
  unfold QIb mConf
  cases ep : patB P with
  | false =>
    rw [ep] at HP
    simp only [Bool.false_and, Bool.false_eq_true, if_false]
    clear ep hp hq HQ
    go_enter Tryd.func26, Tryd.ntmps26
    go_wp2_with fail
    refine HP.mono ?_
    rintro e w1 ⟨rfl, hb⟩
    go_wp2
    go_ret2
    exact ⟨_, rfl, OwI.nil _ _ _, hb⟩
  | true =>
    rw [ep] at HP
    cases eq : patB Q with
    | false =>
      rw [eq] at HQ
      simp only [Bool.and_false, Bool.false_eq_true, if_false]
      clear ep eq hp hq
      go_enter Tryd.func26, Tryd.ntmps26
      go_wp2_with fail
      refine HP.mono ?_
      rintro e w1 ⟨rfl, hb⟩
      have HQ1 := HQ.out w1 hb
      go_wp2_with fail
      refine HQ1.mono ?_
      rintro e w2 ⟨rfl, hb2'⟩
      have hb2 := hb.trans (hb2'.mono hb.size)
      go_wp2
      go_ret2
      exact ⟨_, rfl, OwI.nil _ _ _, hb2⟩
    | true =>
      rw [eq] at HQ
      simp only [Bool.and_true, if_true]
      have oP := patB_iff.1 ep
      have oQ := patB_iff.1 eq
      have hcs : cfl P Q = shd P Q neE := cfl_shd (pat_incs oP.2) (pat_incs oQ.2)
      rw [hcs]
      have HC := Lib.hid (fun w' (hw : Below w.heap.size w w') => ishared 59 (fun _ _ => rfl) neE P Q lo0 P.length lo1 Q.length w' (hp.below hw) (hq.below hw) lp lq (pat_wf oP) (pat_wf oQ) (fun x y w'' _ _ => icf x y w''))
      clear ep eq hp hq oP oQ hcs
      go_enter Tryd.func26, Tryd.ntmps26
      go_wp2_with fail
      refine HP.mono ?_
      rintro e w1 ⟨rfl, hb⟩
      have HQ1 := HQ.out w1 hb
      go_wp2_with fail
      refine HQ1.mono ?_
      rintro e w2 ⟨rfl, hb2'⟩
      have hb2 := hb.trans (hb2'.mono hb.size)
      have HC2 := HC.out w2 hb2
      go_wp2_with fail
      refine HC2.mono ?_
      rintro e w3 ⟨⟨v, rfl, hv⟩, hb3⟩
      have hv' := hv.mono hb2.size (Nat.le_refl _)
      go_wp2
      go_ret2
      exact ⟨_, rfl, hv', hb2.trans (hb3.mono hb2.size)⟩
end Go.Proofs.YtkpnkaihehneiaaDoor
