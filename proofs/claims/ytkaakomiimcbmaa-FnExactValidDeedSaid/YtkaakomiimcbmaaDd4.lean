/- Whether a deed is valid: the specification's look. -/
import Derived.Test.YtkaakomiimcbmaaDd3
import Derived.Test.YtkaakomiimcbmaaEd5
namespace Go.Proofs.Ytkaakomiimcbmaa
open Go.ChangeShapes Go.WideShapes Go.ChangeAt Go.RowKit Go.Deep
set_option linter.unusedSimpArgs false
set_option linter.unusedVariables false
def emB (n : ByteArray) : Bool := n.toList.isEmpty
noncomputable def d1B (X : Dd) : Bool := inB X.m 0 11 && (trB 12 X.m X.t && (emB X.n && ((X.v == 0) && plainB X)))
noncomputable def d2B (X : Dd) : Bool := inB X.m 0 11 && (decide (X.t.length = 0) && (nameB X.n.data.toList && (inB X.v 0 3 && plainB X)))
noncomputable def d3B (X : Dd) : Bool := inB X.m 0 11 && (decide (X.t.length = 0) && (nameB X.n.data.toList && ((X.v == 0) && (decide (0 < X.p.length) && (patB X.p && spanB X.f X.u X.c)))))
noncomputable def d4B (X : Dd) : Bool := (X.m == 0) && (decide (X.t.length = 0) && (emB X.n && ((X.v == 0) && plainB X)))
noncomputable def dB (X : Dd) : Bool := if X.k = 1 then d1B X else if X.k = 2 then d2B X else if X.k = 3 then d3B X else if X.k = 4 then d4B X else false
/-- The facts that the specification's look at a deed in block b walks on. -/
structure Dsp (w : World) (b : Nat) (X : Dd) (ct cp : Nat) : Prop where
  at' : DdAt w b X (.slice (some ⟨ct, 0, none⟩) X.t.length X.t.length) (.slice (some ⟨cp, 0, none⟩) X.p.length X.p.length)
  t : OwnI w ct X.t
  p : Es w cp X.p
  fits : FitsDd X

theorem emB_val (n : ByteArray) : n.toList.isEmpty = emB n := rfl
set_option maxHeartbeats 8000000 in
set_option maxRecDepth 100000 in
theorem sdeed1 (b ct cp : Nat) (X : Dd) (w : World) (h : Dsp w b X ct cp) (hk : X.k = 1) :
    Calls Try.prog 11 #[.pointer (some ⟨b, 0, none⟩)] w fun e w' => e = .returned (.bool (d1B X)) ∧ Drw w w' := by
  obtain ⟨ha, ht, hp, hf⟩ := h
  have HPL := fun n => splain b X _ _ _ (w.drewN n) (ha.below (below_drewN (Below.refl _ _) n))
  obtain ⟨c0, c1, c2, c3, c4, -, -, -, -, lb⟩ := ha
  have HM := in_val X.m 0 11
  have HT0 := fun (k : Nat) (hk : k < 12) n => strust k ct X.t (w.drewN n) hk (ht.below (below_drewN (Below.refl _ _) n)) hf.1
  unfold d1B
  have em := emB_val X.n
  rw [hk] at c0
  obtain ⟨xk, xm, xt, xn, xv, xp, xf, xu, xc⟩ := X
  have hl := hf.1
  simp only at HPL c0 c1 c2 c3 c4 HM HT0 em hl ⊢
  clear ht hp hf hk
  generalize plainB _ = z5 at HPL ⊢
  obtain ⟨z4, h4⟩ : ∃ z, (xv == 0) = z := ⟨_, rfl⟩
  obtain ⟨z3, h3⟩ : ∃ z, emB xn = z := ⟨_, rfl⟩
  rw [h3] at em
  rw [h3, h4]
  by_cases hm : 0 ≤ xm ∧ xm ≤ 11
  · obtain ⟨k, rfl⟩ : ∃ k : Nat, xm = (k : Int) := ⟨xm.toNat, by omega⟩
    have HT := HT0 k (by omega)
    rw [inB_yes hm.1 hm.2] at HM ⊢
    generalize trB 12 (k : Int) xt = z2 at HT ⊢
    clear hm HT0
    cases z2 with
    | false =>
      go_enter Try.func11, Try.ntmps11
      go_wp2_with fail
      refine (HM _).mono ?_
      rintro e w1 ⟨rfl, rfl⟩
      go_wp2_with fail
      go_big_quiet ((first
        | (go_at_call 19; exact Drw.quiet (HT _))
        | (go_at_call 20; exact quiet_left (HPL _))))
      go_wp2
      go_ret
      exact ⟨rfl, Drw.drewN (Drw.refl _) _⟩
    | true =>
      cases z3 with
      | false =>
        go_enter Try.func11, Try.ntmps11
        go_wp2_with fail
        refine (HM _).mono ?_
        rintro e w1 ⟨rfl, rfl⟩
        go_wp2_with fail
        go_big_quiet ((first
          | (go_at_call 19; exact Drw.quiet (HT _))
          | (go_at_call 20; exact quiet_left (HPL _))))
        go_wp2
        go_ret
        exact ⟨rfl, Drw.drewN (Drw.refl _) _⟩
      | true =>
        cases z4 with
        | false =>
          go_enter Try.func11, Try.ntmps11
          go_wp2_with fail
          refine (HM _).mono ?_
          rintro e w1 ⟨rfl, rfl⟩
          go_wp2_with fail
          go_big_quiet ((first
            | (go_at_call 19; exact Drw.quiet (HT _))
            | (go_at_call 20; exact quiet_left (HPL _))))
          go_wp2
          go_ret
          exact ⟨rfl, Drw.drewN (Drw.refl _) _⟩
        | true =>
          cases z5 with
          | false =>
            go_enter Try.func11, Try.ntmps11
            go_wp2_with fail
            refine (HM _).mono ?_
            rintro e w1 ⟨rfl, rfl⟩
            go_wp2_with fail
            go_big_quiet ((first
              | (go_at_call 19; exact Drw.quiet (HT _))
              | (go_at_call 20; exact quiet_left (HPL _))))
            go_wp2
            go_ret
            exact ⟨rfl, Drw.drewN (Drw.refl _) _⟩
          | true =>
            go_enter Try.func11, Try.ntmps11
            go_wp2_with fail
            refine (HM _).mono ?_
            rintro e w1 ⟨rfl, rfl⟩
            go_wp2_with fail
            go_big_quiet ((first
              | (go_at_call 19; exact Drw.quiet (HT _))
              | (go_at_call 20; exact quiet_left (HPL _))))
            go_wp2
            go_ret
            exact ⟨rfl, Drw.drewN (Drw.refl _) _⟩
  · rw [inB_no hm] at HM ⊢
    clear HT0 hm
    go_enter Try.func11, Try.ntmps11
    go_wp2_with fail
    refine (HM _).mono ?_
    rintro e w1 ⟨rfl, rfl⟩
    go_wp2_with fail
    go_big_quiet ((fail))
    go_wp2
    go_ret
    exact ⟨rfl, Drw.drewN (Drw.refl _) _⟩
set_option maxHeartbeats 8000000 in
set_option maxRecDepth 100000 in
theorem sdeed3 (b ct cp : Nat) (X : Dd) (w : World) (h : Dsp w b X ct cp) (hk : X.k = 3) :
    Calls Try.prog 11 #[.pointer (some ⟨b, 0, none⟩)] w fun e w' => e = .returned (.bool (d3B X)) ∧ Drw w w' := by
  obtain ⟨ha, ht, hp, hf⟩ := h
  obtain ⟨c0, c1, c2, c3, c4, c5, c6, c7, c8, lb⟩ := ha
  have HM := in_val X.m 0 11
  have HN := fun n => sname X.n (w.drewN n) (by have := hf.2.1; unfold maxLen; omega)
  have HP := fun n => spatch X.p cp X.p.length (w.drewN n) (hp.below (below_drewN (Below.refl _ _) n)) hf.2.2
  have HSP := fun n => sspan X.f X.u X.c (w.drewN n)
  unfold d3B
  rw [hk] at c0
  obtain ⟨xk, xm, xt, xn, xv, xp, xf, xu, xc⟩ := X
  have hl := hf.1
  have hl2 := hf.2.2.1
  simp only at c0 c1 c2 c3 c4 c5 c6 c7 c8 HM HN HP HSP hl hl2 ⊢
  clear ht hp hf hk
  generalize inB xm 0 11 = z1 at HM ⊢
  generalize nameB xn.data.toList = z3 at HN ⊢
  generalize patB xp = z6 at HP ⊢
  generalize spanB xf xu xc = z7 at HSP ⊢
  obtain ⟨nt, hnt⟩ : ∃ n, xt.length = n := ⟨_, rfl⟩
  obtain ⟨np, hnp⟩ : ∃ n, xp.length = n := ⟨_, rfl⟩
  rw [hnt] at c2 hl ⊢
  rw [hnp] at c5 HP hl2 ⊢
  clear hnt hnp
  have e2 : ((nt : Int) == 0) = decide (nt = 0) := by
    by_cases q : nt = 0
    · subst q; rfl
    · rw [decide_eq_false q]; simp; omega
  have e5 : decide ((0 : Int) < (np : Int)) = decide (0 < np) := by
    by_cases q : 0 < np
    · rw [decide_eq_true q, decide_eq_true (by omega)]
    · rw [decide_eq_false q, decide_eq_false (by omega)]
  obtain ⟨z2, h2⟩ : ∃ z, decide (nt = 0) = z := ⟨_, rfl⟩
  obtain ⟨z5, h5⟩ : ∃ z, decide (0 < np) = z := ⟨_, rfl⟩
  obtain ⟨z4, h4⟩ : ∃ z, (xv == 0) = z := ⟨_, rfl⟩
  rw [h2] at e2
  rw [h5] at e5
  rw [h2, h4, h5]
  clear h2
  have h6 : (0 < np) = (z5 = true) := by rw [← h5]; simp
  cases z1 with
  | false =>
    go_enter Try.func11, Try.ntmps11
    go_wp2_with fail
    refine (HM _).mono ?_
    rintro e w1 ⟨rfl, rfl⟩
    go_wp2_with fail
    go_big_quiet ((first
      | (go_at_call 21; exact quiet_left (HN _))
      | (go_at_call 22; exact Drw.quiet (HP _))
      | (go_at_call 23; exact quiet_left (HSP _))))
    go_wp2
    go_ret
    exact ⟨rfl, Drw.drewN (Drw.refl _) _⟩
  | true =>
    cases z2 with
    | false =>
      go_enter Try.func11, Try.ntmps11
      go_wp2_with fail
      refine (HM _).mono ?_
      rintro e w1 ⟨rfl, rfl⟩
      go_wp2_with fail
      go_big_quiet ((first
        | (go_at_call 21; exact quiet_left (HN _))
        | (go_at_call 22; exact Drw.quiet (HP _))
        | (go_at_call 23; exact quiet_left (HSP _))))
      go_wp2
      go_ret
      exact ⟨rfl, Drw.drewN (Drw.refl _) _⟩
    | true =>
      cases z3 with
      | false =>
        go_enter Try.func11, Try.ntmps11
        go_wp2_with fail
        refine (HM _).mono ?_
        rintro e w1 ⟨rfl, rfl⟩
        go_wp2_with fail
        go_big_quiet ((first
          | (go_at_call 21; exact quiet_left (HN _))
          | (go_at_call 22; exact Drw.quiet (HP _))
          | (go_at_call 23; exact quiet_left (HSP _))))
        go_wp2
        go_ret
        exact ⟨rfl, Drw.drewN (Drw.refl _) _⟩
      | true =>
        cases z4 with
        | false =>
          go_enter Try.func11, Try.ntmps11
          go_wp2_with fail
          refine (HM _).mono ?_
          rintro e w1 ⟨rfl, rfl⟩
          go_wp2_with fail
          go_big_quiet ((first
            | (go_at_call 21; exact quiet_left (HN _))
            | (go_at_call 22; exact Drw.quiet (HP _))
            | (go_at_call 23; exact quiet_left (HSP _))))
          go_wp2
          go_ret
          exact ⟨rfl, Drw.drewN (Drw.refl _) _⟩
        | true =>
          cases z5 with
          | false =>
            go_enter Try.func11, Try.ntmps11
            go_wp2_with fail
            refine (HM _).mono ?_
            rintro e w1 ⟨rfl, rfl⟩
            go_wp2_with fail
            go_big_quiet ((first
              | (go_at_call 21; exact quiet_left (HN _))
              | (go_at_call 22; exact Drw.quiet (HP _))
              | (go_at_call 23; exact quiet_left (HSP _))))
            go_wp2
            go_ret
            exact ⟨rfl, Drw.drewN (Drw.refl _) _⟩
          | true =>
            cases z6 with
            | false =>
              go_enter Try.func11, Try.ntmps11
              go_wp2_with fail
              refine (HM _).mono ?_
              rintro e w1 ⟨rfl, rfl⟩
              go_wp2_with fail
              go_big_quiet ((first
                | (go_at_call 21; exact quiet_left (HN _))
                | (go_at_call 22; exact Drw.quiet (HP _))
                | (go_at_call 23; exact quiet_left (HSP _))))
              go_wp2
              go_ret
              exact ⟨rfl, Drw.drewN (Drw.refl _) _⟩
            | true =>
              cases z7 with
              | false =>
                go_enter Try.func11, Try.ntmps11
                go_wp2_with fail
                refine (HM _).mono ?_
                rintro e w1 ⟨rfl, rfl⟩
                go_wp2_with fail
                go_big_quiet ((first
                  | (go_at_call 21; exact quiet_left (HN _))
                  | (go_at_call 22; exact Drw.quiet (HP _))
                  | (go_at_call 23; exact quiet_left (HSP _))))
                go_wp2
                go_ret
                exact ⟨rfl, Drw.drewN (Drw.refl _) _⟩
              | true =>
                go_enter Try.func11, Try.ntmps11
                go_wp2_with fail
                refine (HM _).mono ?_
                rintro e w1 ⟨rfl, rfl⟩
                go_wp2_with fail
                go_big_quiet ((first
                  | (go_at_call 21; exact quiet_left (HN _))
                  | (go_at_call 22; exact Drw.quiet (HP _))
                  | (go_at_call 23; exact quiet_left (HSP _))))
                go_wp2
                go_ret
                exact ⟨rfl, Drw.drewN (Drw.refl _) _⟩
set_option maxHeartbeats 8000000 in
set_option maxRecDepth 100000 in
theorem sdeed2 (b ct cp : Nat) (X : Dd) (w : World) (h : Dsp w b X ct cp) (hk : X.k = 2) :
    Calls Try.prog 11 #[.pointer (some ⟨b, 0, none⟩)] w fun e w' => e = .returned (.bool (d2B X)) ∧ Drw w w' := by
  obtain ⟨ha, ht, hp, hf⟩ := h
  have HPL := fun w' (e : w = w') => splain b X _ _ _ w' (e ▸ ha)
  obtain ⟨c0, c1, c2, c3, c4, -, -, -, -, lb⟩ := ha
  have HM := in_val X.m 0 11
  have HV := in_val X.v 0 3
  have HN := fun w' => sname X.n w' (by have := hf.2.1; unfold maxLen; omega)
  unfold d2B
  rw [hk] at c0
  obtain ⟨xk, xm, xt, xn, xv, xp, xf, xu, xc⟩ := X
  have hl := hf.1
  simp only at HPL c0 c1 c2 c3 c4 HM HN HV hl ⊢
  clear ht hp hf hk
  generalize plainB _ = z5 at HPL ⊢
  generalize inB xm 0 11 = z1 at HM ⊢
  generalize nameB xn.data.toList = z3 at HN ⊢
  generalize inB xv 0 3 = z4 at HV ⊢
  obtain ⟨nt, hnt⟩ : ∃ n, xt.length = n := ⟨_, rfl⟩
  rw [hnt] at c2 hl ⊢
  clear hnt
  have e2 : ((nt : Int) == 0) = decide (nt = 0) := by
    by_cases q : nt = 0
    · subst q; rfl
    · rw [decide_eq_false q]; simp; omega
  obtain ⟨z2, h2⟩ : ∃ z, decide (nt = 0) = z := ⟨_, rfl⟩
  rw [h2] at e2
  rw [h2]
  clear h2
  have HPL := HPL w rfl
  cases z1 with
  | false =>
    go_enter Try.func11, Try.ntmps11
    go_wp2_with fail
    refine (HM _).mono ?_
    rintro e w1 ⟨rfl, rfl⟩
    go_wp2
    go_ret
    exact ⟨rfl, Drw.refl _⟩
  | true =>
    cases z2 with
    | false =>
      go_enter Try.func11, Try.ntmps11
      go_wp2_with fail
      refine (HM _).mono ?_
      rintro e w1 ⟨rfl, rfl⟩
      go_wp2
      go_ret
      exact ⟨rfl, Drw.refl _⟩
    | true =>
      cases z3 with
      | false =>
        go_enter Try.func11, Try.ntmps11
        go_wp2_with fail
        refine (HM _).mono ?_
        rintro e w1 ⟨rfl, rfl⟩
        go_wp2_with fail
        refine (HN _).mono ?_
        rintro e w1 ⟨rfl, rfl⟩
        go_wp2
        go_ret
        exact ⟨rfl, Drw.refl _⟩
      | true =>
        cases z4 with
        | false =>
          go_enter Try.func11, Try.ntmps11
          go_wp2_with fail
          refine (HM _).mono ?_
          rintro e w1 ⟨rfl, rfl⟩
          go_wp2_with fail
          refine (HN _).mono ?_
          rintro e w1 ⟨rfl, rfl⟩
          go_wp2_with fail
          refine (HV _).mono ?_
          rintro e w1 ⟨rfl, rfl⟩
          go_wp2
          go_ret
          exact ⟨rfl, Drw.refl _⟩
        | true =>
          cases z5 with
          | false =>
            go_enter Try.func11, Try.ntmps11
            go_wp2_with fail
            refine (HM _).mono ?_
            rintro e w1 ⟨rfl, rfl⟩
            go_wp2_with fail
            refine (HN _).mono ?_
            rintro e w1 ⟨rfl, rfl⟩
            go_wp2_with fail
            refine (HV _).mono ?_
            rintro e w1 ⟨rfl, rfl⟩
            go_wp2_with fail
            refine (HPL).mono ?_
            rintro e w1 ⟨rfl, rfl⟩
            go_wp2
            go_ret
            exact ⟨rfl, Drw.refl _⟩
          | true =>
            go_enter Try.func11, Try.ntmps11
            go_wp2_with fail
            refine (HM _).mono ?_
            rintro e w1 ⟨rfl, rfl⟩
            go_wp2_with fail
            refine (HN _).mono ?_
            rintro e w1 ⟨rfl, rfl⟩
            go_wp2_with fail
            refine (HV _).mono ?_
            rintro e w1 ⟨rfl, rfl⟩
            go_wp2_with fail
            refine (HPL).mono ?_
            rintro e w1 ⟨rfl, rfl⟩
            go_wp2
            go_ret
            exact ⟨rfl, Drw.refl _⟩
set_option maxHeartbeats 8000000 in
set_option maxRecDepth 100000 in
theorem sdeed4 (b ct cp : Nat) (X : Dd) (w : World) (h : Dsp w b X ct cp) (hk : X.k = 4) :
    Calls Try.prog 11 #[.pointer (some ⟨b, 0, none⟩)] w fun e w' => e = .returned (.bool (d4B X)) ∧ Drw w w' := by
  obtain ⟨ha, ht, hp, hf⟩ := h
  have HPL := fun w' (e : w = w') => splain b X _ _ _ w' (e ▸ ha)
  obtain ⟨c0, c1, c2, c3, c4, -, -, -, -, lb⟩ := ha
  have HM := in_val X.m 0 11
  unfold d4B
  have em := emB_val X.n
  rw [hk] at c0
  obtain ⟨xk, xm, xt, xn, xv, xp, xf, xu, xc⟩ := X
  have hl := hf.1
  simp only at HPL c0 c1 c2 c3 c4 HM em hl ⊢
  clear ht hp hf hk
  generalize plainB _ = z5 at HPL ⊢
  generalize inB xm 0 11 = zm at HM
  obtain ⟨nt, hnt⟩ : ∃ n, xt.length = n := ⟨_, rfl⟩
  rw [hnt] at c2 hl ⊢
  clear hnt
  have e2 : ((nt : Int) == 0) = decide (nt = 0) := by
    by_cases q : nt = 0
    · subst q; rfl
    · rw [decide_eq_false q]; simp; omega
  obtain ⟨z2, h2⟩ : ∃ z, decide (nt = 0) = z := ⟨_, rfl⟩
  obtain ⟨z1, h1⟩ : ∃ z, (xm == 0) = z := ⟨_, rfl⟩
  obtain ⟨z4, h4⟩ : ∃ z, (xv == 0) = z := ⟨_, rfl⟩
  obtain ⟨z3, h3⟩ : ∃ z, emB xn = z := ⟨_, rfl⟩
  rw [h3] at em
  rw [h2] at e2
  rw [h1, h2, h3, h4]
  clear h2
  have HPL := HPL w rfl
  cases z1 with
  | false =>
    go_enter Try.func11, Try.ntmps11
    go_wp2_with fail
    refine (HM _).mono ?_
    rintro e w1 ⟨rfl, rfl⟩
    go_wp2
    go_ret
    exact ⟨rfl, Drw.refl _⟩
  | true =>
    cases z2 with
    | false =>
      go_enter Try.func11, Try.ntmps11
      go_wp2_with fail
      refine (HM _).mono ?_
      rintro e w1 ⟨rfl, rfl⟩
      go_wp2
      go_ret
      exact ⟨rfl, Drw.refl _⟩
    | true =>
      cases z3 with
      | false =>
        go_enter Try.func11, Try.ntmps11
        go_wp2_with fail
        refine (HM _).mono ?_
        rintro e w1 ⟨rfl, rfl⟩
        go_wp2
        go_ret
        exact ⟨rfl, Drw.refl _⟩
      | true =>
        cases z4 with
        | false =>
          go_enter Try.func11, Try.ntmps11
          go_wp2_with fail
          refine (HM _).mono ?_
          rintro e w1 ⟨rfl, rfl⟩
          go_wp2
          go_ret
          exact ⟨rfl, Drw.refl _⟩
        | true =>
          cases z5 with
          | false =>
            go_enter Try.func11, Try.ntmps11
            go_wp2_with fail
            refine (HM _).mono ?_
            rintro e w1 ⟨rfl, rfl⟩
            go_wp2_with fail
            refine HPL.mono ?_
            rintro e w1 ⟨rfl, rfl⟩
            go_wp2
            go_ret
            exact ⟨rfl, Drw.refl _⟩
          | true =>
            go_enter Try.func11, Try.ntmps11
            go_wp2_with fail
            refine (HM _).mono ?_
            rintro e w1 ⟨rfl, rfl⟩
            go_wp2_with fail
            refine HPL.mono ?_
            rintro e w1 ⟨rfl, rfl⟩
            go_wp2
            go_ret
            exact ⟨rfl, Drw.refl _⟩
set_option maxHeartbeats 2000000 in
set_option maxRecDepth 100000 in
theorem sdeed (b ct cp : Nat) (X : Dd) (w : World) (h : Dsp w b X ct cp) :
    Calls Try.prog 11 #[.pointer (some ⟨b, 0, none⟩)] w fun e w' => e = .returned (.bool (dB X)) ∧ Drw w w' := by
  unfold dB
  by_cases k1 : X.k = 1
  · rw [if_pos k1]; exact sdeed1 b ct cp X w h k1
  rw [if_neg k1]
  by_cases k2 : X.k = 2
  · rw [if_pos k2]; exact sdeed2 b ct cp X w h k2
  rw [if_neg k2]
  by_cases k3 : X.k = 3
  · rw [if_pos k3]; exact sdeed3 b ct cp X w h k3
  rw [if_neg k3]
  by_cases k4 : X.k = 4
  · rw [if_pos k4]; exact sdeed4 b ct cp X w h k4
  rw [if_neg k4]
  obtain ⟨ha, -, -, -⟩ := h
  obtain ⟨c0, c1, -, -, -, -, -, -, -, lb⟩ := ha
  have HM := in_val X.m 0 11
  generalize inB X.m 0 11 = zm at HM
  have e1 : (X.k == 1) = false := by simp [k1]
  have e2 : (X.k == 2) = false := by simp [k2]
  have e3 : (X.k == 3) = false := by simp [k3]
  have e4 : (X.k == 4) = false := by simp [k4]
  go_enter Try.func11, Try.ntmps11
  go_wp2_with fail
  refine (HM _).mono ?_
  rintro e w1 ⟨rfl, rfl⟩
  go_wp2
  go_ret
  exact ⟨rfl, Drw.refl _⟩
theorem sVD (X : Dd) (w : World) (lo hi : Nat) (u : Value) (h : CpDd w lo hi u X) : Calls Try.prog 5 #[u] w (Pb (dB X) w) := by
  obtain ⟨ct, cp, rfl, -, -, ht, hp, hf⟩ := h
  have b1 := (Below.refl w.heap.size w).alloc (Nat.le_refl _) (.cells #[.int .i64 X.k, .int .i64 X.m, .slice (some ⟨ct, 0, none⟩) X.t.length X.t.length, .string X.n, .int .i64 X.v, .slice (some ⟨cp, 0, none⟩) X.p.length X.p.length, .int .i64 X.f, .int .i64 X.u, .int .i64 X.c] 30)
  have hat : DdAt (w.alloc (.cells #[.int .i64 X.k, .int .i64 X.m, .slice (some ⟨ct, 0, none⟩) X.t.length X.t.length, .string X.n, .int .i64 X.v, .slice (some ⟨cp, 0, none⟩) X.p.length X.p.length, .int .i64 X.f, .int .i64 X.u, .int .i64 X.c] 30)) w.heap.size X (.slice (some ⟨ct, 0, none⟩) X.t.length X.t.length) (.slice (some ⟨cp, 0, none⟩) X.p.length X.p.length) := ⟨by go_simp, by go_simp, by go_simp, by go_simp, by go_simp, by go_simp, by go_simp, by go_simp, by go_simp, by simp⟩
  have HS := sdeed w.heap.size ct cp X _ ⟨hat, ht.below b1, hp.below b1, hf⟩
  unfold Pb
  generalize dB X = z at HS ⊢
  clear ht hp hat
  go_enter Try.func5, Try.ntmps5
  go_wp2_with fail
  refine HS.mono ?_
  rintro e w1 ⟨rfl, hd⟩
  have hb := hd.below
  go_wp2
  go_ret
  exact ⟨rfl, b1.trans (hb.mono b1.size)⟩
end Go.Proofs.Ytkaakomiimcbmaa
