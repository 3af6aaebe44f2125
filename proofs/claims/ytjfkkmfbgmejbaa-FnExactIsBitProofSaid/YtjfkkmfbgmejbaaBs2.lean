/- Whether a proof is one for a seal: the specification's answer. -/
import Derived.Test.YtjfkkmfbgmejbaaBs1
namespace Go.Proofs.Ytjfkkmfbgmejbaa
open Go.ChangeShapes Go.WideShapes Go.ChangeAt Go.RowKit Go.Deep
set_option linter.unusedSimpArgs false
set_option linter.unusedVariables false
set_option maxHeartbeats 2000000 in
theorem sproof (s : Int) (X : Bq) (p a b c : Nat) (w : World) (h : BfR w a b c X)
    (hp : BpAt w p (.slice (some ⟨a, 0, none⟩) X.1.length X.1.length) (.slice (some ⟨b, 0, none⟩) X.2.1.length X.2.1.length) (.slice (some ⟨c, 0, none⟩) X.2.2.length X.2.2.length)) :
    Calls Try.prog 62 #[.int .i64 s, .pointer (some ⟨p, 0, none⟩)] w fun e w' => e = .returned (.bool (bpB s X)) ∧ Below w.heap.size w w' := by
  have HS := fun w' => ssl_any s w'
  have HM : Calls Try.prog 91 #[.slice (some ⟨a, 0, none⟩) X.1.length X.1.length, .int .i64 2] w fun e w'' => e = .returned (.bool (X.1.all isSl && decide (X.1.length = 2))) ∧ w = w'' := ssls _ X.1 2 w h.rows.1 h.fits.1 (by omega)
  have HC : Calls Try.prog 52 #[.slice (some ⟨b, 0, none⟩) X.2.1.length X.2.1.length, .int .i64 2] w fun e w'' => e = .returned (.bool (X.2.1.all isEx && decide (X.2.1.length = 2))) ∧ w = w'' := sexs _ X.2.1 2 w h.rows.2.1 h.fits.2.1 (by omega)
  have HA : Calls Try.prog 52 #[.slice (some ⟨c, 0, none⟩) X.2.2.length X.2.2.length, .int .i64 2] w fun e w'' => e = .returned (.bool (X.2.2.all isEx && decide (X.2.2.length = 2))) ∧ w = w'' := sexs _ X.2.2 2 w h.rows.2.2 h.fits.2.2 (by omega)
  obtain ⟨M, C, A⟩ := X
  simp only at hp HM HC HA
  cases e1 : isSl s with
  | false =>
    rw [bpB_no (fun hh => by have := hh.1; rw [e1] at this; cases this)]
    rw [e1] at HS
    obtain ⟨p0, p1, p2, pl⟩ := hp
    clear h HM HC HA
    go_enter Try.func62, Try.ntmps62
    go_wp2_with fail
    refine (HS _).mono ?_
    rintro e w1 ⟨rfl, rfl⟩
    go_wp2
    go_ret
    exact ⟨rfl, Below.refl _ _⟩
  | true =>
    rw [e1] at HS
    cases e2 : M.all isSl && decide (M.length = 2) with
    | false =>
      rw [bpB_no (fun hh => by have h9 := hh.2.1; simp only at h9; rw [h9.1, decide_eq_true h9.2] at e2; cases e2)]
      rw [e2] at HM
      obtain ⟨p0, p1, p2, pl⟩ := hp
      clear h HC HA
      go_enter Try.func62, Try.ntmps62
      go_wp2_with fail
      refine (HS _).mono ?_
      rintro e w1 ⟨rfl, rfl⟩
      go_wp2_with fail
      refine HM.mono ?_
      rintro e w1 ⟨rfl, rfl⟩
      go_wp2
      go_ret
      exact ⟨rfl, Below.refl _ _⟩
    | true =>
      rw [e2] at HM
      cases e3 : C.all isEx && decide (C.length = 2) with
      | false =>
        rw [bpB_no (fun hh => by have h9 := hh.2.2.1; simp only at h9; rw [h9.1, decide_eq_true h9.2] at e3; cases e3)]
        rw [e3] at HC
        obtain ⟨p0, p1, p2, pl⟩ := hp
        clear h HA
        go_enter Try.func62, Try.ntmps62
        go_wp2_with fail
        refine (HS _).mono ?_
        rintro e w1 ⟨rfl, rfl⟩
        go_wp2_with fail
        refine HM.mono ?_
        rintro e w1 ⟨rfl, rfl⟩
        go_wp2_with fail
        refine HC.mono ?_
        rintro e w1 ⟨rfl, rfl⟩
        go_wp2
        go_ret
        exact ⟨rfl, Below.refl _ _⟩
      | true =>
        rw [e3] at HC
        cases e4 : A.all isEx && decide (A.length = 2) with
        | false =>
          rw [bpB_no (fun hh => by have h9 := hh.2.2.2.1; simp only at h9; rw [h9.1, decide_eq_true h9.2] at e4; cases e4)]
          rw [e4] at HA
          obtain ⟨p0, p1, p2, pl⟩ := hp
          clear h
          go_enter Try.func62, Try.ntmps62
          go_wp2_with fail
          refine (HS _).mono ?_
          rintro e w1 ⟨rfl, rfl⟩
          go_wp2_with fail
          refine HM.mono ?_
          rintro e w1 ⟨rfl, rfl⟩
          go_wp2_with fail
          refine HC.mono ?_
          rintro e w1 ⟨rfl, rfl⟩
          go_wp2_with fail
          refine HA.mono ?_
          rintro e w1 ⟨rfl, rfl⟩
          go_wp2
          go_ret
          exact ⟨rfl, Below.refl _ _⟩
        | true =>
          simp only [Bool.and_eq_true, decide_eq_true_eq] at e2 e3 e4
          obtain ⟨m0, m1, rfl⟩ := two_of e2.2
          obtain ⟨c0, c1, rfl⟩ := two_of e3.2
          obtain ⟨a0, a1, rfl⟩ := two_of e4.2
          exact sproof2 s m0 m1 c0 c1 a0 a1 p a b c w e1 h hp e2.1 e3.1 e4.1
theorem sIsB (s : Int) (X : Bq) (a b c : Nat) (w : World) (h : BfR w a b c X) :
    Calls Try.prog 20 #[.int .i64 s, bpV a b c X] w (Pb (bpB s X) w) := by
  have b0 := (Below.refl w.heap.size w).alloc (Nat.le_refl _) (.cells #[.slice (some ⟨a, 0, none⟩) X.1.length X.1.length, .slice (some ⟨b, 0, none⟩) X.2.1.length X.2.1.length, .slice (some ⟨c, 0, none⟩) X.2.2.length X.2.2.length] 24)
  have HP := sproof s X w.heap.size a b c _ (h.below b0) (bp_at w 24 _ _ _)
  generalize bpB s X = z at HP ⊢
  clear h
  go_enter Try.func20, Try.ntmps20
  go_wp2_with fail
  refine HP.mono ?_
  rintro e w1 ⟨rfl, hb⟩
  go_wp2
  go_ret
  exact ⟨rfl, b0.trans (hb.mono b0.size)⟩
end Go.Proofs.Ytjfkkmfbgmejbaa
