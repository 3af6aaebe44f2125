/- Deeds: what the specification asks of trust, of days, of fields that are empty. -/
import Derived.Test.YtkaakomiimcbmaaDd2
import Derived.Test.YtkaakomiimcbmaaVo9
import Derived.Test.YtkaakomiimcbmaaPo3
import Derived.Test.YtkaakomiimcbmaaName
namespace Go.Proofs.Ytkaakomiimcbmaa
open Go.ChangeShapes Go.WideShapes Go.ChangeAt Go.RowKit Go.Deep
set_option linter.unusedSimpArgs false
set_option linter.unusedVariables false
theorem trB_no {n k : Nat} {t : List Int} (hk : k < n) (h : ¬ trOk n k t) : trB n (k : Int) t = false := by
  cases hz : trB n (k : Int) t with
  | false => rfl
  | true => exact absurd ((trB_iff hk).2 hz) h
set_option maxHeartbeats 4000000 in
set_option maxRecDepth 100000 in
theorem strust (k : Nat) (c : Nat) (t : List Int) (w : World) (hk : k < 12) (h : OwnI w c t) (hl : t.length ≤ 1048576) :
    Calls Try.prog 19 #[.slice (some ⟨c, 0, none⟩) t.length t.length, .int .i64 (k : Int), .int .i64 12] w fun e w' => e = .returned (.bool (trB 12 (k : Int) t)) ∧ Drw w w' := by
  have HX := Lib.hid h
  have HK := Lib.hid hk
  clear h
  go_enter Try.func19, Try.ntmps19
  go_wp2
  go_loopg [7] t.length (fun g i wr => ∃ m : Nat, m ≤ t.length ∧ g = t.length - m ∧ i = .int .i64 m ∧ Drw w wr ∧ Hid (∀ j, j < m → elOk 12 k t j))
  case atStart => exact ⟨0, Nat.zero_le _, rfl, rfl, Drw.refl _, fun j hj => absurd hj (Nat.not_lt_zero _)⟩
  case round =>
    obtain ⟨m, hm, rfl, rfl, hd, HI⟩ := hrel
    have hb := hd.below
    by_cases hml : m < t.length
    · have hrv := (HX.out.below hb).row t.length
      obtain ⟨-, hc⟩ := hrv.at0
      have c1 := hc m hml
      rw [Addr.add_lit, Nat.zero_add] at c1
      have hrow := hrv.take hm t.length
      have HBAD := Lib.hid (fun hn => trB_no (n := 12) (k := k) (t := t) HK.out hn)
      obtain ⟨y, hy⟩ : ∃ y, t.getD m 0 = y := ⟨_, rfl⟩
      rw [hy] at c1
      have HY := Lib.hid hy
      clear hc hy hrv
      obtain ⟨z, hz⟩ : ∃ z, decide (y ∈ t.take m) = z := ⟨_, rfl⟩
      have HH : ∀ n, Calls Try.prog 31 #[.slice (some ⟨c, 0, none⟩) m t.length, .int .i64 y] (wr.drewN n) fun e w' => e = .returned (.bool z) ∧ wr.drewN n = w' := fun n => by
        have := has_any _ _ y (wr.drewN n) (hrow.below (below_drewN (Below.refl _ _) n)) (by simp; omega)
        rw [hz] at this
        exact this
      have HZ := Lib.hid hz
      clear hz hrow
      by_cases hin : 0 ≤ y ∧ y ≤ 11
      · have i2 := inB_yes hin.1 hin.2
        have HIN := Lib.hid hin
        clear hin
        by_cases hke : y = (k : Int)
        · have e2 : (y == (k : Int)) = true := by simp [hke]
          have HE := Lib.hid (HBAD.out (fun ho => by have h3 := ho.2 m hml; unfold elOk at h3; rw [HY.out] at h3; exact h3.2.2.1 hke))
          clear hke HBAD
          go_wp2_with fail
          go_big_quiet ((first
            | (go_at_call 18; exact quiet_left (in_val _ _ _ _))
            | (go_at_call 31; exact quiet_left (HH _))))
          go_wp2
          go_ret
          exact ⟨by rw [HE.out]; rfl, hd.drewN _⟩
        · have e2 : (y == (k : Int)) = false := by simp [hke]
          have HKE := Lib.hid hke
          clear hke
          cases z with
          | true =>
            have HE := Lib.hid (HBAD.out (fun ho => by have h3 := ho.2 m hml; unfold elOk at h3; rw [HY.out] at h3; exact h3.2.2.2 (of_decide_eq_true HZ.out)))
            clear HBAD
            go_wp2_with fail
            go_big_quiet ((first
              | (go_at_call 18; exact quiet_left (in_val _ _ _ _))
              | (go_at_call 31; exact quiet_left (HH _))))
            go_wp2
            go_ret
            exact ⟨by rw [HE.out]; rfl, hd.drewN _⟩
          | false =>
            clear HBAD
            go_wp2_with fail
            go_big_quiet ((first
              | (go_at_call 18; exact quiet_left (in_val _ _ _ _))
              | (go_at_call 31; exact quiet_left (HH _))))
            go_wp2
            go_roundg (t.length - (m + 1))
            case measure => omega
            case rel =>
              refine ⟨m + 1, by omega, rfl, by simp, hd.drewN _, fun j hj => ?_⟩
              by_cases ej : j = m
              · subst ej
                unfold elOk
                rw [HY.out]
                exact ⟨HIN.out.1, HIN.out.2, HKE.out, of_decide_eq_false HZ.out⟩
              · exact HI.out j (by omega)
      · have i2 := inB_no hin
        have HE := Lib.hid (HBAD.out (fun ho => by have h3 := ho.2 m hml; unfold elOk at h3; rw [HY.out] at h3; exact hin ⟨h3.1, h3.2.1⟩))
        clear hin HBAD
        go_wp2_with fail
        go_big_quiet ((first
          | (go_at_call 18; exact quiet_left (in_val _ _ _ _))
          | (go_at_call 31; exact quiet_left (HH _))))
        go_wp2
        go_ret
        exact ⟨by rw [HE.out]; rfl, hd.drewN _⟩
    · have e : m = t.length := by omega
      subst e
      by_cases h4 : t.length ≤ 4
      · have HE := Lib.hid ((trB_iff HK.out).1 ⟨h4, HI.out⟩)
        go_wp2
        go_ret
        refine ⟨?_, hd⟩
        rw [HE.out]
        exact ret_bool (by simp; omega)
      · have HE := Lib.hid (trB_no HK.out (fun ho => h4 ho.1))
        go_wp2
        go_ret
        refine ⟨?_, hd⟩
        rw [HE.out]
        exact ret_bool (by simp; omega)
/-- A deed that lies in block b. -/
structure DdAt (w : World) (b : Nat) (X : Dd) (vt vp : Value) : Prop where
  c0 : w.cell? ⟨b, 0, none⟩ = some (.int .i64 X.k)
  c1 : w.cell? ⟨b, 1, none⟩ = some (.int .i64 X.m)
  c2 : w.cell? ⟨b, 2, none⟩ = some vt
  c3 : w.cell? ⟨b, 3, none⟩ = some (.string X.n)
  c4 : w.cell? ⟨b, 4, none⟩ = some (.int .i64 X.v)
  c5 : w.cell? ⟨b, 5, none⟩ = some vp
  c6 : w.cell? ⟨b, 6, none⟩ = some (.int .i64 X.f)
  c7 : w.cell? ⟨b, 7, none⟩ = some (.int .i64 X.u)
  c8 : w.cell? ⟨b, 8, none⟩ = some (.int .i64 X.c)
  lt : b < w.heap.size
theorem DdAt.below {w w' : World} {b : Nat} {X : Dd} {vt vp : Value} (h : DdAt w b X vt vp) (hb : Below w.heap.size w w') : DdAt w' b X vt vp := by
  have k : ∀ {o : Nat} {v : Value}, w.cell? ⟨b, o, none⟩ = some v → w'.cell? ⟨b, o, none⟩ = some v := fun {o v} hc => (hb.cell (p := ⟨b, o, none⟩) h.lt).trans hc
  exact ⟨k h.c0, k h.c1, k h.c2, k h.c3, k h.c4, k h.c5, k h.c6, k h.c7, k h.c8, Nat.lt_of_lt_of_le h.lt hb.size⟩
def plainB (X : Dd) : Bool := decide (X.p.length = 0) && (X.f == 0) && (X.u == 0) && (X.c == 0)
set_option maxHeartbeats 1000000 in
theorem splain (b : Nat) (X : Dd) (vt : Value) (pa : Option Addr) (pc : Nat) (w : World) (h : DdAt w b X vt (.slice pa X.p.length pc)) :
    Calls Try.prog 20 #[.pointer (some ⟨b, 0, none⟩)] w fun e w' => e = .returned (.bool (plainB X)) ∧ w = w' := by
  obtain ⟨-, -, -, -, -, c5, c6, c7, c8, -⟩ := h
  unfold plainB
  obtain ⟨n, hn⟩ : ∃ n, X.p.length = n := ⟨_, rfl⟩
  obtain ⟨f, hf⟩ : ∃ n, X.f = n := ⟨_, rfl⟩
  obtain ⟨u, hu⟩ : ∃ n, X.u = n := ⟨_, rfl⟩
  obtain ⟨c, hc⟩ : ∃ n, X.c = n := ⟨_, rfl⟩
  rw [hn] at c5 ⊢
  rw [hf] at c6 ⊢
  rw [hu] at c7 ⊢
  rw [hc] at c8 ⊢
  clear hn hf hu hc
  obtain ⟨z1, h1⟩ : ∃ z, (f == 0) = z := ⟨_, rfl⟩
  obtain ⟨z2, h2⟩ : ∃ z, (u == 0) = z := ⟨_, rfl⟩
  obtain ⟨z3, h3⟩ : ∃ z, (c == 0) = z := ⟨_, rfl⟩
  rw [h1, h2, h3]
  by_cases hn : n = 0
  · subst hn
    cases z1 with
    | false =>
      go_enter Try.func20, Try.ntmps20
      go_wp2
      go_ret
      exact ⟨rfl, rfl⟩
    | true =>
      cases z2 with
      | false =>
        go_enter Try.func20, Try.ntmps20
        go_wp2
        go_ret
        exact ⟨rfl, rfl⟩
      | true =>
        cases z3 with
        | false =>
          go_enter Try.func20, Try.ntmps20
          go_wp2
          go_ret
          exact ⟨rfl, rfl⟩
        | true =>
          go_enter Try.func20, Try.ntmps20
          go_wp2
          go_ret
          exact ⟨rfl, rfl⟩
  · have e1 : decide (n = 0) = false := by simp [hn]
    have e2 : ((n : Int) == 0) = false := by simp; omega
    rw [e1]
    go_enter Try.func20, Try.ntmps20
    go_wp2
    go_ret
    exact ⟨rfl, rfl⟩
def spanB (f u c : Int) : Bool := inB c 1 999 && inB u 1 1000 && inB f c (u - 1)
theorem sspan (f u c : Int) (w : World) :
    Calls Try.prog 23 #[.int .i64 f, .int .i64 u, .int .i64 c] w fun e w' => e = .returned (.bool (spanB f u c)) ∧ w = w' := by
  unfold spanB
  have H1 := in_val c 1 999
  have H2 := in_val u 1 1000
  have H3 := in_val f c (u - 1)
  by_cases hu : 1 ≤ u ∧ u ≤ 1000
  · have wu : IntKind.i64.wrap (u - 1) = u - 1 := by rw [IntKind.wrap_i64]; omega
    rw [inB_yes hu.1 hu.2] at H2 ⊢
    generalize inB c 1 999 = z1 at H1 ⊢
    generalize inB f c (u - 1) = z3 at H3 ⊢
    cases z1 with
    | false =>
      go_enter Try.func23, Try.ntmps23
      go_wp2_with fail
      refine (H1 _).mono ?_
      rintro e w1 ⟨rfl, rfl⟩
      go_wp2
      go_ret
      exact ⟨rfl, rfl⟩
    | true =>
      go_enter Try.func23, Try.ntmps23
      go_wp2_with fail
      refine (H1 _).mono ?_
      rintro e w1 ⟨rfl, rfl⟩
      go_wp2_with fail
      refine (H2 _).mono ?_
      rintro e w1 ⟨rfl, rfl⟩
      go_wp2_with fail
      refine (H3 _).mono ?_
      rintro e w1 ⟨rfl, rfl⟩
      go_wp2
      go_ret
      exact ⟨by cases z3 <;> rfl, rfl⟩
  · rw [inB_no hu] at H2 ⊢
    generalize inB c 1 999 = z1 at H1 ⊢
    generalize inB f c (u - 1) = z3 at H3 ⊢
    cases z1 with
    | false =>
      go_enter Try.func23, Try.ntmps23
      go_wp2_with fail
      refine (H1 _).mono ?_
      rintro e w1 ⟨rfl, rfl⟩
      go_wp2
      go_ret
      exact ⟨rfl, rfl⟩
    | true =>
      go_enter Try.func23, Try.ntmps23
      go_wp2_with fail
      refine (H1 _).mono ?_
      rintro e w1 ⟨rfl, rfl⟩
      go_wp2_with fail
      refine (H2 _).mono ?_
      rintro e w1 ⟨rfl, rfl⟩
      go_wp2
      go_ret
      exact ⟨by cases z3 <;> rfl, rfl⟩
end Go.Proofs.Ytkaakomiimcbmaa
