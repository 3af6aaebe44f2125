/- JoinKeys and ChallengeOf: both sides. -/
import Derived.Test.YtjfkkmfbgmejbabSl6
namespace Go.Proofs.Ytjfkkmfbgmejbab
open Go.ChangeShapes Go.WideShapes Go.ChangeAt Go.RowKit Go.Deep
set_option linter.unusedSimpArgs false
set_option linter.unusedVariables false
/-- An exponent. -/
def qOk (a : Int) : Prop := 0 ≤ a ∧ a ≤ 500000002
theorem qOk_mod (a : Int) : qOk (a % 500000003) := ⟨Int.emod_nonneg _ (by omega), by have := Int.emod_lt_of_pos a (show (0 : Int) < 500000003 by omega); omega⟩
theorem isEx_ok {n : Int} (h : isEx n = true) : qOk n := by simp [isEx] at h; exact h
theorem qm_facts {a b : Int} (ha : qOk a) (hb : qOk b) : ∃ p r, a * b = p ∧ IntKind.i64.wrap p = p ∧ 0 ≤ p ∧ p ≤ 250000002000000004 ∧ p.tmod 500000003 = r ∧ IntKind.i64.wrap r = r ∧ r = a * b % 500000003 ∧ qOk r := by
  have h0 : 0 ≤ a * b := Int.mul_nonneg ha.1 hb.1
  have h1 : a * b ≤ 250000002000000004 := by
    calc a * b ≤ 500000002 * b := Int.mul_le_mul_of_nonneg_right ha.2 hb.1
      _ ≤ 500000002 * 500000002 := Int.mul_le_mul_of_nonneg_left hb.2 (by omega)
      _ = 250000002000000004 := by decide
  refine ⟨a * b, a * b % 500000003, rfl, by rw [IntKind.wrap_i64]; omega, h0, h1, Int.tmod_eq_emod_of_nonneg h0, ?_, rfl, qOk_mod _⟩
  have := qOk_mod (a * b)
  rw [IntKind.wrap_i64]
  obtain ⟨x, y⟩ := this
  omega
theorem qtimes (a b : Int) (w : World) (ha : qOk a) (hb : qOk b) :
    Calls Try.prog 35 #[.int .i64 a, .int .i64 b] w fun e w' => e = .returned (.int .i64 (a * b % 500000003)) ∧ w = w' := by
  obtain ⟨p, r, h1, h2, h3, h4, h5, h6, h7, h8⟩ := qm_facts ha hb
  rw [← h7]
  clear h7 h8 ha hb
  go_enter Try.func35, Try.ntmps35
  go_wp2
  go_ret
  simp [h1, h2, h5]
theorem qplus (a b : Int) (w : World) (ha : qOk a) (hb : qOk b) :
    Calls Try.prog 34 #[.int .i64 a, .int .i64 b] w fun e w' => e = .returned (.int .i64 ((a + b) % 500000003)) ∧ w = w' := by
  obtain ⟨a0, a1⟩ := ha
  obtain ⟨b0, b1⟩ := hb
  have h2 : IntKind.i64.wrap (a + b) = a + b := by rw [IntKind.wrap_i64]; omega
  have h3 : (a + b).tmod 500000003 = (a + b) % 500000003 := Int.tmod_eq_emod_of_nonneg (by omega)
  obtain ⟨r, hr⟩ : ∃ r, (a + b) % 500000003 = r := ⟨_, rfl⟩
  have h4 : IntKind.i64.wrap r = r := by rw [IntKind.wrap_i64]; omega
  rw [hr] at h3 ⊢
  go_enter Try.func34, Try.ntmps34
  go_wp2
  go_ret
  simp [h2, h3, hr]
/-- The sum of the first k keys, each times its weight. -/
def kn (S W : List Int) : Nat → Int
  | 0 => 0
  | k + 1 => (kn S W k + S.getD k 0 * W.getD k 0) % 500000003
theorem kn_ok (S W : List Int) (k : Nat) : qOk (kn S W k) := by
  cases k with
  | zero => exact ⟨by show (0 : Int) ≤ 0; omega, by show (0 : Int) ≤ _; omega⟩
  | succ k => exact qOk_mod _
theorem iexk (v : Value) (l : List Int) (w : World) (h : RowV w v l) (hl : l.length ≤ 1048576) :
    Calls Try.prog 28 #[v] w fun e w' => e = .returned (.bool (l.all isEx)) ∧ Below w.heap.size w w' :=
  (iexs v l w h hl).mono fun _ _ ⟨he, hw⟩ => ⟨he, hw ▸ Below.refl _ _⟩
noncomputable def mJoinK (S W : List Int) : Int × Bool := if S.length ≤ 12 ∧ S.all isEx = true ∧ W.all wB = true ∧ W.length = S.length then (kn S W S.length, true) else (0, false)
theorem mJoinK_no {S W : List Int} (h : ¬ (S.length ≤ 12 ∧ S.all isEx = true ∧ W.all wB = true ∧ W.length = S.length)) : mJoinK S W = (0, false) := by unfold mJoinK; rw [if_neg h]
theorem mJoinK_yes {S W : List Int} (h : S.length ≤ 12 ∧ S.all isEx = true ∧ W.all wB = true ∧ W.length = S.length) : mJoinK S W = (kn S W S.length, true) := by unfold mJoinK; rw [if_pos h]
set_option maxHeartbeats 1000000 in
theorem iJoinKR (S W : List Int) (w : World) (u0 u1 : Value) (h : RowV w u0 S) (hu : RowV w u1 W) (l0 : S.length ≤ 1048576) (l1 : W.length ≤ 1048576) :
    Calls Try.prog 13 #[u0, u1] w (Pnb (mJoinK S W) w) := by
  have HB := iwts u1 W S.length w hu l1 l0
  have HA := iexk u0 S w h l0
  cases e2 : W.all wB && decide (W.length = S.length) with
  | false =>
    rw [mJoinK_no (by intro hh; rw [hh.2.2.1, decide_eq_true hh.2.2.2] at e2; cases e2)]
    rw [e2] at HB
    obtain ⟨a, cap, rfl⟩ := h.shape
    obtain ⟨a2, cap2, rfl⟩ := hu.shape
    clear h hu HA
    go_enter Try.func13, Try.ntmps13
    go_wp2_with fail
    refine HB.mono ?_
    rintro e w1 ⟨rfl, rfl⟩
    go_wp2
    go_ret2
    exact ⟨rfl, Below.refl _ _⟩
  | true =>
    rw [e2] at HB
    simp only [Bool.and_eq_true, decide_eq_true_eq] at e2
    by_cases g1 : 12 < S.length
    · rw [mJoinK_no (by omega)]
      obtain ⟨a, cap, rfl⟩ := h.shape
      obtain ⟨a2, cap2, rfl⟩ := hu.shape
      have g1' : (12 : Int) < (S.length : Int) := by omega
      clear h hu HA e2
      go_enter Try.func13, Try.ntmps13
      go_wp2_with fail
      refine HB.mono ?_
      rintro e w1 ⟨rfl, rfl⟩
      go_wp2
      go_ret2
      exact ⟨rfl, Below.refl _ _⟩
    have g1' : ¬ (12 : Int) < (S.length : Int) := by omega
    cases e1 : S.all isEx with
    | false =>
      rw [mJoinK_no (by rw [e1]; simp)]
      rw [e1] at HA
      obtain ⟨a, cap, rfl⟩ := h.shape
      obtain ⟨a2, cap2, rfl⟩ := hu.shape
      clear h hu e2
      go_enter Try.func13, Try.ntmps13
      go_wp2_with fail
      refine HB.mono ?_
      rintro e w1 ⟨rfl, rfl⟩
      go_wp2_with fail
      refine HA.mono ?_
      rintro e w1 ⟨rfl, hb⟩
      go_wp2
      go_ret2
      exact ⟨rfl, hb⟩
    | true =>
      rw [e1] at HA
      rw [mJoinK_yes ⟨by omega, e1, e2⟩]
      have HS : Hid (∀ k, k < S.length → qOk (S.getD k 0)) := fun k hk => isEx_ok (all_at e1 hk)
      have HW : Hid (∀ k, k < S.length → wB (W.getD k 0) = true) := fun k hk => all_at e2.1 (by rw [e2.2]; exact hk)
      have he := e2.2
      clear e1 e2
      by_cases e : S = []
      · subst e
        obtain ⟨a, cap, rfl⟩ := h.shape
        obtain ⟨a2, cap2, rfl⟩ := hu.shape
        clear h hu HS HW he
        go_enter Try.func13, Try.ntmps13
        go_wp2_with fail
        refine HB.mono ?_
        rintro e w1 ⟨rfl, rfl⟩
        go_wp2_with fail
        refine HA.mono ?_
        rintro e w1 ⟨rfl, hb⟩
        clear HA HB
        go_wp2
        go_loopg [6, 26] 0 (fun g s i wr => s = .int .i64 0 ∧ i = .int .i64 0 ∧ w1 = wr)
        case atStart => exact ⟨rfl, rfl, rfl⟩
        case round =>
          obtain ⟨rfl, rfl, rfl⟩ := hrel
          go_wp2
          go_ret2
          exact ⟨rfl, hb⟩
      · obtain ⟨x, cap, rfl, hx, hc⟩ := h.cons e
        obtain ⟨y, cap2, rfl, hy, hd⟩ := hu.cons (by intro q; subst q; exact e (List.eq_nil_of_length_eq_zero he.symm))
        have HD : Hid (∀ k, k < S.length → w.cell? (y.add k) = some (.int .i64 (W.getD k 0))) := fun k hk => hd k (by rw [he]; exact hk)
        have HCC := Lib.hid hc
        rw [he] at HB ⊢
        clear h hu he hd hc
        go_enter Try.func13, Try.ntmps13
        go_wp2_with fail
        refine HB.mono ?_
        rintro e w1 ⟨rfl, rfl⟩
        go_wp2_with fail
        refine HA.mono ?_
        rintro e w1 ⟨rfl, hb⟩
        clear HA HB
        go_wp2
        go_loopg [6, 26] S.length (fun g s i wr => ∃ (k : Nat) (z : Int), k ≤ S.length ∧ g = S.length - k ∧ s = .int .i64 z ∧ i = .int .i64 k ∧ w1 = wr ∧ Hid (qOk z) ∧ Hid (kn S W k = z))
        case atStart => exact ⟨0, 0, Nat.zero_le _, rfl, rfl, rfl, rfl, Lib.hid ⟨by omega, by omega⟩, Lib.hid rfl⟩
        case round =>
          obtain ⟨k, z, hk, rfl, rfl, rfl, rfl, HZ, HJ⟩ := hrel
          by_cases hlt : k < S.length
          · have c1 := (hb.cell (p := x.add k) (by rw [block_add]; exact hx)).trans (HCC.out k hlt)
            have c2 := (hb.cell (p := y.add k) (by rw [block_add]; exact hy)).trans (HD.out k hlt)
            obtain ⟨n0, n1⟩ := wB_ok (HW.out k hlt)
            have sk := HS.out k hlt
            have hj : kn S W (k + 1) = (z + S.getD k 0 * W.getD k 0 % 500000003) % 500000003 := by
              have h9 : kn S W (k + 1) = (z + S.getD k 0 * W.getD k 0) % 500000003 := by rw [← HJ.out]; rfl
              rw [h9]; omega
            obtain ⟨s, hs⟩ : ∃ s, S.getD k 0 = s := ⟨_, rfl⟩
            obtain ⟨m, hm⟩ : ∃ m, W.getD k 0 = m := ⟨_, rfl⟩
            rw [hs] at c1 hj sk
            rw [hm] at c2 hj n0 n1
            have P1 := fun w' => qtimes s m w' sk ⟨n0, by omega⟩
            have T := fun w' => qplus z (s * m % 500000003) w' HZ.out (qOk_mod _)
            rw [← hj] at T
            have so := kn_ok S W (k + 1)
            generalize hpj : kn S W (k + 1) = p at T so
            generalize s * m % 500000003 = q at P1 T
            have HP := Lib.hid hpj
            have HO := Lib.hid so
            clear hj hs hm sk so hpj
            go_wp2_with fail
            refine (P1 _).mono ?_
            rintro e w2 ⟨rfl, rfl⟩
            go_wp2_with fail
            refine (T _).mono ?_
            rintro e w2 ⟨rfl, rfl⟩
            go_wp2
            go_roundg (S.length - (k + 1))
            case measure => omega
            case rel => exact ⟨k + 1, p, by omega, rfl, by first | rfl | simp, by simp, rfl, HO, HP⟩
          · have e' : k = S.length := by omega
            subst e'
            go_wp2
            go_ret2
            exact ⟨by rw [HJ.out]; rfl, hb⟩
theorem iJoinK (S W : List Int) (w : World) (lo0 hi0 : Nat) (u0 : Value) (c0 : CpI w lo0 hi0 u0 S) (lo1 hi1 : Nat) (u1 : Value) (c1 : CpI w lo1 hi1 u1 W) :
    Calls Try.prog 13 #[u0, u1] w (Pnb (mJoinK S W) w) :=
  iJoinKR S W w u0 u1 c0.ow.rd.1 c1.ow.rd.1 c0.2.2.2 c1.2.2.2
end Go.Proofs.Ytjfkkmfbgmejbab
