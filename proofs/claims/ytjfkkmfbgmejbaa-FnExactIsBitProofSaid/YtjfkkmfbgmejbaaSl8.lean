/- ChallengeOf: both sides. -/
import Derived.Test.YtjfkkmfbgmejbaaSl7
namespace Go.Proofs.Ytjfkkmfbgmejbaa
open Go.ChangeShapes Go.WideShapes Go.ChangeAt Go.RowKit Go.Deep
set_option linter.unusedSimpArgs false
set_option linter.unusedVariables false
/-- The challenge of the first k numbers. -/
def chn (S : List Int) : Nat → Int
  | 0 => 7
  | k + 1 => (chn S k * 1000003 + S.getD k 0 + 1) % 500000003
theorem chn_ok (S : List Int) (k : Nat) : qOk (chn S k) := by
  cases k with
  | zero => exact ⟨by show (0 : Int) ≤ 7; omega, by show (7 : Int) ≤ _; omega⟩
  | succ k => exact qOk_mod _
/-- A number that has a place in a list for a challenge. -/
def cB (n : Int) : Bool := decide (0 ≤ n) && decide (n ≤ 1000000006)
theorem cB_ok {n : Int} (h : cB n = true) : 0 ≤ n ∧ n ≤ 1000000006 := by simp [cB] at h; exact h
theorem cB_val (n : Int) (w : World) : Calls Try.prog 50 #[.int .i64 n, .int .i64 0, .int .i64 1000000006] w fun e w' => e = .returned (.bool (cB n)) ∧ w = w' := in_any n 0 1000000006 w
/-- One step of a challenge, with the facts that a walk wants. -/
theorem chn_step (S : List Int) (k : Nat) (z s : Int) (hz : qOk z) (hs : 0 ≤ s ∧ s ≤ 1000000006) (e : S.getD k 0 = s) (ez : chn S k = z) :
    ∃ p q q1 r, z * 1000003 = p ∧ IntKind.i64.wrap p = p ∧ p + s = q ∧ IntKind.i64.wrap q = q ∧ q + 1 = q1 ∧ IntKind.i64.wrap q1 = q1 ∧ 0 ≤ q1 ∧ q1.tmod 500000003 = r ∧ q1 % 500000003 = r ∧ IntKind.i64.wrap r = r ∧ chn S (k + 1) = r ∧ qOk r := by
  obtain ⟨z0, z1⟩ := hz
  obtain ⟨s0, s1⟩ := hs
  have q0 : 0 ≤ z * 1000003 + s + 1 := by omega
  have h := qOk_mod (z * 1000003 + s + 1)
  refine ⟨z * 1000003, _, _, (z * 1000003 + s + 1) % 500000003, rfl, by rw [IntKind.wrap_i64]; omega, rfl, by rw [IntKind.wrap_i64]; omega, rfl, by rw [IntKind.wrap_i64]; omega, q0, Int.tmod_eq_emod_of_nonneg q0, rfl, ?_, ?_, h⟩
  · obtain ⟨a, b⟩ := h
    rw [IntKind.wrap_i64]; omega
  · show (chn S k * 1000003 + S.getD k 0 + 1) % 500000003 = _
    rw [e, ez]
set_option maxHeartbeats 1000000 in
theorem schal (v : Value) (S : List Int) (w : World) (h : RowV w v S) (hl : S.length ≤ 1048576) (hS : ∀ k, k < S.length → cB (S.getD k 0) = true) :
    Calls Try.prog 105 #[v] w fun e w' => e = .returned (.int .i64 (chn S S.length)) ∧ w = w' := by
  have HS := Lib.hid hS
  clear hS
  by_cases e : S = []
  · subst e
    obtain ⟨a, cap, rfl⟩ := h.shape
    clear h HS
    go_enter Try.func105, Try.ntmps105
    go_wp2
    go_loopg [3, 4] 0 (fun g s i wr => s = .int .i64 7 ∧ i = .int .i64 0 ∧ w = wr)
    case atStart => exact ⟨rfl, rfl, rfl⟩
    case round =>
      obtain ⟨rfl, rfl, rfl⟩ := hrel
      go_wp2
      go_ret
      exact ⟨rfl, rfl⟩
  · obtain ⟨x, cap, rfl, hx, hc⟩ := h.cons e
    clear h
    go_enter Try.func105, Try.ntmps105
    go_wp2
    go_loopg [3, 4] S.length (fun g s i wr => ∃ (k : Nat) (z : Int), k ≤ S.length ∧ g = S.length - k ∧ s = .int .i64 z ∧ i = .int .i64 k ∧ w = wr ∧ Hid (qOk z) ∧ Hid (chn S k = z))
    case atStart => exact ⟨0, 7, Nat.zero_le _, rfl, rfl, rfl, rfl, Lib.hid ⟨by omega, by omega⟩, Lib.hid rfl⟩
    case round =>
      obtain ⟨k, z, hk, rfl, rfl, rfl, rfl, HZ, HJ⟩ := hrel
      by_cases hlt : k < S.length
      · have c1 := hc k hlt
        have hs := cB_ok (HS.out k hlt)
        obtain ⟨s, he⟩ : ∃ s, S.getD k 0 = s := ⟨_, rfl⟩
        rw [he] at c1 hs
        obtain ⟨p, q, q1, r, f1, f2, f3, f4, f5, f6, f7, f8, f9, f10, f11, f12⟩ := chn_step S k z s HZ.out hs he HJ.out
        have HP := Lib.hid f11
        have HO := Lib.hid f12
        clear f11 f12 he hs hc
        go_wp2
        go_roundg (S.length - (k + 1))
        case measure => omega
        case rel => exact ⟨k + 1, r, by omega, rfl, by simp [f1, f2, f3, f4, f5, f6, f8, f9], by simp, rfl, HO, HP⟩
      · have e' : k = S.length := by omega
        subst e'
        go_wp2
        go_ret
        exact ⟨by rw [HJ.out]; rfl, rfl⟩
def mChal (S : List Int) : Int × Bool := if S.length ≤ 20 ∧ S.all cB = true then (chn S S.length, true) else (0, false)
theorem mChal_no {S : List Int} (h : ¬ (S.length ≤ 20 ∧ S.all cB = true)) : mChal S = (0, false) := by unfold mChal; rw [if_neg h]
theorem mChal_yes {S : List Int} (h : S.length ≤ 20 ∧ S.all cB = true) : mChal S = (chn S S.length, true) := by unfold mChal; rw [if_pos h]
set_option maxHeartbeats 1000000 in
theorem iChalR (S : List Int) (w : World) (u0 : Value) (h : RowV w u0 S) (l0 : S.length ≤ 1048576) :
    Calls Try.prog 108 #[u0] w (Pnb (mChal S) w) := by
  have HB := isumm 1000000006 u0 S w h l0 (by omega) (by omega)
  unfold SumM at HB
  have hq : allIn 1000000006 S = S.all cB := rfl
  rw [hq] at HB
  clear hq
  cases e1 : S.all cB with
  | false =>
    rw [mChal_no (by rw [e1]; simp)]
    rw [e1] at HB
    obtain ⟨a, cap, rfl⟩ := h.shape
    clear h
    go_enter Try.func108, Try.ntmps108
    go_wp2_with fail
    refine HB.mono ?_
    rintro e w1 ⟨x, rfl, rfl⟩
    go_wp2
    go_ret2
    exact ⟨rfl, Below.refl _ _⟩
  | true =>
    rw [e1] at HB
    by_cases g1 : 20 < S.length
    · rw [mChal_no (by omega)]
      obtain ⟨a, cap, rfl⟩ := h.shape
      have g1' : (20 : Int) < (S.length : Int) := by omega
      clear h
      go_enter Try.func108, Try.ntmps108
      go_wp2_with fail
      refine HB.mono ?_
      rintro e w1 ⟨x, rfl, rfl⟩
      go_wp2
      go_ret2
      exact ⟨rfl, Below.refl _ _⟩
    have g1' : ¬ (20 : Int) < (S.length : Int) := by omega
    rw [mChal_yes ⟨by omega, e1⟩]
    have HS : Hid (∀ k, k < S.length → cB (S.getD k 0) = true) := fun k hk => all_at e1 hk
    clear e1
    by_cases e : S = []
    · subst e
      obtain ⟨a, cap, rfl⟩ := h.shape
      clear h HS
      go_enter Try.func108, Try.ntmps108
      go_wp2_with fail
      refine HB.mono ?_
      rintro e w1 ⟨x, rfl, rfl⟩
      clear HB
      go_wp2
      go_loopg [6, 23] 0 (fun g s i wr => s = .int .i64 7 ∧ i = .int .i64 0 ∧ w = wr)
      case atStart => exact ⟨rfl, rfl, rfl⟩
      case round =>
        obtain ⟨rfl, rfl, rfl⟩ := hrel
        go_wp2
        go_ret2
        exact ⟨rfl, Below.refl _ _⟩
    · obtain ⟨x, cap, rfl, hx, hc⟩ := h.cons e
      clear h
      go_enter Try.func108, Try.ntmps108
      go_wp2_with fail
      refine HB.mono ?_
      rintro e w1 ⟨y, rfl, rfl⟩
      clear HB
      go_wp2
      go_loopg [6, 23] S.length (fun g s i wr => ∃ (k : Nat) (z : Int), k ≤ S.length ∧ g = S.length - k ∧ s = .int .i64 z ∧ i = .int .i64 k ∧ w = wr ∧ Hid (qOk z) ∧ Hid (chn S k = z))
      case atStart => exact ⟨0, 7, Nat.zero_le _, rfl, rfl, rfl, rfl, Lib.hid ⟨by omega, by omega⟩, Lib.hid rfl⟩
      case round =>
        obtain ⟨k, z, hk, rfl, rfl, rfl, rfl, HZ, HJ⟩ := hrel
        by_cases hlt : k < S.length
        · have c1 := hc k hlt
          have hs := cB_ok (HS.out k hlt)
          obtain ⟨s, he⟩ : ∃ s, S.getD k 0 = s := ⟨_, rfl⟩
          rw [he] at c1 hs
          obtain ⟨p, q, q1, r, f1, f2, f3, f4, f5, f6, f7, f8, f9, f10, f11, f12⟩ := chn_step S k z s HZ.out hs he HJ.out
          have HP := Lib.hid f11
          have HO := Lib.hid f12
          clear f11 f12 he hs hc
          go_wp2
          go_roundg (S.length - (k + 1))
          case measure => omega
          case rel => exact ⟨k + 1, r, by omega, rfl, by simp [f1, f2, f3, f4, f5, f6, f8, f9], by simp, rfl, HO, HP⟩
        · have e' : k = S.length := by omega
          subst e'
          go_wp2
          go_ret2
          exact ⟨by rw [HJ.out]; rfl, Below.refl _ _⟩
theorem iChal (S : List Int) (w : World) (lo0 hi0 : Nat) (u0 : Value) (c0 : CpI w lo0 hi0 u0 S) :
    Calls Try.prog 108 #[u0] w (Pnb (mChal S) w) := iChalR S w u0 c0.ow.rd.1 c0.2.2.2
end Go.Proofs.Ytjfkkmfbgmejbaa
