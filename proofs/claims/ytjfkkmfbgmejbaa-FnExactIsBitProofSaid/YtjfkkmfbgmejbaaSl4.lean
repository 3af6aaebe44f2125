/- Lists of seals, exponents and weights: both sides' looks. -/
import Derived.Test.YtjfkkmfbgmejbaaSl3
import Derived.Test.YtjfkkmfbgmejbaaCt1
namespace Go.Proofs.Ytjfkkmfbgmejbaa
open Go.ChangeShapes Go.WideShapes Go.ChangeAt Go.RowKit Go.Deep
set_option linter.unusedSimpArgs false
set_option linter.unusedVariables false
theorem wB_val (n : Int) (w : World) : Calls Try.prog 50 #[.int .i64 n, .int .i64 0, .int .i64 1000] w fun e w' => e = .returned (.bool (wB n)) ∧ w = w' := in_any n 0 1000 w
set_option maxHeartbeats 1000000 in
theorem ssls (v : Value) (l : List Int) (n : Nat) (w : World) (h : RowV w v l) (hl : l.length ≤ 1048576) (hn : n ≤ 1048576) :
    Calls Try.prog 91 #[v, .int .i64 (n : Int)] w fun e w' => e = .returned (.bool (l.all isSl && decide (l.length = n))) ∧ w = w' := by
  by_cases e : l = []
  · subst e
    obtain ⟨a, cap, rfl⟩ := h.shape
    clear h
    have hz : ((0 : Int) == (n : Int)) = decide (0 = n) := by rw [Bool.eq_iff_iff]; simp; omega
    have HZ := Lib.hid hz
    clear hz
    go_enter Try.func91, Try.ntmps91
    go_wp2
    go_loopg [5] 0 (fun g i wr => i = .int .i64 0 ∧ w = wr)
    case atStart => exact ⟨rfl, rfl⟩
    case round =>
      obtain ⟨rfl, rfl⟩ := hrel
      go_wp2
      go_ret
      exact ⟨by have := HZ.out; simp at this ⊢; exact this, rfl⟩
  · obtain ⟨x, cap, rfl, hx, hc⟩ := h.cons e
    clear h
    go_enter Try.func91, Try.ntmps91
    go_wp2
    go_loopg [5] l.length (fun g i wr => ∃ k : Nat, k ≤ l.length ∧ g = l.length - k ∧ i = .int .i64 k ∧ w = wr ∧ Hid (∀ j, j < k → isSl (l.getD j 0) = true))
    case atStart => exact ⟨0, Nat.zero_le _, rfl, rfl, rfl, fun j hj => absurd hj (Nat.not_lt_zero _)⟩
    case round =>
      obtain ⟨k, hk, rfl, rfl, rfl, HK⟩ := hrel
      by_cases hlt : k < l.length
      · have c1 := hc k hlt
        obtain ⟨y, hy⟩ : ∃ y, l.getD k 0 = y := ⟨_, rfl⟩
        rw [hy] at c1
        have HC := fun w' => ssl_any y w'
        obtain ⟨z, hz⟩ : ∃ z, isSl y = z := ⟨_, rfl⟩
        rw [hz] at HC
        have HY := Lib.hid hy
        have HZ := Lib.hid hz
        clear hy hc hz
        cases z with
        | false =>
          go_wp2_with fail
          refine (HC _).mono ?_
          rintro e w1 ⟨rfl, rfl⟩
          go_wp2
          go_ret
          exact ⟨by rw [all_no hlt (by rw [HY.out, HZ.out])]; rfl, rfl⟩
        | true =>
          go_wp2_with fail
          refine (HC _).mono ?_
          rintro e w1 ⟨rfl, rfl⟩
          go_wp2
          go_roundg (l.length - (k + 1))
          case measure => omega
          case rel =>
            refine ⟨k + 1, by omega, rfl, by simp, rfl, fun j hj => ?_⟩
            by_cases ej : j = k
            · subst ej; rw [HY.out, HZ.out]
            · exact HK.out j (by omega)
      · have e' : k = l.length := by omega
        subst e'
        have hz : ((l.length : Int) == (n : Int)) = decide (l.length = n) := by rw [Bool.eq_iff_iff]; simp; omega
        have HZ := Lib.hid hz
        clear hz
        go_wp2
        go_ret
        exact ⟨by rw [all_yes HK.out]; have := HZ.out; simp at this ⊢; exact this, rfl⟩
set_option maxHeartbeats 1000000 in
theorem sexs (v : Value) (l : List Int) (n : Nat) (w : World) (h : RowV w v l) (hl : l.length ≤ 1048576) (hn : n ≤ 1048576) :
    Calls Try.prog 52 #[v, .int .i64 (n : Int)] w fun e w' => e = .returned (.bool (l.all isEx && decide (l.length = n))) ∧ w = w' := by
  by_cases e : l = []
  · subst e
    obtain ⟨a, cap, rfl⟩ := h.shape
    clear h
    have hz : ((0 : Int) == (n : Int)) = decide (0 = n) := by rw [Bool.eq_iff_iff]; simp; omega
    have HZ := Lib.hid hz
    clear hz
    go_enter Try.func52, Try.ntmps52
    go_wp2
    go_loopg [5] 0 (fun g i wr => i = .int .i64 0 ∧ w = wr)
    case atStart => exact ⟨rfl, rfl⟩
    case round =>
      obtain ⟨rfl, rfl⟩ := hrel
      go_wp2
      go_ret
      exact ⟨by have := HZ.out; simp at this ⊢; exact this, rfl⟩
  · obtain ⟨x, cap, rfl, hx, hc⟩ := h.cons e
    clear h
    go_enter Try.func52, Try.ntmps52
    go_wp2
    go_loopg [5] l.length (fun g i wr => ∃ k : Nat, k ≤ l.length ∧ g = l.length - k ∧ i = .int .i64 k ∧ w = wr ∧ Hid (∀ j, j < k → isEx (l.getD j 0) = true))
    case atStart => exact ⟨0, Nat.zero_le _, rfl, rfl, rfl, fun j hj => absurd hj (Nat.not_lt_zero _)⟩
    case round =>
      obtain ⟨k, hk, rfl, rfl, rfl, HK⟩ := hrel
      by_cases hlt : k < l.length
      · have c1 := hc k hlt
        obtain ⟨y, hy⟩ : ∃ y, l.getD k 0 = y := ⟨_, rfl⟩
        rw [hy] at c1
        have HC := fun w' => sex_any y w'
        obtain ⟨z, hz⟩ : ∃ z, isEx y = z := ⟨_, rfl⟩
        rw [hz] at HC
        have HY := Lib.hid hy
        have HZ := Lib.hid hz
        clear hy hc hz
        cases z with
        | false =>
          go_wp2_with fail
          refine (HC _).mono ?_
          rintro e w1 ⟨rfl, rfl⟩
          go_wp2
          go_ret
          exact ⟨by rw [all_no hlt (by rw [HY.out, HZ.out])]; rfl, rfl⟩
        | true =>
          go_wp2_with fail
          refine (HC _).mono ?_
          rintro e w1 ⟨rfl, rfl⟩
          go_wp2
          go_roundg (l.length - (k + 1))
          case measure => omega
          case rel =>
            refine ⟨k + 1, by omega, rfl, by simp, rfl, fun j hj => ?_⟩
            by_cases ej : j = k
            · subst ej; rw [HY.out, HZ.out]
            · exact HK.out j (by omega)
      · have e' : k = l.length := by omega
        subst e'
        have hz : ((l.length : Int) == (n : Int)) = decide (l.length = n) := by rw [Bool.eq_iff_iff]; simp; omega
        have HZ := Lib.hid hz
        clear hz
        go_wp2
        go_ret
        exact ⟨by rw [all_yes HK.out]; have := HZ.out; simp at this ⊢; exact this, rfl⟩
set_option maxHeartbeats 1000000 in
theorem swts (v : Value) (l : List Int) (n : Nat) (w : World) (h : RowV w v l) (hl : l.length ≤ 1048576) (hn : n ≤ 1048576) :
    Calls Try.prog 119 #[v, .int .i64 (n : Int)] w fun e w' => e = .returned (.bool (l.all wB && decide (l.length = n))) ∧ w = w' := by
  by_cases e : l = []
  · subst e
    obtain ⟨a, cap, rfl⟩ := h.shape
    clear h
    have hz : ((0 : Int) == (n : Int)) = decide (0 = n) := by rw [Bool.eq_iff_iff]; simp; omega
    have HZ := Lib.hid hz
    clear hz
    go_enter Try.func119, Try.ntmps119
    go_wp2
    go_loopg [5] 0 (fun g i wr => i = .int .i64 0 ∧ w = wr)
    case atStart => exact ⟨rfl, rfl⟩
    case round =>
      obtain ⟨rfl, rfl⟩ := hrel
      go_wp2
      go_ret
      exact ⟨by have := HZ.out; simp at this ⊢; exact this, rfl⟩
  · obtain ⟨x, cap, rfl, hx, hc⟩ := h.cons e
    clear h
    go_enter Try.func119, Try.ntmps119
    go_wp2
    go_loopg [5] l.length (fun g i wr => ∃ k : Nat, k ≤ l.length ∧ g = l.length - k ∧ i = .int .i64 k ∧ w = wr ∧ Hid (∀ j, j < k → wB (l.getD j 0) = true))
    case atStart => exact ⟨0, Nat.zero_le _, rfl, rfl, rfl, fun j hj => absurd hj (Nat.not_lt_zero _)⟩
    case round =>
      obtain ⟨k, hk, rfl, rfl, rfl, HK⟩ := hrel
      by_cases hlt : k < l.length
      · have c1 := hc k hlt
        obtain ⟨y, hy⟩ : ∃ y, l.getD k 0 = y := ⟨_, rfl⟩
        rw [hy] at c1
        have HC := fun w' => wB_val y w'
        obtain ⟨z, hz⟩ : ∃ z, wB y = z := ⟨_, rfl⟩
        rw [hz] at HC
        have HY := Lib.hid hy
        have HZ := Lib.hid hz
        clear hy hc hz
        cases z with
        | false =>
          go_wp2_with fail
          refine (HC _).mono ?_
          rintro e w1 ⟨rfl, rfl⟩
          go_wp2
          go_ret
          exact ⟨by rw [all_no hlt (by rw [HY.out, HZ.out])]; rfl, rfl⟩
        | true =>
          go_wp2_with fail
          refine (HC _).mono ?_
          rintro e w1 ⟨rfl, rfl⟩
          go_wp2
          go_roundg (l.length - (k + 1))
          case measure => omega
          case rel =>
            refine ⟨k + 1, by omega, rfl, by simp, rfl, fun j hj => ?_⟩
            by_cases ej : j = k
            · subst ej; rw [HY.out, HZ.out]
            · exact HK.out j (by omega)
      · have e' : k = l.length := by omega
        subst e'
        have hz : ((l.length : Int) == (n : Int)) = decide (l.length = n) := by rw [Bool.eq_iff_iff]; simp; omega
        have HZ := Lib.hid hz
        clear hz
        go_wp2
        go_ret
        exact ⟨by rw [all_yes HK.out]; have := HZ.out; simp at this ⊢; exact this, rfl⟩
end Go.Proofs.Ytjfkkmfbgmejbaa
