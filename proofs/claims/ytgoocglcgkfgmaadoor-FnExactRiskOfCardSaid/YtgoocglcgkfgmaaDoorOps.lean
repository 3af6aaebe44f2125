/- The operations on fractions by contracts, the program's. -/
import Derived.Test.YtgoocglcgkfgmaaDoorBorder
namespace Go.Proofs.YtgoocglcgkfgmaaDoor
open Go.ChangeShapes Go.WideShapes Go.ChangeAt Go.RowKit
theorem mul_bd {x y a b : Int} (h1 : -a ≤ x) (h2 : x ≤ a) (h3 : -b ≤ y) (h4 : y ≤ b) (ha : 0 ≤ a) (hb : 0 ≤ b) : -(a * b) ≤ x * y ∧ x * y ≤ a * b := by
  have h : (x * y).natAbs ≤ a.natAbs * b.natAbs := by
    rw [Int.natAbs_mul]
    exact Nat.mul_le_mul (by omega) (by omega)
  have e : ((a.natAbs * b.natAbs : Nat) : Int) = a * b := by
    rw [Int.natCast_mul]
    rw [Int.natAbs_of_nonneg ha, Int.natAbs_of_nonneg hb]
  omega
theorem mul9 {x y : Int} (h1 : -1000000000 ≤ x) (h2 : x ≤ 1000000000) (h3 : -1000000000 ≤ y) (h4 : y ≤ 1000000000) : -1000000000000000000 ≤ x * y ∧ x * y ≤ 1000000000000000000 := by
  have := mul_bd h1 h2 h3 h4 (by omega) (by omega)
  simpa using this
theorem mul_pos9 {x y : Int} (h1 : 1 ≤ x) (h3 : 1 ≤ y) : 1 ≤ x * y := by
  have := Int.mul_pos (a := x) (b := y) (by omega) (by omega)
  omega
/-- What a check answers: nil, or an error. -/
def chkPost (b : Bool) (w : World) (e : Ending) (w' : World) : Prop :=
  (if b = true then e = .returned .nilIface else ∃ s, e = .returned (.iface 39 (.agg #[.string s]))) ∧ Below w.heap.size w w'
theorem check_any (n d : Int) (w : World) : Calls Tryd.prog 20 #[.agg #[.int .i64 n, .int .i64 d]] w (chkPost (okB n d) w) := by
  rcases okF_dec n d with h | h
  · rw [okB_yes h]
    exact (check_yes n d w h).mono fun e w' ⟨h1, h2⟩ => ⟨by rw [if_pos rfl]; exact h1, h2⟩
  · rw [okB_no h]
    exact (check_no n d w h).mono fun e w' ⟨⟨v, h1, s, h3⟩, h2⟩ => ⟨by rw [if_neg (by decide)]; exact ⟨s, by rw [h1, h3]⟩, h2⟩
theorem chk_t {w w' : World} {e : Ending} (h : chkPost true w e w') : e = .returned .nilIface ∧ Below w.heap.size w w' := ⟨by simpa using h.1, h.2⟩
theorem chk_f {w w' : World} {e : Ending} (h : chkPost false w e w') : ∃ s, e = .returned (.iface 39 (.agg #[.string s])) ∧ Below w.heap.size w w' := by
  obtain ⟨h1, h2⟩ := h
  rw [if_neg (by decide)] at h1
  obtain ⟨s, hs⟩ := h1
  exact ⟨s, hs, h2⟩
theorem red_t {x y : Int} {w w' : World} {e : Ending} (h : redPost true x y w e w') : e = .returned (.tuple #[.agg #[.int .i64 x, .int .i64 y], .nilIface]) ∧ Below w.heap.size w w' := ⟨by simpa using h.1, h.2⟩
theorem red_f {x y : Int} {w w' : World} {e : Ending} (h : redPost false x y w e w') : ∃ s, e = .returned (.tuple #[.agg #[.int .i64 0, .int .i64 0], .iface 39 (.agg #[.string s])]) ∧ Below w.heap.size w w' := by
  obtain ⟨h1, h2⟩ := h
  rw [if_neg (by decide)] at h1
  obtain ⟨s, hs⟩ := h1
  exact ⟨s, hs, h2⟩

theorem both_ok {an ad bn bd : Int} (h : (okB an ad && okB bn bd) = true) : okF an ad ∧ okF bn bd := by
  rw [Bool.and_eq_true] at h
  exact ⟨okB_t h.1, okB_t h.2⟩
theorem gB_f (n d : Int) : gB false n d = false := by simp [gB]
theorem neg_okB (n d : Int) (h1 : -9223372036854775808 ≤ n) (h2 : n ≤ 9223372036854775807) : okB (wrap64 (-n)) d = okB n d := by
  by_cases h : n = -9223372036854775808
  · subst h
    have e : wrap64 (- -9223372036854775808) = -9223372036854775808 := by unfold wrap64; omega
    rw [e]
  · have e : wrap64 (-n) = -n := by unfold wrap64; omega
    rw [e]
    have e2 : okF (-n) d ↔ okF n d := by unfold okF; rw [Int.neg_gcd]; constructor <;> (rintro ⟨a, b, c, d, e⟩; exact ⟨a, b, by omega, by omega, e⟩)
    rcases okF_dec n d with k | k
    · rw [okB_yes k, okB_yes (e2.2 k)]
    · rw [okB_no k, okB_no (fun x => k (e2.1 x))]

end Go.Proofs.YtgoocglcgkfgmaaDoor
