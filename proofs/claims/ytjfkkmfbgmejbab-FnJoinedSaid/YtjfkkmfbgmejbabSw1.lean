/- Lists of bounded numbers and weights: the program's look. -/
import Derived.Test.YtjfkkmfbgmejbabK2v
namespace Go.Proofs.Ytjfkkmfbgmejbab
open Go.ChangeShapes Go.WideShapes Go.ChangeAt Go.RowKit Go.Deep
set_option linter.unusedSimpArgs false
set_option linter.unusedVariables false
/-- All numbers of a list are 0 to m. -/
def allIn (m : Int) (l : List Int) : Bool := l.all (fun n => decide (0 ≤ n) && decide (n ≤ m))
theorem allIn_iff {m : Int} {l : List Int} : allIn m l = true ↔ ∀ k, k < l.length → 0 ≤ l.getD k 0 ∧ l.getD k 0 ≤ m := by
  unfold allIn
  rw [List.all_eq_true]
  constructor
  · intro h k hk
    have := h _ (List.getElem_mem hk)
    simp [List.getD, hk] at this ⊢
    exact this
  · intro h x hx
    obtain ⟨k, hk, rfl⟩ := List.mem_iff_getElem.1 hx
    have := h k hk
    simp [List.getD, hk] at this ⊢
    exact this
theorem allIn_no {m : Int} {l : List Int} {k : Nat} (hk : k < l.length) (h : ¬ (0 ≤ l.getD k 0 ∧ l.getD k 0 ≤ m)) : allIn m l = false := by
  cases e : allIn m l with
  | false => rfl
  | true => exact absurd (allIn_iff.1 e k hk) h
theorem allIn_yes {m : Int} {l : List Int} (h : ∀ k, k < l.length → 0 ≤ l.getD k 0 ∧ l.getD k 0 ≤ m) : allIn m l = true := allIn_iff.2 h
def SumM (m : Int) (l : List Int) (w : World) (e : Ending) (w' : World) : Prop := ∃ x : Int, e = .returned (.tuple #[.int .i64 x, .bool (allIn m l)]) ∧ w = w'
set_option maxHeartbeats 1000000 in
theorem isumm (m : Int) (v : Value) (l : List Int) (w : World) (h : RowV w v l) (hl : l.length ≤ 1048576) (h0 : 0 ≤ m) (hm : m ≤ 1000000007) :
    Calls Try.prog 53 #[v, .int .i64 m] w (SumM m l w) := by
  by_cases e : l = []
  · subst e
    obtain ⟨a, cap, rfl⟩ := h.shape
    clear h
    go_enter Try.func53, Try.ntmps53
    go_wp2
    go_loopg [6, 11] 0 (fun g s i wr => s = .int .i64 0 ∧ i = .int .i64 0 ∧ w = wr)
    case atStart => exact ⟨rfl, rfl, rfl⟩
    case round =>
      obtain ⟨rfl, rfl, rfl⟩ := hrel
      go_wp2
      go_ret2
      exact ⟨_, rfl, rfl⟩
  · obtain ⟨x, cap, rfl, hx, hc⟩ := h.cons e
    clear h
    go_enter Try.func53, Try.ntmps53
    go_wp2
    go_loopg [6, 11] l.length (fun g s i wr => ∃ (k : Nat) (z : Int), k ≤ l.length ∧ g = l.length - k ∧ s = .int .i64 z ∧ i = .int .i64 k ∧ w = wr ∧ 0 ≤ z ∧ z ≤ 1000000007 * k ∧ Hid (∀ j, j < k → 0 ≤ l.getD j 0 ∧ l.getD j 0 ≤ m))
    case atStart => exact ⟨0, 0, Nat.zero_le _, rfl, rfl, rfl, rfl, by omega, by omega, fun j hj => absurd hj (Nat.not_lt_zero _)⟩
    case round =>
      obtain ⟨k, z, hk, rfl, rfl, rfl, rfl, z1, z2, HK⟩ := hrel
      by_cases hlt : k < l.length
      · have c1 := hc k hlt
        obtain ⟨y, hy⟩ : ∃ y, l.getD k 0 = y := ⟨_, rfl⟩
        rw [hy] at c1
        have HY := Lib.hid hy
        clear hy hc
        by_cases h1 : y < 0
        · go_wp2
          go_ret2
          exact ⟨_, by rw [allIn_no hlt (by rw [HY.out]; omega)]; rfl, rfl⟩
        · by_cases h2 : m < y
          · go_wp2
            go_ret2
            exact ⟨_, by rw [allIn_no hlt (by rw [HY.out]; omega)]; rfl, rfl⟩
          · have wz : IntKind.i64.wrap (z + y) = z + y := by rw [IntKind.wrap_i64]; omega
            go_wp2
            go_roundg (l.length - (k + 1))
            case measure => omega
            case rel =>
              refine ⟨k + 1, z + y, by omega, rfl, by first | rfl | rw [wz], by simp, rfl, by omega, by omega, fun j hj => ?_⟩
              by_cases e : j = k
              · subst e; rw [HY.out]; exact ⟨by omega, by omega⟩
              · exact HK.out j (by omega)
      · have e' : k = l.length := by omega
        subst e'
        go_wp2
        go_ret2
        exact ⟨_, by rw [allIn_yes HK.out]; rfl, rfl⟩
theorem all_no {p : Int → Bool} {l : List Int} {k : Nat} (hk : k < l.length) (h : p (l.getD k 0) = false) : l.all p = false := by
  cases e : l.all p with
  | false => rfl
  | true =>
    rw [List.all_eq_true] at e
    have := e _ (List.getElem_mem hk)
    simp [List.getD, hk] at h
    rw [h] at this; exact this.symm
theorem all_yes {p : Int → Bool} {l : List Int} (h : ∀ k, k < l.length → p (l.getD k 0) = true) : l.all p = true := by
  rw [List.all_eq_true]
  intro x hx
  obtain ⟨k, hk, rfl⟩ := List.mem_iff_getElem.1 hx
  have := h k hk
  simp [List.getD, hk] at this
  exact this
theorem all_at {p : Int → Bool} {l : List Int} (h : l.all p = true) {k : Nat} (hk : k < l.length) : p (l.getD k 0) = true := by
  rw [List.all_eq_true] at h
  have := h _ (List.getElem_mem hk)
  simp [List.getD, hk]; exact this
def wB (n : Int) : Bool := decide (0 ≤ n) && decide (n ≤ 1000)
theorem wB_ok {n : Int} (h : wB n = true) : 0 ≤ n ∧ n ≤ 1000 := by simp [wB] at h; exact h
theorem wB_of {n : Int} (h : 0 ≤ n ∧ n ≤ 1000) : wB n = true := by simp [wB, h]
theorem iwts (v : Value) (l : List Int) (n : Nat) (w : World) (h : RowV w v l) (hl : l.length ≤ 1048576) (hn : n ≤ 1048576) :
    Calls Try.prog 31 #[.int .i64 (n : Int), v] w fun e w' => e = .returned (.bool (l.all wB && decide (l.length = n))) ∧ w = w' := by
  have HS := isumm 1000 v l w h hl (by omega) (by omega)
  obtain ⟨a, cap, rfl⟩ := h.shape
  have hz : allIn 1000 l = l.all wB := rfl
  unfold SumM at HS
  rw [hz] at HS
  have hy : ((l.length : Int) == (n : Int)) = decide (l.length = n) := by rw [Bool.eq_iff_iff]; simp; omega
  have HY := Lib.hid hy
  generalize l.all wB = z at HS ⊢
  clear h hz hy
  go_enter Try.func31, Try.ntmps31
  cases z with
  | false =>
    go_wp2_with fail
    refine HS.mono ?_
    rintro e w1 ⟨x, rfl, rfl⟩
    go_wp2
    go_ret
    exact ⟨rfl, rfl⟩
  | true =>
    go_wp2_with fail
    refine HS.mono ?_
    rintro e w1 ⟨x, rfl, rfl⟩
    go_wp2
    go_ret
    exact ⟨by have := HY.out; simp at this ⊢; exact this, rfl⟩
end Go.Proofs.Ytjfkkmfbgmejbab
