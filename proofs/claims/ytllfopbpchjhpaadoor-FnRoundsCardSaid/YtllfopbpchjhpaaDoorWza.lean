/- Several of this claim's texts in one: Wa1, Wb2. -/
import Derived.Test.YtllfopbpchjhpaaDoorFm2
import Derived.Deep.RegionHeld3
/- Sums of ranks and ranks compared: the specification's l02Sum and l02Less by contracts. -/
namespace Go.Proofs.YtllfopbpchjhpaaDoor
open Go.ChangeShapes Go.WideShapes Go.ChangeAt Go.RowKit Go.Deep
set_option linter.unusedSimpArgs false
set_option linter.unusedVariables false
/-- The sum of the first k numbers of l. -/
def sumTo (l : List Int) : Nat → Int
  | 0 => 0
  | k + 1 => sumTo l k + l.getD k 0
theorem sumTo_bd {l : List Int} (h : ∀ n ∈ l, -2000000 ≤ n ∧ n ≤ 2000000) : ∀ k, k ≤ l.length → -(2000000 * (k : Int)) ≤ sumTo l k ∧ sumTo l k ≤ 2000000 * (k : Int) := by
  intro k
  induction k with
  | zero => intro _; simp [sumTo]
  | succ k ih =>
    intro hk
    have h1 := ih (by omega)
    have h2 : l.getD k 0 ∈ l := by rw [getD_of (by omega)]; exact List.getElem_mem _
    have h3 := h _ h2
    simp only [sumTo]
    omega
/-- Lists of numbers compared. -/
def lessL : List Int → List Int → Int
  | [], [] => 0
  | [], _ :: _ => -1
  | _ :: _, [] => 1
  | x :: a, y :: b => if x < y then -1 else if y < x then 1 else lessL a b
theorem lessL_step {a b : List Int} {k : Nat} (h1 : k < a.length) (h2 : k < b.length) : lessL (a.drop k) (b.drop k) = if a.getD k 0 < b.getD k 0 then -1 else if b.getD k 0 < a.getD k 0 then 1 else lessL (a.drop (k + 1)) (b.drop (k + 1)) := by
  rw [List.drop_eq_getElem_cons h1, List.drop_eq_getElem_cons h2, lessL, getD_of h1, getD_of h2]
theorem lessL_done {a b : List Int} {k : Nat} (h1 : k ≤ a.length) (h2 : k ≤ b.length) (h3 : ¬ (k < a.length ∧ k < b.length)) : lessL (a.drop k) (b.drop k) = if a.length < b.length then -1 else if b.length < a.length then 1 else 0 := by
  by_cases ha : k < a.length
  · have hb : k = b.length := by omega
    rw [List.drop_eq_getElem_cons ha, List.drop_of_length_le (by omega : b.length ≤ k), lessL, if_neg (by omega), if_pos (by omega)]
  · by_cases hb : k < b.length
    · rw [List.drop_eq_getElem_cons hb, List.drop_of_length_le (by omega : a.length ≤ k), lessL, if_pos (by omega)]
    · rw [List.drop_of_length_le (by omega : a.length ≤ k), List.drop_of_length_le (by omega : b.length ≤ k), lessL, if_neg (by omega), if_neg (by omega)]
end Go.Proofs.YtllfopbpchjhpaaDoor
/- cmp.Compare, slices.Compare, cmp.Or, the measures of ranksBy. -/
namespace Go.Proofs.YtllfopbpchjhpaaDoor
open Go.ChangeShapes Go.WideShapes Go.ChangeAt Go.RowKit Go.Deep
set_option linter.unusedSimpArgs false
set_option linter.unusedVariables false
def cmpI (x y : Int) : Int := if x < y then -1 else if y < x then 1 else 0
theorem cmpI_zero {y z : Int} (h : cmpI y z = 0) : ¬ y < z ∧ ¬ z < y := by
  unfold cmpI at h
  by_cases h1 : y < z
  · rw [if_pos h1] at h; cases h
  · rw [if_neg h1] at h
    by_cases h2 : z < y
    · rw [if_pos h2] at h; cases h
    · exact ⟨h1, h2⟩
theorem nan_i64 (x : Int) (w : World) : Calls Tryd.prog 34 #[.int .i64 x] w fun e w' => e = .returned (.bool false) ∧ w = w' := by
  go_enter Tryd.func34, Tryd.ntmps34
  go_wp2
  go_ret
  simp
set_option maxRecDepth 100000 in
theorem cmp_i64 (x y : Int) (w : World) : Calls Tryd.prog 29 #[.int .i64 x, .int .i64 y] w fun e w' => e = .returned (.int .i64 (cmpI x y)) ∧ w = w' := by
  unfold cmpI
  by_cases h1 : x < y
  · rw [if_pos h1]
    go_enter Tryd.func29, Tryd.ntmps29
    go_wp2_with fail
    refine (nan_i64 _ _).mono ?_
    rintro e w1 ⟨rfl, rfl⟩
    go_wp2_with fail
    refine (nan_i64 _ _).mono ?_
    rintro e w1 ⟨rfl, rfl⟩
    go_wp2
    go_ret
    exact ⟨rfl, rfl⟩
  · rw [if_neg h1]
    by_cases h2 : y < x
    · rw [if_pos h2]
      go_enter Tryd.func29, Tryd.ntmps29
      go_wp2_with fail
      refine (nan_i64 _ _).mono ?_
      rintro e w1 ⟨rfl, rfl⟩
      go_wp2_with fail
      refine (nan_i64 _ _).mono ?_
      rintro e w1 ⟨rfl, rfl⟩
      go_wp2
      go_ret
      exact ⟨rfl, rfl⟩
    · rw [if_neg h2]
      go_enter Tryd.func29, Tryd.ntmps29
      go_wp2_with fail
      refine (nan_i64 _ _).mono ?_
      rintro e w1 ⟨rfl, rfl⟩
      go_wp2_with fail
      refine (nan_i64 _ _).mono ?_
      rintro e w1 ⟨rfl, rfl⟩
      go_wp2
      go_ret
      exact ⟨rfl, rfl⟩
set_option maxHeartbeats 600000 in
set_option maxRecDepth 100000 in
theorem scmp_any (v v' : Value) (a b : List Int) (w : World) (h : RowV w v a) (h' : RowV w v' b) (hl : a.length ≤ 1048576) (hl' : b.length ≤ 1048576) :
    Calls Tryd.prog 22 #[v, v'] w fun e w' => e = .returned (.int .i64 (lessL a b)) ∧ w = w' := by
  have cells : ∀ {v : Value} {l : List Int}, RowV w v l → ∃ x c, v = .slice x l.length c ∧ ∀ i, i < l.length → ∃ y, x = some y ∧ w.cell? (y.add i) = some (.int .i64 (l.getD i 0)) := by
    intro v l q
    rcases q with ⟨q, rfl⟩ | ⟨y, c, q, hy, hc⟩
    · exact ⟨none, 0, q, fun i hi => absurd hi (Nat.not_lt_zero _)⟩
    · exact ⟨some y, c, q, fun i hi => ⟨y, rfl, hc i hi⟩⟩
  obtain ⟨x, c, rfl, hA⟩ := cells h
  obtain ⟨x', c', rfl, hB⟩ := cells h'
  have HA := Lib.hid hA
  have HB := Lib.hid hB
  clear h h' cells hA hB
  go_enter Tryd.func22, Tryd.ntmps22
  go_wp2
  go_loopg [11] a.length (fun g i wr => ∃ k : Nat, k ≤ a.length ∧ k ≤ b.length ∧ g = a.length - k ∧ i = .int .i64 k ∧ w = wr ∧ Hid (lessL a b = lessL (a.drop k) (b.drop k)))
  case atStart => exact ⟨0, Nat.zero_le _, Nat.zero_le _, rfl, rfl, rfl, by show _ = _; simp⟩
  case round =>
    obtain ⟨k, hk, hk', rfl, rfl, rfl, H⟩ := hrel
    by_cases h1 : k < a.length
    · obtain ⟨y1, rfl, c1⟩ := HA.out k h1
      by_cases h2 : k < b.length
      · obtain ⟨y2, rfl, c2⟩ := HB.out k h2
        have hs := lessL_step h1 h2
        obtain ⟨y, hy⟩ : ∃ y, a.getD k 0 = y := ⟨_, rfl⟩
        obtain ⟨z, hz⟩ : ∃ z, b.getD k 0 = z := ⟨_, rfl⟩
        rw [hy] at c1 hs
        rw [hz] at c2 hs
        have HS := Lib.hid hs
        have HC := cmp_i64 y z w
        have hge : ¬ (b.length : Int) ≤ (k : Int) := by omega
        clear hy hz hs
        by_cases q0 : cmpI y z = 0
        · rw [q0] at HC
          have q1 := cmpI_zero q0
          go_wp2_with fail
          refine HC.mono ?_
          rintro e w1 ⟨rfl, rfl⟩
          go_wp2
          go_roundg (a.length - (k + 1))
          case measure => omega
          case rel => exact ⟨k + 1, by omega, by omega, rfl, by simp, rfl, by show _ = _; rw [H.out, HS.out, if_neg (by omega), if_neg (by omega)]⟩
        · have q1 : lessL a b = cmpI y z := by
            rw [H.out, HS.out]
            unfold cmpI at q0 ⊢
            split
            · rfl
            · split
              · rfl
              · rename_i u1 u2; rw [if_neg u1, if_neg u2] at q0; exact absurd rfl q0
          obtain ⟨n, hn⟩ : ∃ n, cmpI y z = n := ⟨_, rfl⟩
          rw [hn] at HC q0 q1
          have hne : (n == 0) = false := by simp [q0]
          have Q1 := Lib.hid q1
          clear q1 hn
          go_wp2_with fail
          refine HC.mono ?_
          rintro e w1 ⟨rfl, rfl⟩
          go_wp2
          go_ret
          exact ⟨by rw [Q1.out]; rfl, rfl⟩
      · have hd := lessL_done hk hk' (by omega)
        have HD := Lib.hid hd
        have e : k = b.length := by omega
        clear hd
        have q1 : b.length < a.length := by omega
        subst e
        go_wp2
        go_ret
        exact ⟨by rw [H.out, HD.out, if_neg (by omega), if_pos q1]; rfl, rfl⟩
    · have hd := lessL_done hk hk' (by omega)
      have HD := Lib.hid hd
      have e : k = a.length := by omega
      clear hd
      subst e
      by_cases q1 : a.length < b.length
      · go_wp2
        go_ret
        exact ⟨by rw [H.out, HD.out, if_pos q1]; rfl, rfl⟩
      · have q2 : b.length = a.length := by omega
        go_wp2
        go_ret
        exact ⟨by rw [H.out, HD.out, if_neg (by omega), if_neg (by omega)]; rfl, rfl⟩
def mes (rule : Int) (l : List Int) : Int := if rule = 0 then l.length else if rule = 1 then sumTo l l.length else 0
end Go.Proofs.YtllfopbpchjhpaaDoor
