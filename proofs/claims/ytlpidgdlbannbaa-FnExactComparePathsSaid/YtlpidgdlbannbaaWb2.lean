/- cmp.Compare, slices.Compare, cmp.Or, the measures of ranksBy. -/
import Derived.Test.YtlpidgdlbannbaaWa3
import Derived.Deep.RegionHeld3
namespace Go.Proofs.Ytlpidgdlbannbaa
open Go.ChangeShapes Go.WideShapes Go.ChangeAt Go.RowKit Go.Deep
set_option linter.unusedSimpArgs false
set_option linter.unusedVariables false
def cmpI (x y : Int) : Int := if x < y then -1 else if y < x then 1 else 0
theorem cmpI_zero {y z : Int} (h : cmpI y z = 0) : ¬ y < z ∧ ¬ z < y := by
  unfold cmpI at h
  by_cases h1 : y < z
  · rw [if_pos h1] at h; cases h
  · rw [if_neg h1] at h
    by_cases h2 : z < y
    · rw [if_pos h2] at h; cases h
    · exact ⟨h1, h2⟩
theorem nan_int (x : Int) (w : World) : Calls Try.prog 113 #[.int .i64 x] w fun e w' => e = .returned (.bool false) ∧ w = w' := by
  go_enter Try.func113, Try.ntmps113
  go_wp2
  go_ret
  simp
theorem nan_i64 (x : Int) (w : World) : Calls Try.prog 120 #[.int .i64 x] w fun e w' => e = .returned (.bool false) ∧ w = w' := by
  go_enter Try.func120, Try.ntmps120
  go_wp2
  go_ret
  simp
set_option maxRecDepth 100000 in
theorem cmp_int (x y : Int) (w : World) : Calls Try.prog 97 #[.int .i64 x, .int .i64 y] w fun e w' => e = .returned (.int .i64 (cmpI x y)) ∧ w = w' := by
  unfold cmpI
  by_cases h1 : x < y
  · rw [if_pos h1]
    go_enter Try.func97, Try.ntmps97
    go_wp2_with fail
    refine (nan_int _ _).mono ?_
    rintro e w1 ⟨rfl, rfl⟩
    go_wp2_with fail
    refine (nan_int _ _).mono ?_
    rintro e w1 ⟨rfl, rfl⟩
    go_wp2
    go_ret
    exact ⟨rfl, rfl⟩
  · rw [if_neg h1]
    by_cases h2 : y < x
    · rw [if_pos h2]
      go_enter Try.func97, Try.ntmps97
      go_wp2_with fail
      refine (nan_int _ _).mono ?_
      rintro e w1 ⟨rfl, rfl⟩
      go_wp2_with fail
      refine (nan_int _ _).mono ?_
      rintro e w1 ⟨rfl, rfl⟩
      go_wp2
      go_ret
      exact ⟨rfl, rfl⟩
    · rw [if_neg h2]
      go_enter Try.func97, Try.ntmps97
      go_wp2_with fail
      refine (nan_int _ _).mono ?_
      rintro e w1 ⟨rfl, rfl⟩
      go_wp2_with fail
      refine (nan_int _ _).mono ?_
      rintro e w1 ⟨rfl, rfl⟩
      go_wp2
      go_ret
      exact ⟨rfl, rfl⟩
set_option maxRecDepth 100000 in
theorem cmp_i64 (x y : Int) (w : World) : Calls Try.prog 114 #[.int .i64 x, .int .i64 y] w fun e w' => e = .returned (.int .i64 (cmpI x y)) ∧ w = w' := by
  unfold cmpI
  by_cases h1 : x < y
  · rw [if_pos h1]
    go_enter Try.func114, Try.ntmps114
    go_wp2_with fail
    refine (nan_i64 _ _).mono ?_
    rintro e w1 ⟨rfl, rfl⟩
    go_wp2_with fail
    refine (nan_i64 _ _).mono ?_
    rintro e w1 ⟨rfl, rfl⟩
    go_wp2
    go_ret
    exact ⟨rfl, rfl⟩
  · rw [if_neg h1]
    by_cases h2 : y < x
    · rw [if_pos h2]
      go_enter Try.func114, Try.ntmps114
      go_wp2_with fail
      refine (nan_i64 _ _).mono ?_
      rintro e w1 ⟨rfl, rfl⟩
      go_wp2_with fail
      refine (nan_i64 _ _).mono ?_
      rintro e w1 ⟨rfl, rfl⟩
      go_wp2
      go_ret
      exact ⟨rfl, rfl⟩
    · rw [if_neg h2]
      go_enter Try.func114, Try.ntmps114
      go_wp2_with fail
      refine (nan_i64 _ _).mono ?_
      rintro e w1 ⟨rfl, rfl⟩
      go_wp2_with fail
      refine (nan_i64 _ _).mono ?_
      rintro e w1 ⟨rfl, rfl⟩
      go_wp2
      go_ret
      exact ⟨rfl, rfl⟩
set_option maxHeartbeats 600000 in
set_option maxRecDepth 100000 in
theorem scmp_any (v v' : Value) (a b : List Int) (w : World) (h : RowV w v a) (h' : RowV w v' b) (hl : a.length ≤ 1048576) (hl' : b.length ≤ 1048576) :
    Calls Try.prog 98 #[v, v'] w fun e w' => e = .returned (.int .i64 (lessL a b)) ∧ w = w' := by
  have cells : ∀ {v : Value} {l : List Int}, RowV w v l → ∃ x c, v = .slice x l.length c ∧ ∀ i, i < l.length → ∃ y, x = some y ∧ w.cell? (y.add i) = some (.int .i64 (l.getD i 0)) := by
    intro v l q
    rcases q with ⟨q, rfl⟩ | ⟨y, c, q, hy, hc⟩
    · exact ⟨none, 0, q, fun i hi => absurd hi (Nat.not_lt_zero _)⟩
    · exact ⟨some y, c, q, fun i hi => ⟨y, rfl, hc i hi⟩⟩
  obtain ⟨x, c, rfl, hA⟩ := cells h
  obtain ⟨x', c', rfl, hB⟩ := cells h'
  have HA := Lib.hid hA
  have HB := Lib.hid hB
  clear h h' cells hA hB
  go_enter Try.func98, Try.ntmps98
  go_wp2
  go_loopg [11] a.length (fun g i wr => ∃ k : Nat, k ≤ a.length ∧ k ≤ b.length ∧ g = a.length - k ∧ i = .int .i64 k ∧ w = wr ∧ Hid (lessL a b = lessL (a.drop k) (b.drop k)))
  case atStart => exact ⟨0, Nat.zero_le _, Nat.zero_le _, rfl, rfl, rfl, by show _ = _; simp⟩
  case round =>
    obtain ⟨k, hk, hk', rfl, rfl, rfl, H⟩ := hrel
    by_cases h1 : k < a.length
    · obtain ⟨y1, rfl, c1⟩ := HA.out k h1
      by_cases h2 : k < b.length
      · obtain ⟨y2, rfl, c2⟩ := HB.out k h2
        have hs := lessL_step h1 h2
        obtain ⟨y, hy⟩ : ∃ y, a.getD k 0 = y := ⟨_, rfl⟩
        obtain ⟨z, hz⟩ : ∃ z, b.getD k 0 = z := ⟨_, rfl⟩
        rw [hy] at c1 hs
        rw [hz] at c2 hs
        have HS := Lib.hid hs
        have HC := cmp_i64 y z w
        have hge : ¬ (b.length : Int) ≤ (k : Int) := by omega
        clear hy hz hs
        by_cases q0 : cmpI y z = 0
        · rw [q0] at HC
          have q1 := cmpI_zero q0
          go_wp2_with fail
          refine HC.mono ?_
          rintro e w1 ⟨rfl, rfl⟩
          go_wp2
          go_roundg (a.length - (k + 1))
          case measure => omega
          case rel => exact ⟨k + 1, by omega, by omega, rfl, by simp, rfl, by show _ = _; rw [H.out, HS.out, if_neg (by omega), if_neg (by omega)]⟩
        · have q1 : lessL a b = cmpI y z := by
            rw [H.out, HS.out]
            unfold cmpI at q0 ⊢
            split
            · rfl
            · split
              · rfl
              · rename_i u1 u2; rw [if_neg u1, if_neg u2] at q0; exact absurd rfl q0
          obtain ⟨n, hn⟩ : ∃ n, cmpI y z = n := ⟨_, rfl⟩
          rw [hn] at HC q0 q1
          have hne : (n == 0) = false := by simp [q0]
          have Q1 := Lib.hid q1
          clear q1 hn
          go_wp2_with fail
          refine HC.mono ?_
          rintro e w1 ⟨rfl, rfl⟩
          go_wp2
          go_ret
          exact ⟨by rw [Q1.out]; rfl, rfl⟩
      · have hd := lessL_done hk hk' (by omega)
        have HD := Lib.hid hd
        have e : k = b.length := by omega
        clear hd
        have q1 : b.length < a.length := by omega
        subst e
        go_wp2
        go_ret
        exact ⟨by rw [H.out, HD.out, if_neg (by omega), if_pos q1]; rfl, rfl⟩
    · have hd := lessL_done hk hk' (by omega)
      have HD := Lib.hid hd
      have e : k = a.length := by omega
      clear hd
      subst e
      by_cases q1 : a.length < b.length
      · go_wp2
        go_ret
        exact ⟨by rw [H.out, HD.out, if_pos q1]; rfl, rfl⟩
      · have q2 : b.length = a.length := by omega
        go_wp2
        go_ret
        exact ⟨by rw [H.out, HD.out, if_neg (by omega), if_neg (by omega)]; rfl, rfl⟩
set_option maxRecDepth 100000 in
theorem or_any (g : Nat) (x y : Int) (w : World) (h1 : w.cell? ⟨g, 0, none⟩ = some (.int .i64 x)) (h2 : w.cell? ⟨g, 1, none⟩ = some (.int .i64 y)) :
    Calls Try.prog 96 #[.slice (some ⟨g, 0, none⟩) 2 2] w fun e w' => e = .returned (.int .i64 (if x = 0 then y else x)) ∧ w = w' := by
  go_enter Try.func96, Try.ntmps96
  go_wp2
  go_loopg [8] 2 (fun m i wr => ∃ k : Nat, k ≤ 2 ∧ m = 2 - k ∧ i = .int .i64 k ∧ w = wr ∧ (0 < k → x = 0) ∧ (1 < k → y = 0))
  case atStart => exact ⟨0, by omega, rfl, rfl, rfl, by omega, by omega⟩
  case round =>
    obtain ⟨k, hk, rfl, rfl, rfl, k1, k2⟩ := hrel
    have hk3 : k = 0 ∨ k = 1 ∨ k = 2 := by omega
    rcases hk3 with rfl | rfl | rfl
    · by_cases q : x = 0
      · subst q
        go_wp2
        go_roundg 1
        case measure => omega
        case rel => exact ⟨1, by omega, by omega, by first | rfl | simp, rfl, by simp, by simp⟩
      · have hq : (x == 0) = false := by simp [q]
        go_wp2
        go_ret
        first | exact ⟨rfl, rfl⟩ | (rw [if_neg q]; exact ⟨rfl, rfl⟩) | (simp [q]; done)
    · have q := k1 (by omega)
      subst q
      by_cases q2 : y = 0
      · subst q2
        go_wp2
        go_roundg 0
        case measure => omega
        case rel => exact ⟨2, by omega, by omega, by first | rfl | simp, rfl, by simp, by simp⟩
      · have hq : (y == 0) = false := by simp [q2]
        go_wp2
        go_ret
        first | exact ⟨rfl, rfl⟩ | (rw [if_pos rfl]; exact ⟨rfl, rfl⟩) | (simp; done)
    · have q := k1 (by omega)
      have q2 := k2 (by omega)
      subst q; subst q2
      go_wp2
      go_ret
      first | exact ⟨rfl, rfl⟩ | (rw [if_pos rfl]; exact ⟨rfl, rfl⟩) | (simp; done)
def mes (rule : Int) (l : List Int) : Int := if rule = 0 then l.length else if rule = 1 then sumTo l l.length else 0
theorem mes0 (v : Value) (l : List Int) (w : World) (h : RowV w v l) (hl : l.length ≤ 1048576) : Calls Try.prog 92 #[v] w fun e w' => e = .returned (.int .i64 (mes 0 l)) ∧ w = w' := by
  obtain ⟨a, c, rfl⟩ := h.shape
  clear h
  go_enter Try.func92, Try.ntmps92
  go_wp2
  go_ret
  exact ⟨rfl, rfl⟩
theorem mes2 (v : Value) (l : List Int) (w : World) : Calls Try.prog 94 #[v] w fun e w' => e = .returned (.int .i64 (mes 2 l)) ∧ w = w' := by
  go_enter Try.func94, Try.ntmps94
  go_wp2
  go_ret
  exact ⟨rfl, rfl⟩
set_option maxRecDepth 100000 in
theorem mes1 (v : Value) (l : List Int) (w : World) (h : RowV w v l) (hl : l.length ≤ 1048576) (hb : ∀ n ∈ l, -2000000 ≤ n ∧ n ≤ 2000000) : Calls Try.prog 93 #[v] w fun e w' => e = .returned (.int .i64 (mes 1 l)) ∧ w = w' := by
  have HB := Lib.hid (sumTo_bd hb)
  have hm : mes 1 l = sumTo l l.length := rfl
  rw [hm]
  clear hb hm
  obtain ⟨x, c, rfl, hA⟩ : ∃ x c, v = .slice x l.length c ∧ ∀ i, i < l.length → ∃ y, x = some y ∧ w.cell? (y.add i) = some (.int .i64 (l.getD i 0)) := by
    rcases h with ⟨q, rfl⟩ | ⟨y, c, q, hy, hc⟩
    · exact ⟨none, 0, q, fun i hi => absurd hi (Nat.not_lt_zero _)⟩
    · exact ⟨some y, c, q, fun i hi => ⟨y, rfl, hc i hi⟩⟩
  have HA := Lib.hid hA
  clear h hA
  go_enter Try.func93, Try.ntmps93
  go_wp2
  go_loopg [3, 8] l.length (fun g s i wr => ∃ (k : Nat) (z : Int), k ≤ l.length ∧ g = l.length - k ∧ s = .int .i64 z ∧ i = .int .i64 k ∧ w = wr ∧ Hid (sumTo l k = z))
  case atStart => exact ⟨0, 0, Nat.zero_le _, rfl, rfl, rfl, rfl, rfl⟩
  case round =>
    obtain ⟨k, z, hk, rfl, rfl, rfl, rfl, H⟩ := hrel
    by_cases hlt : k < l.length
    · obtain ⟨y1, rfl, c1⟩ := HA.out k hlt
      have b1 := HB.out k hk
      have b2 := HB.out (k + 1) (by omega)
      simp only [sumTo] at b2
      rw [H.out] at b1 b2
      obtain ⟨y, hy⟩ : ∃ y, l.getD k 0 = y := ⟨_, rfl⟩
      rw [hy] at c1 b2
      have HY := Lib.hid hy
      have wz : IntKind.i64.wrap (z + y) = z + y := by rw [IntKind.wrap_i64]; omega
      clear hy b1 b2
      go_wp2
      go_roundg (l.length - (k + 1))
      case measure => omega
      case rel => exact ⟨k + 1, z + y, by omega, rfl, by first | rfl | simp, by simp, rfl, by show sumTo l (k + 1) = _; simp only [sumTo]; rw [H.out, HY.out]⟩
    · have e : k = l.length := by omega
      subst e
      go_wp2
      go_ret
      exact ⟨by rw [H.out]; rfl, rfl⟩
end Go.Proofs.Ytlpidgdlbannbaa
