/- The operations on fractions by contracts, the program's. -/
import Derived.Test.YtjfkkmfbgmejbabDoorBorder
namespace Go.Proofs.YtjfkkmfbgmejbabDoor
open Go.ChangeShapes Go.WideShapes Go.ChangeAt Go.RowKit
theorem mul_bd {x y a b : Int} (h1 : -a ≤ x) (h2 : x ≤ a) (h3 : -b ≤ y) (h4 : y ≤ b) (ha : 0 ≤ a) (hb : 0 ≤ b) : -(a * b) ≤ x * y ∧ x * y ≤ a * b := by
  have h : (x * y).natAbs ≤ a.natAbs * b.natAbs := by
    rw [Int.natAbs_mul]
    exact Nat.mul_le_mul (by omega) (by omega)
  have e : ((a.natAbs * b.natAbs : Nat) : Int) = a * b := by
    rw [Int.natCast_mul]
    rw [Int.natAbs_of_nonneg ha, Int.natAbs_of_nonneg hb]
  omega
theorem mul9 {x y : Int} (h1 : -1000000000 ≤ x) (h2 : x ≤ 1000000000) (h3 : -1000000000 ≤ y) (h4 : y ≤ 1000000000) : -1000000000000000000 ≤ x * y ∧ x * y ≤ 1000000000000000000 := by
  have := mul_bd h1 h2 h3 h4 (by omega) (by omega)
  simpa using this
theorem mul_pos9 {x y : Int} (h1 : 1 ≤ x) (h3 : 1 ≤ y) : 1 ≤ x * y := by
  have := Int.mul_pos (a := x) (b := y) (by omega) (by omega)
  omega
/-- What a check answers: nil, or an error. -/
def chkPost (b : Bool) (w : World) (e : Ending) (w' : World) : Prop :=
  (if b = true then e = .returned .nilIface else ∃ s, e = .returned (.iface 110 (.agg #[.string s]))) ∧ Below w.heap.size w w'
theorem check_any (n d : Int) (w : World) : Calls Tryd.prog 71 #[.agg #[.int .i64 n, .int .i64 d]] w (chkPost (okB n d) w) := by
  rcases okF_dec n d with h | h
  · rw [okB_yes h]
    exact (check_yes n d w h).mono fun e w' ⟨h1, h2⟩ => ⟨by rw [if_pos rfl]; exact h1, h2⟩
  · rw [okB_no h]
    exact (check_no n d w h).mono fun e w' ⟨⟨v, h1, s, h3⟩, h2⟩ => ⟨by rw [if_neg (by decide)]; exact ⟨s, by rw [h1, h3]⟩, h2⟩
theorem chk_t {w w' : World} {e : Ending} (h : chkPost true w e w') : e = .returned .nilIface ∧ Below w.heap.size w w' := ⟨by simpa using h.1, h.2⟩
theorem chk_f {w w' : World} {e : Ending} (h : chkPost false w e w') : ∃ s, e = .returned (.iface 110 (.agg #[.string s])) ∧ Below w.heap.size w w' := by
  obtain ⟨h1, h2⟩ := h
  rw [if_neg (by decide)] at h1
  obtain ⟨s, hs⟩ := h1
  exact ⟨s, hs, h2⟩
theorem red_t {x y : Int} {w w' : World} {e : Ending} (h : redPost true x y w e w') : e = .returned (.tuple #[.agg #[.int .i64 x, .int .i64 y], .nilIface]) ∧ Below w.heap.size w w' := ⟨by simpa using h.1, h.2⟩
theorem red_f {x y : Int} {w w' : World} {e : Ending} (h : redPost false x y w e w') : ∃ s, e = .returned (.tuple #[.agg #[.int .i64 0, .int .i64 0], .iface 110 (.agg #[.string s])]) ∧ Below w.heap.size w w' := by
  obtain ⟨h1, h2⟩ := h
  rw [if_neg (by decide)] at h1
  obtain ⟨s, hs⟩ := h1
  exact ⟨s, hs, h2⟩

theorem both_any (an ad bn bd : Int) (w : World) : Calls Tryd.prog 83 #[.agg #[.int .i64 an, .int .i64 ad], .agg #[.int .i64 bn, .int .i64 bd]] w (chkPost (okB an ad && okB bn bd) w) := by
  generalize ha : okB an ad = p
  have HA := Lib.hid ha
  clear ha
  generalize hb : okB bn bd = q
  have HB := Lib.hid hb
  clear hb
  cases p
  · go_enter Tryd.func83, Tryd.ntmps83
    go_wp2_with fail
    refine (check_any _ _ _).mono ?_
    rw [HA.out]
    intro e w1 h1
    obtain ⟨s, rfl, hb1⟩ := chk_f h1
    go_wp2
    go_ret
    exact ⟨by rw [if_neg (by simp)]; exact ⟨s, rfl⟩, (((Below.refl w.heap.size w).alloc (Nat.le_refl _) _).alloc (by simp) _).trans (hb1.mono (by simp; omega))⟩
  · go_enter Tryd.func83, Tryd.ntmps83
    go_wp2_with fail
    refine (check_any _ _ _).mono ?_
    rw [HA.out]
    intro e w1 h1
    obtain ⟨rfl, hb1⟩ := chk_t h1
    obtain ⟨hc1, hf1⟩ := bcell hb1
    have c0 : w1.cell? ⟨w.heap.size + 1, 0, none⟩ = some (.int .i64 bn) := by rw [hc1 _ _ (by simp)]; go_simp
    have c1 : w1.cell? ⟨w.heap.size + 1, 1, none⟩ = some (.int .i64 bd) := by rw [hc1 _ _ (by simp)]; go_simp
    have b1 := (((Below.refl w.heap.size w).alloc (Nat.le_refl _) (.cells #[.int .i64 an, .int .i64 ad] 26)).alloc (by simp) (.cells #[.int .i64 bn, .int .i64 bd] 26)).trans (hb1.mono (by simp; omega))
    clear h1 hc1 hf1
    go_wp2_with fail
    refine (check_any _ _ _).mono ?_
    rw [HB.out]
    intro e w2 h2
    cases q
    · obtain ⟨s, rfl, hb2⟩ := chk_f h2
      go_wp2
      go_ret
      exact ⟨by rw [if_neg (by decide)]; exact ⟨s, rfl⟩, b1.trans (hb2.mono b1.size)⟩
    · obtain ⟨rfl, hb2⟩ := chk_t h2
      go_wp2
      go_ret
      exact ⟨by rw [if_pos (by decide)]; rfl, b1.trans (hb2.mono b1.size)⟩

set_option maxHeartbeats 1000000 in
theorem times_no (an ad bn bd x y : Int) (w : World) (h : Hid ((okB an ad && okB bn bd) = false)) :
    Calls Tryd.prog 58 #[.agg #[.int .i64 an, .int .i64 ad], .agg #[.int .i64 bn, .int .i64 bd]] w (redPost false x y w) := by
  go_enter Tryd.func58, Tryd.ntmps58
  go_wp2_with fail
  refine (both_any _ _ _ _ _).mono ?_
  rw [h.out]
  intro e w1 h1
  obtain ⟨s, rfl, hb1⟩ := chk_f h1
  obtain ⟨hc1, hf1⟩ := bcell hb1
  have R0 : w1.cell? ⟨w.heap.size + 1 + 1, 0, none⟩ = some (.int .i64 0) := by rw [hc1 _ _ (by simp)]; go_simp
  have R1 : w1.cell? ⟨w.heap.size + 1 + 1, 1, none⟩ = some (.int .i64 0) := by rw [hc1 _ _ (by simp)]; go_simp
  have F0 : w1.frozen? ⟨w.heap.size + 1 + 1, 0, none⟩ = false := by rw [hf1 _ _ (by simp)]; go_simp
  have F1 : w1.frozen? ⟨w.heap.size + 1 + 1, 1, none⟩ = false := by rw [hf1 _ _ (by simp)]; go_simp
  have b1 := ((((Below.refl w.heap.size w).alloc (Nat.le_refl _) (.cells #[.int .i64 an, .int .i64 ad] 26)).alloc (by simp) (.cells #[.int .i64 bn, .int .i64 bd] 26)).alloc (by simp; omega) (.cells #[.int .i64 0, .int .i64 0] 26)).trans (hb1.mono (by simp; omega))
  clear h1 hc1 hf1
  go_wp2
  refine bodyPost_ret (v := .tuple #[.agg #[.int .i64 0, .int .i64 0], .iface 110 (.agg #[.string s])]) (by simp [results, Tryd.results58, go_sem, R0, R1]) rfl ⟨by rw [if_neg (by decide)]; exact ⟨s, rfl⟩, ?_⟩
  refine Below.setCell (Below.setCell b1 ?_ _) ?_ _
  all_goals (show _ ≤ _ + 1 + 1; omega)
set_option maxHeartbeats 1000000 in
theorem times_yes (an ad bn bd : Int) (w : World) (h : Hid ((okB an ad && okB bn bd) = true)) (b : Bool) (x y : Int) (hb : Hid (gB (decide (ad * bd ≠ 0)) (an * bn) (ad * bd) = b)) (hx : Hid (rN (an * bn) (ad * bd) = x)) (hy : Hid (rD (an * bn) (ad * bd) = y)) :
    Calls Tryd.prog 58 #[.agg #[.int .i64 an, .int .i64 ad], .agg #[.int .i64 bn, .int .i64 bd]] w (redPost b x y w) := by
  obtain ⟨ka, kb⟩ : okF an ad ∧ okF bn bd := by
    have hh := h.out
    rw [Bool.and_eq_true] at hh
    exact ⟨okB_t hh.1, okB_t hh.2⟩
  obtain ⟨a1, a2, a3, a4, -⟩ := ka
  obtain ⟨d1, d2, d3, d4, -⟩ := kb
  have m1 := mul9 a3 a4 d3 d4
  have m3 := mul9 (x := ad) (y := bd) (by omega) a2 (by omega) d2
  go_enter Tryd.func58, Tryd.ntmps58
  go_wp2_with fail
  refine (both_any _ _ _ _ _).mono ?_
  rw [h.out]
  intro e w1 h1
  obtain ⟨rfl, hb1⟩ := chk_t h1
  obtain ⟨hc1, hf1⟩ := bcell hb1
  have A0 : w1.cell? ⟨w.heap.size, 0, none⟩ = some (.int .i64 an) := by rw [hc1 _ _ (by simp; omega)]; go_simp
  have A1 : w1.cell? ⟨w.heap.size, 1, none⟩ = some (.int .i64 ad) := by rw [hc1 _ _ (by simp; omega)]; go_simp
  have B0 : w1.cell? ⟨w.heap.size + 1, 0, none⟩ = some (.int .i64 bn) := by rw [hc1 _ _ (by simp)]; go_simp
  have B1 : w1.cell? ⟨w.heap.size + 1, 1, none⟩ = some (.int .i64 bd) := by rw [hc1 _ _ (by simp)]; go_simp
  have R0 : w1.cell? ⟨w.heap.size + 1 + 1, 0, none⟩ = some (.int .i64 0) := by rw [hc1 _ _ (by simp)]; go_simp
  have R1 : w1.cell? ⟨w.heap.size + 1 + 1, 1, none⟩ = some (.int .i64 0) := by rw [hc1 _ _ (by simp)]; go_simp
  have F0 : w1.frozen? ⟨w.heap.size + 1 + 1, 0, none⟩ = false := by rw [hf1 _ _ (by simp)]; go_simp
  have F1 : w1.frozen? ⟨w.heap.size + 1 + 1, 1, none⟩ = false := by rw [hf1 _ _ (by simp)]; go_simp
  have z1 : w.heap.size + 1 + 1 < w1.heap.size := by have := hb1.size; simp at this; omega
  have b1 := ((((Below.refl w.heap.size w).alloc (Nat.le_refl _) (.cells #[.int .i64 an, .int .i64 ad] 26)).alloc (by simp) (.cells #[.int .i64 bn, .int .i64 bd] 26)).alloc (by simp; omega) (.cells #[.int .i64 0, .int .i64 0] 26)).trans (hb1.mono (by simp; omega))
  clear h1 hc1 hf1
  go_wp2_with fail
  refine (reduced_any _ _ _ (by omega) (by omega) (by omega) (by omega)).mono ?_
  rw [hb.out, hx.out, hy.out]
  intro e w2 h2
  have b2 := b1.trans ((show Below w1.heap.size w1 w2 from h2.2).mono b1.size)
  obtain ⟨hc2, hf2⟩ := bcell (show Below w1.heap.size w1 w2 from h2.2)
  have S0 : w2.cell? ⟨w.heap.size + 1 + 1, 0, none⟩ = some (.int .i64 0) := by rw [hc2 _ _ z1]; assumption
  have S1 : w2.cell? ⟨w.heap.size + 1 + 1, 1, none⟩ = some (.int .i64 0) := by rw [hc2 _ _ z1]; assumption
  have G0 : w2.frozen? ⟨w.heap.size + 1 + 1, 0, none⟩ = false := by rw [hf2 _ _ z1]; assumption
  have G1 : w2.frozen? ⟨w.heap.size + 1 + 1, 1, none⟩ = false := by rw [hf2 _ _ z1]; assumption
  clear hc2 hf2 R0 R1 F0 F1
  cases b
  · obtain ⟨s, rfl, hb2⟩ := red_f h2
    clear h2
    go_wp2
    refine bodyPost_ret (v := .tuple #[.agg #[.int .i64 0, .int .i64 0], .iface 110 (.agg #[.string s])]) (by simp [results, Tryd.results58, go_sem, S0, S1]) rfl ⟨by rw [if_neg (by decide)]; exact ⟨s, rfl⟩, ?_⟩
    refine Below.setCell (Below.setCell b2 ?_ _) ?_ _
    all_goals (show _ ≤ _ + 1 + 1; omega)
  · obtain ⟨rfl, hb2⟩ := red_t h2
    clear h2
    go_wp2
    refine bodyPost_ret (v := .tuple #[.agg #[.int .i64 x, .int .i64 y], .nilIface]) (by simp [results, Tryd.results58, go_sem, S0, S1]) rfl ⟨by rw [if_pos rfl], ?_⟩
    refine Below.setCell (Below.setCell b2 ?_ _) ?_ _
    all_goals (show _ ≤ _ + 1 + 1; omega)

theorem both_ok {an ad bn bd : Int} (h : (okB an ad && okB bn bd) = true) : okF an ad ∧ okF bn bd := by
  rw [Bool.and_eq_true] at h
  exact ⟨okB_t h.1, okB_t h.2⟩
theorem gB_f (n d : Int) : gB false n d = false := by simp [gB]
theorem times_any (an ad bn bd : Int) (w : World) : Calls Tryd.prog 58 #[.agg #[.int .i64 an, .int .i64 ad], .agg #[.int .i64 bn, .int .i64 bd]] w
    (redPost (gB (okB an ad && okB bn bd) (an * bn) (ad * bd)) (rN (an * bn) (ad * bd)) (rD (an * bn) (ad * bd)) w) := by
  cases h : okB an ad && okB bn bd
  · rw [gB_f]; exact times_no _ _ _ _ _ _ _ h
  · obtain ⟨⟨a1, _⟩, ⟨b1, _⟩⟩ := both_ok h
    have := mul_pos9 a1 b1
    exact times_yes _ _ _ _ _ h _ _ _ (by show _ = _; rw [show decide (ad * bd ≠ 0) = true by simp only [decide_eq_true_eq]; omega]) rfl rfl
theorem neg_okB (n d : Int) (h1 : -9223372036854775808 ≤ n) (h2 : n ≤ 9223372036854775807) : okB (wrap64 (-n)) d = okB n d := by
  by_cases h : n = -9223372036854775808
  · subst h
    have e : wrap64 (- -9223372036854775808) = -9223372036854775808 := by unfold wrap64; omega
    rw [e]
  · have e : wrap64 (-n) = -n := by unfold wrap64; omega
    rw [e]
    have e2 : okF (-n) d ↔ okF n d := by unfold okF; rw [Int.neg_gcd]; constructor <;> (rintro ⟨a, b, c, d, e⟩; exact ⟨a, b, by omega, by omega, e⟩)
    rcases okF_dec n d with k | k
    · rw [okB_yes k, okB_yes (e2.2 k)]
    · rw [okB_no k, okB_no (fun x => k (e2.1 x))]

end Go.Proofs.YtjfkkmfbgmejbabDoor
