/- CompareFractions and FloorOf by contracts. -/
import Derived.Test.YtcmhdjoajkljfabGreatDoorSOps
namespace Go.Proofs.YtcmhdjoajkljfabGreatDoor
open Go.ChangeShapes Go.WideShapes Go.ChangeAt Go.RowKit
def irPost (b : Bool) (v : Int) (w : World) (e : Ending) (w' : World) : Prop :=
  (if b = true then e = .returned (.tuple #[.int .i64 v, .nilIface]) else ∃ s, e = .returned (.tuple #[.int .i64 0, .iface 61 (.agg #[.string s])])) ∧ Below w.heap.size w w'
def iP (b : Bool) (v : Int) (w : World) (e : Ending) (w' : World) : Prop := e = .returned (.tuple #[.int .i64 v, .bool b]) ∧ Below w.heap.size w w'
theorem ir_t {v : Int} {w w' : World} {e : Ending} (h : irPost true v w e w') : e = .returned (.tuple #[.int .i64 v, .nilIface]) ∧ Below w.heap.size w w' := ⟨by simpa using h.1, h.2⟩
theorem ir_f {v : Int} {w w' : World} {e : Ending} (h : irPost false v w e w') : ∃ s, e = .returned (.tuple #[.int .i64 0, .iface 61 (.agg #[.string s])]) ∧ Below w.heap.size w w' := by
  obtain ⟨h1, h2⟩ := h
  rw [if_neg (by decide)] at h1
  obtain ⟨s, hs⟩ := h1
  exact ⟨s, hs, h2⟩
def cmpI (x y : Int) : Int := if x < y then -1 else if y < x then 1 else 0
theorem cmpI_lt {x y : Int} (h : x < y) : cmpI x y = -1 := by simp [cmpI, h]
theorem cmpI_gt {x y : Int} (h : y < x) : cmpI x y = 1 := by simp [cmpI, h]; omega
theorem cmpI_eq (x : Int) : cmpI x x = 0 := by simp [cmpI]
theorem cmp_any (x y : Int) (w : World) : Calls Tryz.prog 36 #[.int .i64 x, .int .i64 y] w fun e w' => e = .returned (.int .i64 (cmpI x y)) ∧ w = w' := by
  rcases Int.lt_trichotomy x y with h | h | h
  · rw [cmpI_lt h]
    go_enter Tryz.func36, Tryz.ntmps36
    go_wp2
    go_ret
    exact ⟨rfl, rfl⟩
  · subst h
    rw [cmpI_eq]
    go_enter Tryz.func36, Tryz.ntmps36
    go_wp2
    go_ret
    exact ⟨rfl, rfl⟩
  · rw [cmpI_gt h]
    go_enter Tryz.func36, Tryz.ntmps36
    go_wp2
    go_ret
    exact ⟨rfl, rfl⟩
set_option maxHeartbeats 1000000 in
theorem compare_any (an ad bn bd : Int) (w : World) : Calls Tryz.prog 21 #[.agg #[.int .i64 an, .int .i64 ad], .agg #[.int .i64 bn, .int .i64 bd]] w (irPost (okB an ad && okB bn bd) (cmpI (an * bd) (bn * ad)) w) := by
  have b0 := ((Below.refl w.heap.size w).alloc (Nat.le_refl _) (.cells #[.int .i64 an, .int .i64 ad] 25)).alloc (by simp) (.cells #[.int .i64 bn, .int .i64 bd] 25)
  cases h : okB an ad && okB bn bd
  · have H := Lib.hid h
    clear h
    go_enter Tryz.func21, Tryz.ntmps21
    go_wp2_with fail
    refine (both_any _ _ _ _ _).mono ?_
    rw [H.out]
    intro e w1 h1
    obtain ⟨s, rfl, hb1⟩ := chk_f h1
    clear h1
    go_wp2
    go_ret2
    exact ⟨by rw [if_neg (by decide)]; exact ⟨s, rfl⟩, b0.trans (hb1.mono (by simp; omega))⟩
  · obtain ⟨ka, kb⟩ := both_ok h
    obtain ⟨a1, a2, a3, a4, -⟩ := ka
    obtain ⟨d1, d2, d3, d4, -⟩ := kb
    have m1 := mul9 a3 a4 (y := bd) (by omega) d2
    have m2 := mul9 d3 d4 (y := ad) (by omega) a2
    have H := Lib.hid h
    clear h
    go_enter Tryz.func21, Tryz.ntmps21
    go_wp2_with fail
    refine (both_any _ _ _ _ _).mono ?_
    rw [H.out]
    intro e w1 h1
    obtain ⟨rfl, hb1⟩ := chk_t h1
    obtain ⟨hc1, hf1⟩ := bcell hb1
    have A0 : w1.cell? ⟨w.heap.size, 0, none⟩ = some (.int .i64 an) := by rw [hc1 _ _ (by simp; omega)]; go_simp
    have A1 : w1.cell? ⟨w.heap.size, 1, none⟩ = some (.int .i64 ad) := by rw [hc1 _ _ (by simp; omega)]; go_simp
    have B0 : w1.cell? ⟨w.heap.size + 1, 0, none⟩ = some (.int .i64 bn) := by rw [hc1 _ _ (by simp)]; go_simp
    have B1 : w1.cell? ⟨w.heap.size + 1, 1, none⟩ = some (.int .i64 bd) := by rw [hc1 _ _ (by simp)]; go_simp
    have b1 := b0.trans (hb1.mono (by simp; omega))
    clear h1 hc1 hf1 b0
    go_wp2_with fail
    refine (cmp_any _ _ _).mono ?_
    rintro e w2 ⟨rfl, rfl⟩
    go_wp2
    go_ret2
    exact ⟨by rw [if_pos rfl]; rfl, b1⟩
def gI (b : Bool) (v : Int) : Int := if b = true then v else 0
/-- The exported form of a method that gives a number and an error. -/
theorem ICmp_any (an ad bn bd : Int) (w : World) (hg : ErrT w) : Calls Tryz.prog 8 #[.agg #[.int .i64 an, .int .i64 ad], .agg #[.int .i64 bn, .int .i64 bd]] w (iP (okB an ad && okB bn bd) (gI (okB an ad && okB bn bd) (cmpI (an * bd) (bn * ad))) w) := by
  have b0 := ((Below.refl w.heap.size w).alloc (Nat.le_refl _) (.cells #[.int .i64 an, .int .i64 ad] 25)).alloc (by simp) (.cells #[.int .i64 bn, .int .i64 bd] 25)
  have HM := Lib.hid (compare_any an ad bn bd)
  have HG := Lib.hid hg
  clear hg
  generalize (okB an ad && okB bn bd) = b at HM ⊢
  generalize cmpI (an * bd) (bn * ad) = v at HM ⊢
  cases b
  · go_enter Tryz.func8, Tryz.ntmps8
    go_wp2_with fail
    refine (HM.out _).mono ?_
    intro e w1 h1
    obtain ⟨s, rfl, hb1⟩ := ir_f h1
    clear h1
    have b1 := b0.trans (hb1.mono (by simp; omega))
    go_wp2_with fail
    refine (border_int_err _ _ _ (HG.out.below b1)).mono ?_
    rintro e w2 ⟨rfl, hb2⟩
    go_wp2
    go_ret2
    exact ⟨rfl, b1.trans (hb2.mono b1.size)⟩
  · go_enter Tryz.func8, Tryz.ntmps8
    go_wp2_with fail
    refine (HM.out _).mono ?_
    intro e w1 h1
    obtain ⟨rfl, hb1⟩ := ir_t h1
    clear h1
    have b1 := b0.trans (hb1.mono (by simp; omega))
    go_wp2_with fail
    refine (border_int_nil _ _).mono ?_
    rintro e w2 ⟨rfl, hb2⟩
    go_wp2
    go_ret2
    exact ⟨rfl, b1.trans (hb2.mono b1.size)⟩
/-! Floors. -/
theorem fl_neg {n d : Int} (hd : 1 ≤ d) (h : n.tmod d < 0) : n.tdiv d - 1 = n / d := by
  have e := Int.mul_tdiv_add_tmod n d
  have b := Int.tmod_lt_of_pos n (show 0 < d by omega)
  have l : -d < n.tmod d := by
    have := Int.lt_tmod_of_pos n (show 0 < d by omega)
    exact this
  symm
  rw [Int.ediv_eq_iff_of_pos (by omega)]
  have e2 : (n.tdiv d - 1) * d = d * n.tdiv d - d := by rw [Int.sub_mul, Int.mul_comm]; omega
  omega

theorem fl_pos {n d : Int} (hd : 1 ≤ d) (h : ¬ n.tmod d < 0) : n.tdiv d = n / d := by
  have e := Int.mul_tdiv_add_tmod n d
  have b := Int.tmod_lt_of_pos n (show 0 < d by omega)
  symm
  rw [Int.ediv_eq_iff_of_pos (by omega)]
  have e2 : n.tdiv d * d = d * n.tdiv d := Int.mul_comm _ _
  omega
theorem fl_mul {n d : Int} : n.tdiv d * d = n - n.tmod d := by
  have e := Int.mul_tdiv_add_tmod n d
  rw [Int.mul_comm]; omega
set_option maxHeartbeats 1000000 in
theorem floor_any (n d : Int) (w : World) : Calls Tryz.prog 28 #[.agg #[.int .i64 n, .int .i64 d]] w (irPost (okB n d) (n / d) w) := by
  have b0 := (Below.refl w.heap.size w).alloc (Nat.le_refl _) (.cells #[.int .i64 n, .int .i64 d] 25)
  rcases okF_dec n d with k | k
  · rw [okB_yes k]
    have HK := Lib.hid (okB_yes k)
    obtain ⟨d1, d2, n1, n2, -⟩ := k
    have q1 := tdiv_bd n d
    have dz : (d == 0) = false := by simp; omega
    by_cases hn : 0 ≤ n
    · have r0 : 0 ≤ n % d := Int.emod_nonneg _ (by omega)
      have HV := Lib.hid (fl_pos (n := n) d1 (by rw [Int.tmod_eq_emod_of_nonneg hn]; omega))
      go_enter Tryz.func28, Tryz.ntmps28
      go_wp2_with fail
      refine (check_any _ _ _).mono ?_
      rw [HK.out]
      intro e w1 h1
      obtain ⟨rfl, hb1⟩ := chk_t h1
      clear h1
      obtain ⟨hc1, hf1⟩ := bcell hb1
      have A0 : w1.cell? ⟨w.heap.size, 0, none⟩ = some (.int .i64 n) := by rw [hc1 _ _ (by simp)]; go_simp
      have A1 : w1.cell? ⟨w.heap.size, 1, none⟩ = some (.int .i64 d) := by rw [hc1 _ _ (by simp)]; go_simp
      clear hc1 hf1
      have b1 := b0.trans (hb1.mono (by simp))
      go_wp2
      go_ret2
      exact ⟨by rw [if_pos rfl, ← HV.out]; rfl, b1⟩
    · by_cases hr : n.tmod d < 0
      · have HV := Lib.hid (fl_neg (n := n) d1 hr)
        go_enter Tryz.func28, Tryz.ntmps28
        go_wp2_with fail
        refine (check_any _ _ _).mono ?_
        rw [HK.out]
        intro e w1 h1
        obtain ⟨rfl, hb1⟩ := chk_t h1
        clear h1
        obtain ⟨hc1, hf1⟩ := bcell hb1
        have A0 : w1.cell? ⟨w.heap.size, 0, none⟩ = some (.int .i64 n) := by rw [hc1 _ _ (by simp)]; go_simp
        have A1 : w1.cell? ⟨w.heap.size, 1, none⟩ = some (.int .i64 d) := by rw [hc1 _ _ (by simp)]; go_simp
        clear hc1 hf1
        have b1 := b0.trans (hb1.mono (by simp))
        go_wp2
        go_ret2
        exact ⟨by rw [if_pos rfl, ← HV.out]; rfl, b1⟩
      · have HV := Lib.hid (fl_pos (n := n) d1 hr)
        go_enter Tryz.func28, Tryz.ntmps28
        go_wp2_with fail
        refine (check_any _ _ _).mono ?_
        rw [HK.out]
        intro e w1 h1
        obtain ⟨rfl, hb1⟩ := chk_t h1
        clear h1
        obtain ⟨hc1, hf1⟩ := bcell hb1
        have A0 : w1.cell? ⟨w.heap.size, 0, none⟩ = some (.int .i64 n) := by rw [hc1 _ _ (by simp)]; go_simp
        have A1 : w1.cell? ⟨w.heap.size, 1, none⟩ = some (.int .i64 d) := by rw [hc1 _ _ (by simp)]; go_simp
        clear hc1 hf1
        have b1 := b0.trans (hb1.mono (by simp))
        go_wp2
        go_ret2
        exact ⟨by rw [if_pos rfl, ← HV.out]; rfl, b1⟩
  · rw [okB_no k]
    have HK := Lib.hid (okB_no k)
    clear k
    go_enter Tryz.func28, Tryz.ntmps28
    go_wp2_with fail
    refine (check_any _ _ _).mono ?_
    rw [HK.out]
    intro e w1 h1
    obtain ⟨s, rfl, hb1⟩ := chk_f h1
    clear h1
    go_wp2
    go_ret2
    exact ⟨by rw [if_neg (by decide)]; exact ⟨s, rfl⟩, b0.trans (hb1.mono (by simp))⟩
theorem IFloor_any (n d : Int) (w : World) (hg : ErrT w) : Calls Tryz.prog 13 #[.agg #[.int .i64 n, .int .i64 d]] w (iP (okB n d) (gI (okB n d) (n / d)) w) := by
  have b0 := (Below.refl w.heap.size w).alloc (Nat.le_refl _) (.cells #[.int .i64 n, .int .i64 d] 25)
  have HM := Lib.hid (floor_any n d)
  have HG := Lib.hid hg
  clear hg
  generalize okB n d = b at HM ⊢
  generalize n / d = v at HM ⊢
  cases b
  · go_enter Tryz.func13, Tryz.ntmps13
    go_wp2_with fail
    refine (HM.out _).mono ?_
    intro e w1 h1
    obtain ⟨s, rfl, hb1⟩ := ir_f h1
    clear h1
    have b1 := b0.trans (hb1.mono (by simp))
    go_wp2_with fail
    refine (border_int_err _ _ _ (HG.out.below b1)).mono ?_
    rintro e w2 ⟨rfl, hb2⟩
    go_wp2
    go_ret2
    exact ⟨rfl, b1.trans (hb2.mono b1.size)⟩
  · go_enter Tryz.func13, Tryz.ntmps13
    go_wp2_with fail
    refine (HM.out _).mono ?_
    intro e w1 h1
    obtain ⟨rfl, hb1⟩ := ir_t h1
    clear h1
    have b1 := b0.trans (hb1.mono (by simp))
    go_wp2_with fail
    refine (border_int_nil _ _).mono ?_
    rintro e w2 ⟨rfl, hb2⟩
    go_wp2
    go_ret2
    exact ⟨rfl, b1.trans (hb2.mono b1.size)⟩
end Go.Proofs.YtcmhdjoajkljfabGreatDoor
