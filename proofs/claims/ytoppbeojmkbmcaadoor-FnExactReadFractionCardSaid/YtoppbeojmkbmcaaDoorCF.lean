/- CompareFractions and FloorOf by contracts. -/
import Derived.Test.YtoppbeojmkbmcaaDoorSOps
namespace Go.Proofs.YtoppbeojmkbmcaaDoor
open Go.ChangeShapes Go.WideShapes Go.ChangeAt Go.RowKit
def irPost (b : Bool) (v : Int) (w : World) (e : Ending) (w' : World) : Prop :=
  (if b = true then e = .returned (.tuple #[.int .i64 v, .nilIface]) else ∃ s, e = .returned (.tuple #[.int .i64 0, .iface 78 (.agg #[.string s])])) ∧ Below w.heap.size w w'
def iP (b : Bool) (v : Int) (w : World) (e : Ending) (w' : World) : Prop := e = .returned (.tuple #[.int .i64 v, .bool b]) ∧ Below w.heap.size w w'
theorem ir_t {v : Int} {w w' : World} {e : Ending} (h : irPost true v w e w') : e = .returned (.tuple #[.int .i64 v, .nilIface]) ∧ Below w.heap.size w w' := ⟨by simpa using h.1, h.2⟩
theorem ir_f {v : Int} {w w' : World} {e : Ending} (h : irPost false v w e w') : ∃ s, e = .returned (.tuple #[.int .i64 0, .iface 78 (.agg #[.string s])]) ∧ Below w.heap.size w w' := by
  obtain ⟨h1, h2⟩ := h
  rw [if_neg (by decide)] at h1
  obtain ⟨s, hs⟩ := h1
  exact ⟨s, hs, h2⟩
def cmpI (x y : Int) : Int := if x < y then -1 else if y < x then 1 else 0
theorem cmpI_lt {x y : Int} (h : x < y) : cmpI x y = -1 := by simp [cmpI, h]
theorem cmpI_gt {x y : Int} (h : y < x) : cmpI x y = 1 := by simp [cmpI, h]; omega
theorem cmpI_eq (x : Int) : cmpI x x = 0 := by simp [cmpI]
theorem cmp_any (x y : Int) (w : World) : Calls Tryd.prog 81 #[.int .i64 x, .int .i64 y] w fun e w' => e = .returned (.int .i64 (cmpI x y)) ∧ w = w' := by
  rcases Int.lt_trichotomy x y with h | h | h
  · rw [cmpI_lt h]
    go_enter Tryd.func81, Tryd.ntmps81
    go_wp2
    go_ret
    exact ⟨rfl, rfl⟩
  · subst h
    rw [cmpI_eq]
    go_enter Tryd.func81, Tryd.ntmps81
    go_wp2
    go_ret
    exact ⟨rfl, rfl⟩
  · rw [cmpI_gt h]
    go_enter Tryd.func81, Tryd.ntmps81
    go_wp2
    go_ret
    exact ⟨rfl, rfl⟩
set_option maxHeartbeats 1000000 in
theorem compare_any (an ad bn bd : Int) (w : World) : Calls Tryd.prog 63 #[.agg #[.int .i64 an, .int .i64 ad], .agg #[.int .i64 bn, .int .i64 bd]] w (irPost (okB an ad && okB bn bd) (cmpI (an * bd) (bn * ad)) w) := by
  have b0 := ((Below.refl w.heap.size w).alloc (Nat.le_refl _) (.cells #[.int .i64 an, .int .i64 ad] 28)).alloc (by simp) (.cells #[.int .i64 bn, .int .i64 bd] 28)
  cases h : okB an ad && okB bn bd
  · have H := Lib.hid h
    clear h
    go_enter Tryd.func63, Tryd.ntmps63
    go_wp2_with fail
    refine (both_any _ _ _ _ _).mono ?_
    rw [H.out]
    intro e w1 h1
    obtain ⟨s, rfl, hb1⟩ := chk_f h1
    clear h1
    go_wp2
    go_ret2
    exact ⟨by rw [if_neg (by decide)]; exact ⟨s, rfl⟩, b0.trans (hb1.mono (by simp; omega))⟩
  · obtain ⟨ka, kb⟩ := both_ok h
    obtain ⟨a1, a2, a3, a4, -⟩ := ka
    obtain ⟨d1, d2, d3, d4, -⟩ := kb
    have m1 := mul9 a3 a4 (y := bd) (by omega) d2
    have m2 := mul9 d3 d4 (y := ad) (by omega) a2
    have H := Lib.hid h
    clear h
    go_enter Tryd.func63, Tryd.ntmps63
    go_wp2_with fail
    refine (both_any _ _ _ _ _).mono ?_
    rw [H.out]
    intro e w1 h1
    obtain ⟨rfl, hb1⟩ := chk_t h1
    obtain ⟨hc1, hf1⟩ := bcell hb1
    have A0 : w1.cell? ⟨w.heap.size, 0, none⟩ = some (.int .i64 an) := by rw [hc1 _ _ (by simp; omega)]; go_simp
    have A1 : w1.cell? ⟨w.heap.size, 1, none⟩ = some (.int .i64 ad) := by rw [hc1 _ _ (by simp; omega)]; go_simp
    have B0 : w1.cell? ⟨w.heap.size + 1, 0, none⟩ = some (.int .i64 bn) := by rw [hc1 _ _ (by simp)]; go_simp
    have B1 : w1.cell? ⟨w.heap.size + 1, 1, none⟩ = some (.int .i64 bd) := by rw [hc1 _ _ (by simp)]; go_simp
    have b1 := b0.trans (hb1.mono (by simp; omega))
    clear h1 hc1 hf1 b0
    go_wp2_with fail
    refine (cmp_any _ _ _).mono ?_
    rintro e w2 ⟨rfl, rfl⟩
    go_wp2
    go_ret2
    exact ⟨by rw [if_pos rfl]; rfl, b1⟩
set_option maxHeartbeats 1000000 in
theorem scmp_any (an ad bn bd : Int) (w : World) (ka : okF an ad) (kb : okF bn bd) : Calls Tryd.prog 61 #[.agg #[.int .i64 an, .int .i64 ad], .agg #[.int .i64 bn, .int .i64 bd]] w fun e w' => e = .returned (.int .i64 (cmpI (an * bd) (bn * ad))) ∧ Below w.heap.size w w' := by
  obtain ⟨a1, a2, a3, a4, -⟩ := ka
  obtain ⟨d1, d2, d3, d4, -⟩ := kb
  have m1 := mul9 a3 a4 (y := bd) (by omega) d2
  have m2 := mul9 d3 d4 (y := ad) (by omega) a2
  have b0 := ((Below.refl w.heap.size w).alloc (Nat.le_refl _) (.cells #[.int .i64 an, .int .i64 ad] 28)).alloc (by simp) (.cells #[.int .i64 bn, .int .i64 bd] 28)
  rcases Int.lt_trichotomy (an * bd) (bn * ad) with h | h | h
  · rw [cmpI_lt h]
    go_enter Tryd.func61, Tryd.ntmps61
    go_wp2
    go_ret
    exact ⟨rfl, b0⟩
  · have c : cmpI (an * bd) (bn * ad) = 0 := by rw [h, cmpI_eq]
    rw [c]
    clear c
    have h1 : ¬ an * bd < bn * ad := by omega
    have h2 : ¬ bn * ad < an * bd := by omega
    clear h
    go_enter Tryd.func61, Tryd.ntmps61
    go_wp2
    go_ret
    exact ⟨rfl, b0⟩
  · rw [cmpI_gt h]
    have h1 : ¬ an * bd < bn * ad := by omega
    go_enter Tryd.func61, Tryd.ntmps61
    go_wp2
    go_ret
    exact ⟨rfl, b0⟩

def gI (b : Bool) (v : Int) : Int := if b = true then v else 0
set_option maxHeartbeats 1000000 in
theorem SCmp_any (an ad bn bd : Int) (w : World) : Calls Tryd.prog 31 #[.agg #[.int .i64 an, .int .i64 ad], .agg #[.int .i64 bn, .int .i64 bd]] w (iP (okB an ad && okB bn bd) (gI (okB an ad && okB bn bd) (cmpI (an * bd) (bn * ad))) w) := by
  have b0 := ((Below.refl w.heap.size w).alloc (Nat.le_refl _) (.cells #[.int .i64 an, .int .i64 ad] 28)).alloc (by simp) (.cells #[.int .i64 bn, .int .i64 bd] 28)
  rcases okF_dec an ad with ka | ka
  · rcases okF_dec bn bd with kb | kb
    · rw [okB_yes ka, okB_yes kb]
      have HA := Lib.hid (okB_yes ka)
      have HB := Lib.hid (okB_yes kb)
      have KA := Lib.hid ka
      have KB := Lib.hid kb
      clear ka kb
      generalize hv : gI (true && true) (cmpI (an * bd) (bn * ad)) = v
      have hv' : cmpI (an * bd) (bn * ad) = v := by rw [← hv]; rfl
      have HV := Lib.hid hv'
      clear hv hv'
      go_enter Tryd.func31, Tryd.ntmps31
      go_wp2_with fail
      refine (ok_any _ _ _).mono ?_
      rw [HA.out]
      rintro e w1 ⟨rfl, hb1⟩
      obtain ⟨hc1, hf1⟩ := bcell hb1
      have A0 : w1.cell? ⟨w.heap.size, 0, none⟩ = some (.int .i64 an) := by rw [hc1 _ _ (by simp; omega)]; go_simp
      have A1 : w1.cell? ⟨w.heap.size, 1, none⟩ = some (.int .i64 ad) := by rw [hc1 _ _ (by simp; omega)]; go_simp
      have B0 : w1.cell? ⟨w.heap.size + 1, 0, none⟩ = some (.int .i64 bn) := by rw [hc1 _ _ (by simp)]; go_simp
      have B1 : w1.cell? ⟨w.heap.size + 1, 1, none⟩ = some (.int .i64 bd) := by rw [hc1 _ _ (by simp)]; go_simp
      have b1 := b0.trans (hb1.mono (by simp; omega))
      have z1 : w.heap.size + 1 < w1.heap.size := by have := hb1.size; simp at this; omega
      clear hc1 hf1 b0
      go_wp2_with fail
      refine (ok_any _ _ _).mono ?_
      rw [HB.out]
      rintro e w2 ⟨rfl, hb2⟩
      obtain ⟨hc2, hf2⟩ := bcell hb2
      have A2 : w2.cell? ⟨w.heap.size, 0, none⟩ = some (.int .i64 an) := by rw [hc2 _ _ (by omega)]; assumption
      have A3 : w2.cell? ⟨w.heap.size, 1, none⟩ = some (.int .i64 ad) := by rw [hc2 _ _ (by omega)]; assumption
      have B2 : w2.cell? ⟨w.heap.size + 1, 0, none⟩ = some (.int .i64 bn) := by rw [hc2 _ _ (by omega)]; assumption
      have B3 : w2.cell? ⟨w.heap.size + 1, 1, none⟩ = some (.int .i64 bd) := by rw [hc2 _ _ (by omega)]; assumption
      have b2 := b1.trans (hb2.mono b1.size)
      clear hc2 hf2 A0 A1 B0 B1
      go_wp2_with fail
      refine (scmp_any _ _ _ _ _ KA.out KB.out).mono ?_
      rw [HV.out]
      rintro e w3 ⟨rfl, hb3⟩
      go_wp2
      go_ret2
      exact ⟨rfl, b2.trans (hb3.mono b2.size)⟩
    · rw [okB_yes ka, okB_no kb]
      have HA := Lib.hid (okB_yes ka)
      have HB := Lib.hid (okB_no kb)
      clear ka kb
      go_enter Tryd.func31, Tryd.ntmps31
      go_wp2_with fail
      refine (ok_any _ _ _).mono ?_
      rw [HA.out]
      rintro e w1 ⟨rfl, hb1⟩
      obtain ⟨hc1, hf1⟩ := bcell hb1
      have B0 : w1.cell? ⟨w.heap.size + 1, 0, none⟩ = some (.int .i64 bn) := by rw [hc1 _ _ (by simp)]; go_simp
      have B1 : w1.cell? ⟨w.heap.size + 1, 1, none⟩ = some (.int .i64 bd) := by rw [hc1 _ _ (by simp)]; go_simp
      have b1 := b0.trans (hb1.mono (by simp; omega))
      clear hc1 hf1 b0
      go_wp2_with fail
      refine (ok_any _ _ _).mono ?_
      rw [HB.out]
      rintro e w2 ⟨rfl, hb2⟩
      go_wp2
      go_ret2
      exact ⟨rfl, b1.trans (hb2.mono b1.size)⟩
  · rw [okB_no ka]
    have HA := Lib.hid (okB_no ka)
    clear ka
    go_enter Tryd.func31, Tryd.ntmps31
    go_wp2_with fail
    refine (ok_any _ _ _).mono ?_
    rw [HA.out]
    rintro e w1 ⟨rfl, hb1⟩
    go_wp2
    go_ret2
    exact ⟨rfl, b0.trans (hb1.mono (by simp; omega))⟩
/-- The exported form of a method that gives a number and an error. -/
theorem ICmp_any (an ad bn bd : Int) (w : World) (hg : ErrT w) : Calls Tryd.prog 32 #[.agg #[.int .i64 an, .int .i64 ad], .agg #[.int .i64 bn, .int .i64 bd]] w (iP (okB an ad && okB bn bd) (gI (okB an ad && okB bn bd) (cmpI (an * bd) (bn * ad))) w) := by
  have b0 := ((Below.refl w.heap.size w).alloc (Nat.le_refl _) (.cells #[.int .i64 an, .int .i64 ad] 28)).alloc (by simp) (.cells #[.int .i64 bn, .int .i64 bd] 28)
  have HM := Lib.hid (compare_any an ad bn bd)
  have HG := Lib.hid hg
  clear hg
  generalize (okB an ad && okB bn bd) = b at HM ⊢
  generalize cmpI (an * bd) (bn * ad) = v at HM ⊢
  cases b
  · go_enter Tryd.func32, Tryd.ntmps32
    go_wp2_with fail
    refine (HM.out _).mono ?_
    intro e w1 h1
    obtain ⟨s, rfl, hb1⟩ := ir_f h1
    clear h1
    have b1 := b0.trans (hb1.mono (by simp; omega))
    go_wp2_with fail
    refine (border_int_err _ _ _ (HG.out.below b1)).mono ?_
    rintro e w2 ⟨rfl, hb2⟩
    go_wp2
    go_ret2
    exact ⟨rfl, b1.trans (hb2.mono b1.size)⟩
  · go_enter Tryd.func32, Tryd.ntmps32
    go_wp2_with fail
    refine (HM.out _).mono ?_
    intro e w1 h1
    obtain ⟨rfl, hb1⟩ := ir_t h1
    clear h1
    have b1 := b0.trans (hb1.mono (by simp; omega))
    go_wp2_with fail
    refine (border_int_nil _ _).mono ?_
    rintro e w2 ⟨rfl, hb2⟩
    go_wp2
    go_ret2
    exact ⟨rfl, b1.trans (hb2.mono b1.size)⟩
/-! Floors. -/
theorem fl_neg {n d : Int} (hd : 1 ≤ d) (h : n.tmod d < 0) : n.tdiv d - 1 = n / d := by
  have e := Int.mul_tdiv_add_tmod n d
  have b := Int.tmod_lt_of_pos n (show 0 < d by omega)
  have l : -d < n.tmod d := by
    have := Int.lt_tmod_of_pos n (show 0 < d by omega)
    exact this
  symm
  rw [Int.ediv_eq_iff_of_pos (by omega)]
  have e2 : (n.tdiv d - 1) * d = d * n.tdiv d - d := by rw [Int.sub_mul, Int.mul_comm]; omega
  omega

theorem fl_pos {n d : Int} (hd : 1 ≤ d) (h : ¬ n.tmod d < 0) : n.tdiv d = n / d := by
  have e := Int.mul_tdiv_add_tmod n d
  have b := Int.tmod_lt_of_pos n (show 0 < d by omega)
  symm
  rw [Int.ediv_eq_iff_of_pos (by omega)]
  have e2 : n.tdiv d * d = d * n.tdiv d := Int.mul_comm _ _
  omega
theorem fl_mul {n d : Int} : n.tdiv d * d = n - n.tmod d := by
  have e := Int.mul_tdiv_add_tmod n d
  rw [Int.mul_comm]; omega
set_option maxHeartbeats 1000000 in
theorem floor_any (n d : Int) (w : World) : Calls Tryd.prog 65 #[.agg #[.int .i64 n, .int .i64 d]] w (irPost (okB n d) (n / d) w) := by
  have b0 := (Below.refl w.heap.size w).alloc (Nat.le_refl _) (.cells #[.int .i64 n, .int .i64 d] 28)
  rcases okF_dec n d with k | k
  · rw [okB_yes k]
    have HK := Lib.hid (okB_yes k)
    obtain ⟨d1, d2, n1, n2, -⟩ := k
    have q1 := tdiv_bd n d
    have dz : (d == 0) = false := by simp; omega
    by_cases hn : 0 ≤ n
    · have r0 : 0 ≤ n % d := Int.emod_nonneg _ (by omega)
      have HV := Lib.hid (fl_pos (n := n) d1 (by rw [Int.tmod_eq_emod_of_nonneg hn]; omega))
      go_enter Tryd.func65, Tryd.ntmps65
      go_wp2_with fail
      refine (check_any _ _ _).mono ?_
      rw [HK.out]
      intro e w1 h1
      obtain ⟨rfl, hb1⟩ := chk_t h1
      clear h1
      obtain ⟨hc1, hf1⟩ := bcell hb1
      have A0 : w1.cell? ⟨w.heap.size, 0, none⟩ = some (.int .i64 n) := by rw [hc1 _ _ (by simp)]; go_simp
      have A1 : w1.cell? ⟨w.heap.size, 1, none⟩ = some (.int .i64 d) := by rw [hc1 _ _ (by simp)]; go_simp
      clear hc1 hf1
      have b1 := b0.trans (hb1.mono (by simp))
      go_wp2
      go_ret2
      exact ⟨by rw [if_pos rfl, ← HV.out]; rfl, b1⟩
    · by_cases hr : n.tmod d < 0
      · have HV := Lib.hid (fl_neg (n := n) d1 hr)
        go_enter Tryd.func65, Tryd.ntmps65
        go_wp2_with fail
        refine (check_any _ _ _).mono ?_
        rw [HK.out]
        intro e w1 h1
        obtain ⟨rfl, hb1⟩ := chk_t h1
        clear h1
        obtain ⟨hc1, hf1⟩ := bcell hb1
        have A0 : w1.cell? ⟨w.heap.size, 0, none⟩ = some (.int .i64 n) := by rw [hc1 _ _ (by simp)]; go_simp
        have A1 : w1.cell? ⟨w.heap.size, 1, none⟩ = some (.int .i64 d) := by rw [hc1 _ _ (by simp)]; go_simp
        clear hc1 hf1
        have b1 := b0.trans (hb1.mono (by simp))
        go_wp2
        go_ret2
        exact ⟨by rw [if_pos rfl, ← HV.out]; rfl, b1⟩
      · have HV := Lib.hid (fl_pos (n := n) d1 hr)
        go_enter Tryd.func65, Tryd.ntmps65
        go_wp2_with fail
        refine (check_any _ _ _).mono ?_
        rw [HK.out]
        intro e w1 h1
        obtain ⟨rfl, hb1⟩ := chk_t h1
        clear h1
        obtain ⟨hc1, hf1⟩ := bcell hb1
        have A0 : w1.cell? ⟨w.heap.size, 0, none⟩ = some (.int .i64 n) := by rw [hc1 _ _ (by simp)]; go_simp
        have A1 : w1.cell? ⟨w.heap.size, 1, none⟩ = some (.int .i64 d) := by rw [hc1 _ _ (by simp)]; go_simp
        clear hc1 hf1
        have b1 := b0.trans (hb1.mono (by simp))
        go_wp2
        go_ret2
        exact ⟨by rw [if_pos rfl, ← HV.out]; rfl, b1⟩
  · rw [okB_no k]
    have HK := Lib.hid (okB_no k)
    clear k
    go_enter Tryd.func65, Tryd.ntmps65
    go_wp2_with fail
    refine (check_any _ _ _).mono ?_
    rw [HK.out]
    intro e w1 h1
    obtain ⟨s, rfl, hb1⟩ := chk_f h1
    clear h1
    go_wp2
    go_ret2
    exact ⟨by rw [if_neg (by decide)]; exact ⟨s, rfl⟩, b0.trans (hb1.mono (by simp))⟩
set_option maxHeartbeats 1000000 in
theorem sfloor_any (n d : Int) (w : World) (k : okF n d) : Calls Tryd.prog 64 #[.agg #[.int .i64 n, .int .i64 d]] w fun e w' => e = .returned (.int .i64 (n / d)) ∧ Below w.heap.size w w' := by
  have b0 := (Below.refl w.heap.size w).alloc (Nat.le_refl _) (.cells #[.int .i64 n, .int .i64 d] 28)
  obtain ⟨d1, d2, n1, n2, -⟩ := k
  have q1 := tdiv_bd n d
  have q2 := tm_lt n d (by omega)
  have q3 := fl_mul (n := n) (d := d)
  have q4 : -2000000000 ≤ n.tdiv d * d ∧ n.tdiv d * d ≤ 2000000000 := by omega
  have dz : (d == 0) = false := by simp; omega
  by_cases hr : n.tmod d < 0
  · have HV := Lib.hid (fl_neg (n := n) d1 hr)
    have hq : n < n.tdiv d * d := by omega
    clear q3 q2
    go_enter Tryd.func64, Tryd.ntmps64
    go_wp2
    go_ret
    exact ⟨by rw [← HV.out]; rfl, b0⟩
  · have HV := Lib.hid (fl_pos (n := n) d1 hr)
    have hq : ¬ n < n.tdiv d * d := by omega
    clear q3 q2
    go_enter Tryd.func64, Tryd.ntmps64
    go_wp2
    go_ret
    exact ⟨by rw [← HV.out]; rfl, b0⟩
theorem SFloor_any (n d : Int) (w : World) : Calls Tryd.prog 33 #[.agg #[.int .i64 n, .int .i64 d]] w (iP (okB n d) (gI (okB n d) (n / d)) w) := by
  have b0 := (Below.refl w.heap.size w).alloc (Nat.le_refl _) (.cells #[.int .i64 n, .int .i64 d] 28)
  rcases okF_dec n d with k | k
  · rw [okB_yes k]
    have HA := Lib.hid (okB_yes k)
    have K := Lib.hid k
    clear k
    go_enter Tryd.func33, Tryd.ntmps33
    go_wp2_with fail
    refine (ok_any _ _ _).mono ?_
    rw [HA.out]
    rintro e w1 ⟨rfl, hb1⟩
    obtain ⟨hc1, hf1⟩ := bcell hb1
    have A0 : w1.cell? ⟨w.heap.size, 0, none⟩ = some (.int .i64 n) := by rw [hc1 _ _ (by simp)]; go_simp
    have A1 : w1.cell? ⟨w.heap.size, 1, none⟩ = some (.int .i64 d) := by rw [hc1 _ _ (by simp)]; go_simp
    clear hc1 hf1
    have b1 := b0.trans (hb1.mono (by simp))
    go_wp2_with fail
    refine (sfloor_any _ _ _ K.out).mono ?_
    rintro e w2 ⟨rfl, hb2⟩
    go_wp2
    go_ret2
    exact ⟨rfl, b1.trans (hb2.mono b1.size)⟩
  · rw [okB_no k]
    have HA := Lib.hid (okB_no k)
    clear k
    go_enter Tryd.func33, Tryd.ntmps33
    go_wp2_with fail
    refine (ok_any _ _ _).mono ?_
    rw [HA.out]
    rintro e w1 ⟨rfl, hb1⟩
    go_wp2
    go_ret2
    exact ⟨rfl, b0.trans (hb1.mono (by simp))⟩
theorem IFloor_any (n d : Int) (w : World) (hg : ErrT w) : Calls Tryd.prog 34 #[.agg #[.int .i64 n, .int .i64 d]] w (iP (okB n d) (gI (okB n d) (n / d)) w) := by
  have b0 := (Below.refl w.heap.size w).alloc (Nat.le_refl _) (.cells #[.int .i64 n, .int .i64 d] 28)
  have HM := Lib.hid (floor_any n d)
  have HG := Lib.hid hg
  clear hg
  generalize okB n d = b at HM ⊢
  generalize n / d = v at HM ⊢
  cases b
  · go_enter Tryd.func34, Tryd.ntmps34
    go_wp2_with fail
    refine (HM.out _).mono ?_
    intro e w1 h1
    obtain ⟨s, rfl, hb1⟩ := ir_f h1
    clear h1
    have b1 := b0.trans (hb1.mono (by simp))
    go_wp2_with fail
    refine (border_int_err _ _ _ (HG.out.below b1)).mono ?_
    rintro e w2 ⟨rfl, hb2⟩
    go_wp2
    go_ret2
    exact ⟨rfl, b1.trans (hb2.mono b1.size)⟩
  · go_enter Tryd.func34, Tryd.ntmps34
    go_wp2_with fail
    refine (HM.out _).mono ?_
    intro e w1 h1
    obtain ⟨rfl, hb1⟩ := ir_t h1
    clear h1
    have b1 := b0.trans (hb1.mono (by simp))
    go_wp2_with fail
    refine (border_int_nil _ _).mono ?_
    rintro e w2 ⟨rfl, hb2⟩
    go_wp2
    go_ret2
    exact ⟨rfl, b1.trans (hb2.mono b1.size)⟩
end Go.Proofs.YtoppbeojmkbmcaaDoor
