/- CompareFractions and FloorOf by contracts. -/
import Derived.Test.YtjfkkmfbgmejbabDoorSOps
namespace Go.Proofs.YtjfkkmfbgmejbabDoor
open Go.ChangeShapes Go.WideShapes Go.ChangeAt Go.RowKit
def irPost (b : Bool) (v : Int) (w : World) (e : Ending) (w' : World) : Prop :=
  (if b = true then e = .returned (.tuple #[.int .i64 v, .nilIface]) else ∃ s, e = .returned (.tuple #[.int .i64 0, .iface 110 (.agg #[.string s])])) ∧ Below w.heap.size w w'
def iP (b : Bool) (v : Int) (w : World) (e : Ending) (w' : World) : Prop := e = .returned (.tuple #[.int .i64 v, .bool b]) ∧ Below w.heap.size w w'
theorem ir_t {v : Int} {w w' : World} {e : Ending} (h : irPost true v w e w') : e = .returned (.tuple #[.int .i64 v, .nilIface]) ∧ Below w.heap.size w w' := ⟨by simpa using h.1, h.2⟩
theorem ir_f {v : Int} {w w' : World} {e : Ending} (h : irPost false v w e w') : ∃ s, e = .returned (.tuple #[.int .i64 0, .iface 110 (.agg #[.string s])]) ∧ Below w.heap.size w w' := by
  obtain ⟨h1, h2⟩ := h
  rw [if_neg (by decide)] at h1
  obtain ⟨s, hs⟩ := h1
  exact ⟨s, hs, h2⟩
def cmpI (x y : Int) : Int := if x < y then -1 else if y < x then 1 else 0
theorem cmpI_lt {x y : Int} (h : x < y) : cmpI x y = -1 := by simp [cmpI, h]
theorem cmpI_gt {x y : Int} (h : y < x) : cmpI x y = 1 := by simp [cmpI, h]; omega
theorem cmpI_eq (x : Int) : cmpI x x = 0 := by simp [cmpI]
theorem cmp_any (x y : Int) (w : World) : Calls Tryd.prog 84 #[.int .i64 x, .int .i64 y] w fun e w' => e = .returned (.int .i64 (cmpI x y)) ∧ w = w' := by
  rcases Int.lt_trichotomy x y with h | h | h
  · rw [cmpI_lt h]
    go_enter Tryd.func84, Tryd.ntmps84
    go_wp2
    go_ret
    exact ⟨rfl, rfl⟩
  · subst h
    rw [cmpI_eq]
    go_enter Tryd.func84, Tryd.ntmps84
    go_wp2
    go_ret
    exact ⟨rfl, rfl⟩
  · rw [cmpI_gt h]
    go_enter Tryd.func84, Tryd.ntmps84
    go_wp2
    go_ret
    exact ⟨rfl, rfl⟩
set_option maxHeartbeats 1000000 in
theorem compare_any (an ad bn bd : Int) (w : World) : Calls Tryd.prog 57 #[.agg #[.int .i64 an, .int .i64 ad], .agg #[.int .i64 bn, .int .i64 bd]] w (irPost (okB an ad && okB bn bd) (cmpI (an * bd) (bn * ad)) w) := by
  have b0 := ((Below.refl w.heap.size w).alloc (Nat.le_refl _) (.cells #[.int .i64 an, .int .i64 ad] 26)).alloc (by simp) (.cells #[.int .i64 bn, .int .i64 bd] 26)
  cases h : okB an ad && okB bn bd
  · have H := Lib.hid h
    clear h
    go_enter Tryd.func57, Tryd.ntmps57
    go_wp2_with fail
    refine (both_any _ _ _ _ _).mono ?_
    rw [H.out]
    intro e w1 h1
    obtain ⟨s, rfl, hb1⟩ := chk_f h1
    clear h1
    go_wp2
    go_ret2
    exact ⟨by rw [if_neg (by decide)]; exact ⟨s, rfl⟩, b0.trans (hb1.mono (by simp; omega))⟩
  · obtain ⟨ka, kb⟩ := both_ok h
    obtain ⟨a1, a2, a3, a4, -⟩ := ka
    obtain ⟨d1, d2, d3, d4, -⟩ := kb
    have m1 := mul9 a3 a4 (y := bd) (by omega) d2
    have m2 := mul9 d3 d4 (y := ad) (by omega) a2
    have H := Lib.hid h
    clear h
    go_enter Tryd.func57, Tryd.ntmps57
    go_wp2_with fail
    refine (both_any _ _ _ _ _).mono ?_
    rw [H.out]
    intro e w1 h1
    obtain ⟨rfl, hb1⟩ := chk_t h1
    obtain ⟨hc1, hf1⟩ := bcell hb1
    have A0 : w1.cell? ⟨w.heap.size, 0, none⟩ = some (.int .i64 an) := by rw [hc1 _ _ (by simp; omega)]; go_simp
    have A1 : w1.cell? ⟨w.heap.size, 1, none⟩ = some (.int .i64 ad) := by rw [hc1 _ _ (by simp; omega)]; go_simp
    have B0 : w1.cell? ⟨w.heap.size + 1, 0, none⟩ = some (.int .i64 bn) := by rw [hc1 _ _ (by simp)]; go_simp
    have B1 : w1.cell? ⟨w.heap.size + 1, 1, none⟩ = some (.int .i64 bd) := by rw [hc1 _ _ (by simp)]; go_simp
    have b1 := b0.trans (hb1.mono (by simp; omega))
    clear h1 hc1 hf1 b0
    go_wp2_with fail
    refine (cmp_any _ _ _).mono ?_
    rintro e w2 ⟨rfl, rfl⟩
    go_wp2
    go_ret2
    exact ⟨by rw [if_pos rfl]; rfl, b1⟩
set_option maxHeartbeats 1000000 in
theorem scmp_any (an ad bn bd : Int) (w : World) (ka : okF an ad) (kb : okF bn bd) : Calls Tryd.prog 62 #[.agg #[.int .i64 an, .int .i64 ad], .agg #[.int .i64 bn, .int .i64 bd]] w fun e w' => e = .returned (.int .i64 (cmpI (an * bd) (bn * ad))) ∧ Below w.heap.size w w' := by
  obtain ⟨a1, a2, a3, a4, -⟩ := ka
  obtain ⟨d1, d2, d3, d4, -⟩ := kb
  have m1 := mul9 a3 a4 (y := bd) (by omega) d2
  have m2 := mul9 d3 d4 (y := ad) (by omega) a2
  have b0 := ((Below.refl w.heap.size w).alloc (Nat.le_refl _) (.cells #[.int .i64 an, .int .i64 ad] 26)).alloc (by simp) (.cells #[.int .i64 bn, .int .i64 bd] 26)
  rcases Int.lt_trichotomy (an * bd) (bn * ad) with h | h | h
  · rw [cmpI_lt h]
    go_enter Tryd.func62, Tryd.ntmps62
    go_wp2
    go_ret
    exact ⟨rfl, b0⟩
  · have c : cmpI (an * bd) (bn * ad) = 0 := by rw [h, cmpI_eq]
    rw [c]
    clear c
    have h1 : ¬ an * bd < bn * ad := by omega
    have h2 : ¬ bn * ad < an * bd := by omega
    clear h
    go_enter Tryd.func62, Tryd.ntmps62
    go_wp2
    go_ret
    exact ⟨rfl, b0⟩
  · rw [cmpI_gt h]
    have h1 : ¬ an * bd < bn * ad := by omega
    go_enter Tryd.func62, Tryd.ntmps62
    go_wp2
    go_ret
    exact ⟨rfl, b0⟩

def gI (b : Bool) (v : Int) : Int := if b = true then v else 0
/-- The exported form of a method that gives a number and an error. -/
theorem ICmp_any (an ad bn bd : Int) (w : World) (hg : ErrT w) : Calls Tryd.prog 24 #[.agg #[.int .i64 an, .int .i64 ad], .agg #[.int .i64 bn, .int .i64 bd]] w (iP (okB an ad && okB bn bd) (gI (okB an ad && okB bn bd) (cmpI (an * bd) (bn * ad))) w) := by
  have b0 := ((Below.refl w.heap.size w).alloc (Nat.le_refl _) (.cells #[.int .i64 an, .int .i64 ad] 26)).alloc (by simp) (.cells #[.int .i64 bn, .int .i64 bd] 26)
  have HM := Lib.hid (compare_any an ad bn bd)
  have HG := Lib.hid hg
  clear hg
  generalize (okB an ad && okB bn bd) = b at HM ⊢
  generalize cmpI (an * bd) (bn * ad) = v at HM ⊢
  cases b
  · go_enter Tryd.func24, Tryd.ntmps24
    go_wp2_with fail
    refine (HM.out _).mono ?_
    intro e w1 h1
    obtain ⟨s, rfl, hb1⟩ := ir_f h1
    clear h1
    have b1 := b0.trans (hb1.mono (by simp; omega))
    go_wp2_with fail
    refine (border_int_err _ _ _ (HG.out.below b1)).mono ?_
    rintro e w2 ⟨rfl, hb2⟩
    go_wp2
    go_ret2
    exact ⟨rfl, b1.trans (hb2.mono b1.size)⟩
  · go_enter Tryd.func24, Tryd.ntmps24
    go_wp2_with fail
    refine (HM.out _).mono ?_
    intro e w1 h1
    obtain ⟨rfl, hb1⟩ := ir_t h1
    clear h1
    have b1 := b0.trans (hb1.mono (by simp; omega))
    go_wp2_with fail
    refine (border_int_nil _ _).mono ?_
    rintro e w2 ⟨rfl, hb2⟩
    go_wp2
    go_ret2
    exact ⟨rfl, b1.trans (hb2.mono b1.size)⟩
/-! Floors. -/
theorem fl_neg {n d : Int} (hd : 1 ≤ d) (h : n.tmod d < 0) : n.tdiv d - 1 = n / d := by
  have e := Int.mul_tdiv_add_tmod n d
  have b := Int.tmod_lt_of_pos n (show 0 < d by omega)
  have l : -d < n.tmod d := by
    have := Int.lt_tmod_of_pos n (show 0 < d by omega)
    exact this
  symm
  rw [Int.ediv_eq_iff_of_pos (by omega)]
  have e2 : (n.tdiv d - 1) * d = d * n.tdiv d - d := by rw [Int.sub_mul, Int.mul_comm]; omega
  omega

theorem fl_pos {n d : Int} (hd : 1 ≤ d) (h : ¬ n.tmod d < 0) : n.tdiv d = n / d := by
  have e := Int.mul_tdiv_add_tmod n d
  have b := Int.tmod_lt_of_pos n (show 0 < d by omega)
  symm
  rw [Int.ediv_eq_iff_of_pos (by omega)]
  have e2 : n.tdiv d * d = d * n.tdiv d := Int.mul_comm _ _
  omega
theorem fl_mul {n d : Int} : n.tdiv d * d = n - n.tmod d := by
  have e := Int.mul_tdiv_add_tmod n d
  rw [Int.mul_comm]; omega
end Go.Proofs.YtjfkkmfbgmejbabDoor
