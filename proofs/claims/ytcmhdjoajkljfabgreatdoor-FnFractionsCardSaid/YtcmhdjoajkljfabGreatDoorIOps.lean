/- The operations on fractions by contracts, the exported ones of the program. -/
import Derived.Test.YtcmhdjoajkljfabGreatDoorSOps
namespace Go.Proofs.YtcmhdjoajkljfabGreatDoor
open Go.ChangeShapes Go.WideShapes Go.ChangeAt Go.RowKit

set_option maxHeartbeats 1000000 in
theorem IAdd_core (an ad bn bd x0 y0 : Int) (b : Bool) (w : World) (hg : ErrT w)
    (hm : ∀ w, Calls Tryz.prog 18 #[.agg #[.int .i64 an, .int .i64 ad], .agg #[.int .i64 bn, .int .i64 bd]] w (redPost b x0 y0 w)) :
    Calls Tryz.prog 6 #[.agg #[.int .i64 an, .int .i64 ad], .agg #[.int .i64 bn, .int .i64 bd]] w (frP b (if b = true then x0 else 0) (if b = true then y0 else 0) w) := by
  have HM := Lib.hid hm
  clear hm
  have HG := Lib.hid hg
  clear hg
  cases b
  all_goals
    simp only [if_true, Bool.false_eq_true, if_false]
    go_enter Tryz.func6, Tryz.ntmps6
    go_wp2_with fail
    refine (HM.out _).mono ?_
    intro e w1 h1
    have hb1 := h1.2
    obtain ⟨hc1, hf1⟩ := bcell hb1
    have R0 : w1.cell? ⟨w.heap.size + 1 + 1, 0, none⟩ = some (.int .i64 0) := by rw [hc1 _ _ (by simp)]; go_simp
    have R1 : w1.cell? ⟨w.heap.size + 1 + 1, 1, none⟩ = some (.int .i64 0) := by rw [hc1 _ _ (by simp)]; go_simp
    have F0 : w1.frozen? ⟨w.heap.size + 1 + 1, 0, none⟩ = false := by rw [hf1 _ _ (by simp)]; go_simp
    have F1 : w1.frozen? ⟨w.heap.size + 1 + 1, 1, none⟩ = false := by rw [hf1 _ _ (by simp)]; go_simp
    have z1 : w.heap.size + 1 + 1 < w1.heap.size := by have := hb1.size; simp at this; omega
    have b1 := ((((Below.refl w.heap.size w).alloc (Nat.le_refl _) (.cells #[.int .i64 an, .int .i64 ad] 25)).alloc (by simp) (.cells #[.int .i64 bn, .int .i64 bd] 25)).alloc (by simp; omega) (.cells #[.int .i64 0, .int .i64 0] 25)).trans (hb1.mono (by simp; omega))
    have EG := HG.out.below b1
    clear hc1 hf1
    first
      | (obtain ⟨s, rfl, hb2⟩ := red_f h1
         clear h1
         go_wp2_with fail
         refine (border_frac_err _ _ _ _ EG).mono ?_)
      | (obtain ⟨rfl, hb2⟩ := red_t h1
         clear h1
         go_wp2_with fail
         refine (border_frac_nil _ _ _).mono ?_)
    rintro e w2 ⟨rfl, hb2'⟩
    obtain ⟨hc2, hf2⟩ := bcell hb2'
    have S0 : w2.cell? ⟨w.heap.size + 1 + 1, 0, none⟩ = some (.int .i64 0) := by rw [hc2 _ _ z1]; assumption
    have S1 : w2.cell? ⟨w.heap.size + 1 + 1, 1, none⟩ = some (.int .i64 0) := by rw [hc2 _ _ z1]; assumption
    have G0 : w2.frozen? ⟨w.heap.size + 1 + 1, 0, none⟩ = false := by rw [hf2 _ _ z1]; assumption
    have G1 : w2.frozen? ⟨w.heap.size + 1 + 1, 1, none⟩ = false := by rw [hf2 _ _ z1]; assumption
    have b2 := b1.trans (hb2'.mono b1.size)
    clear hc2 hf2 R0 R1 F0 F1
    go_wp2
    first
      | (refine bodyPost_ret (v := .tuple #[.agg #[.int .i64 0, .int .i64 0], .bool false]) (by simp [results, Tryz.results6, go_sem, S0, S1]; done) rfl ⟨rfl, ?_⟩)
      | (refine bodyPost_ret (v := .tuple #[.agg #[.int .i64 x0, .int .i64 y0], .bool true]) (by simp [results, Tryz.results6, go_sem, S0, S1]) rfl ⟨rfl, ?_⟩)
    refine Below.setCell (Below.setCell b2 ?_ _) ?_ _
    all_goals (show _ ≤ _ + 1 + 1; omega)

set_option maxHeartbeats 1000000 in
theorem ISub_core (an ad bn bd x0 y0 : Int) (b : Bool) (w : World) (hg : ErrT w)
    (hm : ∀ w, Calls Tryz.prog 19 #[.agg #[.int .i64 an, .int .i64 ad], .agg #[.int .i64 bn, .int .i64 bd]] w (redPost b x0 y0 w)) :
    Calls Tryz.prog 7 #[.agg #[.int .i64 an, .int .i64 ad], .agg #[.int .i64 bn, .int .i64 bd]] w (frP b (if b = true then x0 else 0) (if b = true then y0 else 0) w) := by
  have HM := Lib.hid hm
  clear hm
  have HG := Lib.hid hg
  clear hg
  cases b
  all_goals
    simp only [if_true, Bool.false_eq_true, if_false]
    go_enter Tryz.func7, Tryz.ntmps7
    go_wp2_with fail
    refine (HM.out _).mono ?_
    intro e w1 h1
    have hb1 := h1.2
    obtain ⟨hc1, hf1⟩ := bcell hb1
    have R0 : w1.cell? ⟨w.heap.size + 1 + 1, 0, none⟩ = some (.int .i64 0) := by rw [hc1 _ _ (by simp)]; go_simp
    have R1 : w1.cell? ⟨w.heap.size + 1 + 1, 1, none⟩ = some (.int .i64 0) := by rw [hc1 _ _ (by simp)]; go_simp
    have F0 : w1.frozen? ⟨w.heap.size + 1 + 1, 0, none⟩ = false := by rw [hf1 _ _ (by simp)]; go_simp
    have F1 : w1.frozen? ⟨w.heap.size + 1 + 1, 1, none⟩ = false := by rw [hf1 _ _ (by simp)]; go_simp
    have z1 : w.heap.size + 1 + 1 < w1.heap.size := by have := hb1.size; simp at this; omega
    have b1 := ((((Below.refl w.heap.size w).alloc (Nat.le_refl _) (.cells #[.int .i64 an, .int .i64 ad] 25)).alloc (by simp) (.cells #[.int .i64 bn, .int .i64 bd] 25)).alloc (by simp; omega) (.cells #[.int .i64 0, .int .i64 0] 25)).trans (hb1.mono (by simp; omega))
    have EG := HG.out.below b1
    clear hc1 hf1
    first
      | (obtain ⟨s, rfl, hb2⟩ := red_f h1
         clear h1
         go_wp2_with fail
         refine (border_frac_err _ _ _ _ EG).mono ?_)
      | (obtain ⟨rfl, hb2⟩ := red_t h1
         clear h1
         go_wp2_with fail
         refine (border_frac_nil _ _ _).mono ?_)
    rintro e w2 ⟨rfl, hb2'⟩
    obtain ⟨hc2, hf2⟩ := bcell hb2'
    have S0 : w2.cell? ⟨w.heap.size + 1 + 1, 0, none⟩ = some (.int .i64 0) := by rw [hc2 _ _ z1]; assumption
    have S1 : w2.cell? ⟨w.heap.size + 1 + 1, 1, none⟩ = some (.int .i64 0) := by rw [hc2 _ _ z1]; assumption
    have G0 : w2.frozen? ⟨w.heap.size + 1 + 1, 0, none⟩ = false := by rw [hf2 _ _ z1]; assumption
    have G1 : w2.frozen? ⟨w.heap.size + 1 + 1, 1, none⟩ = false := by rw [hf2 _ _ z1]; assumption
    have b2 := b1.trans (hb2'.mono b1.size)
    clear hc2 hf2 R0 R1 F0 F1
    go_wp2
    first
      | (refine bodyPost_ret (v := .tuple #[.agg #[.int .i64 0, .int .i64 0], .bool false]) (by simp [results, Tryz.results7, go_sem, S0, S1]; done) rfl ⟨rfl, ?_⟩)
      | (refine bodyPost_ret (v := .tuple #[.agg #[.int .i64 x0, .int .i64 y0], .bool true]) (by simp [results, Tryz.results7, go_sem, S0, S1]) rfl ⟨rfl, ?_⟩)
    refine Below.setCell (Below.setCell b2 ?_ _) ?_ _
    all_goals (show _ ≤ _ + 1 + 1; omega)

set_option maxHeartbeats 1000000 in
theorem IMul_core (an ad bn bd x0 y0 : Int) (b : Bool) (w : World) (hg : ErrT w)
    (hm : ∀ w, Calls Tryz.prog 26 #[.agg #[.int .i64 an, .int .i64 ad], .agg #[.int .i64 bn, .int .i64 bd]] w (redPost b x0 y0 w)) :
    Calls Tryz.prog 11 #[.agg #[.int .i64 an, .int .i64 ad], .agg #[.int .i64 bn, .int .i64 bd]] w (frP b (if b = true then x0 else 0) (if b = true then y0 else 0) w) := by
  have HM := Lib.hid hm
  clear hm
  have HG := Lib.hid hg
  clear hg
  cases b
  all_goals
    simp only [if_true, Bool.false_eq_true, if_false]
    go_enter Tryz.func11, Tryz.ntmps11
    go_wp2_with fail
    refine (HM.out _).mono ?_
    intro e w1 h1
    have hb1 := h1.2
    obtain ⟨hc1, hf1⟩ := bcell hb1
    have R0 : w1.cell? ⟨w.heap.size + 1 + 1, 0, none⟩ = some (.int .i64 0) := by rw [hc1 _ _ (by simp)]; go_simp
    have R1 : w1.cell? ⟨w.heap.size + 1 + 1, 1, none⟩ = some (.int .i64 0) := by rw [hc1 _ _ (by simp)]; go_simp
    have F0 : w1.frozen? ⟨w.heap.size + 1 + 1, 0, none⟩ = false := by rw [hf1 _ _ (by simp)]; go_simp
    have F1 : w1.frozen? ⟨w.heap.size + 1 + 1, 1, none⟩ = false := by rw [hf1 _ _ (by simp)]; go_simp
    have z1 : w.heap.size + 1 + 1 < w1.heap.size := by have := hb1.size; simp at this; omega
    have b1 := ((((Below.refl w.heap.size w).alloc (Nat.le_refl _) (.cells #[.int .i64 an, .int .i64 ad] 25)).alloc (by simp) (.cells #[.int .i64 bn, .int .i64 bd] 25)).alloc (by simp; omega) (.cells #[.int .i64 0, .int .i64 0] 25)).trans (hb1.mono (by simp; omega))
    have EG := HG.out.below b1
    clear hc1 hf1
    first
      | (obtain ⟨s, rfl, hb2⟩ := red_f h1
         clear h1
         go_wp2_with fail
         refine (border_frac_err _ _ _ _ EG).mono ?_)
      | (obtain ⟨rfl, hb2⟩ := red_t h1
         clear h1
         go_wp2_with fail
         refine (border_frac_nil _ _ _).mono ?_)
    rintro e w2 ⟨rfl, hb2'⟩
    obtain ⟨hc2, hf2⟩ := bcell hb2'
    have S0 : w2.cell? ⟨w.heap.size + 1 + 1, 0, none⟩ = some (.int .i64 0) := by rw [hc2 _ _ z1]; assumption
    have S1 : w2.cell? ⟨w.heap.size + 1 + 1, 1, none⟩ = some (.int .i64 0) := by rw [hc2 _ _ z1]; assumption
    have G0 : w2.frozen? ⟨w.heap.size + 1 + 1, 0, none⟩ = false := by rw [hf2 _ _ z1]; assumption
    have G1 : w2.frozen? ⟨w.heap.size + 1 + 1, 1, none⟩ = false := by rw [hf2 _ _ z1]; assumption
    have b2 := b1.trans (hb2'.mono b1.size)
    clear hc2 hf2 R0 R1 F0 F1
    go_wp2
    first
      | (refine bodyPost_ret (v := .tuple #[.agg #[.int .i64 0, .int .i64 0], .bool false]) (by simp [results, Tryz.results11, go_sem, S0, S1]; done) rfl ⟨rfl, ?_⟩)
      | (refine bodyPost_ret (v := .tuple #[.agg #[.int .i64 x0, .int .i64 y0], .bool true]) (by simp [results, Tryz.results11, go_sem, S0, S1]) rfl ⟨rfl, ?_⟩)
    refine Below.setCell (Below.setCell b2 ?_ _) ?_ _
    all_goals (show _ ≤ _ + 1 + 1; omega)

set_option maxHeartbeats 1000000 in
theorem IDiv_core (an ad bn bd x0 y0 : Int) (b : Bool) (w : World) (hg : ErrT w)
    (hm : ∀ w, Calls Tryz.prog 27 #[.agg #[.int .i64 an, .int .i64 ad], .agg #[.int .i64 bn, .int .i64 bd]] w (redPost b x0 y0 w)) :
    Calls Tryz.prog 12 #[.agg #[.int .i64 an, .int .i64 ad], .agg #[.int .i64 bn, .int .i64 bd]] w (frP b (if b = true then x0 else 0) (if b = true then y0 else 0) w) := by
  have HM := Lib.hid hm
  clear hm
  have HG := Lib.hid hg
  clear hg
  cases b
  all_goals
    simp only [if_true, Bool.false_eq_true, if_false]
    go_enter Tryz.func12, Tryz.ntmps12
    go_wp2_with fail
    refine (HM.out _).mono ?_
    intro e w1 h1
    have hb1 := h1.2
    obtain ⟨hc1, hf1⟩ := bcell hb1
    have R0 : w1.cell? ⟨w.heap.size + 1 + 1, 0, none⟩ = some (.int .i64 0) := by rw [hc1 _ _ (by simp)]; go_simp
    have R1 : w1.cell? ⟨w.heap.size + 1 + 1, 1, none⟩ = some (.int .i64 0) := by rw [hc1 _ _ (by simp)]; go_simp
    have F0 : w1.frozen? ⟨w.heap.size + 1 + 1, 0, none⟩ = false := by rw [hf1 _ _ (by simp)]; go_simp
    have F1 : w1.frozen? ⟨w.heap.size + 1 + 1, 1, none⟩ = false := by rw [hf1 _ _ (by simp)]; go_simp
    have z1 : w.heap.size + 1 + 1 < w1.heap.size := by have := hb1.size; simp at this; omega
    have b1 := ((((Below.refl w.heap.size w).alloc (Nat.le_refl _) (.cells #[.int .i64 an, .int .i64 ad] 25)).alloc (by simp) (.cells #[.int .i64 bn, .int .i64 bd] 25)).alloc (by simp; omega) (.cells #[.int .i64 0, .int .i64 0] 25)).trans (hb1.mono (by simp; omega))
    have EG := HG.out.below b1
    clear hc1 hf1
    first
      | (obtain ⟨s, rfl, hb2⟩ := red_f h1
         clear h1
         go_wp2_with fail
         refine (border_frac_err _ _ _ _ EG).mono ?_)
      | (obtain ⟨rfl, hb2⟩ := red_t h1
         clear h1
         go_wp2_with fail
         refine (border_frac_nil _ _ _).mono ?_)
    rintro e w2 ⟨rfl, hb2'⟩
    obtain ⟨hc2, hf2⟩ := bcell hb2'
    have S0 : w2.cell? ⟨w.heap.size + 1 + 1, 0, none⟩ = some (.int .i64 0) := by rw [hc2 _ _ z1]; assumption
    have S1 : w2.cell? ⟨w.heap.size + 1 + 1, 1, none⟩ = some (.int .i64 0) := by rw [hc2 _ _ z1]; assumption
    have G0 : w2.frozen? ⟨w.heap.size + 1 + 1, 0, none⟩ = false := by rw [hf2 _ _ z1]; assumption
    have G1 : w2.frozen? ⟨w.heap.size + 1 + 1, 1, none⟩ = false := by rw [hf2 _ _ z1]; assumption
    have b2 := b1.trans (hb2'.mono b1.size)
    clear hc2 hf2 R0 R1 F0 F1
    go_wp2
    first
      | (refine bodyPost_ret (v := .tuple #[.agg #[.int .i64 0, .int .i64 0], .bool false]) (by simp [results, Tryz.results12, go_sem, S0, S1]; done) rfl ⟨rfl, ?_⟩)
      | (refine bodyPost_ret (v := .tuple #[.agg #[.int .i64 x0, .int .i64 y0], .bool true]) (by simp [results, Tryz.results12, go_sem, S0, S1]) rfl ⟨rfl, ?_⟩)
    refine Below.setCell (Below.setCell b2 ?_ _) ?_ _
    all_goals (show _ ≤ _ + 1 + 1; omega)

theorem IAdd_any (an ad bn bd : Int) (w : World) (hg : ErrT w) :
    Calls Tryz.prog 6 #[.agg #[.int .i64 an, .int .i64 ad], .agg #[.int .i64 bn, .int .i64 bd]] w (frP (gB (okB an ad && okB bn bd) (an * bd + bn * ad) (ad * bd)) (gN (okB an ad && okB bn bd) (an * bd + bn * ad) (ad * bd)) (gD (okB an ad && okB bn bd) (an * bd + bn * ad) (ad * bd)) w) :=
  IAdd_core _ _ _ _ _ _ _ w hg (fun w => plus_any _ _ _ _ w)

theorem ISub_any (an ad bn bd : Int) (h1 : -9223372036854775808 ≤ bn) (h2 : bn ≤ 9223372036854775807) (w : World) (hg : ErrT w) :
    Calls Tryz.prog 7 #[.agg #[.int .i64 an, .int .i64 ad], .agg #[.int .i64 bn, .int .i64 bd]] w (frP (gB (okB an ad && okB bn bd) (an * bd - bn * ad) (ad * bd)) (gN (okB an ad && okB bn bd) (an * bd - bn * ad) (ad * bd)) (gD (okB an ad && okB bn bd) (an * bd - bn * ad) (ad * bd)) w) :=
  ISub_core _ _ _ _ _ _ _ w hg (fun w => minus_any _ _ _ _ h1 h2 w)

theorem IMul_any (an ad bn bd : Int) (w : World) (hg : ErrT w) :
    Calls Tryz.prog 11 #[.agg #[.int .i64 an, .int .i64 ad], .agg #[.int .i64 bn, .int .i64 bd]] w (frP (gB (okB an ad && okB bn bd) (an * bn) (ad * bd)) (gN (okB an ad && okB bn bd) (an * bn) (ad * bd)) (gD (okB an ad && okB bn bd) (an * bn) (ad * bd)) w) :=
  IMul_core _ _ _ _ _ _ _ w hg (fun w => times_any _ _ _ _ w)

theorem IDiv_any (an ad bn bd : Int) (w : World) (hg : ErrT w) :
    Calls Tryz.prog 12 #[.agg #[.int .i64 an, .int .i64 ad], .agg #[.int .i64 bn, .int .i64 bd]] w (frP (gB (okB an ad && okB bn bd && decide (bn ≠ 0)) (an * bd) (ad * bn)) (gN (okB an ad && okB bn bd && decide (bn ≠ 0)) (an * bd) (ad * bn)) (gD (okB an ad && okB bn bd && decide (bn ≠ 0)) (an * bd) (ad * bn)) w) :=
  IDiv_core _ _ _ _ _ _ _ w hg (fun w => over_any _ _ _ _ w)
end Go.Proofs.YtcmhdjoajkljfabGreatDoor
