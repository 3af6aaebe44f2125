/- FractionOf by contracts. -/
import Derived.Test.YtjfkkmfbgmejbabDoorIOps
namespace Go.Proofs.YtjfkkmfbgmejbabDoor
open Go.ChangeShapes Go.WideShapes Go.ChangeAt Go.RowKit

/-- FractionOf asks this of its numbers. -/
def frOk (n d : Int) : Bool := inB n (-1000000000000000000) 1000000000000000000 && inB d (-1000000000000000000) 1000000000000000000 && decide (d ≠ 0)
theorem frOk_bd {n d : Int} (h : frOk n d = true) : d ≠ 0 ∧ -4000000000000000000 ≤ n ∧ n ≤ 4000000000000000000 ∧ -4000000000000000000 ≤ d ∧ d ≤ 4000000000000000000 ∧ -1000000000000000000 ≤ n ∧ n ≤ 1000000000000000000 ∧ -1000000000000000000 ≤ d ∧ d ≤ 1000000000000000000 := by
  simp [frOk, inB] at h
  omega
/-- Both numbers are within the limit. -/
def inRaw (n d : Int) : Prop := -1000000000000000000 ≤ n ∧ n ≤ 1000000000000000000 ∧ -1000000000000000000 ≤ d ∧ d ≤ 1000000000000000000
set_option maxHeartbeats 1000000 in
theorem ifo_no (n d : Int) (w : World) (h : ¬ inRaw n d) :
    Calls Tryd.prog 21 #[.int .i64 n, .int .i64 d] w (frP false 0 0 w) := by
  unfold inRaw at h
  by_cases h1 : 1000000000000000000 < max n d
  · clear h
    go_enter Tryd.func21, Tryd.ntmps21
    go_wp2
    all_goals
      refine bodyPost_ret (v := .tuple #[.agg #[.int .i64 0, .int .i64 0], .bool false]) (by simp [results, Tryd.results21, go_sem]) rfl ⟨rfl, ?_⟩
      exact (Below.refl _ _).alloc (Nat.le_refl _) _
  · have h2 : min n d < -1000000000000000000 := by omega
    clear h
    go_enter Tryd.func21, Tryd.ntmps21
    go_wp2
    all_goals
      refine bodyPost_ret (v := .tuple #[.agg #[.int .i64 0, .int .i64 0], .bool false]) (by simp [results, Tryd.results21, go_sem]) rfl ⟨rfl, ?_⟩
      exact (Below.refl _ _).alloc (Nat.le_refl _) _
set_option maxHeartbeats 2000000 in
theorem ifo_yes (n d x0 y0 : Int) (b : Bool) (w : World) (hg : ErrT w) (h : inRaw n d) (hm : ∀ w, Calls Tryd.prog 54 #[.int .i64 n, .int .i64 d] w (redPost b x0 y0 w)) :
    Calls Tryd.prog 21 #[.int .i64 n, .int .i64 d] w (frP b (if b = true then x0 else 0) (if b = true then y0 else 0) w) := by
  obtain ⟨n1, n2, d1, d2⟩ := h
  have HM := Lib.hid hm
  clear hm
  have HG := Lib.hid hg
  clear hg
  rcases Int.lt_trichotomy n d with hle | rfl | hle
  all_goals
    cases b
    all_goals
      simp only [if_true, Bool.false_eq_true, if_false]
      go_enter Tryd.func21, Tryd.ntmps21
      go_wp2_with fail
      refine (HM.out _).mono ?_
      intro e w1 h1
      have hb1 := h1.2
      obtain ⟨hc1, hf1⟩ := bcell hb1
      have R0 : w1.cell? ⟨w.heap.size, 0, none⟩ = some (.int .i64 0) := by rw [hc1 _ _ (by simp)]; go_simp
      have R1 : w1.cell? ⟨w.heap.size, 1, none⟩ = some (.int .i64 0) := by rw [hc1 _ _ (by simp)]; go_simp
      have F0 : w1.frozen? ⟨w.heap.size, 0, none⟩ = false := by rw [hf1 _ _ (by simp)]; go_simp
      have F1 : w1.frozen? ⟨w.heap.size, 1, none⟩ = false := by rw [hf1 _ _ (by simp)]; go_simp
      have z1 : w.heap.size < w1.heap.size := by have := hb1.size; simp at this; omega
      have b1 := ((Below.refl w.heap.size w).alloc (Nat.le_refl _) (.cells #[.int .i64 0, .int .i64 0] 26)).trans (hb1.mono (by simp))
      have EG := HG.out.below b1
      clear hc1 hf1
      first
        | (obtain ⟨s, rfl, hb2⟩ := red_f h1
           clear h1
           go_wp2_with fail
           refine (border_frac_err _ _ _ _ EG).mono ?_)
        | (obtain ⟨rfl, hb2⟩ := red_t h1
           clear h1
           go_wp2_with fail
           refine (border_frac_nil _ _ _).mono ?_)
      rintro e w2 ⟨rfl, hb2'⟩
      obtain ⟨hc2, hf2⟩ := bcell hb2'
      have S0 : w2.cell? ⟨w.heap.size, 0, none⟩ = some (.int .i64 0) := by rw [hc2 _ _ z1]; assumption
      have S1 : w2.cell? ⟨w.heap.size, 1, none⟩ = some (.int .i64 0) := by rw [hc2 _ _ z1]; assumption
      have G0 : w2.frozen? ⟨w.heap.size, 0, none⟩ = false := by rw [hf2 _ _ z1]; assumption
      have G1 : w2.frozen? ⟨w.heap.size, 1, none⟩ = false := by rw [hf2 _ _ z1]; assumption
      have b2 := b1.trans (hb2'.mono b1.size)
      clear hc2 hf2 R0 R1 F0 F1
      go_wp2
      first
        | (refine bodyPost_ret (v := .tuple #[.agg #[.int .i64 0, .int .i64 0], .bool false]) (by simp [results, Tryd.results21, go_sem, S0, S1]; done) rfl ⟨rfl, ?_⟩)
        | (refine bodyPost_ret (v := .tuple #[.agg #[.int .i64 x0, .int .i64 y0], .bool true]) (by simp [results, Tryd.results21, go_sem, S0, S1]) rfl ⟨rfl, ?_⟩)
      refine Below.setCell (Below.setCell b2 ?_ _) ?_ _
      all_goals exact Nat.le_refl _
theorem ifo_any (n d : Int) (w : World) (hg : ErrT w) : Calls Tryd.prog 21 #[.int .i64 n, .int .i64 d] w (frP (gB (frOk n d) n d) (gN (frOk n d) n d) (gD (frOk n d) n d) w) := by
  by_cases h : inRaw n d
  · have e : frOk n d = decide (d ≠ 0) := by
      obtain ⟨n1, n2, d1, d2⟩ := h
      simp [frOk, inB_yes n1 n2, inB_yes d1 d2]
    rw [e]
    obtain ⟨n1, n2, d1, d2⟩ := h
    exact ifo_yes _ _ _ _ _ w hg ⟨n1, n2, d1, d2⟩ (fun w => reduced_any n d w (by omega) (by omega) (by omega) (by omega))
  · have e : frOk n d = false := by
      cases h' : frOk n d
      · rfl
      · have := frOk_bd h'
        exact absurd ⟨this.2.2.2.2.2.1, this.2.2.2.2.2.2.1, this.2.2.2.2.2.2.2.1, this.2.2.2.2.2.2.2.2⟩ h
    obtain ⟨e1, e2, e3⟩ := g_no' (n := n) (d := d) e
    rw [e1, e2, e3]
    exact ifo_no n d w h
end Go.Proofs.YtjfkkmfbgmejbabDoor
