/- The operations on fractions by contracts, the exported ones of the program. -/
import Derived.Test.YtjfkkmfbgmejbabDoorSOps
namespace Go.Proofs.YtjfkkmfbgmejbabDoor
open Go.ChangeShapes Go.WideShapes Go.ChangeAt Go.RowKit

set_option maxHeartbeats 1000000 in
theorem IMul_core (an ad bn bd x0 y0 : Int) (b : Bool) (w : World) (hg : ErrT w)
    (hm : ∀ w, Calls Tryd.prog 58 #[.agg #[.int .i64 an, .int .i64 ad], .agg #[.int .i64 bn, .int .i64 bd]] w (redPost b x0 y0 w)) :
    Calls Tryd.prog 25 #[.agg #[.int .i64 an, .int .i64 ad], .agg #[.int .i64 bn, .int .i64 bd]] w (frP b (if b = true then x0 else 0) (if b = true then y0 else 0) w) := by
  have HM := Lib.hid hm
  clear hm
  have HG := Lib.hid hg
  clear hg
  cases b
  all_goals
    simp only [if_true, Bool.false_eq_true, if_false]
    go_enter Tryd.func25, Tryd.ntmps25
    go_wp2_with fail
    refine (HM.out _).mono ?_
    intro e w1 h1
    have hb1 := h1.2
    obtain ⟨hc1, hf1⟩ := bcell hb1
    have R0 : w1.cell? ⟨w.heap.size + 1 + 1, 0, none⟩ = some (.int .i64 0) := by rw [hc1 _ _ (by simp)]; go_simp
    have R1 : w1.cell? ⟨w.heap.size + 1 + 1, 1, none⟩ = some (.int .i64 0) := by rw [hc1 _ _ (by simp)]; go_simp
    have F0 : w1.frozen? ⟨w.heap.size + 1 + 1, 0, none⟩ = false := by rw [hf1 _ _ (by simp)]; go_simp
    have F1 : w1.frozen? ⟨w.heap.size + 1 + 1, 1, none⟩ = false := by rw [hf1 _ _ (by simp)]; go_simp
    have z1 : w.heap.size + 1 + 1 < w1.heap.size := by have := hb1.size; simp at this; omega
    have b1 := ((((Below.refl w.heap.size w).alloc (Nat.le_refl _) (.cells #[.int .i64 an, .int .i64 ad] 26)).alloc (by simp) (.cells #[.int .i64 bn, .int .i64 bd] 26)).alloc (by simp; omega) (.cells #[.int .i64 0, .int .i64 0] 26)).trans (hb1.mono (by simp; omega))
    have EG := HG.out.below b1
    clear hc1 hf1
    first
      | (obtain ⟨s, rfl, hb2⟩ := red_f h1
         clear h1
         go_wp2_with fail
         refine (border_frac_err _ _ _ _ EG).mono ?_)
      | (obtain ⟨rfl, hb2⟩ := red_t h1
         clear h1
         go_wp2_with fail
         refine (border_frac_nil _ _ _).mono ?_)
    rintro e w2 ⟨rfl, hb2'⟩
    obtain ⟨hc2, hf2⟩ := bcell hb2'
    have S0 : w2.cell? ⟨w.heap.size + 1 + 1, 0, none⟩ = some (.int .i64 0) := by rw [hc2 _ _ z1]; assumption
    have S1 : w2.cell? ⟨w.heap.size + 1 + 1, 1, none⟩ = some (.int .i64 0) := by rw [hc2 _ _ z1]; assumption
    have G0 : w2.frozen? ⟨w.heap.size + 1 + 1, 0, none⟩ = false := by rw [hf2 _ _ z1]; assumption
    have G1 : w2.frozen? ⟨w.heap.size + 1 + 1, 1, none⟩ = false := by rw [hf2 _ _ z1]; assumption
    have b2 := b1.trans (hb2'.mono b1.size)
    clear hc2 hf2 R0 R1 F0 F1
    go_wp2
    first
      | (refine bodyPost_ret (v := .tuple #[.agg #[.int .i64 0, .int .i64 0], .bool false]) (by simp [results, Tryd.results25, go_sem, S0, S1]; done) rfl ⟨rfl, ?_⟩)
      | (refine bodyPost_ret (v := .tuple #[.agg #[.int .i64 x0, .int .i64 y0], .bool true]) (by simp [results, Tryd.results25, go_sem, S0, S1]) rfl ⟨rfl, ?_⟩)
    refine Below.setCell (Below.setCell b2 ?_ _) ?_ _
    all_goals (show _ ≤ _ + 1 + 1; omega)

theorem IMul_any (an ad bn bd : Int) (w : World) (hg : ErrT w) :
    Calls Tryd.prog 25 #[.agg #[.int .i64 an, .int .i64 ad], .agg #[.int .i64 bn, .int .i64 bd]] w (frP (gB (okB an ad && okB bn bd) (an * bn) (ad * bd)) (gN (okB an ad && okB bn bd) (an * bn) (ad * bd)) (gD (okB an ad && okB bn bd) (an * bn) (ad * bd)) w) :=
  IMul_core _ _ _ _ _ _ _ w hg (fun w => times_any _ _ _ _ w)

end Go.Proofs.YtjfkkmfbgmejbabDoor
