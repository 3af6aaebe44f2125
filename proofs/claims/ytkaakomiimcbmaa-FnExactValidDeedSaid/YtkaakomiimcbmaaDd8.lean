/- A motion's act and whether a motion can be proposed: the program's look. -/
import Derived.Test.YtkaakomiimcbmaaDd7
import Derived.Deep.RegionHeld3
namespace Go.Proofs.Ytkaakomiimcbmaa
open Go.ChangeShapes Go.WideShapes Go.ChangeAt Go.RowKit Go.Deep
set_option linter.unusedSimpArgs false
set_option linter.unusedVariables false
set_option maxHeartbeats 4000000 in
set_option maxRecDepth 100000 in
theorem iclone (m n : Int) (l : List Ed) (c : Nat) (w : World) (h : Es w c l) (hl : l.length ≤ 1048576) :
    Calls Try.prog 63 #[.agg #[.int .i64 m, .int .i64 n, .slice (some ⟨c, 0, none⟩) l.length l.length]] w fun e w' => (∃ g cp, e = .returned (.agg #[.int .i64 m, .int .i64 n, .slice (some ⟨g, 0, none⟩) l.length cp]) ∧ w.heap.size ≤ g ∧ Ex w' g l) ∧ Below w.heap.size w w' := by
  have b0 := ((Below.refl w.heap.size w).alloc (Nat.le_refl _) (.cells #[.int .i64 m, .int .i64 n, .slice (some ⟨c, 0, none⟩) l.length l.length] 100)).alloc (by simp) (.cells #[.int .i64 0, .int .i64 0, .slice none 0 0] 100)
  obtain ⟨w0, hw0⟩ : ∃ w0, (w.alloc (.cells #[.int .i64 m, .int .i64 n, .slice (some ⟨c, 0, none⟩) l.length l.length] 100)).alloc (.cells #[.int .i64 0, .int .i64 0, .slice none 0 0] 100) = w0 := ⟨_, rfl⟩
  have p0 : w0.cell? ⟨w.heap.size, 0, none⟩ = some (.int .i64 m) := by subst hw0; go_simp
  have p1 : w0.cell? ⟨w.heap.size, 1, none⟩ = some (.int .i64 n) := by subst hw0; go_simp
  have p2 : w0.cell? ⟨w.heap.size, 2, none⟩ = some (.slice (some ⟨c, 0, none⟩) l.length l.length) := by subst hw0; go_simp
  have q0 : w0.cell? ⟨w.heap.size + 1, 0, none⟩ = some (.int .i64 0) := by subst hw0; go_simp
  have q1 : w0.cell? ⟨w.heap.size + 1, 1, none⟩ = some (.int .i64 0) := by subst hw0; go_simp
  have q2 : w0.cell? ⟨w.heap.size + 1, 2, none⟩ = some (.slice none 0 0) := by subst hw0; go_simp
  have z0 : w0.frozen? ⟨w.heap.size + 1, 0, none⟩ = false := by subst hw0; go_simp
  have z1 : w0.frozen? ⟨w.heap.size + 1, 1, none⟩ = false := by subst hw0; go_simp
  have z2 : w0.frozen? ⟨w.heap.size + 1, 2, none⟩ = false := by subst hw0; go_simp
  have lw : w.heap.size + 1 < w0.heap.size := World.block_lt_of_cell? _ _ q0
  rw [hw0] at b0
  have HC := Lib.hid (fun w' (hw : Below w0.heap.size w0 w') => cloneE c l.length l w' ((h.below b0).below hw) hl)
  have B0 := Lib.hid b0
  clear h b0
  go_enter Try.func63, Try.ntmps63
  go_wp2_with fail
  go_region_with (go_at_call 66; refine (HC.out _ (by first | exact Below.refl _ _ | exact (Below.refl _ _).drew)).mono ?_; rintro e w2 ⟨⟨g, cp, rfl, hgl, hg⟩, hb2⟩; obtain ⟨hc, hf⟩ := bcell hb2; have q0' := (hc _ _ lw).trans q0; have q1' := (hc _ _ lw).trans q1; have q2' := (hc _ _ lw).trans q2; have z0' := (hf _ _ lw).trans z0; have z1' := (hf _ _ lw).trans z1; have z2' := (hf _ _ lw).trans z2; have p0' := (hc _ _ (Nat.lt_of_succ_lt lw)).trans p0; have p1' := (hc _ _ (Nat.lt_of_succ_lt lw)).trans p1; have p2' := (hc _ _ (Nat.lt_of_succ_lt lw)).trans p2; clear hc hf)
  all_goals
    have lg : w0.heap.size ≤ g := hgl
    have hb3 : Below w.heap.size w w2 := B0.out.trans ((show Below w0.heap.size w0 w2 from by first | exact hb2 | exact ((Below.refl w0.heap.size w0).drew).trans hb2).mono B0.out.size)
    have HG := Lib.hid hg
    have HB := Lib.hid hb3
    have nq : w.heap.size + 1 ≠ g := by omega
    clear hb2 hg hb3 HC p0 p1 p2 q0 q1 q2 z0 z1 z2
    go_wp2
    refine bodyPost_ret (v := .agg #[.int .i64 m, .int .i64 n, .slice (some ⟨g, 0, none⟩) l.length cp]) (by simp [results, Try.results63, go_sem, q0', q1', q2']) rfl ⟨⟨g, cp, rfl, by omega, ?_⟩, ?_⟩
    · first
        | exact Ex.setOther (Ex.setOther (Ex.setOther HG.out nq _) nq _) nq _
        | exact Ex.below (Ex.setOther (Ex.setOther (Ex.setOther HG.out nq _) nq _) nq _) (Below.refl _ _).drew
    · first
        | exact Below.setCell (Below.setCell (Below.setCell HB.out (by show _ ≤ _ + _; omega) _) (by show _ ≤ _ + _; omega) _) (by show _ ≤ _ + _; omega) _
        | exact (Below.setCell (Below.setCell (Below.setCell HB.out (by show _ ≤ _ + _; omega) _) (by show _ ≤ _ + _; omega) _) (by show _ ≤ _ + _; omega) _).drew
end Go.Proofs.Ytkaakomiimcbmaa
