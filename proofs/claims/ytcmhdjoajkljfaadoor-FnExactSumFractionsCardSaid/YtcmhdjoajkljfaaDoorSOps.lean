/- The operations on fractions by contracts, the specification's. -/
import Derived.Test.YtcmhdjoajkljfaaDoorOps
namespace Go.Proofs.YtcmhdjoajkljfaaDoor
open Go.ChangeShapes Go.WideShapes Go.ChangeAt Go.RowKit
def frP (b : Bool) (x y : Int) (w : World) (e : Ending) (w' : World) : Prop := e = .returned (.tuple #[.agg #[.int .i64 x, .int .i64 y], .bool b]) ∧ Below w.heap.size w w'
theorem mk_any (n d : Int) (w : World) (hd : d ≠ 0) (h1 : -4000000000000000000 ≤ n) (h2 : n ≤ 4000000000000000000) (h3 : -4000000000000000000 ≤ d) (h4 : d ≤ 4000000000000000000) :
    Calls Tryd.prog 71 #[.int .i64 n, .int .i64 d] w (frP (gB true n d) (gN true n d) (gD true n d) w) := make_any n d w hd h1 h2 h3 h4

set_option maxHeartbeats 1000000 in
theorem sadd_core (an ad bn bd : Int) (w : World) (ka : okF an ad) (kb : okF bn bd) (b : Bool) (x y : Int) (hb : Hid (gB true (an * bd + bn * ad) (ad * bd) = b)) (hx : Hid (gN true (an * bd + bn * ad) (ad * bd) = x)) (hy : Hid (gD true (an * bd + bn * ad) (ad * bd) = y)) :
    Calls Tryd.prog 57 #[.agg #[.int .i64 an, .int .i64 ad], .agg #[.int .i64 bn, .int .i64 bd]] w (frP b x y w) := by
  obtain ⟨a1, a2, a3, a4, -⟩ := ka
  obtain ⟨d1, d2, d3, d4, -⟩ := kb
  have m1 := mul9 a3 a4 (y := bd) (by omega) d2
  have m2 := mul9 d3 d4 (y := ad) (by omega) a2
  have m3 := mul9 (x := ad) (y := bd) (by omega) a2 (by omega) d2
  have m4 := mul_pos9 a1 d1
  go_enter Tryd.func57, Tryd.ntmps57
  go_wp2_with fail
  refine (mk_any _ _ _ (by omega) (by omega) (by omega) (by omega) (by omega)).mono ?_
  rw [hb.out, hx.out, hy.out]
  rintro e w1 ⟨rfl, hb1⟩
  obtain ⟨hc1, hf1⟩ := bcell hb1
  have R0 : w1.cell? ⟨w.heap.size + 1 + 1, 0, none⟩ = some (.int .i64 0) := by rw [hc1 _ _ (by simp)]; go_simp
  have R1 : w1.cell? ⟨w.heap.size + 1 + 1, 1, none⟩ = some (.int .i64 0) := by rw [hc1 _ _ (by simp)]; go_simp
  have F0 : w1.frozen? ⟨w.heap.size + 1 + 1, 0, none⟩ = false := by rw [hf1 _ _ (by simp)]; go_simp
  have F1 : w1.frozen? ⟨w.heap.size + 1 + 1, 1, none⟩ = false := by rw [hf1 _ _ (by simp)]; go_simp
  have b1 := ((((Below.refl w.heap.size w).alloc (Nat.le_refl _) (.cells #[.int .i64 an, .int .i64 ad] 37)).alloc (by simp) (.cells #[.int .i64 bn, .int .i64 bd] 37)).alloc (by simp; omega) (.cells #[.int .i64 0, .int .i64 0] 37)).trans (hb1.mono (by simp; omega))
  clear hc1 hf1
  go_wp2
  refine bodyPost_ret (v := .tuple #[.agg #[.int .i64 x, .int .i64 y], .bool b]) (by simp [results, Tryd.results57, go_sem, R0, R1]) rfl ⟨rfl, ?_⟩
  refine Below.setCell (Below.setCell b1 ?_ _) ?_ _
  all_goals (show _ ≤ _ + 1 + 1; omega)
theorem sadd (an ad bn bd : Int) (w : World) (ka : okF an ad) (kb : okF bn bd) :
    Calls Tryd.prog 57 #[.agg #[.int .i64 an, .int .i64 ad], .agg #[.int .i64 bn, .int .i64 bd]] w (frP (gB true (an * bd + bn * ad) (ad * bd)) (gN true (an * bd + bn * ad) (ad * bd)) (gD true (an * bd + bn * ad) (ad * bd)) w) :=
  sadd_core _ _ _ _ w ka kb _ _ _ rfl rfl rfl

theorem g_no' {p : Bool} {n d : Int} (h : p = false) : gB p n d = false ∧ gN p n d = 0 ∧ gD p n d = 0 := by subst h; simp [gB, gN, gD]

end Go.Proofs.YtcmhdjoajkljfaaDoor
