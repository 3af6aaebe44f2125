/- The operations on fractions by contracts, the specification's. -/
import Derived.Test.YtoppbeojmkbmcaaDoorOps
namespace Go.Proofs.YtoppbeojmkbmcaaDoor
open Go.ChangeShapes Go.WideShapes Go.ChangeAt Go.RowKit
def frP (b : Bool) (x y : Int) (w : World) (e : Ending) (w' : World) : Prop := e = .returned (.tuple #[.agg #[.int .i64 x, .int .i64 y], .bool b]) ∧ Below w.heap.size w w'
theorem mk_any (n d : Int) (w : World) (hd : d ≠ 0) (h1 : -4000000000000000000 ≤ n) (h2 : n ≤ 4000000000000000000) (h3 : -4000000000000000000 ≤ d) (h4 : d ≤ 4000000000000000000) :
    Calls Tryd.prog 49 #[.int .i64 n, .int .i64 d] w (frP (gB true n d) (gN true n d) (gD true n d) w) := make_any n d w hd h1 h2 h3 h4

set_option maxHeartbeats 1000000 in
theorem sadd_core (an ad bn bd : Int) (w : World) (ka : okF an ad) (kb : okF bn bd) (b : Bool) (x y : Int) (hb : Hid (gB true (an * bd + bn * ad) (ad * bd) = b)) (hx : Hid (gN true (an * bd + bn * ad) (ad * bd) = x)) (hy : Hid (gD true (an * bd + bn * ad) (ad * bd) = y)) :
    Calls Tryd.prog 53 #[.agg #[.int .i64 an, .int .i64 ad], .agg #[.int .i64 bn, .int .i64 bd]] w (frP b x y w) := by
  obtain ⟨a1, a2, a3, a4, -⟩ := ka
  obtain ⟨d1, d2, d3, d4, -⟩ := kb
  have m1 := mul9 a3 a4 (y := bd) (by omega) d2
  have m2 := mul9 d3 d4 (y := ad) (by omega) a2
  have m3 := mul9 (x := ad) (y := bd) (by omega) a2 (by omega) d2
  have m4 := mul_pos9 a1 d1
  go_enter Tryd.func53, Tryd.ntmps53
  go_wp2_with fail
  refine (mk_any _ _ _ (by omega) (by omega) (by omega) (by omega) (by omega)).mono ?_
  rw [hb.out, hx.out, hy.out]
  rintro e w1 ⟨rfl, hb1⟩
  obtain ⟨hc1, hf1⟩ := bcell hb1
  have R0 : w1.cell? ⟨w.heap.size + 1 + 1, 0, none⟩ = some (.int .i64 0) := by rw [hc1 _ _ (by simp)]; go_simp
  have R1 : w1.cell? ⟨w.heap.size + 1 + 1, 1, none⟩ = some (.int .i64 0) := by rw [hc1 _ _ (by simp)]; go_simp
  have F0 : w1.frozen? ⟨w.heap.size + 1 + 1, 0, none⟩ = false := by rw [hf1 _ _ (by simp)]; go_simp
  have F1 : w1.frozen? ⟨w.heap.size + 1 + 1, 1, none⟩ = false := by rw [hf1 _ _ (by simp)]; go_simp
  have b1 := ((((Below.refl w.heap.size w).alloc (Nat.le_refl _) (.cells #[.int .i64 an, .int .i64 ad] 28)).alloc (by simp) (.cells #[.int .i64 bn, .int .i64 bd] 28)).alloc (by simp; omega) (.cells #[.int .i64 0, .int .i64 0] 28)).trans (hb1.mono (by simp; omega))
  clear hc1 hf1
  go_wp2
  refine bodyPost_ret (v := .tuple #[.agg #[.int .i64 x, .int .i64 y], .bool b]) (by simp [results, Tryd.results53, go_sem, R0, R1]) rfl ⟨rfl, ?_⟩
  refine Below.setCell (Below.setCell b1 ?_ _) ?_ _
  all_goals (show _ ≤ _ + 1 + 1; omega)
theorem sadd (an ad bn bd : Int) (w : World) (ka : okF an ad) (kb : okF bn bd) :
    Calls Tryd.prog 53 #[.agg #[.int .i64 an, .int .i64 ad], .agg #[.int .i64 bn, .int .i64 bd]] w (frP (gB true (an * bd + bn * ad) (ad * bd)) (gN true (an * bd + bn * ad) (ad * bd)) (gD true (an * bd + bn * ad) (ad * bd)) w) :=
  sadd_core _ _ _ _ w ka kb _ _ _ rfl rfl rfl

set_option maxHeartbeats 1000000 in
theorem ssub_core (an ad bn bd : Int) (w : World) (ka : okF an ad) (kb : okF bn bd) (b : Bool) (x y : Int) (hb : Hid (gB true (an * bd - bn * ad) (ad * bd) = b)) (hx : Hid (gN true (an * bd - bn * ad) (ad * bd) = x)) (hy : Hid (gD true (an * bd - bn * ad) (ad * bd) = y)) :
    Calls Tryd.prog 55 #[.agg #[.int .i64 an, .int .i64 ad], .agg #[.int .i64 bn, .int .i64 bd]] w (frP b x y w) := by
  obtain ⟨a1, a2, a3, a4, -⟩ := ka
  obtain ⟨d1, d2, d3, d4, -⟩ := kb
  have m1 := mul9 a3 a4 (y := bd) (by omega) d2
  have m2 := mul9 d3 d4 (y := ad) (by omega) a2
  have m3 := mul9 (x := ad) (y := bd) (by omega) a2 (by omega) d2
  have m4 := mul_pos9 a1 d1
  go_enter Tryd.func55, Tryd.ntmps55
  go_wp2_with fail
  refine (mk_any _ _ _ (by omega) (by omega) (by omega) (by omega) (by omega)).mono ?_
  rw [hb.out, hx.out, hy.out]
  rintro e w1 ⟨rfl, hb1⟩
  obtain ⟨hc1, hf1⟩ := bcell hb1
  have R0 : w1.cell? ⟨w.heap.size + 1 + 1, 0, none⟩ = some (.int .i64 0) := by rw [hc1 _ _ (by simp)]; go_simp
  have R1 : w1.cell? ⟨w.heap.size + 1 + 1, 1, none⟩ = some (.int .i64 0) := by rw [hc1 _ _ (by simp)]; go_simp
  have F0 : w1.frozen? ⟨w.heap.size + 1 + 1, 0, none⟩ = false := by rw [hf1 _ _ (by simp)]; go_simp
  have F1 : w1.frozen? ⟨w.heap.size + 1 + 1, 1, none⟩ = false := by rw [hf1 _ _ (by simp)]; go_simp
  have b1 := ((((Below.refl w.heap.size w).alloc (Nat.le_refl _) (.cells #[.int .i64 an, .int .i64 ad] 28)).alloc (by simp) (.cells #[.int .i64 bn, .int .i64 bd] 28)).alloc (by simp; omega) (.cells #[.int .i64 0, .int .i64 0] 28)).trans (hb1.mono (by simp; omega))
  clear hc1 hf1
  go_wp2
  refine bodyPost_ret (v := .tuple #[.agg #[.int .i64 x, .int .i64 y], .bool b]) (by simp [results, Tryd.results55, go_sem, R0, R1]) rfl ⟨rfl, ?_⟩
  refine Below.setCell (Below.setCell b1 ?_ _) ?_ _
  all_goals (show _ ≤ _ + 1 + 1; omega)
theorem ssub (an ad bn bd : Int) (w : World) (ka : okF an ad) (kb : okF bn bd) :
    Calls Tryd.prog 55 #[.agg #[.int .i64 an, .int .i64 ad], .agg #[.int .i64 bn, .int .i64 bd]] w (frP (gB true (an * bd - bn * ad) (ad * bd)) (gN true (an * bd - bn * ad) (ad * bd)) (gD true (an * bd - bn * ad) (ad * bd)) w) :=
  ssub_core _ _ _ _ w ka kb _ _ _ rfl rfl rfl

set_option maxHeartbeats 1000000 in
theorem smul_core (an ad bn bd : Int) (w : World) (ka : okF an ad) (kb : okF bn bd) (b : Bool) (x y : Int) (hb : Hid (gB true (an * bn) (ad * bd) = b)) (hx : Hid (gN true (an * bn) (ad * bd) = x)) (hy : Hid (gD true (an * bn) (ad * bd) = y)) :
    Calls Tryd.prog 57 #[.agg #[.int .i64 an, .int .i64 ad], .agg #[.int .i64 bn, .int .i64 bd]] w (frP b x y w) := by
  obtain ⟨a1, a2, a3, a4, -⟩ := ka
  obtain ⟨d1, d2, d3, d4, -⟩ := kb
  have m1 := mul9 a3 a4 d3 d4
  have m3 := mul9 (x := ad) (y := bd) (by omega) a2 (by omega) d2
  have m4 := mul_pos9 a1 d1
  go_enter Tryd.func57, Tryd.ntmps57
  go_wp2_with fail
  refine (mk_any _ _ _ (by omega) (by omega) (by omega) (by omega) (by omega)).mono ?_
  rw [hb.out, hx.out, hy.out]
  rintro e w1 ⟨rfl, hb1⟩
  obtain ⟨hc1, hf1⟩ := bcell hb1
  have R0 : w1.cell? ⟨w.heap.size + 1 + 1, 0, none⟩ = some (.int .i64 0) := by rw [hc1 _ _ (by simp)]; go_simp
  have R1 : w1.cell? ⟨w.heap.size + 1 + 1, 1, none⟩ = some (.int .i64 0) := by rw [hc1 _ _ (by simp)]; go_simp
  have F0 : w1.frozen? ⟨w.heap.size + 1 + 1, 0, none⟩ = false := by rw [hf1 _ _ (by simp)]; go_simp
  have F1 : w1.frozen? ⟨w.heap.size + 1 + 1, 1, none⟩ = false := by rw [hf1 _ _ (by simp)]; go_simp
  have b1 := ((((Below.refl w.heap.size w).alloc (Nat.le_refl _) (.cells #[.int .i64 an, .int .i64 ad] 28)).alloc (by simp) (.cells #[.int .i64 bn, .int .i64 bd] 28)).alloc (by simp; omega) (.cells #[.int .i64 0, .int .i64 0] 28)).trans (hb1.mono (by simp; omega))
  clear hc1 hf1
  go_wp2
  refine bodyPost_ret (v := .tuple #[.agg #[.int .i64 x, .int .i64 y], .bool b]) (by simp [results, Tryd.results57, go_sem, R0, R1]) rfl ⟨rfl, ?_⟩
  refine Below.setCell (Below.setCell b1 ?_ _) ?_ _
  all_goals (show _ ≤ _ + 1 + 1; omega)
theorem smul (an ad bn bd : Int) (w : World) (ka : okF an ad) (kb : okF bn bd) :
    Calls Tryd.prog 57 #[.agg #[.int .i64 an, .int .i64 ad], .agg #[.int .i64 bn, .int .i64 bd]] w (frP (gB true (an * bn) (ad * bd)) (gN true (an * bn) (ad * bd)) (gD true (an * bn) (ad * bd)) w) :=
  smul_core _ _ _ _ w ka kb _ _ _ rfl rfl rfl

set_option maxHeartbeats 1000000 in
theorem sdiv_core (an ad bn bd : Int) (w : World) (ka : okF an ad) (kb : okF bn bd) (hne : bn ≠ 0) (b : Bool) (x y : Int) (hb : Hid (gB true (an * bd) (ad * bn) = b)) (hx : Hid (gN true (an * bd) (ad * bn) = x)) (hy : Hid (gD true (an * bd) (ad * bn) = y)) :
    Calls Tryd.prog 59 #[.agg #[.int .i64 an, .int .i64 ad], .agg #[.int .i64 bn, .int .i64 bd]] w (frP b x y w) := by
  obtain ⟨a1, a2, a3, a4, -⟩ := ka
  obtain ⟨d1, d2, d3, d4, -⟩ := kb
  have m1 := mul9 a3 a4 (y := bd) (by omega) d2
  have m3 := mul9 (x := ad) (y := bn) (by omega) a2 d3 d4
  have m4 : ad * bn ≠ 0 := by
    intro e; rcases Int.mul_eq_zero.1 e with e | e <;> omega
  have m5 : (bn == 0) = false := by simp [hne]
  go_enter Tryd.func59, Tryd.ntmps59
  go_wp2_with fail
  refine (mk_any _ _ _ (by omega) (by omega) (by omega) (by omega) (by omega)).mono ?_
  rw [hb.out, hx.out, hy.out]
  rintro e w1 ⟨rfl, hb1⟩
  obtain ⟨hc1, hf1⟩ := bcell hb1
  have R0 : w1.cell? ⟨w.heap.size + 1 + 1, 0, none⟩ = some (.int .i64 0) := by rw [hc1 _ _ (by simp)]; go_simp
  have R1 : w1.cell? ⟨w.heap.size + 1 + 1, 1, none⟩ = some (.int .i64 0) := by rw [hc1 _ _ (by simp)]; go_simp
  have F0 : w1.frozen? ⟨w.heap.size + 1 + 1, 0, none⟩ = false := by rw [hf1 _ _ (by simp)]; go_simp
  have F1 : w1.frozen? ⟨w.heap.size + 1 + 1, 1, none⟩ = false := by rw [hf1 _ _ (by simp)]; go_simp
  have b1 := ((((Below.refl w.heap.size w).alloc (Nat.le_refl _) (.cells #[.int .i64 an, .int .i64 ad] 28)).alloc (by simp) (.cells #[.int .i64 bn, .int .i64 bd] 28)).alloc (by simp; omega) (.cells #[.int .i64 0, .int .i64 0] 28)).trans (hb1.mono (by simp; omega))
  clear hc1 hf1
  go_wp2
  refine bodyPost_ret (v := .tuple #[.agg #[.int .i64 x, .int .i64 y], .bool b]) (by simp [results, Tryd.results59, go_sem, R0, R1]) rfl ⟨rfl, ?_⟩
  refine Below.setCell (Below.setCell b1 ?_ _) ?_ _
  all_goals (show _ ≤ _ + 1 + 1; omega)
theorem sdiv (an ad bn bd : Int) (w : World) (ka : okF an ad) (kb : okF bn bd) (hne : bn ≠ 0) :
    Calls Tryd.prog 59 #[.agg #[.int .i64 an, .int .i64 ad], .agg #[.int .i64 bn, .int .i64 bd]] w (frP (gB true (an * bd) (ad * bn)) (gN true (an * bd) (ad * bn)) (gD true (an * bd) (ad * bn)) w) :=
  sdiv_core _ _ _ _ w ka kb hne _ _ _ rfl rfl rfl

theorem sdiv_zero (an ad bd : Int) (w : World) :
    Calls Tryd.prog 59 #[.agg #[.int .i64 an, .int .i64 ad], .agg #[.int .i64 0, .int .i64 bd]] w (frP false 0 0 w) := by
  go_enter Tryd.func59, Tryd.ntmps59
  go_wp2
  refine bodyPost_ret (v := .tuple #[.agg #[.int .i64 0, .int .i64 0], .bool false]) (by simp [results, Tryd.results59, go_sem]) rfl ⟨rfl, ?_⟩
  exact ((((Below.refl _ _).alloc (Nat.le_refl _) _).alloc (by simp) _).alloc (by simp; omega) _)
theorem g_no' {p : Bool} {n d : Int} (h : p = false) : gB p n d = false ∧ gN p n d = 0 ∧ gD p n d = 0 := by subst h; simp [gB, gN, gD]

set_option maxHeartbeats 1000000 in
theorem SAdd_core (an ad bn bd x y : Int) (b : Bool) (w : World) (hno : (okB an ad && okB bn bd) = false → b = false ∧ x = 0 ∧ y = 0)
    (hs : (okB an ad && okB bn bd) = true → ∀ w, Calls Tryd.prog 53 #[.agg #[.int .i64 an, .int .i64 ad], .agg #[.int .i64 bn, .int .i64 bd]] w (frP b x y w)) :
    Calls Tryd.prog 22 #[.agg #[.int .i64 an, .int .i64 ad], .agg #[.int .i64 bn, .int .i64 bd]] w (frP b x y w) := by
  generalize ha : okB an ad = p at hno hs
  have HA := Lib.hid ha
  clear ha
  generalize hq : okB bn bd = q at hno hs
  have HB := Lib.hid hq
  clear hq
  cases p
  · obtain ⟨rfl, rfl, rfl⟩ := hno (by simp)
    clear hs hno
    go_enter Tryd.func22, Tryd.ntmps22
    go_wp2_with fail
    refine (ok_any _ _ _).mono ?_
    rw [HA.out]
    rintro e w1 ⟨rfl, hb1⟩
    obtain ⟨hc1, hf1⟩ := bcell hb1
    have R0 : w1.cell? ⟨w.heap.size + 1 + 1, 0, none⟩ = some (.int .i64 0) := by rw [hc1 _ _ (by simp)]; go_simp
    have R1 : w1.cell? ⟨w.heap.size + 1 + 1, 1, none⟩ = some (.int .i64 0) := by rw [hc1 _ _ (by simp)]; go_simp
    have F0 : w1.frozen? ⟨w.heap.size + 1 + 1, 0, none⟩ = false := by rw [hf1 _ _ (by simp)]; go_simp
    have F1 : w1.frozen? ⟨w.heap.size + 1 + 1, 1, none⟩ = false := by rw [hf1 _ _ (by simp)]; go_simp
    have b1 := ((((Below.refl w.heap.size w).alloc (Nat.le_refl _) (.cells #[.int .i64 an, .int .i64 ad] 28)).alloc (by simp) (.cells #[.int .i64 bn, .int .i64 bd] 28)).alloc (by simp; omega) (.cells #[.int .i64 0, .int .i64 0] 28)).trans (hb1.mono (by simp; omega))
    clear hc1 hf1
    go_wp2
    refine bodyPost_ret (v := .tuple #[.agg #[.int .i64 0, .int .i64 0], .bool false]) (by simp [results, Tryd.results22, go_sem, R0, R1]) rfl ⟨rfl, ?_⟩
    refine Below.setCell (Below.setCell b1 ?_ _) ?_ _
    all_goals (show _ ≤ _ + 1 + 1; omega)
  · cases q
    · obtain ⟨rfl, rfl, rfl⟩ := hno (by simp)
      clear hs hno
      go_enter Tryd.func22, Tryd.ntmps22
      go_wp2_with fail
      refine (ok_any _ _ _).mono ?_
      rw [HA.out]
      rintro e w1 ⟨rfl, hb1⟩
      obtain ⟨hc1, hf1⟩ := bcell hb1
      have A0 : w1.cell? ⟨w.heap.size, 0, none⟩ = some (.int .i64 an) := by rw [hc1 _ _ (by simp; omega)]; go_simp
      have A1 : w1.cell? ⟨w.heap.size, 1, none⟩ = some (.int .i64 ad) := by rw [hc1 _ _ (by simp; omega)]; go_simp
      have B0 : w1.cell? ⟨w.heap.size + 1, 0, none⟩ = some (.int .i64 bn) := by rw [hc1 _ _ (by simp)]; go_simp
      have B1 : w1.cell? ⟨w.heap.size + 1, 1, none⟩ = some (.int .i64 bd) := by rw [hc1 _ _ (by simp)]; go_simp
      have R0 : w1.cell? ⟨w.heap.size + 1 + 1, 0, none⟩ = some (.int .i64 0) := by rw [hc1 _ _ (by simp)]; go_simp
      have R1 : w1.cell? ⟨w.heap.size + 1 + 1, 1, none⟩ = some (.int .i64 0) := by rw [hc1 _ _ (by simp)]; go_simp
      have F0 : w1.frozen? ⟨w.heap.size + 1 + 1, 0, none⟩ = false := by rw [hf1 _ _ (by simp)]; go_simp
      have F1 : w1.frozen? ⟨w.heap.size + 1 + 1, 1, none⟩ = false := by rw [hf1 _ _ (by simp)]; go_simp
      have b1 := ((((Below.refl w.heap.size w).alloc (Nat.le_refl _) (.cells #[.int .i64 an, .int .i64 ad] 28)).alloc (by simp) (.cells #[.int .i64 bn, .int .i64 bd] 28)).alloc (by simp; omega) (.cells #[.int .i64 0, .int .i64 0] 28)).trans (hb1.mono (by simp; omega))
      have z1 : w.heap.size + 1 + 1 < w1.heap.size := by have := hb1.size; simp at this; omega
      clear hc1 hf1
      go_wp2_with fail
      refine (ok_any _ _ _).mono ?_
      rw [HB.out]
      rintro e w2 ⟨rfl, hb2⟩
      obtain ⟨hc2, hf2⟩ := bcell hb2
      have S0 : w2.cell? ⟨w.heap.size + 1 + 1, 0, none⟩ = some (.int .i64 0) := by rw [hc2 _ _ z1]; assumption
      have S1 : w2.cell? ⟨w.heap.size + 1 + 1, 1, none⟩ = some (.int .i64 0) := by rw [hc2 _ _ z1]; assumption
      have G0 : w2.frozen? ⟨w.heap.size + 1 + 1, 0, none⟩ = false := by rw [hf2 _ _ z1]; assumption
      have G1 : w2.frozen? ⟨w.heap.size + 1 + 1, 1, none⟩ = false := by rw [hf2 _ _ z1]; assumption
      have b2 := b1.trans (hb2.mono b1.size)
      clear hc2 hf2 R0 R1 F0 F1 A0 A1 B0 B1
      go_wp2
      refine bodyPost_ret (v := .tuple #[.agg #[.int .i64 0, .int .i64 0], .bool false]) (by simp [results, Tryd.results22, go_sem, S0, S1]) rfl ⟨rfl, ?_⟩
      refine Below.setCell (Below.setCell b2 ?_ _) ?_ _
      all_goals (show _ ≤ _ + 1 + 1; omega)
    · have HS := Lib.hid (hs (by simp))
      clear hs hno
      go_enter Tryd.func22, Tryd.ntmps22
      go_wp2_with fail
      refine (ok_any _ _ _).mono ?_
      rw [HA.out]
      rintro e w1 ⟨rfl, hb1⟩
      obtain ⟨hc1, hf1⟩ := bcell hb1
      have A0 : w1.cell? ⟨w.heap.size, 0, none⟩ = some (.int .i64 an) := by rw [hc1 _ _ (by simp; omega)]; go_simp
      have A1 : w1.cell? ⟨w.heap.size, 1, none⟩ = some (.int .i64 ad) := by rw [hc1 _ _ (by simp; omega)]; go_simp
      have B0 : w1.cell? ⟨w.heap.size + 1, 0, none⟩ = some (.int .i64 bn) := by rw [hc1 _ _ (by simp)]; go_simp
      have B1 : w1.cell? ⟨w.heap.size + 1, 1, none⟩ = some (.int .i64 bd) := by rw [hc1 _ _ (by simp)]; go_simp
      have R0 : w1.cell? ⟨w.heap.size + 1 + 1, 0, none⟩ = some (.int .i64 0) := by rw [hc1 _ _ (by simp)]; go_simp
      have R1 : w1.cell? ⟨w.heap.size + 1 + 1, 1, none⟩ = some (.int .i64 0) := by rw [hc1 _ _ (by simp)]; go_simp
      have F0 : w1.frozen? ⟨w.heap.size + 1 + 1, 0, none⟩ = false := by rw [hf1 _ _ (by simp)]; go_simp
      have F1 : w1.frozen? ⟨w.heap.size + 1 + 1, 1, none⟩ = false := by rw [hf1 _ _ (by simp)]; go_simp
      have b1 := ((((Below.refl w.heap.size w).alloc (Nat.le_refl _) (.cells #[.int .i64 an, .int .i64 ad] 28)).alloc (by simp) (.cells #[.int .i64 bn, .int .i64 bd] 28)).alloc (by simp; omega) (.cells #[.int .i64 0, .int .i64 0] 28)).trans (hb1.mono (by simp; omega))
      have z1 : w.heap.size + 1 + 1 < w1.heap.size := by have := hb1.size; simp at this; omega
      clear hc1 hf1
      go_wp2_with fail
      refine (ok_any _ _ _).mono ?_
      rw [HB.out]
      rintro e w2 ⟨rfl, hb2⟩
      obtain ⟨hc2, hf2⟩ := bcell hb2
      have S0 : w2.cell? ⟨w.heap.size + 1 + 1, 0, none⟩ = some (.int .i64 0) := by rw [hc2 _ _ z1]; assumption
      have S1 : w2.cell? ⟨w.heap.size + 1 + 1, 1, none⟩ = some (.int .i64 0) := by rw [hc2 _ _ z1]; assumption
      have G0 : w2.frozen? ⟨w.heap.size + 1 + 1, 0, none⟩ = false := by rw [hf2 _ _ z1]; assumption
      have G1 : w2.frozen? ⟨w.heap.size + 1 + 1, 1, none⟩ = false := by rw [hf2 _ _ z1]; assumption
      have A2 : w2.cell? ⟨w.heap.size, 0, none⟩ = some (.int .i64 an) := by rw [hc2 _ _ (by omega)]; assumption
      have A3 : w2.cell? ⟨w.heap.size, 1, none⟩ = some (.int .i64 ad) := by rw [hc2 _ _ (by omega)]; assumption
      have B2 : w2.cell? ⟨w.heap.size + 1, 0, none⟩ = some (.int .i64 bn) := by rw [hc2 _ _ (by omega)]; assumption
      have B3 : w2.cell? ⟨w.heap.size + 1, 1, none⟩ = some (.int .i64 bd) := by rw [hc2 _ _ (by omega)]; assumption
      have b2 := b1.trans (hb2.mono b1.size)
      have z2 : w.heap.size + 1 + 1 < w2.heap.size := by have := hb2.size; omega
      clear hc2 hf2 R0 R1 F0 F1 A0 A1 B0 B1
      go_wp2_with fail
      refine (HS.out _).mono ?_
      rintro e w3 ⟨rfl, hb3⟩
      obtain ⟨hc3, hf3⟩ := bcell hb3
      have R0 : w3.cell? ⟨w.heap.size + 1 + 1, 0, none⟩ = some (.int .i64 0) := by rw [hc3 _ _ z2]; assumption
      have R1 : w3.cell? ⟨w.heap.size + 1 + 1, 1, none⟩ = some (.int .i64 0) := by rw [hc3 _ _ z2]; assumption
      have F0 : w3.frozen? ⟨w.heap.size + 1 + 1, 0, none⟩ = false := by rw [hf3 _ _ z2]; assumption
      have F1 : w3.frozen? ⟨w.heap.size + 1 + 1, 1, none⟩ = false := by rw [hf3 _ _ z2]; assumption
      have b3 := b2.trans (hb3.mono b2.size)
      clear hc3 hf3
      go_wp2
      refine bodyPost_ret (v := .tuple #[.agg #[.int .i64 x, .int .i64 y], .bool b]) (by simp [results, Tryd.results22, go_sem, R0, R1]) rfl ⟨rfl, ?_⟩
      refine Below.setCell (Below.setCell b3 ?_ _) ?_ _
      all_goals (show _ ≤ _ + 1 + 1; omega)

set_option maxHeartbeats 1000000 in
theorem SSub_core (an ad bn bd x y : Int) (b : Bool) (w : World) (hno : (okB an ad && okB bn bd) = false → b = false ∧ x = 0 ∧ y = 0)
    (hs : (okB an ad && okB bn bd) = true → ∀ w, Calls Tryd.prog 55 #[.agg #[.int .i64 an, .int .i64 ad], .agg #[.int .i64 bn, .int .i64 bd]] w (frP b x y w)) :
    Calls Tryd.prog 25 #[.agg #[.int .i64 an, .int .i64 ad], .agg #[.int .i64 bn, .int .i64 bd]] w (frP b x y w) := by
  generalize ha : okB an ad = p at hno hs
  have HA := Lib.hid ha
  clear ha
  generalize hq : okB bn bd = q at hno hs
  have HB := Lib.hid hq
  clear hq
  cases p
  · obtain ⟨rfl, rfl, rfl⟩ := hno (by simp)
    clear hs hno
    go_enter Tryd.func25, Tryd.ntmps25
    go_wp2_with fail
    refine (ok_any _ _ _).mono ?_
    rw [HA.out]
    rintro e w1 ⟨rfl, hb1⟩
    obtain ⟨hc1, hf1⟩ := bcell hb1
    have R0 : w1.cell? ⟨w.heap.size + 1 + 1, 0, none⟩ = some (.int .i64 0) := by rw [hc1 _ _ (by simp)]; go_simp
    have R1 : w1.cell? ⟨w.heap.size + 1 + 1, 1, none⟩ = some (.int .i64 0) := by rw [hc1 _ _ (by simp)]; go_simp
    have F0 : w1.frozen? ⟨w.heap.size + 1 + 1, 0, none⟩ = false := by rw [hf1 _ _ (by simp)]; go_simp
    have F1 : w1.frozen? ⟨w.heap.size + 1 + 1, 1, none⟩ = false := by rw [hf1 _ _ (by simp)]; go_simp
    have b1 := ((((Below.refl w.heap.size w).alloc (Nat.le_refl _) (.cells #[.int .i64 an, .int .i64 ad] 28)).alloc (by simp) (.cells #[.int .i64 bn, .int .i64 bd] 28)).alloc (by simp; omega) (.cells #[.int .i64 0, .int .i64 0] 28)).trans (hb1.mono (by simp; omega))
    clear hc1 hf1
    go_wp2
    refine bodyPost_ret (v := .tuple #[.agg #[.int .i64 0, .int .i64 0], .bool false]) (by simp [results, Tryd.results25, go_sem, R0, R1]) rfl ⟨rfl, ?_⟩
    refine Below.setCell (Below.setCell b1 ?_ _) ?_ _
    all_goals (show _ ≤ _ + 1 + 1; omega)
  · cases q
    · obtain ⟨rfl, rfl, rfl⟩ := hno (by simp)
      clear hs hno
      go_enter Tryd.func25, Tryd.ntmps25
      go_wp2_with fail
      refine (ok_any _ _ _).mono ?_
      rw [HA.out]
      rintro e w1 ⟨rfl, hb1⟩
      obtain ⟨hc1, hf1⟩ := bcell hb1
      have A0 : w1.cell? ⟨w.heap.size, 0, none⟩ = some (.int .i64 an) := by rw [hc1 _ _ (by simp; omega)]; go_simp
      have A1 : w1.cell? ⟨w.heap.size, 1, none⟩ = some (.int .i64 ad) := by rw [hc1 _ _ (by simp; omega)]; go_simp
      have B0 : w1.cell? ⟨w.heap.size + 1, 0, none⟩ = some (.int .i64 bn) := by rw [hc1 _ _ (by simp)]; go_simp
      have B1 : w1.cell? ⟨w.heap.size + 1, 1, none⟩ = some (.int .i64 bd) := by rw [hc1 _ _ (by simp)]; go_simp
      have R0 : w1.cell? ⟨w.heap.size + 1 + 1, 0, none⟩ = some (.int .i64 0) := by rw [hc1 _ _ (by simp)]; go_simp
      have R1 : w1.cell? ⟨w.heap.size + 1 + 1, 1, none⟩ = some (.int .i64 0) := by rw [hc1 _ _ (by simp)]; go_simp
      have F0 : w1.frozen? ⟨w.heap.size + 1 + 1, 0, none⟩ = false := by rw [hf1 _ _ (by simp)]; go_simp
      have F1 : w1.frozen? ⟨w.heap.size + 1 + 1, 1, none⟩ = false := by rw [hf1 _ _ (by simp)]; go_simp
      have b1 := ((((Below.refl w.heap.size w).alloc (Nat.le_refl _) (.cells #[.int .i64 an, .int .i64 ad] 28)).alloc (by simp) (.cells #[.int .i64 bn, .int .i64 bd] 28)).alloc (by simp; omega) (.cells #[.int .i64 0, .int .i64 0] 28)).trans (hb1.mono (by simp; omega))
      have z1 : w.heap.size + 1 + 1 < w1.heap.size := by have := hb1.size; simp at this; omega
      clear hc1 hf1
      go_wp2_with fail
      refine (ok_any _ _ _).mono ?_
      rw [HB.out]
      rintro e w2 ⟨rfl, hb2⟩
      obtain ⟨hc2, hf2⟩ := bcell hb2
      have S0 : w2.cell? ⟨w.heap.size + 1 + 1, 0, none⟩ = some (.int .i64 0) := by rw [hc2 _ _ z1]; assumption
      have S1 : w2.cell? ⟨w.heap.size + 1 + 1, 1, none⟩ = some (.int .i64 0) := by rw [hc2 _ _ z1]; assumption
      have G0 : w2.frozen? ⟨w.heap.size + 1 + 1, 0, none⟩ = false := by rw [hf2 _ _ z1]; assumption
      have G1 : w2.frozen? ⟨w.heap.size + 1 + 1, 1, none⟩ = false := by rw [hf2 _ _ z1]; assumption
      have b2 := b1.trans (hb2.mono b1.size)
      clear hc2 hf2 R0 R1 F0 F1 A0 A1 B0 B1
      go_wp2
      refine bodyPost_ret (v := .tuple #[.agg #[.int .i64 0, .int .i64 0], .bool false]) (by simp [results, Tryd.results25, go_sem, S0, S1]) rfl ⟨rfl, ?_⟩
      refine Below.setCell (Below.setCell b2 ?_ _) ?_ _
      all_goals (show _ ≤ _ + 1 + 1; omega)
    · have HS := Lib.hid (hs (by simp))
      clear hs hno
      go_enter Tryd.func25, Tryd.ntmps25
      go_wp2_with fail
      refine (ok_any _ _ _).mono ?_
      rw [HA.out]
      rintro e w1 ⟨rfl, hb1⟩
      obtain ⟨hc1, hf1⟩ := bcell hb1
      have A0 : w1.cell? ⟨w.heap.size, 0, none⟩ = some (.int .i64 an) := by rw [hc1 _ _ (by simp; omega)]; go_simp
      have A1 : w1.cell? ⟨w.heap.size, 1, none⟩ = some (.int .i64 ad) := by rw [hc1 _ _ (by simp; omega)]; go_simp
      have B0 : w1.cell? ⟨w.heap.size + 1, 0, none⟩ = some (.int .i64 bn) := by rw [hc1 _ _ (by simp)]; go_simp
      have B1 : w1.cell? ⟨w.heap.size + 1, 1, none⟩ = some (.int .i64 bd) := by rw [hc1 _ _ (by simp)]; go_simp
      have R0 : w1.cell? ⟨w.heap.size + 1 + 1, 0, none⟩ = some (.int .i64 0) := by rw [hc1 _ _ (by simp)]; go_simp
      have R1 : w1.cell? ⟨w.heap.size + 1 + 1, 1, none⟩ = some (.int .i64 0) := by rw [hc1 _ _ (by simp)]; go_simp
      have F0 : w1.frozen? ⟨w.heap.size + 1 + 1, 0, none⟩ = false := by rw [hf1 _ _ (by simp)]; go_simp
      have F1 : w1.frozen? ⟨w.heap.size + 1 + 1, 1, none⟩ = false := by rw [hf1 _ _ (by simp)]; go_simp
      have b1 := ((((Below.refl w.heap.size w).alloc (Nat.le_refl _) (.cells #[.int .i64 an, .int .i64 ad] 28)).alloc (by simp) (.cells #[.int .i64 bn, .int .i64 bd] 28)).alloc (by simp; omega) (.cells #[.int .i64 0, .int .i64 0] 28)).trans (hb1.mono (by simp; omega))
      have z1 : w.heap.size + 1 + 1 < w1.heap.size := by have := hb1.size; simp at this; omega
      clear hc1 hf1
      go_wp2_with fail
      refine (ok_any _ _ _).mono ?_
      rw [HB.out]
      rintro e w2 ⟨rfl, hb2⟩
      obtain ⟨hc2, hf2⟩ := bcell hb2
      have S0 : w2.cell? ⟨w.heap.size + 1 + 1, 0, none⟩ = some (.int .i64 0) := by rw [hc2 _ _ z1]; assumption
      have S1 : w2.cell? ⟨w.heap.size + 1 + 1, 1, none⟩ = some (.int .i64 0) := by rw [hc2 _ _ z1]; assumption
      have G0 : w2.frozen? ⟨w.heap.size + 1 + 1, 0, none⟩ = false := by rw [hf2 _ _ z1]; assumption
      have G1 : w2.frozen? ⟨w.heap.size + 1 + 1, 1, none⟩ = false := by rw [hf2 _ _ z1]; assumption
      have A2 : w2.cell? ⟨w.heap.size, 0, none⟩ = some (.int .i64 an) := by rw [hc2 _ _ (by omega)]; assumption
      have A3 : w2.cell? ⟨w.heap.size, 1, none⟩ = some (.int .i64 ad) := by rw [hc2 _ _ (by omega)]; assumption
      have B2 : w2.cell? ⟨w.heap.size + 1, 0, none⟩ = some (.int .i64 bn) := by rw [hc2 _ _ (by omega)]; assumption
      have B3 : w2.cell? ⟨w.heap.size + 1, 1, none⟩ = some (.int .i64 bd) := by rw [hc2 _ _ (by omega)]; assumption
      have b2 := b1.trans (hb2.mono b1.size)
      have z2 : w.heap.size + 1 + 1 < w2.heap.size := by have := hb2.size; omega
      clear hc2 hf2 R0 R1 F0 F1 A0 A1 B0 B1
      go_wp2_with fail
      refine (HS.out _).mono ?_
      rintro e w3 ⟨rfl, hb3⟩
      obtain ⟨hc3, hf3⟩ := bcell hb3
      have R0 : w3.cell? ⟨w.heap.size + 1 + 1, 0, none⟩ = some (.int .i64 0) := by rw [hc3 _ _ z2]; assumption
      have R1 : w3.cell? ⟨w.heap.size + 1 + 1, 1, none⟩ = some (.int .i64 0) := by rw [hc3 _ _ z2]; assumption
      have F0 : w3.frozen? ⟨w.heap.size + 1 + 1, 0, none⟩ = false := by rw [hf3 _ _ z2]; assumption
      have F1 : w3.frozen? ⟨w.heap.size + 1 + 1, 1, none⟩ = false := by rw [hf3 _ _ z2]; assumption
      have b3 := b2.trans (hb3.mono b2.size)
      clear hc3 hf3
      go_wp2
      refine bodyPost_ret (v := .tuple #[.agg #[.int .i64 x, .int .i64 y], .bool b]) (by simp [results, Tryd.results25, go_sem, R0, R1]) rfl ⟨rfl, ?_⟩
      refine Below.setCell (Below.setCell b3 ?_ _) ?_ _
      all_goals (show _ ≤ _ + 1 + 1; omega)

set_option maxHeartbeats 1000000 in
theorem SMul_core (an ad bn bd x y : Int) (b : Bool) (w : World) (hno : (okB an ad && okB bn bd) = false → b = false ∧ x = 0 ∧ y = 0)
    (hs : (okB an ad && okB bn bd) = true → ∀ w, Calls Tryd.prog 57 #[.agg #[.int .i64 an, .int .i64 ad], .agg #[.int .i64 bn, .int .i64 bd]] w (frP b x y w)) :
    Calls Tryd.prog 27 #[.agg #[.int .i64 an, .int .i64 ad], .agg #[.int .i64 bn, .int .i64 bd]] w (frP b x y w) := by
  generalize ha : okB an ad = p at hno hs
  have HA := Lib.hid ha
  clear ha
  generalize hq : okB bn bd = q at hno hs
  have HB := Lib.hid hq
  clear hq
  cases p
  · obtain ⟨rfl, rfl, rfl⟩ := hno (by simp)
    clear hs hno
    go_enter Tryd.func27, Tryd.ntmps27
    go_wp2_with fail
    refine (ok_any _ _ _).mono ?_
    rw [HA.out]
    rintro e w1 ⟨rfl, hb1⟩
    obtain ⟨hc1, hf1⟩ := bcell hb1
    have R0 : w1.cell? ⟨w.heap.size + 1 + 1, 0, none⟩ = some (.int .i64 0) := by rw [hc1 _ _ (by simp)]; go_simp
    have R1 : w1.cell? ⟨w.heap.size + 1 + 1, 1, none⟩ = some (.int .i64 0) := by rw [hc1 _ _ (by simp)]; go_simp
    have F0 : w1.frozen? ⟨w.heap.size + 1 + 1, 0, none⟩ = false := by rw [hf1 _ _ (by simp)]; go_simp
    have F1 : w1.frozen? ⟨w.heap.size + 1 + 1, 1, none⟩ = false := by rw [hf1 _ _ (by simp)]; go_simp
    have b1 := ((((Below.refl w.heap.size w).alloc (Nat.le_refl _) (.cells #[.int .i64 an, .int .i64 ad] 28)).alloc (by simp) (.cells #[.int .i64 bn, .int .i64 bd] 28)).alloc (by simp; omega) (.cells #[.int .i64 0, .int .i64 0] 28)).trans (hb1.mono (by simp; omega))
    clear hc1 hf1
    go_wp2
    refine bodyPost_ret (v := .tuple #[.agg #[.int .i64 0, .int .i64 0], .bool false]) (by simp [results, Tryd.results27, go_sem, R0, R1]) rfl ⟨rfl, ?_⟩
    refine Below.setCell (Below.setCell b1 ?_ _) ?_ _
    all_goals (show _ ≤ _ + 1 + 1; omega)
  · cases q
    · obtain ⟨rfl, rfl, rfl⟩ := hno (by simp)
      clear hs hno
      go_enter Tryd.func27, Tryd.ntmps27
      go_wp2_with fail
      refine (ok_any _ _ _).mono ?_
      rw [HA.out]
      rintro e w1 ⟨rfl, hb1⟩
      obtain ⟨hc1, hf1⟩ := bcell hb1
      have A0 : w1.cell? ⟨w.heap.size, 0, none⟩ = some (.int .i64 an) := by rw [hc1 _ _ (by simp; omega)]; go_simp
      have A1 : w1.cell? ⟨w.heap.size, 1, none⟩ = some (.int .i64 ad) := by rw [hc1 _ _ (by simp; omega)]; go_simp
      have B0 : w1.cell? ⟨w.heap.size + 1, 0, none⟩ = some (.int .i64 bn) := by rw [hc1 _ _ (by simp)]; go_simp
      have B1 : w1.cell? ⟨w.heap.size + 1, 1, none⟩ = some (.int .i64 bd) := by rw [hc1 _ _ (by simp)]; go_simp
      have R0 : w1.cell? ⟨w.heap.size + 1 + 1, 0, none⟩ = some (.int .i64 0) := by rw [hc1 _ _ (by simp)]; go_simp
      have R1 : w1.cell? ⟨w.heap.size + 1 + 1, 1, none⟩ = some (.int .i64 0) := by rw [hc1 _ _ (by simp)]; go_simp
      have F0 : w1.frozen? ⟨w.heap.size + 1 + 1, 0, none⟩ = false := by rw [hf1 _ _ (by simp)]; go_simp
      have F1 : w1.frozen? ⟨w.heap.size + 1 + 1, 1, none⟩ = false := by rw [hf1 _ _ (by simp)]; go_simp
      have b1 := ((((Below.refl w.heap.size w).alloc (Nat.le_refl _) (.cells #[.int .i64 an, .int .i64 ad] 28)).alloc (by simp) (.cells #[.int .i64 bn, .int .i64 bd] 28)).alloc (by simp; omega) (.cells #[.int .i64 0, .int .i64 0] 28)).trans (hb1.mono (by simp; omega))
      have z1 : w.heap.size + 1 + 1 < w1.heap.size := by have := hb1.size; simp at this; omega
      clear hc1 hf1
      go_wp2_with fail
      refine (ok_any _ _ _).mono ?_
      rw [HB.out]
      rintro e w2 ⟨rfl, hb2⟩
      obtain ⟨hc2, hf2⟩ := bcell hb2
      have S0 : w2.cell? ⟨w.heap.size + 1 + 1, 0, none⟩ = some (.int .i64 0) := by rw [hc2 _ _ z1]; assumption
      have S1 : w2.cell? ⟨w.heap.size + 1 + 1, 1, none⟩ = some (.int .i64 0) := by rw [hc2 _ _ z1]; assumption
      have G0 : w2.frozen? ⟨w.heap.size + 1 + 1, 0, none⟩ = false := by rw [hf2 _ _ z1]; assumption
      have G1 : w2.frozen? ⟨w.heap.size + 1 + 1, 1, none⟩ = false := by rw [hf2 _ _ z1]; assumption
      have b2 := b1.trans (hb2.mono b1.size)
      clear hc2 hf2 R0 R1 F0 F1 A0 A1 B0 B1
      go_wp2
      refine bodyPost_ret (v := .tuple #[.agg #[.int .i64 0, .int .i64 0], .bool false]) (by simp [results, Tryd.results27, go_sem, S0, S1]) rfl ⟨rfl, ?_⟩
      refine Below.setCell (Below.setCell b2 ?_ _) ?_ _
      all_goals (show _ ≤ _ + 1 + 1; omega)
    · have HS := Lib.hid (hs (by simp))
      clear hs hno
      go_enter Tryd.func27, Tryd.ntmps27
      go_wp2_with fail
      refine (ok_any _ _ _).mono ?_
      rw [HA.out]
      rintro e w1 ⟨rfl, hb1⟩
      obtain ⟨hc1, hf1⟩ := bcell hb1
      have A0 : w1.cell? ⟨w.heap.size, 0, none⟩ = some (.int .i64 an) := by rw [hc1 _ _ (by simp; omega)]; go_simp
      have A1 : w1.cell? ⟨w.heap.size, 1, none⟩ = some (.int .i64 ad) := by rw [hc1 _ _ (by simp; omega)]; go_simp
      have B0 : w1.cell? ⟨w.heap.size + 1, 0, none⟩ = some (.int .i64 bn) := by rw [hc1 _ _ (by simp)]; go_simp
      have B1 : w1.cell? ⟨w.heap.size + 1, 1, none⟩ = some (.int .i64 bd) := by rw [hc1 _ _ (by simp)]; go_simp
      have R0 : w1.cell? ⟨w.heap.size + 1 + 1, 0, none⟩ = some (.int .i64 0) := by rw [hc1 _ _ (by simp)]; go_simp
      have R1 : w1.cell? ⟨w.heap.size + 1 + 1, 1, none⟩ = some (.int .i64 0) := by rw [hc1 _ _ (by simp)]; go_simp
      have F0 : w1.frozen? ⟨w.heap.size + 1 + 1, 0, none⟩ = false := by rw [hf1 _ _ (by simp)]; go_simp
      have F1 : w1.frozen? ⟨w.heap.size + 1 + 1, 1, none⟩ = false := by rw [hf1 _ _ (by simp)]; go_simp
      have b1 := ((((Below.refl w.heap.size w).alloc (Nat.le_refl _) (.cells #[.int .i64 an, .int .i64 ad] 28)).alloc (by simp) (.cells #[.int .i64 bn, .int .i64 bd] 28)).alloc (by simp; omega) (.cells #[.int .i64 0, .int .i64 0] 28)).trans (hb1.mono (by simp; omega))
      have z1 : w.heap.size + 1 + 1 < w1.heap.size := by have := hb1.size; simp at this; omega
      clear hc1 hf1
      go_wp2_with fail
      refine (ok_any _ _ _).mono ?_
      rw [HB.out]
      rintro e w2 ⟨rfl, hb2⟩
      obtain ⟨hc2, hf2⟩ := bcell hb2
      have S0 : w2.cell? ⟨w.heap.size + 1 + 1, 0, none⟩ = some (.int .i64 0) := by rw [hc2 _ _ z1]; assumption
      have S1 : w2.cell? ⟨w.heap.size + 1 + 1, 1, none⟩ = some (.int .i64 0) := by rw [hc2 _ _ z1]; assumption
      have G0 : w2.frozen? ⟨w.heap.size + 1 + 1, 0, none⟩ = false := by rw [hf2 _ _ z1]; assumption
      have G1 : w2.frozen? ⟨w.heap.size + 1 + 1, 1, none⟩ = false := by rw [hf2 _ _ z1]; assumption
      have A2 : w2.cell? ⟨w.heap.size, 0, none⟩ = some (.int .i64 an) := by rw [hc2 _ _ (by omega)]; assumption
      have A3 : w2.cell? ⟨w.heap.size, 1, none⟩ = some (.int .i64 ad) := by rw [hc2 _ _ (by omega)]; assumption
      have B2 : w2.cell? ⟨w.heap.size + 1, 0, none⟩ = some (.int .i64 bn) := by rw [hc2 _ _ (by omega)]; assumption
      have B3 : w2.cell? ⟨w.heap.size + 1, 1, none⟩ = some (.int .i64 bd) := by rw [hc2 _ _ (by omega)]; assumption
      have b2 := b1.trans (hb2.mono b1.size)
      have z2 : w.heap.size + 1 + 1 < w2.heap.size := by have := hb2.size; omega
      clear hc2 hf2 R0 R1 F0 F1 A0 A1 B0 B1
      go_wp2_with fail
      refine (HS.out _).mono ?_
      rintro e w3 ⟨rfl, hb3⟩
      obtain ⟨hc3, hf3⟩ := bcell hb3
      have R0 : w3.cell? ⟨w.heap.size + 1 + 1, 0, none⟩ = some (.int .i64 0) := by rw [hc3 _ _ z2]; assumption
      have R1 : w3.cell? ⟨w.heap.size + 1 + 1, 1, none⟩ = some (.int .i64 0) := by rw [hc3 _ _ z2]; assumption
      have F0 : w3.frozen? ⟨w.heap.size + 1 + 1, 0, none⟩ = false := by rw [hf3 _ _ z2]; assumption
      have F1 : w3.frozen? ⟨w.heap.size + 1 + 1, 1, none⟩ = false := by rw [hf3 _ _ z2]; assumption
      have b3 := b2.trans (hb3.mono b2.size)
      clear hc3 hf3
      go_wp2
      refine bodyPost_ret (v := .tuple #[.agg #[.int .i64 x, .int .i64 y], .bool b]) (by simp [results, Tryd.results27, go_sem, R0, R1]) rfl ⟨rfl, ?_⟩
      refine Below.setCell (Below.setCell b3 ?_ _) ?_ _
      all_goals (show _ ≤ _ + 1 + 1; omega)

set_option maxHeartbeats 1000000 in
theorem SDiv_core (an ad bn bd x y : Int) (b : Bool) (w : World) (hno : (okB an ad && okB bn bd) = false → b = false ∧ x = 0 ∧ y = 0)
    (hs : (okB an ad && okB bn bd) = true → ∀ w, Calls Tryd.prog 59 #[.agg #[.int .i64 an, .int .i64 ad], .agg #[.int .i64 bn, .int .i64 bd]] w (frP b x y w)) :
    Calls Tryd.prog 29 #[.agg #[.int .i64 an, .int .i64 ad], .agg #[.int .i64 bn, .int .i64 bd]] w (frP b x y w) := by
  generalize ha : okB an ad = p at hno hs
  have HA := Lib.hid ha
  clear ha
  generalize hq : okB bn bd = q at hno hs
  have HB := Lib.hid hq
  clear hq
  cases p
  · obtain ⟨rfl, rfl, rfl⟩ := hno (by simp)
    clear hs hno
    go_enter Tryd.func29, Tryd.ntmps29
    go_wp2_with fail
    refine (ok_any _ _ _).mono ?_
    rw [HA.out]
    rintro e w1 ⟨rfl, hb1⟩
    obtain ⟨hc1, hf1⟩ := bcell hb1
    have R0 : w1.cell? ⟨w.heap.size + 1 + 1, 0, none⟩ = some (.int .i64 0) := by rw [hc1 _ _ (by simp)]; go_simp
    have R1 : w1.cell? ⟨w.heap.size + 1 + 1, 1, none⟩ = some (.int .i64 0) := by rw [hc1 _ _ (by simp)]; go_simp
    have F0 : w1.frozen? ⟨w.heap.size + 1 + 1, 0, none⟩ = false := by rw [hf1 _ _ (by simp)]; go_simp
    have F1 : w1.frozen? ⟨w.heap.size + 1 + 1, 1, none⟩ = false := by rw [hf1 _ _ (by simp)]; go_simp
    have b1 := ((((Below.refl w.heap.size w).alloc (Nat.le_refl _) (.cells #[.int .i64 an, .int .i64 ad] 28)).alloc (by simp) (.cells #[.int .i64 bn, .int .i64 bd] 28)).alloc (by simp; omega) (.cells #[.int .i64 0, .int .i64 0] 28)).trans (hb1.mono (by simp; omega))
    clear hc1 hf1
    go_wp2
    refine bodyPost_ret (v := .tuple #[.agg #[.int .i64 0, .int .i64 0], .bool false]) (by simp [results, Tryd.results29, go_sem, R0, R1]) rfl ⟨rfl, ?_⟩
    refine Below.setCell (Below.setCell b1 ?_ _) ?_ _
    all_goals (show _ ≤ _ + 1 + 1; omega)
  · cases q
    · obtain ⟨rfl, rfl, rfl⟩ := hno (by simp)
      clear hs hno
      go_enter Tryd.func29, Tryd.ntmps29
      go_wp2_with fail
      refine (ok_any _ _ _).mono ?_
      rw [HA.out]
      rintro e w1 ⟨rfl, hb1⟩
      obtain ⟨hc1, hf1⟩ := bcell hb1
      have A0 : w1.cell? ⟨w.heap.size, 0, none⟩ = some (.int .i64 an) := by rw [hc1 _ _ (by simp; omega)]; go_simp
      have A1 : w1.cell? ⟨w.heap.size, 1, none⟩ = some (.int .i64 ad) := by rw [hc1 _ _ (by simp; omega)]; go_simp
      have B0 : w1.cell? ⟨w.heap.size + 1, 0, none⟩ = some (.int .i64 bn) := by rw [hc1 _ _ (by simp)]; go_simp
      have B1 : w1.cell? ⟨w.heap.size + 1, 1, none⟩ = some (.int .i64 bd) := by rw [hc1 _ _ (by simp)]; go_simp
      have R0 : w1.cell? ⟨w.heap.size + 1 + 1, 0, none⟩ = some (.int .i64 0) := by rw [hc1 _ _ (by simp)]; go_simp
      have R1 : w1.cell? ⟨w.heap.size + 1 + 1, 1, none⟩ = some (.int .i64 0) := by rw [hc1 _ _ (by simp)]; go_simp
      have F0 : w1.frozen? ⟨w.heap.size + 1 + 1, 0, none⟩ = false := by rw [hf1 _ _ (by simp)]; go_simp
      have F1 : w1.frozen? ⟨w.heap.size + 1 + 1, 1, none⟩ = false := by rw [hf1 _ _ (by simp)]; go_simp
      have b1 := ((((Below.refl w.heap.size w).alloc (Nat.le_refl _) (.cells #[.int .i64 an, .int .i64 ad] 28)).alloc (by simp) (.cells #[.int .i64 bn, .int .i64 bd] 28)).alloc (by simp; omega) (.cells #[.int .i64 0, .int .i64 0] 28)).trans (hb1.mono (by simp; omega))
      have z1 : w.heap.size + 1 + 1 < w1.heap.size := by have := hb1.size; simp at this; omega
      clear hc1 hf1
      go_wp2_with fail
      refine (ok_any _ _ _).mono ?_
      rw [HB.out]
      rintro e w2 ⟨rfl, hb2⟩
      obtain ⟨hc2, hf2⟩ := bcell hb2
      have S0 : w2.cell? ⟨w.heap.size + 1 + 1, 0, none⟩ = some (.int .i64 0) := by rw [hc2 _ _ z1]; assumption
      have S1 : w2.cell? ⟨w.heap.size + 1 + 1, 1, none⟩ = some (.int .i64 0) := by rw [hc2 _ _ z1]; assumption
      have G0 : w2.frozen? ⟨w.heap.size + 1 + 1, 0, none⟩ = false := by rw [hf2 _ _ z1]; assumption
      have G1 : w2.frozen? ⟨w.heap.size + 1 + 1, 1, none⟩ = false := by rw [hf2 _ _ z1]; assumption
      have b2 := b1.trans (hb2.mono b1.size)
      clear hc2 hf2 R0 R1 F0 F1 A0 A1 B0 B1
      go_wp2
      refine bodyPost_ret (v := .tuple #[.agg #[.int .i64 0, .int .i64 0], .bool false]) (by simp [results, Tryd.results29, go_sem, S0, S1]) rfl ⟨rfl, ?_⟩
      refine Below.setCell (Below.setCell b2 ?_ _) ?_ _
      all_goals (show _ ≤ _ + 1 + 1; omega)
    · have HS := Lib.hid (hs (by simp))
      clear hs hno
      go_enter Tryd.func29, Tryd.ntmps29
      go_wp2_with fail
      refine (ok_any _ _ _).mono ?_
      rw [HA.out]
      rintro e w1 ⟨rfl, hb1⟩
      obtain ⟨hc1, hf1⟩ := bcell hb1
      have A0 : w1.cell? ⟨w.heap.size, 0, none⟩ = some (.int .i64 an) := by rw [hc1 _ _ (by simp; omega)]; go_simp
      have A1 : w1.cell? ⟨w.heap.size, 1, none⟩ = some (.int .i64 ad) := by rw [hc1 _ _ (by simp; omega)]; go_simp
      have B0 : w1.cell? ⟨w.heap.size + 1, 0, none⟩ = some (.int .i64 bn) := by rw [hc1 _ _ (by simp)]; go_simp
      have B1 : w1.cell? ⟨w.heap.size + 1, 1, none⟩ = some (.int .i64 bd) := by rw [hc1 _ _ (by simp)]; go_simp
      have R0 : w1.cell? ⟨w.heap.size + 1 + 1, 0, none⟩ = some (.int .i64 0) := by rw [hc1 _ _ (by simp)]; go_simp
      have R1 : w1.cell? ⟨w.heap.size + 1 + 1, 1, none⟩ = some (.int .i64 0) := by rw [hc1 _ _ (by simp)]; go_simp
      have F0 : w1.frozen? ⟨w.heap.size + 1 + 1, 0, none⟩ = false := by rw [hf1 _ _ (by simp)]; go_simp
      have F1 : w1.frozen? ⟨w.heap.size + 1 + 1, 1, none⟩ = false := by rw [hf1 _ _ (by simp)]; go_simp
      have b1 := ((((Below.refl w.heap.size w).alloc (Nat.le_refl _) (.cells #[.int .i64 an, .int .i64 ad] 28)).alloc (by simp) (.cells #[.int .i64 bn, .int .i64 bd] 28)).alloc (by simp; omega) (.cells #[.int .i64 0, .int .i64 0] 28)).trans (hb1.mono (by simp; omega))
      have z1 : w.heap.size + 1 + 1 < w1.heap.size := by have := hb1.size; simp at this; omega
      clear hc1 hf1
      go_wp2_with fail
      refine (ok_any _ _ _).mono ?_
      rw [HB.out]
      rintro e w2 ⟨rfl, hb2⟩
      obtain ⟨hc2, hf2⟩ := bcell hb2
      have S0 : w2.cell? ⟨w.heap.size + 1 + 1, 0, none⟩ = some (.int .i64 0) := by rw [hc2 _ _ z1]; assumption
      have S1 : w2.cell? ⟨w.heap.size + 1 + 1, 1, none⟩ = some (.int .i64 0) := by rw [hc2 _ _ z1]; assumption
      have G0 : w2.frozen? ⟨w.heap.size + 1 + 1, 0, none⟩ = false := by rw [hf2 _ _ z1]; assumption
      have G1 : w2.frozen? ⟨w.heap.size + 1 + 1, 1, none⟩ = false := by rw [hf2 _ _ z1]; assumption
      have A2 : w2.cell? ⟨w.heap.size, 0, none⟩ = some (.int .i64 an) := by rw [hc2 _ _ (by omega)]; assumption
      have A3 : w2.cell? ⟨w.heap.size, 1, none⟩ = some (.int .i64 ad) := by rw [hc2 _ _ (by omega)]; assumption
      have B2 : w2.cell? ⟨w.heap.size + 1, 0, none⟩ = some (.int .i64 bn) := by rw [hc2 _ _ (by omega)]; assumption
      have B3 : w2.cell? ⟨w.heap.size + 1, 1, none⟩ = some (.int .i64 bd) := by rw [hc2 _ _ (by omega)]; assumption
      have b2 := b1.trans (hb2.mono b1.size)
      have z2 : w.heap.size + 1 + 1 < w2.heap.size := by have := hb2.size; omega
      clear hc2 hf2 R0 R1 F0 F1 A0 A1 B0 B1
      go_wp2_with fail
      refine (HS.out _).mono ?_
      rintro e w3 ⟨rfl, hb3⟩
      obtain ⟨hc3, hf3⟩ := bcell hb3
      have R0 : w3.cell? ⟨w.heap.size + 1 + 1, 0, none⟩ = some (.int .i64 0) := by rw [hc3 _ _ z2]; assumption
      have R1 : w3.cell? ⟨w.heap.size + 1 + 1, 1, none⟩ = some (.int .i64 0) := by rw [hc3 _ _ z2]; assumption
      have F0 : w3.frozen? ⟨w.heap.size + 1 + 1, 0, none⟩ = false := by rw [hf3 _ _ z2]; assumption
      have F1 : w3.frozen? ⟨w.heap.size + 1 + 1, 1, none⟩ = false := by rw [hf3 _ _ z2]; assumption
      have b3 := b2.trans (hb3.mono b2.size)
      clear hc3 hf3
      go_wp2
      refine bodyPost_ret (v := .tuple #[.agg #[.int .i64 x, .int .i64 y], .bool b]) (by simp [results, Tryd.results29, go_sem, R0, R1]) rfl ⟨rfl, ?_⟩
      refine Below.setCell (Below.setCell b3 ?_ _) ?_ _
      all_goals (show _ ≤ _ + 1 + 1; omega)

theorem SAdd_any (an ad bn bd : Int) (w : World) :
    Calls Tryd.prog 22 #[.agg #[.int .i64 an, .int .i64 ad], .agg #[.int .i64 bn, .int .i64 bd]] w (frP (gB (okB an ad && okB bn bd) (an * bd + bn * ad) (ad * bd)) (gN (okB an ad && okB bn bd) (an * bd + bn * ad) (ad * bd)) (gD (okB an ad && okB bn bd) (an * bd + bn * ad) (ad * bd)) w) := by
  refine SAdd_core _ _ _ _ _ _ _ w (fun h => g_no' h) (fun h w => ?_)
  obtain ⟨ka, kb⟩ := both_ok h
  rw [h]
  exact sadd _ _ _ _ w ka kb

theorem SSub_any (an ad bn bd : Int) (w : World) :
    Calls Tryd.prog 25 #[.agg #[.int .i64 an, .int .i64 ad], .agg #[.int .i64 bn, .int .i64 bd]] w (frP (gB (okB an ad && okB bn bd) (an * bd - bn * ad) (ad * bd)) (gN (okB an ad && okB bn bd) (an * bd - bn * ad) (ad * bd)) (gD (okB an ad && okB bn bd) (an * bd - bn * ad) (ad * bd)) w) := by
  refine SSub_core _ _ _ _ _ _ _ w (fun h => g_no' h) (fun h w => ?_)
  obtain ⟨ka, kb⟩ := both_ok h
  rw [h]
  exact ssub _ _ _ _ w ka kb

theorem SMul_any (an ad bn bd : Int) (w : World) :
    Calls Tryd.prog 27 #[.agg #[.int .i64 an, .int .i64 ad], .agg #[.int .i64 bn, .int .i64 bd]] w (frP (gB (okB an ad && okB bn bd) (an * bn) (ad * bd)) (gN (okB an ad && okB bn bd) (an * bn) (ad * bd)) (gD (okB an ad && okB bn bd) (an * bn) (ad * bd)) w) := by
  refine SMul_core _ _ _ _ _ _ _ w (fun h => g_no' h) (fun h w => ?_)
  obtain ⟨ka, kb⟩ := both_ok h
  rw [h]
  exact smul _ _ _ _ w ka kb

theorem SDiv_any (an ad bn bd : Int) (w : World) :
    Calls Tryd.prog 29 #[.agg #[.int .i64 an, .int .i64 ad], .agg #[.int .i64 bn, .int .i64 bd]] w (frP (gB (okB an ad && okB bn bd && decide (bn ≠ 0)) (an * bd) (ad * bn)) (gN (okB an ad && okB bn bd && decide (bn ≠ 0)) (an * bd) (ad * bn)) (gD (okB an ad && okB bn bd && decide (bn ≠ 0)) (an * bd) (ad * bn)) w) := by
  refine SDiv_core _ _ _ _ _ _ _ w (fun h => g_no' (by rw [h]; rfl)) (fun h w => ?_)
  obtain ⟨ka, kb⟩ := both_ok h
  rw [h]
  by_cases hz : bn = 0
  · subst hz
    have e := g_no' (p := true && decide ((0 : Int) ≠ 0)) (n := an * bd) (d := ad * 0) (by simp)
    rw [e.1, e.2.1, e.2.2]
    exact sdiv_zero _ _ _ _
  · rw [show (true && decide (bn ≠ 0)) = true by simp [hz]]
    exact sdiv _ _ _ _ w ka kb hz
end Go.Proofs.YtoppbeojmkbmcaaDoor
