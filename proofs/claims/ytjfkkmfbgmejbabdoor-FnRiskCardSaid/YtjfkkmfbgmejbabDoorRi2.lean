/- RiskOf: both sides. -/
import Derived.Test.YtjfkkmfbgmejbabDoorRi1
namespace Go.Proofs.YtjfkkmfbgmejbabDoor
open Go.ChangeShapes Go.WideShapes Go.ChangeAt Go.RowKit Go.Deep
set_option linter.unusedSimpArgs false
set_option linter.unusedVariables false
/-- A fraction that lies at block p. -/
structure FrAt (w : World) (p : Nat) (x y : Int) : Prop where
  c0 : w.cell? ⟨p, 0, none⟩ = some (.int .i64 x)
  c1 : w.cell? ⟨p, 1, none⟩ = some (.int .i64 y)
  lt : p < w.heap.size
theorem FrAt.below {w w' : World} {p : Nat} {x y : Int} (h : FrAt w p x y) (hb : Below w.heap.size w w') : FrAt w' p x y :=
  ⟨(hb.cell (p := ⟨p, 0, none⟩) h.lt).trans h.c0, (hb.cell (p := ⟨p, 1, none⟩) h.lt).trans h.c1, Nat.lt_of_lt_of_le h.lt hb.size⟩
theorem fr_at (w : World) (x y : Int) : FrAt (w.alloc (.cells #[.int .i64 x, .int .i64 y] 26)) w.heap.size x y := ⟨by go_simp, by go_simp, by simp⟩
/-- What a call answers: a fraction and a bool. -/
def Pfb (m : (Int × Int) × Bool) (w : World) (e : Ending) (w' : World) : Prop := e = .returned (.tuple #[.agg #[.int .i64 m.1.1, .int .i64 m.1.2], .bool m.2]) ∧ Below w.heap.size w w'
theorem Pfb.out {x y : Int} {z : Bool} {w w' : World} {e : Ending} (h : Pfb ((x, y), z) w e w') : e = .returned (.tuple #[.agg #[.int .i64 x, .int .i64 y], .bool z]) ∧ Below w.heap.size w w' := h
abbrev Qfb := Pfb
/-- The sizes are as they must be. -/
def rkIn (n u s : Int) : Prop := 0 ≤ n ∧ n ≤ 30 ∧ 0 ≤ u ∧ u ≤ n ∧ 0 ≤ s ∧ s ≤ n
/-- The terms of the chance before they are reduced. -/
def rkA (n u s : Int) : Int := (chs (n - u).toNat s.toNat : Int)
def rkB9 (n s : Int) : Int := (chs n.toNat s.toNat : Int)
noncomputable def rkN (n u s : Int) : Int := rN (rkA n u s) (rkB9 n s)
noncomputable def rkD (n u s : Int) : Int := rD (rkA n u s) (rkB9 n s)
noncomputable def mRisk (n u s : Int) : (Int × Int) × Bool := @ite _ (rkIn n u s) (Classical.propDecidable _) ((rkN n u s, rkD n u s), true) ((0, 0), false)
theorem mRisk_yes {n u s : Int} (h : rkIn n u s) : mRisk n u s = ((rkN n u s, rkD n u s), true) := by unfold mRisk; rw [if_pos h]
theorem mRisk_no {n u s : Int} (h : ¬ rkIn n u s) : mRisk n u s = ((0, 0), false) := by unfold mRisk; rw [if_neg h]
theorem rk_bd {n u s : Int} (h : rkIn n u s) : 0 ≤ rkA n u s ∧ rkA n u s ≤ 155117520 ∧ 1 ≤ rkB9 n s ∧ rkB9 n s ≤ 155117520 := by
  obtain ⟨h1, h2, h3, h4, h5, h6⟩ := h
  obtain ⟨a1, -, -⟩ := chs_all (show (n - u).toNat ≤ 30 by omega) (show s.toNat ≤ 30 by omega)
  obtain ⟨b1, b2, -⟩ := chs_all (show n.toNat ≤ 30 by omega) (show s.toNat ≤ 30 by omega)
  have := b2 (by omega)
  unfold rkA rkB9
  omega
theorem rk_ok {n u s : Int} (h : rkIn n u s) : okF (rkN n u s) (rkD n u s) := by
  obtain ⟨a1, a2, b1, b2⟩ := rk_bd h
  exact r_ok (by omega) (by omega) (by omega) (by omega) (by omega)
theorem rk_gB {n u s : Int} (h : rkIn n u s) : gB true (rkA n u s) (rkB9 n s) = true := by
  unfold gB
  rw [show okB (rN (rkA n u s) (rkB9 n s)) (rD (rkA n u s) (rkB9 n s)) = true from okB_yes (rk_ok h)]; rfl
theorem rk_gN {n u s : Int} (h : rkIn n u s) : gN true (rkA n u s) (rkB9 n s) = rkN n u s ∧ gD true (rkA n u s) (rkB9 n s) = rkD n u s := g_yes (rk_gB h)
set_option maxHeartbeats 1000000 in
theorem srisk (n u s : Int) (w : World) (h : rkIn n u s) :
    Calls Tryd.prog 63 #[.int .i64 n, .int .i64 u, .int .i64 s] w fun e w' => e = .returned (.agg #[.int .i64 (rkN n u s), .int .i64 (rkD n u s)]) ∧ Below w.heap.size w w' := by
  obtain ⟨a1, a2, b1, b2⟩ := rk_bd h
  have HM := fun w' => mk_any (rkA n u s) (rkB9 n s) w' (by omega) (by omega) (by omega) (by omega) (by omega)
  rw [rk_gB h, (rk_gN h).1, (rk_gN h).2] at HM
  generalize rkN n u s = x at HM ⊢
  generalize rkD n u s = y at HM ⊢
  obtain ⟨h1, h2, h3, h4, h5, h6⟩ := h
  have P1 := fun w' => schoose (n - u).toNat s.toNat w' (by omega) (by omega)
  have P2 := fun w' => schoose n.toNat s.toNat w' (by omega) (by omega)
  have e1 : (chs (n - u).toNat s.toNat : Int) = rkA n u s := rfl
  have e2 : (chs n.toNat s.toNat : Int) = rkB9 n s := rfl
  rw [e1] at P1
  rw [e2] at P2
  generalize rkA n u s = a at HM P1 a1 a2
  generalize rkB9 n s = b at HM P2 b1 b2
  clear e1 e2
  obtain ⟨N, rfl⟩ : ∃ N : Nat, n = (N : Int) := ⟨n.toNat, by omega⟩
  obtain ⟨S, rfl⟩ : ∃ S : Nat, s = (S : Int) := ⟨s.toNat, by omega⟩
  obtain ⟨M, hM⟩ : ∃ M : Nat, (N : Int) - u = (M : Int) := ⟨((N : Int) - u).toNat, by omega⟩
  rw [hM] at P1
  simp only [Int.toNat_natCast] at P1 P2
  have wM : IntKind.i64.wrap ((N : Int) - u) = (M : Int) := by rw [IntKind.wrap_i64]; omega
  have HF := Lib.hid HM
  clear HM
  go_enter Tryd.func63, Tryd.ntmps63
  go_wp2_with fail
  refine (P1 _).mono ?_
  rintro e w1 ⟨rfl, rfl⟩
  go_wp2_with fail
  refine (P2 _).mono ?_
  rintro e w1 ⟨rfl, rfl⟩
  go_wp2_with fail
  refine (HF.out _).mono ?_
  rintro e w1 ⟨rfl, hb⟩
  obtain ⟨hc, hf⟩ := bcell hb
  have R0 : w1.cell? ⟨w.heap.size, 0, none⟩ = some (.int .i64 0) := by rw [hc _ _ (by simp)]; go_simp
  have R1 : w1.cell? ⟨w.heap.size, 1, none⟩ = some (.int .i64 0) := by rw [hc _ _ (by simp)]; go_simp
  have Z0 : w1.frozen? ⟨w.heap.size, 0, none⟩ = false := by rw [hf _ _ (by simp)]; go_simp
  have Z1 : w1.frozen? ⟨w.heap.size, 1, none⟩ = false := by rw [hf _ _ (by simp)]; go_simp
  have s1 : w.heap.size < w1.heap.size := by have := hb.size; simp at this; omega
  have b1 : Below w.heap.size w w1 := ((Below.refl _ _).alloc (Nat.le_refl _) _).trans (hb.mono (by simp))
  have hne : w.heap.size ≠ w1.heap.size := by omega
  clear hc hf hb
  go_wp2
  have bA := (Below.refl ((w1.setCell ⟨w.heap.size, 0, none⟩ (.int .i64 x)).setCell ⟨w.heap.size, 1, none⟩ (.int .i64 y)).heap.size ((w1.setCell ⟨w.heap.size, 0, none⟩ (.int .i64 x)).setCell ⟨w.heap.size, 1, none⟩ (.int .i64 y))).alloc (Nat.le_refl _) (.cells #[.int .i64 x, .int .i64 y] 26)
  have K0 := (bA.cell (p := ⟨w.heap.size, 0, none⟩) (by simp; omega)).trans (show _ = some (.int .i64 x) by go_simp)
  have K1 := (bA.cell (p := ⟨w.heap.size, 1, none⟩) (by simp; omega)).trans (show _ = some (.int .i64 y) by go_simp)
  refine bodyPost_ret (v := .agg #[.int .i64 x, .int .i64 y]) (by simp [results, Tryd.results63, go_sem, K0, K1]) rfl ⟨rfl, ?_⟩
  exact ((b1.setCell (Nat.le_refl _) _).setCell (Nat.le_refl _) _).alloc (by simp; omega) _
set_option maxHeartbeats 1000000 in
theorem iRisk (n u s : Int) (w : World) (wf0 : (Lit.int .i64 n).wf = true) (wf1 : (Lit.int .i64 u).wf = true) (wf2 : (Lit.int .i64 s).wf = true) (hg : ErrT w) :
    Calls Tryd.prog 23 #[.int .i64 n, .int .i64 u, .int .i64 s] w (Qfb (mRisk n u s) w) := by
  have b0 : Below w.heap.size w (w.alloc (.cells #[.int .i64 0, .int .i64 0] 26)) := (Below.refl _ _).alloc (Nat.le_refl _) _
  by_cases h1 : 30 < n
  · rw [mRisk_no (by unfold rkIn; omega)]
    go_enter Tryd.func23, Tryd.ntmps23
    go_wp2
    all_goals
      refine bodyPost_ret (v := .tuple #[.agg #[.int .i64 0, .int .i64 0], .bool false]) (by simp [results, Tryd.results23, go_sem]) rfl ⟨rfl, ?_⟩
      first | exact b0 | exact (b0.setCell (Nat.le_refl _) _).setCell (Nat.le_refl _) _
  by_cases h2 : min u s < 0
  · rw [mRisk_no (by unfold rkIn; omega)]
    go_enter Tryd.func23, Tryd.ntmps23
    go_wp2
    all_goals
      refine bodyPost_ret (v := .tuple #[.agg #[.int .i64 0, .int .i64 0], .bool false]) (by simp [results, Tryd.results23, go_sem]) rfl ⟨rfl, ?_⟩
      first | exact b0 | exact (b0.setCell (Nat.le_refl _) _).setCell (Nat.le_refl _) _
  by_cases h3 : n < max u s
  · rw [mRisk_no (by unfold rkIn; omega)]
    go_enter Tryd.func23, Tryd.ntmps23
    go_wp2
    all_goals
      refine bodyPost_ret (v := .tuple #[.agg #[.int .i64 0, .int .i64 0], .bool false]) (by simp [results, Tryd.results23, go_sem]) rfl ⟨rfl, ?_⟩
      first | exact b0 | exact (b0.setCell (Nat.le_refl _) _).setCell (Nat.le_refl _) _
  have ok : rkIn n u s := by unfold rkIn; omega
  rw [mRisk_yes ok]
  obtain ⟨a1, a2, b1, b2⟩ := rk_bd ok
  have fok : frOk (rkA n u s) (rkB9 n s) = true := by
    unfold frOk
    rw [inB_yes (by omega) (by omega), inB_yes (by omega) (by omega)]
    simp; omega
  have HM := fun w' hw => ifo_any (rkA n u s) (rkB9 n s) w' hw
  rw [fok, rk_gB ok, (rk_gN ok).1, (rk_gN ok).2] at HM
  generalize rkN n u s = x at HM ⊢
  generalize rkD n u s = y at HM ⊢
  obtain ⟨q1, q2, q3, q4, q5, q6⟩ := ok
  have P1 := fun w' => isets s.toNat (n - u).toNat w' (by omega) (by omega)
  have P2 := fun w' => isets s.toNat n.toNat w' (by omega) (by omega)
  have e1 : (chs (n - u).toNat s.toNat : Int) = rkA n u s := rfl
  have e2 : (chs n.toNat s.toNat : Int) = rkB9 n s := rfl
  rw [e1] at P1
  rw [e2] at P2
  generalize rkA n u s = a at HM P1 a1 a2 fok
  generalize rkB9 n s = b at HM P2 b1 b2 fok
  clear e1 e2 fok
  obtain ⟨N, rfl⟩ : ∃ N : Nat, n = (N : Int) := ⟨n.toNat, by omega⟩
  obtain ⟨S, rfl⟩ : ∃ S : Nat, s = (S : Int) := ⟨s.toNat, by omega⟩
  obtain ⟨M, hM⟩ : ∃ M : Nat, (N : Int) - u = (M : Int) := ⟨((N : Int) - u).toNat, by omega⟩
  rw [hM] at P1
  simp only [Int.toNat_natCast] at P1 P2
  have wM : IntKind.i64.wrap ((N : Int) - u) = (M : Int) := by rw [IntKind.wrap_i64]; omega
  have HF := Lib.hid HM
  have HG := Lib.hid hg
  clear HM hg
  rcases Int.lt_trichotomy u (S : Int) with hle | rfl | hle
  all_goals
    go_enter Tryd.func23, Tryd.ntmps23
    go_wp2_with fail
    refine (P1 _).mono ?_
    rintro e w1 ⟨rfl, rfl⟩
    go_wp2_with fail
    refine (P2 _).mono ?_
    rintro e w1 ⟨rfl, rfl⟩
    go_wp2_with fail
    refine (HF.out _ (HG.out.below b0)).mono ?_
    rintro e w1 ⟨rfl, hb⟩
    obtain ⟨hc, hf⟩ := bcell hb
    have R0 : w1.cell? ⟨w.heap.size, 0, none⟩ = some (.int .i64 0) := by rw [hc _ _ (by simp)]; go_simp
    have R1 : w1.cell? ⟨w.heap.size, 1, none⟩ = some (.int .i64 0) := by rw [hc _ _ (by simp)]; go_simp
    have Z0 : w1.frozen? ⟨w.heap.size, 0, none⟩ = false := by rw [hf _ _ (by simp)]; go_simp
    have Z1 : w1.frozen? ⟨w.heap.size, 1, none⟩ = false := by rw [hf _ _ (by simp)]; go_simp
    have b1 := b0.trans (hb.mono b0.size)
    clear hc hf hb
    go_wp2
    refine bodyPost_ret (v := .tuple #[.agg #[.int .i64 x, .int .i64 y], .bool true]) (by simp [results, Tryd.results23, go_sem, R0, R1]) rfl ⟨rfl, ?_⟩
    exact (b1.setCell (Nat.le_refl _) _).setCell (Nat.le_refl _) _
end Go.Proofs.YtjfkkmfbgmejbabDoor
