/- The law FnRisk, walked. -/
import Derived.Test.YtjfkkmfbgmejbabDoorRk0
import Derived.Test.YtjfkkmfbgmejbabDoorDr8
namespace Go.Proofs.YtjfkkmfbgmejbabDoor
open Go.ChangeShapes Go.WideShapes Go.ChangeAt Go.RowKit Go.Deep
set_option linter.unusedSimpArgs false
set_option linter.unusedVariables false
theorem r8whole (n : Int) (w : World) :
    Calls Tryd.prog 22 #[.int .i64 n] w fun e w' => e = .returned (.agg #[.int .i64 n, .int .i64 1]) ∧ Below w.heap.size w w' := by
  go_enter Tryd.func22, Tryd.ntmps22
  go_wp2
  refine bodyPost_ret (v := .agg #[.int .i64 n, .int .i64 1]) (by simp [results, Tryd.results22, go_sem]) rfl ⟨rfl, ?_⟩
  first | exact (Below.refl _ _).alloc (Nat.le_refl _) _ | exact (((Below.refl _ _).alloc (Nat.le_refl _) _).setCell (Nat.le_refl _) _).setCell (Nat.le_refl _) _
/-- A fraction that lies in a box that may be written. -/
structure Lb (w : World) (p : Nat) (x y : Int) : Prop where
  c0 : w.cell? ⟨p, 0, none⟩ = some (.int .i64 x)
  c1 : w.cell? ⟨p, 1, none⟩ = some (.int .i64 y)
  f0 : w.frozen? ⟨p, 0, none⟩ = false
  f1 : w.frozen? ⟨p, 1, none⟩ = false
  lt : p < w.heap.size
theorem Lb.below {w w' : World} {p : Nat} {x y : Int} (h : Lb w p x y) (hb : Below w.heap.size w w') : Lb w' p x y :=
  ⟨(hb.cell (p := ⟨p, 0, none⟩) h.lt).trans h.c0, (hb.cell (p := ⟨p, 1, none⟩) h.lt).trans h.c1, (hb.frozen (p := ⟨p, 0, none⟩) h.lt).trans h.f0, (hb.frozen (p := ⟨p, 1, none⟩) h.lt).trans h.f1, Nat.lt_of_lt_of_le h.lt hb.size⟩
theorem lb_at (w : World) (t : TypeId) (x y : Int) : Lb (w.alloc (.cells #[.int .i64 x, .int .i64 y] t)) w.heap.size x y := ⟨by go_simp, by go_simp, by go_simp, by go_simp, by simp⟩
theorem Lb.set {w : World} {p : Nat} {x y : Int} (h : Lb w p x y) (u v : Int) : Lb ((w.setCell ⟨p, 0, none⟩ (.int .i64 u)).setCell ⟨p, 1, none⟩ (.int .i64 v)) p u v := by
  obtain ⟨c0, c1, f0, f1, lt⟩ := h
  exact ⟨by go_simp, by go_simp, by simpa using f0, by simpa using f1, by simpa using lt⟩
theorem B2.set {w w1 : World} {p q : Nat} {x y : Int} (h : B2 w p x y w1) (hq : w.heap.size ≤ q) (hne : p ≠ q) (o : Nat) (u : Value) : B2 w p x y (w1.setCell ⟨q, o, none⟩ u) :=
  ⟨(World.cell?_setCell_other _ _ _ _ (by intro e; injection e; omega)).trans h.1, (World.cell?_setCell_other _ _ _ _ (by intro e; injection e; omega)).trans h.2.1, h.2.2.out.1.setCell hq _, by simpa using h.2.2.out.2⟩
theorem least_of {n u ln ld : Int} {k : Nat} (hk : k ≤ 30) (h : cnd n u ln ld k) (hl : ∀ j, j < k → ¬ cnd n u ln ld j) : mSmp n u ln ld = ((k : Int), true) := mSmp_yes ⟨hk, h, hl⟩
theorem exists_least {P : Nat → Prop} {s : Nat} (h : P s) : ∃ k, k ≤ s ∧ P k ∧ ∀ j, j < k → ¬ P j := by
  induction s using Nat.strongRecOn with
  | ind s ih =>
    by_cases q : ∃ j, j < s ∧ P j
    · obtain ⟨j, hj, hp⟩ := q
      obtain ⟨k, a, b, c⟩ := ih j hj hp
      exact ⟨k, by omega, b, c⟩
    · exact ⟨s, Nat.le_refl _, h, fun j hj hp => q ⟨j, hj, hp⟩⟩
theorem mSmp_iff {N : Nat} (hN : N ≤ 30) {u ln ld r : Int} {b : Bool} (hm : mSmp N u ln ld = (r, b)) : b = true ↔ ∃ j, j ≤ N ∧ cnd N u ln ld j := by
  by_cases h : ∃ j, j ≤ N ∧ cnd N u ln ld j
  · obtain ⟨j, hj, hc⟩ := h
    obtain ⟨k, a, b', c⟩ := exists_least hc
    rw [least_of (by omega) b' c] at hm
    simp only [Prod.mk.injEq] at hm
    exact ⟨fun _ => ⟨j, hj, hc⟩, fun _ => hm.2.symm⟩
  · rw [mSmp_no (fun s hs hc => h ⟨s, by have := cnd_le hc; omega, hc⟩)] at hm
    simp only [Prod.mk.injEq] at hm
    refine ⟨fun q => ?_, fun q => absurd q h⟩
    rw [← hm.2] at q; cases q
set_option maxHeartbeats 8000000 in
set_option maxRecDepth 100000 in
theorem lawRisk (v0 : Value) (len0 : Nat) (v1 : Value) (len1 : Nat) (w : World) (h0 : ByteV w.heap.size w v0 len0) (h1 : ByteV w.heap.size w v1 len1) (hg : ErrT w) :
    Calls Tryd.prog 6 #[v0, v1] w fun e w' => e = .returned (.bool true) ∧ Below w.heap.size w w' := by
  obtain ⟨a0, cap0, rfl⟩ := h0.shape
  obtain ⟨a1, cap1, rfl⟩ := h1.shape
  have HL := r8long a0 a1 len0 cap0 len1 cap1 w
  by_cases hlong : 48 < len0 ∨ 48 < len1
  · rw [show (decide (48 < len0) || decide (48 < len1)) = true by simpa using hlong] at HL
    clear h0 h1
    go_enter Tryd.func6, Tryd.ntmps6
    go_wp2_with fail
    refine HL.mono ?_
    rintro e w1 ⟨rfl, rfl⟩
    go_wp2
    go_ret
    exact ⟨rfl, Below.refl _ _⟩
  have hl0 : len0 ≤ 48 := by omega
  have hl1 : len1 ≤ 48 := by omega
  rw [show (decide (48 < len0) || decide (48 < len1)) = false by simpa using hlong] at HL
  have A1 : Calls Tryd.prog 20 #[.slice a0 len0 cap0, .int .i64 0, .int .i64 31] w (At8 31 w) := r8at _ _ len0 0 31 w h0 hl0 (by omega) (by omega) (by omega)
  have A2 := Lib.hid (fun (n : Int) (hn : n ≤ 1000) (hn0 : -1000 ≤ n) => (show Calls Tryd.prog 20 #[.slice a0 len0 cap0, .int .i64 1, .int .i64 n] w (At8 n w) from r8at _ _ len0 1 n w h0 hl0 (by omega) hn hn0))
  have A3 : Calls Tryd.prog 20 #[.slice a0 len0 cap0, .int .i64 2, .int .i64 5] w (At8 5 w) := r8at _ _ len0 2 5 w h0 hl0 (by omega) (by omega) (by omega)
  have A4 : Calls Tryd.prog 20 #[.slice a1 len1 cap1, .int .i64 0, .int .i64 40] w (At8 40 w) := r8at _ _ len1 0 40 w h1 hl1 (by omega) (by omega) (by omega)
  have HG := Lib.hid hg
  clear h0 h1 hlong hg
  go_enter Tryd.func6, Tryd.ntmps6
  go_wp2_with fail
  refine HL.mono ?_
  rintro e w1 ⟨rfl, rfl⟩
  go_wp2_with fail
  refine A1.mono ?_
  rintro e w1 ⟨n, rfl, n0, n1, -, rfl⟩
  have n2 := n1 (by omega)
  obtain ⟨N, rfl⟩ : ∃ N : Nat, n = (N : Int) := ⟨n.toNat, by omega⟩
  have hN : N ≤ 30 := by omega
  have A2' := A2.out ((N : Int) + 1) (by omega) (by omega)
  clear A1 A2 n1 HL
  go_wp2_with fail
  refine A2'.mono ?_
  rintro e w1 ⟨u', rfl, u0, u1, u2, rfl⟩
  have u3 : u' ≤ (N : Int) := by
    by_cases q : N = 0
    · have := u2 (by omega); omega
    · have := u1 (by omega); omega
  obtain ⟨u, rfl⟩ : ∃ u : Nat, u' = (u : Int) := ⟨u'.toNat, by omega⟩
  have hu : u ≤ N := by omega
  clear A2' u1 u2 u0 u3 n0 n2
  go_wp2_with fail
  refine A3.mono ?_
  rintro e w1 ⟨p, rfl, p0, p1, -, rfl⟩
  have p2 := p1 (by omega)
  clear A3 p1
  go_wp2_with fail
  refine A4.mono ?_
  rintro e w1 ⟨q, rfl, q0, q1, -, rfl⟩
  have q2 := q1 (by omega)
  have fok : frOk p (1 + q) = true := by
    unfold frOk
    rw [inB_yes (by omega) (by omega), inB_yes (by omega) (by omega)]
    simp; omega
  have lok : okF (rN p (1 + q)) (rD p (1 + q)) := r_ok (by omega) (by omega) (by omega) (by omega) (by omega)
  have gb : gB true p (1 + q) = true := by unfold gB; rw [okB_yes lok]; rfl
  have HF := ifo_any p (1 + q) w HG.out
  rw [fok, gb, (g_yes gb).1, (g_yes gb).2] at HF
  generalize rN p (1 + q) = ln at *
  generalize rD p (1 + q) = ld at *
  have LOK := Lib.hid lok
  clear A4 q1 fok gb lok
  go_wp2_with fail
  refine HF.mono ?_
  rintro e w1 ⟨rfl, hb1⟩
  have bA := (Below.refl w1.heap.size w1).alloc (Nat.le_refl _) (.cells #[.int .i64 ln, .int .i64 ld] 26)
  have hB0 : B2 w1 w1.heap.size ln ld (w1.alloc (.cells #[.int .i64 ln, .int .i64 ld] 26)) := B2.start w1 26 ln ld
  have hB : B2 w w1.heap.size ln ld (w1.alloc (.cells #[.int .i64 ln, .int .i64 ld] 26)) := ⟨hB0.1, hB0.2.1, hb1.trans (bA.mono hb1.size), hB0.2.2.out.2⟩
  obtain ⟨⟨r, b⟩, hm⟩ : ∃ z, mSmp N u ln ld = z := ⟨_, rfl⟩
  have HS := iSmp N u ln ld _ (Go.WalkArith.wf_i64 ⟨by omega, by omega⟩) (Go.WalkArith.wf_i64 ⟨by omega, by omega⟩) (HG.out.below hB.bel)
  rw [hm] at HS
  have HM := Lib.hid hm
  have HIFF := Lib.hid (mSmp_iff hN hm)
  have H7 := Lib.hid hB
  have hw1 := hb1.size
  obtain ⟨p7, hp7⟩ : ∃ p7, w1.heap.size = p7 := ⟨_, rfl⟩
  have HP7 := Lib.hid hp7
  have hwp7 : w.heap.size ≤ p7 := by omega
  clear HF hb1 bA hB0 hB hm
  go_wp2_with fail
  refine HS.mono ?_
  rintro e w2 ⟨rfl, hb2⟩
  have H72 := Lib.hid (H7.out.below hb2)
  clear HS hb2
  go_wp2_with fail
  refine (r8whole 1 _).mono ?_
  rintro e w3 ⟨rfl, hb3⟩
  have H73 := H72.out.below hb3
  have bB := (Below.refl w3.heap.size w3).alloc (Nat.le_refl _) (.cells #[.int .i64 1, .int .i64 1] 26)
  have H74 := Lib.hid (H73.below bB)
  have HLB := Lib.hid (lb_at w3 26 1 1)
  have l7 : w1.heap.size < w3.heap.size := H73.2.2.out.2
  have i0 : rkIn (N : Int) (u : Int) ((0 : Nat) : Int) := by unfold rkIn; omega
  have HSTART := Lib.hid (rk_start i0)
  clear hb3 H73 bB i0 H7 H72
  rw [hp7] at *
  obtain ⟨p12, hp12⟩ : ∃ p12, w3.heap.size = p12 := ⟨_, rfl⟩
  rw [hp12] at HLB l7
  go_wp2
  (try simp only [hp12])
  clear hp12 hp7
  go_loopg [11, 13] N (fun g f i wr => ∃ (k : Nat) (fb : Bool), k ≤ N ∧ g = N - k ∧ i = .int .i64 (k : Int) ∧ f = .bool fb ∧ Hid (B2 w p7 ln ld wr) ∧ Hid (Lb wr p12 (rkN N u k) (rkD N u k)) ∧ Hid (fb = true ↔ ∃ j, j < k ∧ cnd N u ln ld j))
  case atStart => exact ⟨0, false, Nat.zero_le _, rfl, rfl, rfl, H74, by rw [HSTART.out.1, HSTART.out.2]; exact HLB, Lib.hid ⟨fun h => (by cases h), fun ⟨j, hj, _⟩ => absurd hj (Nat.not_lt_zero _)⟩⟩
  case round =>
    clear H74 HLB HSTART
    obtain ⟨k, fb, hk, rfl, rfl, rfl, HB, HL, HF⟩ := hrel
    have rin : rkIn (N : Int) (u : Int) (k : Int) := by unfold rkIn; omega
    have HR := iRisk N u k wr (Go.WalkArith.wf_i64 ⟨by omega, by omega⟩) (Go.WalkArith.wf_i64 ⟨by omega, by omega⟩) (Go.WalkArith.wf_i64 ⟨by omega, by omega⟩) (HG.out.below HB.out.bel)
    have hmr := mRisk_yes rin
    have HC := Lib.hid (cnd_iff (ln := ln) (ld := ld) hmr)
    have xok := rk_ok rin
    rw [hmr] at HR
    have NEXT : Hid (k < N → rN (rkN N u k * rN (lft9 N u k) ((N : Int) - k)) (rkD N u k * rD (lft9 N u k) ((N : Int) - k)) = rkN N u ((k + 1 : Nat) : Int) ∧ rD (rkN N u k * rN (lft9 N u k) ((N : Int) - k)) (rkD N u k * rD (lft9 N u k) ((N : Int) - k)) = rkD N u ((k + 1 : Nat) : Int)) := fun h => rk_next hN hu h
    have XOK1 : Hid (k < N → okF (rkN N u ((k + 1 : Nat) : Int)) (rkD N u ((k + 1 : Nat) : Int))) := fun h => rk_ok (by unfold rkIn; omega)
    obtain ⟨x1, hx1⟩ : ∃ x, rkN N u ((k + 1 : Nat) : Int) = x := ⟨_, rfl⟩
    obtain ⟨y1, hy1⟩ : ∃ y, rkD N u ((k + 1 : Nat) : Int) = y := ⟨_, rfl⟩
    rw [hx1, hy1] at NEXT XOK1
    have HX1 := Lib.hid hx1
    have HY1 := Lib.hid hy1
    clear hx1 hy1
    generalize rkN N u (k : Int) = x at *
    generalize rkD N u (k : Int) = y at *
    have hle : (k : Int) ≤ (N : Int) := by omega
    have HCMP := Lib.hid (fun w' hw => ICmp_any x y ln ld w' hw)
    have hbb : (okB x y && okB ln ld) = true := by rw [okB_yes xok, okB_yes LOK.out]; rfl
    rw [hbb] at HC HCMP
    have XOK := Lib.hid xok
    generalize gI true (cmpI (x * ld) (ln * y)) = z at HC HCMP
    obtain ⟨d0, d1, -⟩ := HB.out
    obtain ⟨e0, e1, ef0, ef1, el⟩ := HL.out
    clear rin hmr xok hbb
    go_wp2_with fail
    refine HR.mono ?_
    intro e w4 hp
    obtain ⟨rfl, hb4⟩ := hp.out
    have bC := (Below.refl w4.heap.size w4).alloc (Nat.le_refl _) (.cells #[.int .i64 x, .int .i64 y] 26)
    have HB4 := Lib.hid ((HB.out.below hb4).below bC)
    have HL4 := Lib.hid ((HL.out.below hb4).below bC)
    have l4 : p12 < w4.heap.size := Nat.lt_of_lt_of_le el hb4.size
    have g0 := (hb4.cell (p := ⟨p12, 0, none⟩) el).trans e0
    have g1 := (hb4.cell (p := ⟨p12, 1, none⟩) el).trans e1
    have d0' := (hb4.cell (p := ⟨p7, 0, none⟩) (HB.out.2.2.out.2)).trans d0
    have d1' := (hb4.cell (p := ⟨p7, 1, none⟩) (HB.out.2.2.out.2)).trans d1
    have l7' : p7 < w4.heap.size := Nat.lt_of_lt_of_le (HB.out.2.2.out.2) hb4.size
    have n1 : p12 ≠ w4.heap.size := by omega
    have n2 : p7 ≠ w4.heap.size := by omega
    have HCM := HCMP.out _ (HG.out.below HB4.out.bel)
    have l45 : w4.heap.size + 1 = (w4.alloc (.cells #[.int .i64 x, .int .i64 y] 26)).heap.size := by simp
    have kx : (w4.alloc (.cells #[.int .i64 x, .int .i64 y] 26)).cell? ⟨w4.heap.size, 0, none⟩ = some (.int .i64 x) := by go_simp
    have ky : (w4.alloc (.cells #[.int .i64 x, .int .i64 y] 26)).cell? ⟨w4.heap.size, 1, none⟩ = some (.int .i64 y) := by go_simp
    have KXY := Lib.hid (And.intro kx ky)
    clear HR hp hb4 bC d0 d1 e0 e1 ef0 ef1 kx ky l45
    go_wp2_with fail
    refine HCM.mono ?_
    rintro e w5 ⟨rfl, hb5⟩
    have HB5 := Lib.hid (HB4.out.below hb5)
    have HL5 := Lib.hid (HL4.out.below hb5)
    have l5 : w4.heap.size < w5.heap.size := by have := hb5.size; simp at this; omega
    have rx := (hb5.cell (p := ⟨w4.heap.size, 0, none⟩) (by simp)).trans KXY.out.1
    have ry := (hb5.cell (p := ⟨w4.heap.size, 1, none⟩) (by simp)).trans KXY.out.2
    have l12 : p12 < w5.heap.size := by omega
    have hz9 : Hid ((z ≤ 0) = (z ≤ 0)) := rfl
    clear HCM g0 g1 d0' d1' hb5
    have hfound : Hid (z ≤ 0 → fb = false → r = (k : Int) ∧ b = true) := fun hz hf => by
      have hc := HC.out.2 ⟨by first | exact rfl | trivial, hz⟩
      have hno : ∀ j, j < k → ¬ cnd (N : Int) u ln ld j := fun j hj hcj => by
        have := HF.out.2 ⟨j, hj, hcj⟩
        rw [hf] at this; cases this
      have := least_of (by omega) hc hno
      rw [HM.out] at this
      simp only [Prod.mk.injEq] at this
      exact this
    have HFN : Hid ((fb || decide (z ≤ 0)) = true ↔ ∃ j, j < k + 1 ∧ cnd (N : Int) u ln ld j) := Lib.hid (by
      rw [Bool.or_eq_true, decide_eq_true_eq]
      constructor
      · rintro (h | h)
        · obtain ⟨j, hj, hc⟩ := HF.out.1 h
          exact ⟨j, by omega, hc⟩
        · exact ⟨k, by omega, HC.out.2 ⟨by first | exact rfl | trivial, h⟩⟩
      · rintro ⟨j, hj, hc⟩
        by_cases ej : j = k
        · subst ej; exact .inr (HC.out.1 hc).2
        · exact .inl (HF.out.2 ⟨j, by omega, hc⟩))
    by_cases hkN : k = N
    · subst hkN
      have hbv : b = (fb || decide (z ≤ 0)) := by
        rw [Bool.eq_iff_iff, HIFF.out, HFN.out]
        exact ⟨fun ⟨j, hj, hc⟩ => ⟨j, by omega, hc⟩, fun ⟨j, hj, hc⟩ => ⟨j, by omega, hc⟩⟩
      by_cases hz : z ≤ 0
      · rw [decide_eq_true hz, Bool.or_true] at hbv
        have hf9 := hfound.out hz
        have hb9 := (Hid.out HB5).bel
        cases fb with
        | false =>
          obtain ⟨rfl, -⟩ := hf9 rfl
          subst hbv
          go_wp2
          go_ret
          exact ⟨rfl, hb9⟩
        | true =>
          subst hbv
          go_wp2
          go_ret
          exact ⟨rfl, hb9⟩
      · rw [decide_eq_false hz, Bool.or_false] at hbv
        have hb9 := (Hid.out HB5).bel
        subst hbv
        cases b with
        | false =>
          go_wp2
          go_ret
          exact ⟨rfl, hb9⟩
        | true =>
          go_wp2
          go_ret
          exact ⟨rfl, hb9⟩
    · have hkl : k < N := by omega
      have hne : ((k : Int) == (N : Int)) = false := by simp; omega
      have hne2 : ¬ (k : Int) = (N : Int) := by omega
      obtain ⟨m, hmm⟩ : ∃ m, (N : Int) - k = m := ⟨_, rfl⟩
      have wm : IntKind.i64.wrap ((N : Int) - k) = m := by rw [IntKind.wrap_i64]; omega
      obtain ⟨L, hL⟩ : ∃ L, lft9 N u k = L := ⟨_, rfl⟩
      have hLb : 0 ≤ L ∧ L ≤ 30 := by rw [← hL]; unfold lft9; omega
      have hLe : L = if (N : Int) - u - k < 0 then 0 else (N : Int) - u - k := by rw [← hL]; unfold lft9; split <;> omega
      obtain ⟨nx, ny⟩ := NEXT.out hkl
      rw [hL, hmm] at nx ny
      have fok : frOk L m = true := by
        unfold frOk
        rw [inB_yes (by omega) (by omega), inB_yes (by omega) (by omega)]
        simp; omega
      have pok : okF (rN L m) (rD L m) := r_ok (by omega) (by omega) (by omega) (by omega) (by omega)
      have gb1 : gB true L m = true := by unfold gB; rw [okB_yes pok]; rfl
      have HP := fun w' hw => ifo_any L m w' hw
      rw [fok, gb1, (g_yes gb1).1, (g_yes gb1).2] at HP
      have gb2 : gB true (x * rN L m) (y * rD L m) = true := by unfold gB; rw [nx, ny, okB_yes (XOK1.out hkl)]; rfl
      have HMU := fun w' hw => IMul_any x y (rN L m) (rD L m) w' hw
      rw [okB_yes XOK.out, okB_yes pok, Bool.and_self, gb2, (g_yes gb2).1, (g_yes gb2).2, nx, ny] at HMU
      generalize rN L m = px at HP HMU
      generalize rD L m = py at HP HMU
      have HPH := Lib.hid HP
      have HMH := Lib.hid HMU
      have w1' : IntKind.i64.wrap ((N : Int) - u) = (N : Int) - u := by rw [IntKind.wrap_i64]; omega
      obtain ⟨t, ht⟩ : ∃ t, (N : Int) - u = t := ⟨_, rfl⟩
      rw [ht] at w1' hLe
      have w2' : IntKind.i64.wrap (t - k) = t - k := by rw [IntKind.wrap_i64]; omega
      obtain ⟨q9, hq9⟩ : ∃ q, t - k = q := ⟨_, rfl⟩
      rw [hq9] at w2' hLe
      have HLE := Lib.hid hLe
      clear HP HMU nx ny fok pok gb1 gb2 hL hLe
      obtain ⟨fb2, hfb2⟩ : ∃ f, (fb || decide (z ≤ 0)) = f := ⟨_, rfl⟩
      have HFN2 := HFN
      rw [hfb2] at HFN2
      have hcase : (fb = false ∧ z ≤ 0 ∧ r = (k : Int) ∧ b = true ∧ fb2 = true) ∨ (fb = true ∧ z ≤ 0 ∧ fb2 = true) ∨ (fb = true ∧ ¬ z ≤ 0 ∧ fb2 = true) ∨ (fb = false ∧ ¬ z ≤ 0 ∧ fb2 = false) := by
        rw [← hfb2]
        by_cases hz : z ≤ 0
        · cases fb with
          | false => obtain ⟨e1, e2⟩ := hfound.out hz rfl; exact .inl ⟨rfl, hz, e1, e2, by simp [hz]⟩
          | true => exact .inr (.inl ⟨rfl, hz, rfl⟩)
        · cases fb with
          | false => exact .inr (.inr (.inr ⟨rfl, hz, by rw [decide_eq_false hz]; rfl⟩))
          | true => exact .inr (.inr (.inl ⟨rfl, hz, rfl⟩))
      have hlc : (q9 < 0 ∧ L = 0) ∨ (¬ q9 < 0 ∧ q9 = L) := by
        have h9 := HLE.out
        by_cases hq : q9 < 0
        · rw [if_pos hq] at h9; exact .inl ⟨hq, h9⟩
        · rw [if_neg hq] at h9; exact .inr ⟨hq, h9.symm⟩
      have EG5 := HG.out.below (Hid.out HB5).bel
      clear hfound HFN hfb2 HLE HF HC hz9
      rcases hcase with ⟨rfl, hz, rfl, rfl, rfl⟩ | ⟨rfl, hz, rfl⟩ | ⟨rfl, hz, rfl⟩ | ⟨rfl, hz, rfl⟩
      all_goals
        rcases hlc with ⟨hq, rfl⟩ | ⟨hq, rfl⟩
        all_goals
          go_wp2_with fail
          refine (HPH.out _ EG5).mono ?_
          rintro e w6 ⟨rfl, hb6⟩
          have bD := (Below.refl w6.heap.size w6).alloc (Nat.le_refl _) (.cells #[.int .i64 px, .int .i64 py] 26)
          have HB6 := Lib.hid ((HB5.out.below hb6).below bD)
          have HL6 := Lib.hid ((HL5.out.below hb6).below bD)
          have rx6 := (hb6.cell (p := ⟨w4.heap.size, 0, none⟩) l5).trans rx
          have ry6 := (hb6.cell (p := ⟨w4.heap.size, 1, none⟩) l5).trans ry
          have l6 := Nat.lt_of_lt_of_le l5 hb6.size
          have l6' : w4.heap.size ≠ w6.heap.size := by omega
          have EG6 := HG.out.below (Hid.out HB6).bel
          have HM6 := HMH.out _ EG6
          clear hb6 bD
          go_wp2_with fail
          refine HM6.mono ?_
          rintro e w7 ⟨rfl, hb7⟩
          have HB7 := Lib.hid (HB6.out.below hb7)
          have HL7 := Lib.hid (HL6.out.below hb7)
          obtain ⟨m0, m1, mf0, mf1, ml⟩ := HL7.out
          have ml' : p12 ≠ w7.heap.size := by omega
          clear HM6 hb7 rx6 ry6
          go_wp2
          go_roundg (N - (k + 1))
          case measure => omega
          case rel =>
            have bE := (Below.refl ((w7.setCell ⟨p12, 0, none⟩ (.int .i64 x1)).setCell ⟨p12, 1, none⟩ (.int .i64 y1)).heap.size ((w7.setCell ⟨p12, 0, none⟩ (.int .i64 x1)).setCell ⟨p12, 1, none⟩ (.int .i64 y1))).alloc (Nat.le_refl _) (.cells #[.int .i64 x1, .int .i64 y1] 26)
            refine ⟨k + 1, _, by omega, rfl, by simp, rfl, Lib.hid (((HB7.out.set ?_ ?_ 0 _).set ?_ ?_ 1 _).below bE), by rw [HX1.out, HY1.out]; exact Lib.hid ((HL7.out.set x1 y1).below bE), Lib.hid (by first | exact HFN2.out | (have h9 := HFN2.out; simp at h9 ⊢; exact h9))⟩
            all_goals omega
end Go.Proofs.YtjfkkmfbgmejbabDoor
