/- The order of an audit: the program's, and both functions. -/
import Derived.Test.YtgoocglcgkfgmaaAu1
import Derived.Test.YtgoocglcgkfgmaaK2v
namespace Go.Proofs.Ytgoocglcgkfgmaa
open Go.ChangeShapes Go.WideShapes Go.ChangeAt Go.RowKit Go.Deep
set_option linter.unusedSimpArgs false
set_option linter.unusedVariables false
def mAud (s n : Int) : List Int × Bool := if (0 ≤ s ∧ s ≤ 2147483646) ∧ (0 ≤ n ∧ n ≤ 30) then (shL s n.toNat, true) else ([], false)
theorem mAud_no {s n : Int} (h : ¬ ((0 ≤ s ∧ s ≤ 2147483646) ∧ (0 ≤ n ∧ n ≤ 30))) : mAud s n = ([], false) := by unfold mAud; rw [if_neg h]
theorem mAud_yes {s : Int} {n : Nat} (h : 0 ≤ s ∧ s ≤ 2147483646) (hn : n ≤ 30) : mAud s n = (shL s n, true) := by unfold mAud; rw [if_pos ⟨h, by omega⟩]; rfl
set_option maxHeartbeats 1000000 in
theorem sAud (s n : Int) (w : World) (wf0 : (Lit.int .i64 s).wf = true) (wf1 : (Lit.int .i64 n).wf = true) :
    Calls Try.prog 23 #[.int .i64 s, .int .i64 n] w (PIb (mAud s n) w) := by
  have P1 := fun w' => in_any s 0 2147483646 w'
  have P2 := fun w' => in_any n 0 30 w'
  by_cases h1 : 0 ≤ s ∧ s ≤ 2147483646
  · rw [show (decide ((0 : Int) ≤ s) && decide (s ≤ 2147483646)) = true by simp; omega] at P1
    by_cases h2 : 0 ≤ n ∧ n ≤ 30
    · rw [show (decide ((0 : Int) ≤ n) && decide (n ≤ 30)) = true by simp; omega] at P2
      obtain ⟨m, rfl⟩ : ∃ m : Nat, n = (m : Int) := ⟨n.toNat, by omega⟩
      have HF := fun w' => sshuf s m w' h1 (by omega)
      rw [mAud_yes h1 (by omega)]
      clear h1 h2
      go_enter Try.func23, Try.ntmps23
      go_wp2_with fail
      refine (P1 _).mono ?_
      rintro e w1 ⟨rfl, rfl⟩
      go_wp2_with fail
      refine (P2 _).mono ?_
      rintro e w1 ⟨rfl, rfl⟩
      go_wp2_with fail
      refine (HF _).mono ?_
      rintro e w1 ⟨⟨v, rfl, ho⟩, hb⟩
      go_wp2
      go_ret2
      exact ⟨v, rfl, ho.rd, hb⟩
    · rw [show (decide ((0 : Int) ≤ n) && decide (n ≤ 30)) = false by simp; omega] at P2
      rw [mAud_no (by omega)]
      go_enter Try.func23, Try.ntmps23
      go_wp2_with fail
      refine (P1 _).mono ?_
      rintro e w1 ⟨rfl, rfl⟩
      go_wp2_with fail
      refine (P2 _).mono ?_
      rintro e w1 ⟨rfl, rfl⟩
      go_wp2
      go_ret2
      exact ⟨_, rfl, RdI.nil _ _ _, Below.refl _ _⟩
  · rw [show (decide ((0 : Int) ≤ s) && decide (s ≤ 2147483646)) = false by simp; omega] at P1
    rw [mAud_no (by omega)]
    go_enter Try.func23, Try.ntmps23
    go_wp2_with fail
    refine (P1 _).mono ?_
    rintro e w1 ⟨rfl, rfl⟩
    go_wp2
    go_ret2
    exact ⟨_, rfl, RdI.nil _ _ _, Below.refl _ _⟩
/-- A row of numbers that have been laid from 0 on. -/
def layF (k : Nat) : Nat → Value := fun i => if i < k then .int .i64 (i : Int) else .int .i64 0
set_option maxHeartbeats 2000000 in
set_option maxRecDepth 100000 in
theorem iAud (s n : Int) (w : World) (wf0 : (Lit.int .i64 s).wf = true) (wf1 : (Lit.int .i64 n).wf = true) :
    Calls Try.prog 24 #[.int .i64 s, .int .i64 n] w (QIb (mAud s n) w) := by
  by_cases h1 : s < 0
  · rw [mAud_no (by omega)]
    go_enter Try.func24, Try.ntmps24
    go_wp2
    go_ret2
    exact ⟨_, rfl, OwI.nil _ _ _, Below.refl _ _⟩
  by_cases h2 : 2147483646 < s
  · rw [mAud_no (by omega)]
    go_enter Try.func24, Try.ntmps24
    go_wp2
    go_ret2
    exact ⟨_, rfl, OwI.nil _ _ _, Below.refl _ _⟩
  by_cases h3 : n < 0
  · rw [mAud_no (by omega)]
    go_enter Try.func24, Try.ntmps24
    go_wp2
    go_ret2
    exact ⟨_, rfl, OwI.nil _ _ _, Below.refl _ _⟩
  by_cases h4 : 30 < n
  · rw [mAud_no (by omega)]
    go_enter Try.func24, Try.ntmps24
    go_wp2
    go_ret2
    exact ⟨_, rfl, OwI.nil _ _ _, Below.refl _ _⟩
  obtain ⟨m, rfl⟩ : ∃ m : Nat, n = (m : Int) := ⟨n.toNat, by omega⟩
  rw [mAud_yes ⟨by omega, by omega⟩ (by omega)]
  have HS : Hid (sdOk s) := ⟨by omega, by omega⟩
  have hmk := fun W : World => run_make_row' (w := W) (P := Try.prog) 26 2 (.int .i64 0) 8 Try.underlying26 infoI rfl .i64 .i64 m (by omega) (by omega)
  have hb0 : Below w.heap.size w (w.alloc (.cells (madeCells #[.int .i64 0] m) 2)) := (Below.refl _ _).alloc (Nat.le_refl _) _
  have hr0 := (World.rowIs_made w (.int .i64 0) m 2).congr (g := layF 0) (fun i _ => by simp [layF])
  have wm : 0 < m → IntKind.i64.wrap ((m : Int) - 1) = ((m - 1 : Nat) : Int) := fun h => by rw [IntKind.wrap_i64]; omega
  have wm2 : 0 < m → (m : Int) - 1 = ((m - 1 : Nat) : Int) := fun h => by omega
  have H1 := Lib.hid wm
  have H2 := Lib.hid wm2
  clear wm wm2
  go_enter Try.func24, Try.ntmps24
  go_wp2
  go_loopg [27] m (fun g i wr => ∃ k : Nat, k ≤ m ∧ g = m - k ∧ i = .int .i64 (k : Int) ∧ Hid (wr.rowIs w.heap.size 2 m (layF k)) ∧ Below w.heap.size w wr)
  case atStart => exact ⟨0, Nat.zero_le _, rfl, rfl, Lib.hid hr0, hb0⟩
  case round =>
    clear hmk hb0 hr0
    obtain ⟨k, hk, rfl, rfl, HR, hb⟩ := hrel
    by_cases hlt : k < m
    · have c1 : wr.cell? ⟨w.heap.size, k, none⟩ = some (layF k k) := HR.out.cell hlt
      have z1 : wr.frozen? ⟨w.heap.size, k, none⟩ = false := HR.out.frozen k
      go_wp2
      go_roundg (m - (k + 1))
      case measure => omega
      case rel =>
        refine ⟨k + 1, by omega, rfl, by simp, Lib.hid ((HR.out.set k _).congr (fun i _ => ?_)), hb.setCell (Nat.le_refl _) _⟩
        unfold layF
        by_cases e : i = k
        · subst e; simp
        · rw [if_neg e]
          by_cases hi : i < k
          · rw [if_pos hi, if_pos (by omega)]
          · rw [if_neg hi, if_neg (by omega)]
    · have e : k = m := by omega
      subst e
      have hrow : Hid (wr.rowIs w.heap.size 2 k (rowF k (fun j => (j : Int)) (layF k))) := Lib.hid (HR.out.congr (fun i hi => by rw [rowF_at hi]; simp [layF, hi]))
      have hsz := hb.size
      have hlt0 := HR.out.lt
      clear HR hlt
      by_cases h0 : k = 0
      · subst h0
        clear H1 H2
        go_wp2
        go_loopg [0, 8] 0 (fun g u i wr2 => i = .int .i64 (-1) ∧ wr = wr2)
        case atStart => exact ⟨rfl, rfl⟩
        case round =>
          obtain ⟨rfl, rfl⟩ := hrel
          go_wp2
          go_ret2
          exact ⟨_, rfl, ⟨.inr ⟨_, _, 0, _, rfl, Nat.le_refl _, hlt0, Nat.le_refl _, hrow.out, fun i hi => absurd hi (by simp [shL])⟩, by simp [shL]⟩, hb⟩
      · obtain ⟨q, hq⟩ : ∃ q, k - 1 = q := ⟨_, rfl⟩
        have wm := H1.out (by omega)
        have wm2 := H2.out (by omega)
        rw [hq] at wm wm2
        have hqk : q < k := by omega
        have hkk : k ≤ 30 := by omega
        have HQ : Hid (k - 1 = q) := Lib.hid hq
        clear H1 H2 hq h0
        obtain ⟨w1, hw1⟩ : ∃ w1, wr = w1 := ⟨_, rfl⟩
        subst hw1
        go_wp2
        go_loopg [0, 8] q (fun g u i wr2 => ∃ (j : Nat) (x : Int) (f : Nat → Int), j ≤ q ∧ g = j ∧ u = .int .i64 x ∧ i = .int .i64 (j : Int) ∧ Hid (sdOk x) ∧ Hid (wr2.rowIs w.heap.size 2 k (rowF k f (layF k))) ∧ Below w.heap.size w wr2 ∧ Hid (shF x f j = shF s (fun j => (j : Int)) q))
        case atStart => exact ⟨q, s, _, Nat.le_refl _, rfl, rfl, by first | rfl | (rw [wm]) | simp, HS, hrow, hb, rfl⟩
        case round =>
          clear hrow hb wm wm2 HS hsz hlt0
          obtain ⟨i, x, f, hj, hg, rfl, rfl, HX, HR, hb, HH⟩ := hrel
          have hg' := hg.symm
          subst hg'
          clear hg
          by_cases hi0 : i = 0
          · subst hi0
            go_wp2
            go_ret2
            exact ⟨_, rfl, ow_of_rowF (Nat.le_refl _) HR.out.lt (Nat.le_refl _) (by omega) HR.out (by rw [HQ.out]; exact HH.out), hb⟩
          · obtain ⟨j, hij⟩ : ∃ j, i = j + 1 := ⟨i - 1, by omega⟩
            obtain ⟨p, q', r, a, b, t, f1, f2, f3, f4, f5, f6, f7, f8, f9, f10, f11, f12, f13, f14, f15, f16, f17, f18, f19⟩ := au_step x j HX.out (by omega)
            have hib : (i : Int) + 1 = b := by omega
            have wi : IntKind.i64.wrap ((i : Int) - 1) = (j : Int) := by rw [IntKind.wrap_i64]; omega
            have wi2 : (i : Int) - 1 = (j : Int) := by omega
            have hi1 : (1 : Int) ≤ (i : Int) := by omega
            have tle : t < k := by omega
            have ile : i < k := by omega
            have hc9 := HR.out.lt
            have HSW := Lib.hid (rowF_sw2 k f (layF k) (i := i) (j := t) ile tle)
            have HNX : Hid (sdOk r) := Lib.hid (by rw [f18]; exact nxt_ok _)
            have hik : i ≤ q := hj
            have HST : Hid (shF r (swF f i t) j = shF s (fun j => (j : Int)) q) := Lib.hid (by
              rw [← HH.out, hij]
              show _ = shF (nxt x) (swF f (j + 1) (nxt x % ((j : Int) + 2)).toNat) j
              rw [f19, ← f18])
            have HIJ := Lib.hid hij
            subst f16
            by_cases hti : t = i
            · subst hti
              have c1 : wr.cell? ⟨w.heap.size, t, none⟩ = some (.int .i64 (f t)) := (HR.out.cell (i := t) (by omega)).trans (by rw [rowF_at (by omega)])
              have z1 : wr.frozen? ⟨w.heap.size, t, none⟩ = false := HR.out.frozen t
              generalize hft : f t = ft' at c1
              have HFT := Lib.hid hft
              clear hft f18 f19 hij f10 hi0
              go_wp2_with fail
              have WI := Lib.hid wi
              have WI2 := Lib.hid wi2
              clear f1 f2 f3 f4 f5 f6 f7 f8 f11 f12 f13 f14 f15 hib wi wi2
              go_region_with (fail)
              all_goals
                go_wp2
                go_roundg j
                case measure => have := HIJ.out; omega
                case rel =>
                  refine ⟨j, r, swF f t t, by have := HIJ.out; omega, rfl, by simp, by simp [WI.out, WI2.out], HNX, Lib.hid ((World.rowIs.of_block ((HR.out.set t _).set t _) rfl).congr (fun k _ => ?_)), ((hb.setCell (Nat.le_refl _) _).setCell (Nat.le_refl _) _).drew, HST⟩
                  rw [← HSW.out k, HFT.out]
            · have c1 : wr.cell? ⟨w.heap.size, t, none⟩ = some (.int .i64 (f t)) := (HR.out.cell (i := t) (by omega)).trans (by rw [rowF_at (by omega)])
              have c2 : wr.cell? ⟨w.heap.size, i, none⟩ = some (.int .i64 (f i)) := (HR.out.cell (i := i) (by omega)).trans (by rw [rowF_at (by omega)])
              have z1 : wr.frozen? ⟨w.heap.size, t, none⟩ = false := HR.out.frozen t
              have z2 : wr.frozen? ⟨w.heap.size, i, none⟩ = false := HR.out.frozen i
              have hit : i ≠ t := fun e => hti e.symm
              generalize hfi : f i = fi' at c2
              generalize hft : f t = ft' at c1
              have HFI := Lib.hid hfi
              have HFT := Lib.hid hft
              clear hfi hft f18 f19 hij f10 hi0
              go_wp2_with fail
              have WI := Lib.hid wi
              have WI2 := Lib.hid wi2
              clear f1 f2 f3 f4 f5 f6 f7 f8 f11 f12 f13 f14 f15 hib wi wi2
              go_region_with (fail)
              all_goals
                go_wp2
                go_roundg j
                case measure => have := HIJ.out; omega
                case rel =>
                  refine ⟨j, r, swF f i t, by have := HIJ.out; omega, rfl, by simp, by simp [WI.out, WI2.out], HNX, Lib.hid ((World.rowIs.of_block ((HR.out.set i _).set t _) rfl).congr (fun k _ => ?_)), ((hb.setCell (Nat.le_refl _) _).setCell (Nat.le_refl _) _).drew, HST⟩
                  rw [← HSW.out k, HFI.out, HFT.out]
end Go.Proofs.Ytgoocglcgkfgmaa
