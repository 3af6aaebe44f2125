/- The law FnShared, walked. -/
import Derived.Test.YtbbdilpbblijaaaFs1
import Derived.Test.YtbbdilpbblijaaaFs2
import Derived.Test.YtbbdilpbblijaaaSo5
namespace Go.Proofs.Ytbbdilpbblijaaa
open Go.ChangeShapes Go.WideShapes Go.ChangeAt Go.RowKit Go.Deep
set_option linter.unusedSimpArgs false
set_option linter.unusedVariables false
theorem wsum_le11 {W : List Int} (h : ∀ k, k < W.length → 0 ≤ W.getD k 0 ∧ W.getD k 0 ≤ 11) {k : Nat} (hk : k ≤ W.length) : 0 ≤ wsum W k ∧ wsum W k ≤ 11 * k := by
  induction k with
  | zero => simp [wsum]
  | succ k ih =>
    have a := ih (by omega)
    have b := h k (by omega)
    rw [wsum_succ W k (by omega)]
    omega
theorem wsum_pos {W : List Int} (h : ∀ k, k < W.length → 0 ≤ W.getD k 0 ∧ W.getD k 0 ≤ 11) (h1 : 1 ≤ W.getD 0 0) {k : Nat} (h0 : 1 ≤ k) (hk : k ≤ W.length) : 1 ≤ wsum W k := by
  induction k with
  | zero => omega
  | succ k ih =>
    have b := h k (by omega)
    rw [wsum_succ W k (by omega)]
    by_cases q : k = 0
    · subst q; rw [show wsum W 0 = 0 by simp [wsum]]; omega
    · have := ih (by omega) (by omega); omega
theorem drawn_ok {t : Int} {W : List Int} (h : drawn t W) : wOk t W ∧ mSO t W = (partL t W, true) := by
  obtain ⟨t1, t2, l1, l2, h0, hW⟩ := h
  have a := wsum_le11 hW (Nat.le_refl W.length)
  have b := wsum_pos hW h0 l1 (Nat.le_refl W.length)
  have hr : ∀ k, k < W.length → 0 ≤ W.getD k 0 ∧ W.getD k 0 ≤ 1000000000 := fun k hk => by have := hW k hk; omega
  refine ⟨⟨t1, by omega, by omega, hr, b, by omega⟩, ?_⟩
  have ht : tot W = wsum W W.length := by unfold tot; rw [decide_eq_true (by omega : W.length ≤ 20), wInB_yes hr]; rfl
  unfold mSO
  rw [ht, inB_yes t1 (by omega), inB_yes b (by omega)]; rfl
set_option maxHeartbeats 4000000 in
set_option maxRecDepth 100000 in
theorem lawShared (v0 v1 : Value) (len0 len1 : Nat) (w : World) (h0 : ByteV w.heap.size w v0 len0) (h1 : ByteV w.heap.size w v1 len1) :
    Calls Try.prog 3 #[v0, v1] w fun e w' => e = .returned (.bool true) ∧ Below w.heap.size w w' := by
  obtain ⟨a0, c0, rfl⟩ := h0.shape
  obtain ⟨a1, c1, rfl⟩ := h1.shape
  clear h1
  have HL : ∀ z, (decide (1048576 < len0) || decide (1048576 < len1)) = z → Calls Try.prog 4 #[.slice a0 len0 c0, .slice a1 len1 c1] w fun e w' => e = .returned (.bool z) ∧ w = w' := fun z hz => by
    by_cases q0 : 1048576 < len0
    · rw [decide_eq_true q0] at hz
      subst hz
      go_enter Try.func4, Try.ntmps4
      go_wp2
      go_ret
      exact ⟨rfl, rfl⟩
    · rw [decide_eq_false q0] at hz
      by_cases q1 : 1048576 < len1
      · rw [decide_eq_true q1] at hz
        subst hz
        go_enter Try.func4, Try.ntmps4
        go_wp2
        go_ret
        exact ⟨by first | rfl | (simp; omega), rfl⟩
      · rw [decide_eq_false q1] at hz
        subst hz
        go_enter Try.func4, Try.ntmps4
        go_wp2
        go_ret
        exact ⟨by first | rfl | (simp; omega), rfl⟩
  obtain ⟨z, hz⟩ : ∃ z, (decide (1048576 < len0) || decide (1048576 < len1)) = z := ⟨_, rfl⟩
  have HLL := HL z hz
  clear HL
  cases z with
  | true =>
    clear hz h0
    go_enter Try.func3, Try.ntmps3
    go_wp2_with fail
    refine HLL.mono ?_
    rintro e w1 ⟨rfl, rfl⟩
    go_wp2
    go_ret
    exact ⟨rfl, Below.refl _ _⟩
  | false =>
    have hlen : len0 ≤ 1048576 := by simp at hz; omega
    have HW := b10w _ len0 w h0 hlen
    clear hz h0
    go_enter Try.func3, Try.ntmps3
    go_wp2_with fail
    refine HLL.mono ?_
    rintro e w1 ⟨rfl, rfl⟩
    go_wp2_with fail
    refine HW.mono ?_
    rintro e w1 ⟨⟨t, W, lo, cap, rfl, hdr, hlo, hcell⟩, hb1⟩
    obtain ⟨hok, hm⟩ := drawn_ok hdr
    obtain ⟨t1, t2, l1, l2, d0, hW⟩ := hdr
    have hn0 : 0 < W.length := by omega
    have HS := iSOany t W w1 (Go.WalkArith.wf_i64 ⟨by omega, by omega⟩) lo cap hlo hcell (by omega)
    rw [hm] at HS
    have HOK := Lib.hid hok
    have HWW := Lib.hid hW
    have HC := Lib.hid hcell
    have hwb : 1 ≤ wsum W W.length ∧ wsum W W.length ≤ 77 := by
      have a := wsum_le11 hW (Nat.le_refl W.length)
      have b := wsum_pos hW d0 l1 (Nat.le_refl W.length)
      omega
    have HWB := Lib.hid hwb
    clear hm hok hW hcell HLL HW hwb
    go_wp2_with fail
    refine HS.mono ?_
    intro e w2 hp
    obtain ⟨vp, rfl, hop, hb2⟩ := hp.out
    have hrd := hop.rd.1
    obtain ⟨x, cp, rfl, hx, hpc⟩ := hrd.cons (by intro q; have := partL_len t W; rw [q] at this; simp at this; omega)
    rw [partL_len]
    have hpc2 : ∀ i, i < W.length → w2.cell? (x.add i) = some (.int .i64 (part t W (ordS t W) (lft t W W.length).toNat i)) := fun i hi => by
      rw [hpc i (by rw [partL_len]; exact hi), partL_at t W hi]
    have hwc2 : ∀ i, i < W.length → w2.cell? ⟨lo, i, none⟩ = some (.int .i64 (W.getD i 0)) := fun i hi => (hb2.cell (p := ⟨lo, i, none⟩) hlo).trans (HC.out i hi)
    have HP := Lib.hid hpc2
    have HC2 := Lib.hid hwc2
    have b2 := hb1.trans (hb2.mono hb1.size)
    have hlo2 : lo < w2.heap.size := by have := hb2.size; omega
    clear hp hop hrd hpc hpc2 hwc2 HS HC hb1 hb2
    obtain ⟨O, hO⟩ : ∃ O, ordS t W = O := ⟨_, rfl⟩
    obtain ⟨lf, hlf⟩ : ∃ lf, (lft t W W.length).toNat = lf := ⟨_, rfl⟩
    have hmono := fun i k (hi : i < W.length) (hk : k < W.length) => part_mono HOK.out (i := i) (k := k) hi hk
    have htot := psum_total HOK.out hn0
    have hpb := fun j (hj : j < W.length) => part_bd HOK.out (ordS t W) (lft t W W.length).toNat hj
    rw [hO, hlf] at htot
    simp only [hO, hlf] at hmono hpb
    have HP' : Hid (∀ i, i < W.length → w2.cell? (x.add i) = some (.int .i64 (part t W O lf i))) := Lib.hid (fun i hi => by rw [HP.out i hi, hO, hlf])
    have HM := Lib.hid hmono
    have HT := Lib.hid htot
    have HPB := Lib.hid hpb
    clear hmono htot hpb HP hO hlf
    go_wp2
    go_loopg [9, 10, 11] W.length (fun g av sv iv wr => ∃ (k : Nat) (A S : Int), k ≤ W.length ∧ g = W.length - k ∧ av = .int .i64 A ∧ sv = .int .i64 S ∧ iv = .int .i64 (k : Int) ∧ 0 ≤ A ∧ A ≤ 11 * k ∧ 0 ≤ S ∧ S ≤ 1000000000000000001 * k ∧ Hid (A = wsum W k) ∧ Hid (S = psum t W O lf k) ∧ w2 = wr)
    case atStart => exact ⟨0, 0, 0, Nat.zero_le _, rfl, rfl, rfl, rfl, by omega, by omega, by omega, by omega, Lib.hid (by simp [wsum]), Lib.hid (by simp [psum]), rfl⟩
    case round =>
      obtain ⟨k, A, S, hk, rfl, rfl, rfl, rfl, a1, a2, s1, s2, HA, HSS, rfl⟩ := hrel
      by_cases hlt : k < W.length
      · have cw := HC2.out k hlt
        have cp := HP'.out k hlt
        have hwk := HWW.out k hlt
        have hpk := HPB.out k hlt
        have hws := wsum_succ W k hlt
        have hps := psum_succ t W O lf k
        obtain ⟨y, hy⟩ : ∃ y, W.getD k 0 = y := ⟨_, rfl⟩
        obtain ⟨p, hp⟩ : ∃ p, part t W O lf k = p := ⟨_, rfl⟩
        rw [hy] at cw hwk hws
        rw [hp] at cp hpk hps
        have HA2 : Hid (A + y = wsum W (k + 1)) := Lib.hid (by rw [hws, ← HA.out])
        have HS2 : Hid (S + p = psum t W O lf (k + 1)) := Lib.hid (by rw [hps, ← HSS.out])
        have wa : IntKind.i64.wrap (A + y) = A + y := by rw [IntKind.wrap_i64]; omega
        have ws : IntKind.i64.wrap (S + p) = S + p := by rw [IntKind.wrap_i64]; omega
        clear hy hp hws hps
        go_wp2
        go_roundg (W.length - (k + 1))
        case measure => omega
        case rel => exact ⟨k + 1, A + y, S + p, by omega, rfl, by first | rfl | rw [wa], by first | rfl | rw [ws], by simp, by omega, by simp; omega, by omega, by simp; omega, HA2, HS2, rfl⟩
      · have e : k = W.length := by omega
        subst e
        have hAw : 1 ≤ A ∧ A ≤ 77 := by rw [HA.out]; exact HWB.out
        have hSt : t = S := by rw [HSS.out]; exact HT.out.symm
        subst hSt
        have HA3 := Lib.hid HA.out
        go_wp2
        go_loopg [12] W.length (fun g iv wr => ∃ i : Nat, i ≤ W.length ∧ g = W.length - i ∧ iv = .int .i64 (i : Int) ∧ Drw w2 wr)
        case atStart => exact ⟨0, Nat.zero_le _, rfl, rfl, Drw.refl _⟩
        case round =>
          obtain ⟨i, hi, rfl, rfl, hd⟩ := hrel
          by_cases hil : i < W.length
          · have cw := (hd.below.cell (p := ⟨lo, i, none⟩) hlo2).trans (HC2.out i hil)
            have cp := (hd.below.cell (p := x.add i) (by rw [block_add]; exact hx)).trans (HP'.out i hil)
            have hwi := HWW.out i hil
            have hpi := HPB.out i hil
            have hbe : bse t W i = t * W.getD i 0 / A := by unfold bse; rw [← HA3.out]
            have hnear := part_near t W O lf i
            obtain ⟨y, hy⟩ : ∃ y, W.getD i 0 = y := ⟨_, rfl⟩
            rw [hy] at cw hwi hbe
            have hpb := prod_bd t1 (by omega) hwi.1 (by omega : y ≤ 1000000000)
            obtain ⟨p, hp⟩ : ∃ p, t * y = p := ⟨_, rfl⟩
            rw [hp] at hpb hbe
            obtain ⟨pb1, pb2⟩ := hpb
            have q1 := Int.ediv_nonneg pb1 (show 0 ≤ A by omega)
            have q2 := Int.ediv_le_self A pb1
            obtain ⟨q, hq⟩ : ∃ q, p / A = q := ⟨_, rfl⟩
            rw [hq] at hbe q1 q2
            rw [hbe] at hnear
            obtain ⟨v, hv⟩ : ∃ v, part t W O lf i = v := ⟨_, rfl⟩
            rw [hv] at cp hpi hnear
            have HV := Lib.hid hv
            have HY := Lib.hid hy
            have wp : IntKind.i64.wrap p = p := by rw [IntKind.wrap_i64]; omega
            have wq : IntKind.i64.wrap q = q := by rw [IntKind.wrap_i64]; omega
            have wq1 : IntKind.i64.wrap (q + 1) = q + 1 := by rw [IntKind.wrap_i64]; omega
            have nb : ((q + 1 : Int) != q) = true := bne_iff_ne.2 (by omega)
            clear hbe hv hy
            obtain ⟨w3, hw3⟩ : ∃ w3, w3 = wr := ⟨_, rfl⟩
            subst hw3
            have HD := Lib.hid hd
            rcases hnear with e | e
            all_goals
              subst e
              go_wp2
              (try rw [hq])
              go_loopg [14] W.length (fun g kv wi => ∃ k : Nat, k ≤ W.length ∧ g = W.length - k ∧ kv = .int .i64 (k : Int) ∧ Drw w2 wi)
              case atStart => exact ⟨0, Nat.zero_le _, rfl, rfl, HD.out⟩
              case round =>
                obtain ⟨k, hk, rfl, rfl, hdk⟩ := hrel
                by_cases hkl : k < W.length
                · have di := (hdk.below.cell (p := ⟨lo, i, none⟩) hlo2).trans (HC2.out i hil)
                  have dk := (hdk.below.cell (p := ⟨lo, k, none⟩) hlo2).trans (HC2.out k hkl)
                  have ei := (hdk.below.cell (p := x.add i) (by rw [block_add]; exact hx)).trans (HP'.out i hil)
                  have ek := (hdk.below.cell (p := x.add k) (by rw [block_add]; exact hx)).trans (HP'.out k hkl)
                  have hmo := HM.out i k hil hkl
                  rw [HY.out] at di hmo
                  rw [HV.out] at ei hmo
                  obtain ⟨yk, hyk⟩ : ∃ y, W.getD k 0 = y := ⟨_, rfl⟩
                  obtain ⟨pk, hpk⟩ : ∃ y, part t W O lf k = y := ⟨_, rfl⟩
                  rw [hyk] at dk hmo
                  rw [hpk] at ek hmo
                  clear hyk hpk cw cp
                  by_cases hlt2 : yk < y
                  · have hpp := hmo hlt2
                    clear hmo
                    go_wp2_with fail
                    go_quiet (fail)
                    go_wp2
                    go_roundg (W.length - (k + 1))
                    case measure => omega
                    case rel => exact ⟨k + 1, by omega, rfl, by simp, hdk.drewN _⟩
                  · clear hmo
                    have hdd : decide (yk < y) = false := decide_eq_false hlt2
                    have hle : y ≤ yk := by omega
                    go_wp2_with fail
                    go_quiet (fail)
                    go_wp2
                    go_roundg (W.length - (k + 1))
                    case measure => omega
                    case rel => exact ⟨k + 1, by omega, rfl, by simp, hdk.drewN _⟩
                · have ek : k = W.length := by omega
                  subst ek
                  go_wp2
                  go_roundg (W.length - (i + 1))
                  case measure => omega
                  case rel => exact ⟨i + 1, by omega, rfl, by simp, hdk⟩
          · have e : i = W.length := by omega
            subst e
            go_wp2
            go_ret
            exact ⟨by first | rfl | simp, b2.trans (hd.below.mono b2.size)⟩
end Go.Proofs.Ytbbdilpbblijaaa
