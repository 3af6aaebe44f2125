/- Shares of a whole: the program, walked. -/
import Derived.Test.YtbbdilpbblijaaaSo4
import Derived.Test.YtbbdilpbblijaaaK2v
namespace Go.Proofs.Ytbbdilpbblijaaa
open Go.ChangeShapes Go.WideShapes Go.ChangeAt Go.RowKit Go.Deep
set_option linter.unusedSimpArgs false
set_option linter.unusedVariables false
set_option maxHeartbeats 4000000 in
set_option maxRecDepth 100000 in
theorem iSOany (t : Int) (W : List Int) (w : World) (ht : (Lit.int .i64 t).wf = true) (lo cap : Nat) (hlw : lo < w.heap.size) (hcell : ∀ i, i < W.length → w.cell? ⟨lo, i, none⟩ = some (.int .i64 (W.getD i 0))) (hl : W.length ≤ 1048576) : Calls Try.prog 6 #[.int .i64 t, .slice (some ⟨lo, 0, none⟩) W.length cap] w (QIb (mSO t W) w) := by
  have hrv : RowV w (.slice (some ⟨lo, 0, none⟩) W.length cap) W := .inr ⟨⟨lo, 0, none⟩, cap, rfl, fun _ => hlw, fun i hi => by rw [Addr.add_lit, Nat.zero_add]; exact hcell i hi⟩
  have HCL := Lib.hid hcell
  clear hcell
  have HWS := iwsum _ W w hrv hl
  unfold QIb mSO
  obtain ⟨zt, hzt⟩ : ∃ z, inB t 0 1000000000 = z := ⟨_, rfl⟩
  obtain ⟨zs, hzs⟩ : ∃ z, inB (tot W) 1 1000000000 = z := ⟨_, rfl⟩
  have hno : (decide (W.length ≤ 20) && inB (tot W) 1 1000000000) = zs := by
    rw [hzs]
    cases zs with
    | false => simp
    | true =>
      have : W.length ≤ 20 := by
        by_cases q : W.length ≤ 20
        · exact q
        · have : tot W = -1 := by unfold tot; rw [decide_eq_false q]; simp
          rw [this] at hzs
          simp [inB] at hzs
      rw [decide_eq_true this]; rfl
  have HNO := Lib.hid hno
  rw [hzt, hzs]
  have HZT := Lib.hid hzt
  have HZS := Lib.hid hzs
  clear hno hzt hzs
  cases zs with
  | false =>
    rw [show (if (zt && false) = true then (partL t W, true) else ([], false)) = (([], false) : List Int × Bool) by cases zt <;> rfl]
    go_enter Try.func6, Try.ntmps6
    go_wp2_with fail
    refine HWS.mono ?_
    rintro e w1 ⟨x, z, rfl, rfl, hz, hx⟩
    rw [HNO.out] at hz
    subst hz
    clear hx
    go_wp2
    go_ret2
    exact ⟨_, rfl, OwI.nil _ _ _, Below.refl _ _⟩
  | true =>
    cases zt with
    | false =>
      have hto : t < 0 ∨ 1000000000 < t := by
        have := HZT.out
        by_cases q : 0 ≤ t ∧ t ≤ 1000000000
        · rw [inB_yes q.1 q.2] at this; cases this
        · omega
      rcases hto with q | q
      all_goals
        go_enter Try.func6, Try.ntmps6
        go_wp2_with fail
        refine HWS.mono ?_
        rintro e w1 ⟨x, z, rfl, rfl, hz, hx⟩
        rw [HNO.out] at hz
        subst hz
        clear hx
        go_wp2
        go_ret2
        exact ⟨_, rfl, OwI.nil _ _ _, Below.refl _ _⟩
    | true =>
      obtain ⟨hok, hte, hn0⟩ := wOk_of (t := t) (W := W) (by rw [HZT.out, HZS.out]; rfl)
      have hok' := hok
      obtain ⟨t1, t2, n20, hW, s1, s2⟩ := hok'
      have HOK := Lib.hid hok
      have HWW := Lib.hid hW
      obtain ⟨tn, rfl⟩ : ∃ n : Nat, t = n := ⟨t.toNat, by omega⟩
      obtain ⟨S, hS⟩ : ∃ S, wsum W W.length = S := ⟨_, rfl⟩
      rw [hS] at s1 s2
      obtain ⟨sn, rfl⟩ : ∃ n : Nat, S = n := ⟨S.toNat, by omega⟩
      have HS := Lib.hid hS
      have HXS : Hid (∀ x : Int, x = wsum W W.length → x = (sn : Int)) := Lib.hid (fun x hx => by rw [hx, hS])
      have hmk := fun w => run_make_row' (P := Try.prog) 24 2 (.int .i64 0) 8 Try.underlying24 infoI rfl .i64 .i64 W.length (by omega) (by omega) w
      have hlft := lft_bd hok hn0
      have HLF := Lib.hid hlft
      obtain ⟨A, hA⟩ : ∃ A, A = (w.alloc (.cells (madeCells #[.int .i64 0] W.length) 2)).alloc (.cells (madeCells #[.int .i64 0] W.length) 2) := ⟨_, rfl⟩
      have bA : Below w.heap.size w A := by rw [hA]; exact ((Below.refl w.heap.size w).alloc (Nat.le_refl _) _).alloc (by simp) _
      have rP : A.rowIs w.heap.size 2 W.length (upF (bse tn W) 0) := by
        rw [hA]
        exact (World.rowIs.of_block (World.rowIs_made w (.int .i64 0) W.length 2) (blk_alloc_lt _ _ _ (by simp))).congr (fun j _ => by simp [upF])
      have rR : A.rowIs (w.heap.size + 1) 2 W.length (upF (rst tn W) 0) := by
        rw [hA]
        have := World.rowIs_made (w.alloc (.cells (madeCells #[.int .i64 0] W.length) 2)) (.int .i64 0) W.length 2
        simp only [World.size_alloc] at this
        exact this.congr (fun j _ => by simp [upF])
      rw [hA] at bA rP rR
      have BA := Lib.hid bA
      have RP := Lib.hid rP
      have RR := Lib.hid rR
      have hl0 : Hid ((tn : Int) = lft tn W 0) := Lib.hid (by simp [lft, bsum])
      have HR0 := Lib.hid hrv
      clear hok hte hW hS hlft bA rP rR hA hrv
      go_enter Try.func6, Try.ntmps6
      go_wp2_with fail
      refine HWS.mono ?_
      rintro e w1 ⟨x, z, rfl, rfl, hz, hx⟩
      rw [HNO.out] at hz
      subst hz
      obtain rfl := HXS.out x (hx rfl)
      clear hx HWS HXS
      go_wp2
      go_loopg [10, 39] W.length (fun g lv i wr => ∃ (k : Nat) (z : Int), k ≤ W.length ∧ g = W.length - k ∧ lv = .int .i64 z ∧ i = .int .i64 k ∧ Hid (z = lft tn W k) ∧ 0 ≤ z ∧ z ≤ 1000000000 ∧ Below w.heap.size w wr ∧ wr.rowIs w.heap.size 2 W.length (upF (bse tn W) k) ∧ wr.rowIs (w.heap.size + 1) 2 W.length (upF (rst tn W) k))
      case atStart => exact ⟨0, tn, Nat.zero_le _, rfl, rfl, rfl, hl0, t1, t2, BA.out, RP.out, RR.out⟩
      case round =>
        clear BA RP RR hmk hl0
        obtain ⟨k, z, hk, rfl, rfl, rfl, HZ, z1, z2, hb, hP, hR⟩ := hrel
        by_cases hlt : k < W.length
        · have c0 := (hb.cell (p := ⟨lo, k, none⟩) hlw).trans (HCL.out k hlt)
          have hwk := HWW.out k hlt
          obtain ⟨y, hy⟩ : ∃ y, W.getD k 0 = y := ⟨_, rfl⟩
          rw [hy] at hwk
          simp only [hy] at c0
          obtain ⟨y1, y2⟩ := hwk
          obtain ⟨yn, rfl⟩ : ∃ n : Nat, y = n := ⟨y.toNat, by omega⟩
          obtain ⟨hb1, hr1⟩ := bse_nat (W := W) (t := (tn : Int)) rfl hy HS.out
          have hls := lft_succ tn W k
          have hlp := lft_pos HOK.out hn0 (k := k + 1) (by omega)
          have hbp := bse_bd HOK.out hlt
          have HX := iexact tn yn sn wr (by omega) (by omega) (by omega) (by omega)
          obtain ⟨q, hq⟩ : ∃ q : Nat, tn * yn / sn = q := ⟨_, rfl⟩
          obtain ⟨r, hr⟩ : ∃ r : Nat, tn * yn % sn = r := ⟨_, rfl⟩
          rw [hq, hr] at HX
          rw [hq] at hb1
          rw [hr] at hr1
          rw [hb1] at hls hbp
          have HB1 := Lib.hid hb1
          have HR1 := Lib.hid hr1
          have hz2 : lft tn W (k + 1) = z - q := by rw [hls, ← HZ.out]
          rw [hz2] at hlp
          have HZ2 := Lib.hid hz2
          have wz : IntKind.i64.wrap (z - q) = z - q := by rw [IntKind.wrap_i64]; omega
          clear hq hr hy hls hb1 hr1 hz2
          go_wp2_with fail
          refine HX.mono ?_
          rintro e w2 ⟨rfl, hd⟩
          have hbw := hd.below
          have hb2 := hb.trans (hbw.mono hb.size)
          have hP2 := World.rowIs.of_block hP (hbw.block _ hP.lt)
          have hR2 := World.rowIs.of_block hR (hbw.block _ hR.lt)
          have c1 := hP2.cell (i := k) hlt
          have c2 := hR2.cell (i := k) hlt
          have f1 := hP2.frozen k
          have f2 := hR2.frozen k
          clear hd hbw hP hR c0
          go_wp2
          go_roundg (W.length - (k + 1))
          case measure => omega
          case rel =>
            refine ⟨k + 1, z - q, by omega, rfl, by first | rfl | rw [wz], by simp, HZ2.out.symm, by omega, by omega, (hb2.setCell (Nat.le_refl _) _).setCell (by show _ ≤ _ + _; omega) _, ?_, ?_⟩
            · exact World.rowIs.setOther ((hP2.set k _).congr (fun j _ => upF_step _ _ _ HB1.out j)) (by show _ ≠ _ + _; omega) _
            · exact ((World.rowIs.setOther hR2 (by show w.heap.size + 1 ≠ w.heap.size; omega) _).set k _).congr (fun j _ => upF_step _ _ _ HR1.out j)
        · have e : k = W.length := by omega
          subst e
          have hlfb := HLF.out
          rw [← HZ.out] at hlfb
          obtain ⟨lf, hlf⟩ : ∃ n : Nat, z = n := ⟨z.toNat, by omega⟩
          have hll : lf < W.length := by omega
          have HL : Hid ((lft tn W W.length).toNat = lf) := Lib.hid (by rw [← HZ.out, hlf]; simp)
          subst hlf
          have hVl := rstL_len tn W
          have hrow : RowV wr (.slice (some ⟨w.heap.size + 1, 0, none⟩) (rstL tn W).length W.length) (rstL tn W) := .inr ⟨⟨w.heap.size + 1, 0, none⟩, W.length, rfl, fun _ => hR.lt, fun i hi => by
            rw [hVl] at hi
            rw [Addr.add_lit, Nat.zero_add, hR.cell (i := i) hi, rstL_at _ _ hi]; simp [upF, hi]⟩
          have HG := gfirst (rstL tn W) _ wr hrow (by rw [hVl]; omega) (by rw [hVl]; omega)
          rw [hVl, ordS_eq] at HG
          clear hrow hVl HZ hlfb
          go_wp2_with fail
          refine HG.mono ?_
          rintro e w3 ⟨⟨E, rfl, hE, hroE⟩, hb3⟩
          have hP3 : w3.rowIs w.heap.size 2 W.length (fun j => .int .i64 (part tn W (ordS tn W) 0 j)) := (World.rowIs.of_block hP (hb3.block _ hP.lt)).congr (fun j hj => by simp [upF, hj, part_zero])
          have hb4 := hb.trans (hb3.mono hb.size)
          have hRl := hR.lt
          have hlE : E < w3.heap.size := hroE.lt
          clear hP hR hb hb3 HG
          go_wp2
          go_loopg [69] lf (fun g i wi => ∃ s : Nat, s ≤ lf ∧ g = lf - s ∧ i = .int .i64 (s : Int) ∧ Below w.heap.size w wi ∧ Kept w3 wi (fun b => b = w.heap.size) ∧ wi.rowIs w.heap.size 2 W.length (fun j => .int .i64 (part tn W (ordS tn W) s j)))
          case atStart => exact ⟨0, Nat.zero_le _, rfl, rfl, hb4, Kept.refl _ _, hP3⟩
          case round =>
            clear hP3 hb4
            obtain ⟨s, hs, rfl, rfl, hb5, hk5, hP5⟩ := hrel
            by_cases hsl : s < lf
            · obtain ⟨q, hq⟩ : ∃ q, (ordS tn W).getD s 0 = q := ⟨_, rfl⟩
              have hqn := (ordS_at tn W (show s < W.length by omega)).1
              have cE := (hk5.cell (p := ⟨E, s, none⟩) hlE (by show ¬ E = _; omega)).trans (hroE.cell (i := s) (by omega))
              rw [hq] at hqn
              simp only [hq] at cE
              have cP := hP5.cell (i := q) hqn
              have fP := hP5.frozen q
              have hpb := part_bd HOK.out (ordS tn W) s hqn
              have hst := fun j => part_step tn W (show s < W.length by omega) hq j
              have HST := Lib.hid hst
              obtain ⟨v, hv⟩ : ∃ v, part tn W (ordS tn W) s q = v := ⟨_, rfl⟩
              rw [hv] at hpb
              simp only [hv] at cP
              have HV := Lib.hid hv
              have wv : IntKind.i64.wrap (v + 1) = v + 1 := by rw [IntKind.wrap_i64]; omega
              clear hst hq hv
              go_wp2
              go_roundg (lf - (s + 1))
              case measure => omega
              case rel =>
                refine ⟨s + 1, by omega, rfl, by simp, hb5.setCell (Nat.le_refl _) _, hk5.trans (Kept.set _ _ _ rfl), (hP5.set q _).congr (fun j _ => ?_)⟩
                rw [HST.out j, HV.out]
                by_cases e : j = q
                · rw [if_pos e, if_pos e]
                · rw [if_neg e, if_neg e]
            · have e : s = lf := by omega
              subst e
              go_wp2
              go_ret2
              have hpl : (partL tn W).length = W.length := by simp [partL]
              refine ⟨_, rfl, ⟨.inr ⟨w.heap.size, W.length, W.length, _, by show _ = Value.slice _ (partL tn W).length _; rw [hpl]; rfl, Nat.le_refl _, hP5.lt, by show (partL tn W).length ≤ _; rw [hpl]; exact Nat.le_refl _, hP5, fun i hi => ?_⟩, by show (partL tn W).length ≤ _; rw [hpl]; exact hl⟩, hb5⟩
              have hi : i < W.length := by rw [← hpl]; exact hi
              have : (partL tn W).getD i 0 = part tn W (ordS tn W) (lft tn W W.length).toNat i := by simp [partL, List.getD, hi]
              show _ = Value.int .i64 ((partL tn W).getD i 0)
              rw [this, HL.out]
theorem iSO (t : Int) (W : List Int) (w : World) (ht : (Lit.int .i64 t).wf = true) (lo hi : Nat) (u : Value) (h : CpI w lo hi u W) : Calls Try.prog 6 #[.int .i64 t, u] w (QIb (mSO t W) w) := by
  obtain ⟨rfl, hrow0, hlo, hl⟩ := h
  exact iSOany t W w ht lo W.length (World.rowIs.lt hrow0) (fun i hi => World.rowIs.cell hrow0 (i := i) hi) hl
end Go.Proofs.Ytbbdilpbblijaaa
