/- Shares of a whole: the specification, walked. -/
import Derived.Test.YtcoelccmfljlhaaSo6
import Derived.Test.YtcoelccmfljlhaaK2v
namespace Go.Proofs.Ytcoelccmfljlhaa
open Go.ChangeShapes Go.WideShapes Go.ChangeAt Go.RowKit Go.Deep
set_option linter.unusedSimpArgs false
set_option linter.unusedVariables false
set_option maxRecDepth 100000 in
theorem infoBool : (Try.prog.info? 4).map (fun i => (i.zero, i.size, i.bytes)) = some (some (.bool false), 1, 1) := by kernel_rfl
def bseL (t : Int) (W : List Int) (k : Nat) : List Int := (List.range k).map (bse t W)
theorem bseL_succ (t : Int) (W : List Int) (k : Nat) : bseL t W (k + 1) = bseL t W k ++ [bse t W k] := by
  unfold bseL
  rw [List.range_succ, List.map_append]; rfl
theorem bseL_len (t : Int) (W : List Int) (k : Nat) : (bseL t W k).length = k := by simp [bseL]
theorem bseL_at (t : Int) (W : List Int) {k i : Nat} (h : i < k) : (bseL t W k).getD i 0 = bse t W i := by simp [bseL, List.getD, h]
theorem snocM (l : List Int) (n : Int) : (l ++ [n]).map (Value.int .i64) = l.map (Value.int .i64) ++ [Value.int .i64 n] := by simp
theorem snocL (l : List Int) (n : Int) : (l ++ [n]).length = l.length + 1 := by simp
theorem ownBlk {w w' : World} {base size n : Nat} {e : TypeId} {v : Value} {xs : List Value} (h : w.ownsRow base e size v n xs) (hb : ∀ g, v.ownBlock = some g → g < w.heap.size → w'.heap[g]? = w.heap[g]?) : w'.ownsRow base e size v n xs := by
  obtain ⟨h0, h | ⟨g, cap, cur, rfl, h1, h2, h3⟩⟩ := h
  · exact ⟨h0, .inl h⟩
  · exact ⟨h0, .inr ⟨g, cap, cur, rfl, h1, (hb g rfl (Array.getElem?_eq_some_iff.1 h2).1).trans h2, h3⟩⟩
set_option maxHeartbeats 4000000 in
set_option maxRecDepth 100000 in
theorem sSO (t : Int) (W : List Int) (w : World) (ht : (Lit.int .i64 t).wf = true) (lo hi : Nat) (u : Value) (h : CpI w lo hi u W) : Calls Try.prog 28 #[.int .i64 t, u] w (PIb (mSO t W) w) := by
  obtain ⟨i0, hinf, hz0, hz1, hz2⟩ := info_parts infoI
  obtain ⟨rfl, hrow0, hlo, hl⟩ := h
  have hrv := hrow0.row W.length
  have HWS := stotal _ W w hrv hl
  unfold PIb mSO
  obtain ⟨zt, hzt⟩ : ∃ z, inB t 0 1000000000 = z := ⟨_, rfl⟩
  obtain ⟨zs, hzs⟩ : ∃ z, inB (tot W) 1 1000000000 = z := ⟨_, rfl⟩
  have HIT : ∀ w, Calls Try.prog 55 #[.int .i64 t, .int .i64 0, .int .i64 1000000000] w fun e w' => e = .returned (.bool zt) ∧ w = w' := fun w => by rw [← hzt]; exact in_val _ _ _ _
  have HIS : ∀ w, Calls Try.prog 55 #[.int .i64 (tot W), .int .i64 1, .int .i64 1000000000] w fun e w' => e = .returned (.bool zs) ∧ w = w' := fun w => by rw [← hzs]; exact in_val _ _ _ _
  have hwok : (zt && zs) = true → wOk t W ∧ tot W = wsum W W.length ∧ 0 < W.length := fun q => wOk_of (by rw [hzt, hzs]; exact q)
  have HOKK := Lib.hid hwok
  rw [hzt, hzs]
  clear hzt hzs hwok hrv
  obtain ⟨T, hT⟩ : ∃ T, tot W = T := ⟨_, rfl⟩
  rw [hT] at HWS HIS
  have HT := Lib.hid hT
  clear hT
  cases zt with
  | false =>
    rw [show (if (false && zs) = true then (partL t W, true) else ([], false)) = (([], false) : List Int × Bool) from rfl]
    go_enter Try.func28, Try.ntmps28
    go_wp2_with fail
    refine HWS.mono ?_
    rintro e w1 ⟨rfl, rfl⟩
    go_wp2_with fail
    refine (HIT _).mono ?_
    rintro e w1 ⟨rfl, rfl⟩
    go_wp2
    go_ret2
    exact ⟨_, rfl, RdI.nil _ _ _, Below.refl _ _⟩
  | true =>
    cases zs with
    | false =>
      go_enter Try.func28, Try.ntmps28
      go_wp2_with fail
      refine HWS.mono ?_
      rintro e w1 ⟨rfl, rfl⟩
      go_wp2_with fail
      refine (HIT _).mono ?_
      rintro e w1 ⟨rfl, rfl⟩
      go_wp2_with fail
      refine (HIS _).mono ?_
      rintro e w1 ⟨rfl, rfl⟩
      go_wp2
      go_ret2
      exact ⟨_, rfl, RdI.nil _ _ _, Below.refl _ _⟩
    | true =>
      obtain ⟨hok, hte, hn0⟩ := HOKK.out rfl
      have hok' := hok
      obtain ⟨t1, t2, n20, hW, s1, s2⟩ := hok'
      have HOK := Lib.hid hok
      have HWW := Lib.hid hW
      rw [HT.out] at hte
      rw [← hte] at s1 s2
      have HTE := Lib.hid hte
      have hlft := lft_bd hok hn0
      have HLF := Lib.hid hlft
      have hlw := World.rowIs.lt hrow0
      have hmk := fun w => run_make_row' (P := Try.prog) 68 4 (.bool false) 1 Try.underlying68 infoBool rfl .i64 .i64 W.length (by omega) (by omega) w
      have hown0 : (w.alloc (.cells #[] 2)).ownsRow w.heap.size 2 1 (.slice (some ⟨w.heap.size, 0, none⟩) 0 0) 0 (([] : List Int).map (Value.int .i64)) := World.ownsRow_lit w #[] 0 (Nat.le_refl _) (by unfold maxLen; omega) rfl
      have hb0 := (Below.refl w.heap.size w).alloc (Nat.le_refl _) (.cells #[] 2)
      have HO0 := Lib.hid hown0
      have HB0 := Lib.hid hb0
      clear hok hte hW hlft hown0 hb0 HOKK
      go_enter Try.func28, Try.ntmps28
      go_wp2_with fail
      refine HWS.mono ?_
      rintro e w1 ⟨rfl, rfl⟩
      go_wp2_with fail
      refine (HIT _).mono ?_
      rintro e w1 ⟨rfl, rfl⟩
      go_wp2_with fail
      refine (HIS _).mono ?_
      rintro e w1 ⟨rfl, rfl⟩
      go_wp2
      go_loopg [7, 8, 9] W.length (fun g v lv i wr => ∃ (k : Nat) (z : Int) (l : List Int), k ≤ W.length ∧ g = W.length - k ∧ lv = .int .i64 z ∧ i = .int .i64 k ∧ l.length = k ∧ Hid (l = bseL t W k) ∧ Hid (z = lft t W k) ∧ 0 ≤ z ∧ z ≤ 1000000000 ∧ Below w.heap.size w wr ∧ wr.ownsRow w.heap.size 2 1 v l.length (l.map (Value.int .i64)))
      case atStart => exact ⟨0, t, [], Nat.zero_le _, rfl, rfl, rfl, rfl, Lib.hid rfl, Lib.hid (by simp [lft, bsum]), t1, t2, HB0.out, HO0.out⟩
      case round =>
        clear HO0 HB0 HWS HIT HIS
        obtain ⟨k, z, l, hk, rfl, rfl, rfl, hll, HL, HZ, z1, z2, hb, hown⟩ := hrel
        have hll' : l.length ≤ k := by omega
        have HLL := Lib.hid hll
        clear hll
        by_cases hlt : k < W.length
        · have c0 := (hb.cell (p := ⟨lo, k, none⟩) hlw).trans (World.rowIs.cell hrow0 (i := k) hlt)
          have hwk := HWW.out k hlt
          have hbp := bse_bd HOK.out hlt
          have hls := lft_succ t W k
          have hlp := lft_pos HOK.out hn0 (k := k + 1) (by omega)
          have hbe : bse t W k = t * W.getD k 0 / T := by unfold bse; rw [HTE.out]
          obtain ⟨y, hy⟩ : ∃ y, W.getD k 0 = y := ⟨_, rfl⟩
          rw [hy] at hwk hbe
          simp only [hy] at c0
          obtain ⟨y1, y2⟩ := hwk
          have hpb := prod_bd t1 t2 y1 y2
          obtain ⟨p, hp⟩ : ∃ p, t * y = p := ⟨_, rfl⟩
          rw [hp] at hpb hbe
          obtain ⟨q, hq⟩ : ∃ q, p / T = q := ⟨_, rfl⟩
          rw [hq] at hbe
          rw [hbe] at hbp hls
          obtain ⟨pb1, pb2⟩ := hpb
          obtain ⟨qb1, qb2⟩ := hbp
          have hz2 : lft t W (k + 1) = z - q := by rw [hls, ← HZ.out]
          rw [hz2] at hlp
          have HZ2 := Lib.hid hz2
          have wp : IntKind.i64.wrap p = p := by rw [IntKind.wrap_i64]; omega
          have wq : IntKind.i64.wrap q = q := by rw [IntKind.wrap_i64]; omega
          have wz : IntKind.i64.wrap (z - q) = z - q := by rw [IntKind.wrap_i64]; omega
          have HE : Hid (l ++ [q] = bseL t W (k + 1)) := Lib.hid (by rw [bseL_succ, hbe, ← HL.out])
          have HLN : Hid ((l ++ [q]).length = k + 1) := Lib.hid (by rw [snocL, HLL.out])
          clear hy hls hbe hz2
          go_wp2_with (first
            | (at_builtin; refine wpList_append_own _ rfl _ _ 22 rfl w.heap.size 2 i0 (.int .i64 0) 1 8 Try.underlying22 hinf hz0 hz1 hz2 rfl (by decide) _ _ _ rfl (hown.alloc _) ⟨wr.heap.size, 0, none⟩ 1 1 [.int .i64 q] rfl rfl ?c1 ?c2 ?c3 ?c4 ?c5 ?_))
          case c1 => exact World.news_of_block (cs := #[.int .i64 q]) (t := 2) (fr := (0, 0)) (heap_alloc_new wr _)
          case c2 => simp [Value.oneCell']
          case c3 => unfold maxLen; omega
          case c4 => omega
          case c5 => have := hb.size; simp; omega
          intro v' w3 hown3 hgrow _
          have hb3 := (hb.alloc hb.size _).grown hgrow (by have := hb.size; simp; omega) (fun x e => (hown.lt x e).1)
          have HO : Hid (w3.ownsRow w.heap.size 2 1 v' (l ++ [q]).length ((l ++ [q]).map (Value.int .i64))) := by rw [snocL, snocM]; exact hown3
          clear hown3 hgrow
          go_wp2
          go_roundg (W.length - (k + 1))
          case measure => omega
          case rel => exact ⟨k + 1, z - q, l ++ [q], by omega, rfl, by first | rfl | rw [wz], by simp, HLN.out, HE, HZ2.out.symm, by omega, by omega, hb3, HO.out⟩
        · have e : k = W.length := by omega
          subst e
          have hlfb := HLF.out
          rw [← HZ.out] at hlfb
          obtain ⟨lf, hlf⟩ : ∃ n : Nat, z = n := ⟨z.toNat, by omega⟩
          have hll2 : lf < W.length := by omega
          have HL2 : Hid ((lft t W W.length).toNat = lf) := Lib.hid (by rw [← HZ.out, hlf]; simp)
          subst hlf
          have hln : l.length = W.length := HLL.out
          have how := ow_of_own hown (Nat.le_refl _) (by omega)
          obtain ⟨hcase, -⟩ := how
          rcases hcase with ⟨-, h0⟩ | ⟨c, cap, N, f, hv, hc1, hc2, hc3, hrf, hfi⟩
          · rw [h0] at hln; simp at hln; omega
          · subst hv
            rw [hln]
            have hfi2 : ∀ i, i < W.length → f i = .int .i64 (bse t W i) := fun i hi => by
              rw [hfi i (by omega), HL.out, bseL_at t W hi]
            have HFI := Lib.hid hfi2
            have hNn : W.length ≤ N := by omega
            obtain ⟨g, hg⟩ : ∃ g, wr.heap.size = g := ⟨_, rfl⟩
            have hG0 : (wr.alloc (.cells (madeCells #[.bool false] W.length) 4)).rowIs g 4 W.length (fun j => .bool (decide (j ∈ (ordS t W).take 0))) := by
              rw [← hg]; exact (World.rowIs_made wr _ _ _).congr (fun j _ => by simp)
            have hbG := hb.alloc hb.size (.cells (madeCells #[.bool false] W.length) 4)
            have hrG : (wr.alloc (.cells (madeCells #[.bool false] W.length) 4)).rowIs c 2 N (fun j => if j < W.length then .int .i64 (part t W (ordS t W) 0 j) else f j) :=
              (World.rowIs.of_block hrf (blk_alloc_lt _ _ _ hrf.lt)).congr (fun j _ => by
                by_cases q : j < W.length
                · rw [if_pos q, HFI.out j q, part_zero]
                · rw [if_neg q])
            have hcg : c < g := by rw [← hg]; exact hc2
            have HG0 := Lib.hid hG0
            have HBG := Lib.hid hbG
            have HRG := Lib.hid hrG
            have HGG := Lib.hid hg
            clear hown HLL HL hll' hln hfi hfi2 hG0 hbG hrG hg hrf hb hlfb HZ
            go_wp2
            rw [HGG.out]
            go_loopg [8] lf (fun gg lv wi => ∃ s : Nat, s ≤ lf ∧ gg = lf - s ∧ lv = .int .i64 ((lf : Int) - s) ∧ Below w.heap.size w wi ∧ wi.rowIs g 4 W.length (fun j => .bool (decide (j ∈ (ordS t W).take s))) ∧ wi.rowIs c 2 N (fun j => if j < W.length then .int .i64 (part t W (ordS t W) s j) else f j))
            case atStart => exact ⟨0, Nat.zero_le _, rfl, by simp, HBG.out, HG0.out, HRG.out⟩
            case round =>
              clear HBG HG0 HRG hmk
              obtain ⟨s, hs, rfl, rfl, hb, hG, hR⟩ := hrel
              by_cases hsl : s < lf
              · obtain ⟨w2, rfl⟩ : ∃ w2, w2 = wr := ⟨_, rfl⟩
                have hpos : 0 < (lf : Int) - s := by omega
                go_wp2
                go_loopg [12, 13] W.length (fun gg bv iv wi => ∃ (i : Nat) (bb : Int), i ≤ W.length ∧ gg = W.length - i ∧ bv = .int .i64 bb ∧ iv = .int .i64 (i : Int) ∧ Hid (Best t W s i bb) ∧ Drw w2 wi)
                case atStart => exact ⟨0, -1, Nat.zero_le _, rfl, rfl, rfl, Best.start t W s, Drw.refl _⟩
                case round =>
                  obtain ⟨i, bb, hi, rfl, rfl, rfl, HB, hd⟩ := hrel
                  have hbw := hd.below
                  replace hG := World.rowIs.of_block hG (hbw.block _ hG.lt)
                  replace hR := World.rowIs.of_block hR (hbw.block _ hR.lt)
                  replace hb := hb.trans (hbw.mono hb.size)
                  clear hbw
                  by_cases hil : i < W.length
                  · have cG := hG.cell (i := i) hil
                    have HB0 := HB
                    by_cases hgi : i ∈ (ordS t W).take s
                    · rw [decide_eq_true hgi] at cG
                      have HGI := Lib.hid hgi
                      clear hgi
                      go_wp2_with fail
                      go_quiet (fail)
                      go_wp2
                      go_roundg (W.length - (i + 1))
                      case measure => omega
                      case rel => exact ⟨i + 1, bb, by omega, rfl, rfl, by simp, Best.skip HB.out HGI.out, hd.drewN _⟩
                    · rw [decide_eq_false hgi] at cG
                      have HGI := Lib.hid hgi
                      clear hgi
                      rcases HB.out.neg with hbb | ⟨b, hbb⟩
                      · subst hbb
                        go_wp2_with fail
                        go_quiet (fail)
                        go_wp2
                        go_roundg (W.length - (i + 1))
                        case measure => omega
                        case rel => exact ⟨i + 1, (i : Int), by omega, rfl, by first | rfl | simp, by simp, Best.first HB.out HGI.out, hd.drewN _⟩
                      · subst hbb
                        have hbi : b < i := HB.out.at
                        have hbn : b < W.length := by omega
                        have ci := (hb.cell (p := ⟨lo, i, none⟩) hlw).trans (World.rowIs.cell hrow0 (i := i) hil)
                        have cb := (hb.cell (p := ⟨lo, b, none⟩) hlw).trans (World.rowIs.cell hrow0 (i := b) hbn)
                        have hwi := HWW.out i hil
                        have hwb := HWW.out b hbn
                        have hri : rst t W i = t * W.getD i 0 % T := by unfold rst; rw [HTE.out]
                        have hrb : rst t W b = t * W.getD b 0 % T := by unfold rst; rw [HTE.out]
                        obtain ⟨yi, hyi⟩ : ∃ y, W.getD i 0 = y := ⟨_, rfl⟩
                        obtain ⟨yb, hyb⟩ : ∃ y, W.getD b 0 = y := ⟨_, rfl⟩
                        rw [hyi] at hwi hri
                        rw [hyb] at hwb hrb
                        simp only [hyi] at ci
                        simp only [hyb] at cb
                        have hpi := prod_bd t1 t2 hwi.1 hwi.2
                        have hpb := prod_bd t1 t2 hwb.1 hwb.2
                        obtain ⟨pi, hpie⟩ : ∃ p, t * yi = p := ⟨_, rfl⟩
                        obtain ⟨pb, hpbe⟩ : ∃ p, t * yb = p := ⟨_, rfl⟩
                        rw [hpie] at hpi hri
                        rw [hpbe] at hpb hrb
                        obtain ⟨pi1, pi2⟩ := hpi
                        obtain ⟨pb1, pb2⟩ := hpb
                        have ri1 := Int.emod_nonneg pi (show T ≠ 0 by omega)
                        have ri2 := Int.emod_lt_of_pos pi (show 0 < T by omega)
                        have rb1 := Int.emod_nonneg pb (show T ≠ 0 by omega)
                        have rb2 := Int.emod_lt_of_pos pb (show 0 < T by omega)
                        obtain ⟨ri, hrie⟩ : ∃ r, pi % T = r := ⟨_, rfl⟩
                        obtain ⟨rb, hrbe⟩ : ∃ r, pb % T = r := ⟨_, rfl⟩
                        rw [hrie] at hri ri1 ri2
                        rw [hrbe] at hrb rb1 rb2
                        have HRI := Lib.hid hri
                        have HRB := Lib.hid hrb
                        have wpi : IntKind.i64.wrap pi = pi := by rw [IntKind.wrap_i64]; omega
                        have wpb : IntKind.i64.wrap pb = pb := by rw [IntKind.wrap_i64]; omega
                        have tmi : pi.tmod T = ri := by rw [Int.tmod_eq_emod_of_nonneg pi1]; exact hrie
                        have tmb : pb.tmod T = rb := by rw [Int.tmod_eq_emod_of_nonneg pb1]; exact hrbe
                        have wri : IntKind.i64.wrap ri = ri := by rw [IntKind.wrap_i64]; omega
                        have wrb : IntKind.i64.wrap rb = rb := by rw [IntKind.wrap_i64]; omega
                        have hT0 : ¬ T = 0 := by omega
                        have hbneg : ¬ (b : Int) < 0 := by omega
                        clear hyi hyb hwi hwb hri hrb
                        by_cases hg : rb < ri
                        · have HGT := Lib.hid hg
                          go_wp2_with fail
                          go_quiet (fail)
                          go_wp2
                          go_roundg (W.length - (i + 1))
                          case measure => omega
                          case rel => exact ⟨i + 1, (i : Int), by omega, rfl, by first | rfl | simp, by simp, Best.more HB.out HGI.out (by rw [HRI.out, HRB.out]; have := HGT.out; omega), hd.drewN _⟩
                        · have HGT := Lib.hid hg
                          go_wp2_with fail
                          go_quiet (fail)
                          go_wp2
                          go_roundg (W.length - (i + 1))
                          case measure => omega
                          case rel => exact ⟨i + 1, (b : Int), by omega, rfl, by first | rfl | simp, by simp, Best.less HB.out (by rw [HRI.out, HRB.out]; have := HGT.out; omega), hd.drewN _⟩
                  · have e : i = W.length := by omega
                    subst e
                    have hsn : s < W.length := by omega
                    have hbd := HB.out.done hsn
                    obtain ⟨q, hq⟩ : ∃ q, (ordS t W).getD s 0 = q := ⟨_, rfl⟩
                    have hqn := (ordS_at t W hsn).1
                    rw [hq] at hbd hqn
                    subst hbd
                    have cG := hG.cell (i := q) hqn
                    have fG := hG.frozen q
                    have cR := hR.cell (i := q) (by omega)
                    have fR := hR.frozen q
                    rw [if_pos hqn] at cR
                    have hpb := part_bd HOK.out (ordS t W) s hqn
                    have hst := fun j => part_step t W hsn hq j
                    have hst2 : ∀ j, (j ∈ (ordS t W).take (s + 1)) ↔ (j ∈ (ordS t W).take s ∨ j = q) := fun j => by
                      have := take_succN (l := ordS t W) (m := s) (by rw [ordS_len]; exact hsn) j
                      rw [hq] at this; exact this
                    have HST := Lib.hid hst
                    have HST2 := Lib.hid hst2
                    obtain ⟨v, hv⟩ : ∃ v, part t W (ordS t W) s q = v := ⟨_, rfl⟩
                    rw [hv] at hpb cR
                    have HV := Lib.hid hv
                    have wv : IntKind.i64.wrap (v + 1) = v + 1 := by rw [IntKind.wrap_i64]; omega
                    have wl : IntKind.i64.wrap ((lf : Int) - s - 1) = (lf : Int) - s - 1 := by rw [IntKind.wrap_i64]; omega
                    have hgc : g ≠ c := by omega
                    have hcg' : c ≠ g := by omega
                    have hwc : w.heap.size ≤ g := by omega
                    clear hst hst2 hq hv HB
                    go_wp2
                    go_roundg (lf - (s + 1))
                    case measure => omega
                    case rel =>
                      refine ⟨s + 1, by omega, rfl, by congr 1; simp; omega, (hb.setCell hwc _).setCell hc1 _, ?_, ?_⟩
                      · refine World.rowIs.setOther ((hG.set q _).congr (fun j _ => ?_)) (by show g ≠ c; omega) _
                        by_cases e : j = q
                        · subst e; rw [if_pos rfl, decide_eq_true ((HST2.out j).2 (.inr rfl))]
                        · rw [if_neg e]
                          congr 1
                          rw [decide_eq_decide, HST2.out j]
                          exact ⟨.inl, fun h => h.elim id (fun q => absurd q e)⟩
                      · refine ((World.rowIs.setOther hR (by show c ≠ g; omega) _).set q _).congr (fun j _ => ?_)
                        by_cases e : j = q
                        · subst e; rw [if_pos rfl, if_pos hqn, HST.out j, if_pos rfl, HV.out]
                        · rw [if_neg e]
                          by_cases hj : j < W.length
                          · rw [if_pos hj, if_pos hj, HST.out j, if_neg e]
                          · rw [if_neg hj, if_neg hj]
              · have e : s = lf := by omega
                subst e
                have hz : ¬ (0 : Int) < (s : Int) - s := by omega
                go_wp2
                go_ret2
                have hpl : (partL t W).length = W.length := by simp [partL]
                refine ⟨_, rfl, ⟨.inr ⟨⟨c, 0, none⟩, cap, by show _ = Value.slice _ (partL t W).length _; rw [hpl]; rfl, fun _ => hR.lt, fun i hi => ?_⟩, fun k e => ?_, by show (partL t W).length ≤ _; rw [hpl]; exact hl⟩, hb⟩
                · have hi : i < W.length := by rw [← hpl]; exact hi
                  have : (partL t W).getD i 0 = part t W (ordS t W) (lft t W W.length).toNat i := by simp [partL, List.getD, hi]
                  show _ = some (Value.int .i64 ((partL t W).getD i 0))
                  rw [this, HL2.out, Addr.add_lit, Nat.zero_add, hR.cell (i := i) (by omega), if_pos hi]
                · have e : c = k := by simpa [Value.ownBlock] using e
                  have := hR.lt
                  omega
end Go.Proofs.Ytcoelccmfljlhaa
