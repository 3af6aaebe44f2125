/- The weights by which options stand before one another: what both sides reckon; the specification's. -/
import Derived.Test.YtnpolmanebmmcaaMx2
import Derived.Test.YtnpolmanebmmcaaRp2
namespace Go.Proofs.Ytnpolmanebmmcaa
open Go.ChangeShapes Go.WideShapes Go.ChangeAt Go.RowKit Go.Deep
set_option linter.unusedSimpArgs false
set_option linter.unusedVariables false
/-- The number of options. -/
def nop (X : Pr) : Nat := (X.1.getD 0 []).length
/-- The matrix behind the first r rankings. -/
def cmr (X : Pr) : Nat → List (List Int)
  | 0 => zer (nop X)
  | r + 1 => cad (cmr X r) (prs 0 (X.1.getD r [])) (X.2.getD r 0)
def cmat (X : Pr) : List (List Int) := cmr X X.1.length
theorem allDiff_mem {n : Nat} {l : List Int} (h : allDiff n l) : ∀ x ∈ l, 0 ≤ x ∧ x < (n : Int) := fun x hx => by
  obtain ⟨i, hi, rfl⟩ := List.getElem_of_mem hx
  have := h i hi
  simp [List.getD, hi] at this
  exact ⟨this.1, this.2.1⟩
theorem prs_len_le {X : Pr} (h : pOk X) {r : Nat} (hr : r < X.1.length) : (prs (0 : Int) (X.1.getD r [])).length ≤ 36 := by
  have h1 := prU_len (0 : Int) (X.1.getD r []) (X.1.getD r []).length
  have h2 := (h.2.2.2.2.2 r hr).1.1
  have h3 := h.2.2.2.2.1
  have h4 : (X.1.getD r []).length * (X.1.getD r []).length ≤ 6 * 6 := Nat.mul_le_mul (by omega) (by omega)
  unfold prs
  omega
theorem prs_bd {X : Pr} (h : pOk X) {r : Nat} (hr : r < X.1.length) (p : Int × Int) (hp : p ∈ prs (0 : Int) (X.1.getD r [])) : 0 ≤ p.1 ∧ p.1 < (nop X : Int) ∧ 0 ≤ p.2 ∧ p.2 < (nop X : Int) := by
  have h2 := allDiff_mem (h.2.2.2.2.2 r hr).1.2
  obtain ⟨m1, m2⟩ := prs_mem _ _ p hp
  have q1 := h2 _ m1
  have q2 := h2 _ m2
  exact ⟨q1.1, q1.2, q2.1, q2.2⟩
theorem cmr_ok {X : Pr} (h : pOk X) : ∀ r, r ≤ X.1.length → Sq (nop X) (cmr X r) ∧ Bd (36000 * r) (cmr X r)
  | 0, _ => ⟨zer_sq _, by show Bd _ (zer (nop X)); simpa using zer_bd (nop X)⟩
  | r + 1, hr => by
    obtain ⟨h1, h2⟩ := cmr_ok h r (by omega)
    have hw := (h.2.2.2.2.2 r (by omega)).2
    have hl := prs_len_le h (r := r) (by omega)
    refine ⟨cad_sq h1 _ _, ?_⟩
    have h3 := cad_bd h2 h1 hw.1 hw.2 (prs 0 (X.1.getD r [])) (fun p hp => prs_bd h (by omega) p hp)
    intro i j
    have := h3 i j
    show 0 ≤ mg (cad (cmr X r) (prs 0 (X.1.getD r [])) (X.2.getD r 0)) i j ∧ mg (cad (cmr X r) (prs 0 (X.1.getD r [])) (X.2.getD r 0)) i j ≤ _
    have hc : ((r + 1 : Nat) : Int) = (r : Int) + 1 := by omega
    rw [hc]
    omega
theorem cmr_in {X : Pr} (h : pOk X) {r : Nat} (hr : r < X.1.length) {ps : List (Int × Int)} (hp : ps <+: prs 0 (X.1.getD r [])) : Sq (nop X) (cad (cmr X r) ps (X.2.getD r 0)) ∧ Bd 1000000 (cad (cmr X r) ps (X.2.getD r 0)) := by
  obtain ⟨h1, h2⟩ := cmr_ok h r (by omega)
  have hw := (h.2.2.2.2.2 r hr).2
  have hl := prs_len_le h hr
  have hl2 := hp.length_le
  have hrl := h.2.1
  refine ⟨cad_sq h1 _ _, ?_⟩
  have h3 := cad_bd h2 h1 hw.1 hw.2 ps (fun p hq => prs_bd h hr p (hp.mem hq))
  intro i j
  have := h3 i j
  omega
theorem cmat_ok {X : Pr} (h : pOk X) : Sq (nop X) (cmat X) ∧ Bd 1000000 (cmat X) := by
  obtain ⟨h1, h2⟩ := cmr_ok h X.1.length (Nat.le_refl _)
  refine ⟨h1, fun i j => ?_⟩
  have := h2 i j
  have hrl := h.2.1
  show 0 ≤ mg (cmr X X.1.length) i j ∧ mg (cmr X X.1.length) i j ≤ _
  omega
set_option maxHeartbeats 4000000 in
set_option maxRecDepth 100000 in
theorem spairs (X : Pr) (p b c : Nat) (w : World) (h : PrX w p b c X) (hok : pOk X) :
    Calls Try.prog 44 #[.pointer (some ⟨p, 0, none⟩)] w fun e w' => (∃ b' cap, e = .returned (.slice (some ⟨b', 0, none⟩) (nop X) cap) ∧ OwJ w' w.heap.size w'.heap.size (.slice (some ⟨b', 0, none⟩) (nop X) cap) (cmat X)) ∧ Below w.heap.size w w' := by
  have HOK := Lib.hid hok
  have HX := Lib.hid h
  obtain ⟨⟨p0, p1, pl⟩, hrows, hw⟩ := h
  obtain ⟨m, hm⟩ : ∃ m, nop X = m := ⟨_, rfl⟩
  have hm' : (X.1.getD 0 []).length = m := hm
  have m1 : 1 ≤ m := by rw [← hm']; exact hok.2.2.2.1
  have m6 : m ≤ 6 := by rw [← hm']; exact hok.2.2.2.2.1
  have hA := hok.1
  have hA12 := hok.2.1
  have hCA := hok.2.2.1
  have HC := scnt p b c X w HX.out hok.1
  rw [hm'] at HC
  have HQ := ssquare m m6 m1 w
  have hm2 := hm
  rw [hm]
  have HM := Lib.hid hm
  obtain ⟨A, C⟩ := X
  simp only at p0 p1 hA hA12 hCA
  clear hok hrows hw hm hm' hm2
  go_enter Try.func44, Try.ntmps44
  go_wp2_with (first
    | (go_at_call 53; refine HC.mono ?_; rintro e w1 ⟨rfl, rfl⟩)
    | (go_at_call 67; refine HQ.mono ?_; rintro e w1 ⟨⟨b', cap, rfl, hO0⟩, hb1⟩))
  obtain ⟨hi, hhi⟩ : ∃ hi, w1.heap.size = hi := ⟨_, rfl⟩
  rw [hhi] at hO0
  have hsz := hb1.size
  go_loopg [4] A.length (fun g i wr => ∃ r : Nat, r ≤ A.length ∧ g = A.length - r ∧ i = .int .i64 r ∧ Below w.heap.size w wr ∧ hi ≤ wr.heap.size ∧ OwJ wr w.heap.size hi (.slice (some ⟨b', 0, none⟩) m cap) (cmr (A, C) r))
  case atStart => exact ⟨0, Nat.zero_le _, rfl, rfl, hb1, by omega, by show OwJ _ _ _ _ (zer (nop (A, C))); rw [HM.out]; exact hO0⟩
  case round =>
    clear HC HQ hO0 hb1
    obtain ⟨r, hr, rfl, rfl, hb, hhw, hO⟩ := hrel
    have z0 := (hb.cell (p := ⟨p, 0, none⟩) pl).trans p0
    by_cases hlt : r < A.length
    · obtain ⟨c', a1, a2⟩ := HX.out.rows.at (k := r) hlt
      have hrk := (HOK.out.2.2.2.2.2 r hlt).1
      have hwt := (HOK.out.2.2.2.2.2 r hlt).2
      have hdf := hrk.2
      have hll := hrk.1
      have hin := fun ps hp => cmr_in (ps := ps) HOK.out (r := r) hlt hp
      have hnx : cmr (A, C) (r + 1) = cad (cmr (A, C) r) (prs 0 (A.getD r [])) (C.getD r 0) := rfl
      have hw1 : w.heap.size ≤ wr.heap.size := hb.size
      have hmm : nop (A, C) = m := HM.out
      have hcw := World.rowIs.lt HX.out.wts
      have hcc := HX.out.wts.cell (i := r) (by show r < C.length; omega)
      simp only at a1 a2 hdf hll hwt hin hcc
      have hll' : (A.getD r []).length = m := by rw [← hmm]; exact hll
      obtain ⟨l, hl⟩ : ∃ l, A.getD r [] = l := ⟨_, rfl⟩
      obtain ⟨y, hy⟩ : ∃ y, C.getD r 0 = y := ⟨_, rfl⟩
      obtain ⟨M0, hM0⟩ : ∃ M0, cmr (A, C) r = M0 := ⟨_, rfl⟩
      rw [hl] at a1 a2 hdf hll' hin hnx
      rw [hy] at hwt hin hnx hcc
      rw [hM0] at hO hin hnx
      rw [hmm] at hin
      have hm0 : (A.getD 0 []).length = m := HM.out
      rw [hm0] at hdf
      have hlm := allDiff_mem hdf
      have HIN := Lib.hid hin
      have HNX := Lib.hid hnx
      have HLM := Lib.hid hlm
      have HB := Lib.hid hb
      have hcl : c' < w.heap.size := World.rowIs.lt a2
      have hbl : b < w.heap.size := HX.out.rows.lt
      rw [hll'] at a1
      have g1 := (hb.cell (p := ⟨b, r, none⟩) hbl).trans a1
      have HA2 : Hid (OwnI w c' l) := Lib.hid a2
      clear hrk hdf hll hin hnx hlm hmm hl hy hM0 a1 a2
      go_wp2
      go_loopg [6] m (fun g i wi => ∃ k : Nat, k ≤ m ∧ g = m - k ∧ i = .int .i64 k ∧ Below w.heap.size w wi ∧ hi ≤ wi.heap.size ∧ OwJ wi w.heap.size hi (.slice (some ⟨b', 0, none⟩) m cap) (cad M0 (prU 0 l k) y))
      case atStart => exact ⟨0, Nat.zero_le _, rfl, rfl, hb, hhw, by simpa [prU_zero, cad] using hO⟩
      case round =>
        clear hb hhw hO z0 g1 HB
        obtain ⟨k, hk, rfl, rfl, hb, hhw, hO⟩ := hrel
        by_cases hkl : k < m
        · have c1 := ((hb.cell (p := ⟨c', k, none⟩) hcl)).trans (HA2.out.cell (i := k) (by omega))
          obtain ⟨x, hx⟩ : ∃ x, l.getD k 0 = x := ⟨_, rfl⟩
          have hxl : 0 ≤ x ∧ x < (m : Int) := HLM.out x (by rw [← hx]; simp [List.getD, show k < l.length by omega])
          simp only [hx] at c1
          obtain ⟨xn, rfl⟩ : ∃ xn : Nat, x = xn := ⟨x.toNat, by omega⟩
          have hxm : xn < m := by omega
          have HXX := Lib.hid hx
          clear hx hxl
          go_wp2
          go_loopg [7] (m - (k + 1)) (fun g i wi => ∃ j : Nat, j ≤ m - (k + 1) ∧ g = m - (k + 1) - j ∧ i = .int .i64 ((k : Int) + 1 + j) ∧ Below w.heap.size w wi ∧ hi ≤ wi.heap.size ∧ OwJ wi w.heap.size hi (.slice (some ⟨b', 0, none⟩) m cap) (cad M0 (prU 0 l k ++ (prR 0 l k).take j) y))
          case atStart => exact ⟨0, Nat.zero_le _, rfl, by simp, hb, hhw, by simpa using hO⟩
          case round =>
            clear hb hhw hO c1
            obtain ⟨j, hj, rfl, rfl, hb, hhw, hO⟩ := hrel
            by_cases hjl : j < m - (k + 1)
            · have hq : (((k + 1 + j : Nat) : Int)) = (k : Int) + 1 + j := by omega
              have c1 := ((hb.cell (p := ⟨c', k, none⟩) hcl)).trans (HA2.out.cell (i := k) (by omega))
              have c2 := ((hb.cell (p := ⟨c', k + 1 + j, none⟩) hcl)).trans (HA2.out.cell (i := k + 1 + j) (by omega))
              have z0 := (hb.cell (p := ⟨p, 0, none⟩) pl).trans p0
              have z1 := (hb.cell (p := ⟨p, 1, none⟩) pl).trans p1
              have z2 := (hb.cell (p := ⟨c, r, none⟩) hcw).trans hcc
              have hpre := prs_pre (0 : Int) l (i := k) (j := j) (by omega)
              have htk := prR_take (0 : Int) l k j (by omega)
              obtain ⟨hs, hbd⟩ := HIN.out _ hpre
              simp only [HXX.out] at c1 htk
              obtain ⟨u, hu⟩ : ∃ u, l.getD (k + 1 + j) 0 = u := ⟨_, rfl⟩
              have hul : 0 ≤ u ∧ u < (m : Int) := HLM.out u (by rw [← hu]; simp [List.getD, show k + 1 + j < l.length by omega])
              simp only [hu] at c2 htk
              obtain ⟨un, rfl⟩ : ∃ un : Nat, u = un := ⟨u.toNat, by omega⟩
              have hum : un < m := by omega
              have hsn : cad M0 (prU 0 l k ++ (prR 0 l k).take (j + 1)) y = madd (cad M0 (prU 0 l k ++ (prR 0 l k).take j) y) xn un y := by
                rw [htk, ← List.append_assoc, cad_snoc]
                simp
              obtain ⟨M, hM⟩ : ∃ M, cad M0 (prU 0 l k ++ (prR 0 l k).take j) y = M := ⟨_, rfl⟩
              rw [hM] at hs hbd hsn hO
              have hMl : M.length = m := hs.1
              have hO' := hO
              rw [← hMl] at hO'
              obtain ⟨cc, cp, d1, d2, d3, d4, d5, d6, d7, d8, d9, d10⟩ := hO'.setAt (i := xn) (by omega) (by rw [hs.2 xn hxm]; omega)
              have hrl := hs.2 xn hxm
              obtain ⟨e1, e2⟩ := d9 un (by omega)
              have hS := d10 un (mg M xn un + y) (by omega)
              have hmv := hbd xn un
              have emg : (M.getD xn []).getD un 0 = mg M xn un := rfl
              rw [emg] at e1
              rw [hMl] at hS
              obtain ⟨q, hq2⟩ : ∃ q, mg M xn un = q := ⟨_, rfl⟩
              have hS2 : OwJ (wr.setCell ⟨cc, un, none⟩ (.int .i64 (q + y))) w.heap.size hi (.slice (some ⟨b', 0, none⟩) m cap) (madd M xn un y) := by
                unfold madd mset
                rw [hq2] at hS ⊢
                exact hS
              rw [hq2] at e1 hmv
              rw [hrl] at d1
              have wq : IntKind.i64.wrap (q + y) = q + y := by rw [IntKind.wrap_i64]; omega
              have HSN := Lib.hid hsn
              have HS2 := Lib.hid hS2
              have HBB := Lib.hid (hb.setCell (p := ⟨cc, un, none⟩) d2 (.int .i64 (q + y)))
              have HHW : Hid (hi ≤ (wr.setCell ⟨cc, un, none⟩ (.int .i64 (q + y))).heap.size) := Lib.hid (by simp [World.setCell]; omega)
              clear hS hS2 d10 d9 hO hbd hs hM hsn htk hpre hu hul hb emg hq2 hMl hhw
              rw [← hq]
              go_wp2
              go_region
              all_goals go_wp2
              all_goals go_roundg (m - (k + 1) - (j + 1))
              case measure => omega
              case rel =>
                refine ⟨j + 1, by omega, rfl, by first | rfl | (congr 1; omega) | simp, HBB.out.drew, HHW.out, ?_⟩
                rw [HSN.out]
                exact HS2.out.below (Below.refl _ _).drew
            · obtain rfl : j = m - (k + 1) := by omega
              have hfull : prU 0 l k ++ (prR 0 l k).take (m - (k + 1)) = prU 0 l (k + 1) := by rw [prU_succ, List.take_of_length_le (by rw [prR_len]; omega)]
              rw [hfull] at hO
              go_wp2
              go_roundg (m - (k + 1))
              case measure => omega
              case rel => exact ⟨k + 1, by omega, rfl, by simp, hb, hhw, hO⟩
        · obtain rfl : k = m := by omega
          have hfull : prU 0 l k = prs 0 l := by unfold prs; rw [hll']
          rw [hfull] at hO
          go_wp2
          go_roundg (A.length - (r + 1))
          case measure => omega
          case rel => exact ⟨r + 1, by omega, rfl, by simp, hb, hhw, by rw [HNX.out]; exact hO⟩
    · obtain rfl : r = A.length := by omega
      have hmm : nop (A, C) = m := HM.out
      go_wp2
      go_ret
      exact ⟨⟨b', cap, rfl, hO.mono (Nat.le_refl _) hhw⟩, hb⟩
end Go.Proofs.Ytnpolmanebmmcaa
