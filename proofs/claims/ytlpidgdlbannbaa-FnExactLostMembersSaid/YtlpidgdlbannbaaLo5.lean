/- The specification's costs and LostMembers. -/
import Derived.Test.YtlpidgdlbannbaaLo4
namespace Go.Proofs.Ytlpidgdlbannbaa
open Go.ChangeShapes Go.WideShapes Go.ChangeAt Go.RowKit Go.Deep
set_option linter.unusedSimpArgs false
set_option linter.unusedVariables false
def posC (C : Nat → Int) (j : Nat) : Bool := decide (0 ≤ C j)
theorem posC_upd {C : Nat → Int} {i : Nat} {v : Int} (h : 0 ≤ v) (j : Nat) : posC (fun j => if j = i then v else C j) j = if j = i then true else posC C j := by
  by_cases e : j = i
  · simp [posC, e, h]
  · simp [posC, e]
set_option maxHeartbeats 4000000 in
set_option maxRecDepth 100000 in
theorem scosts (L : List Vc) (B b cap : Nat) (a0 : Addr) (w : World) (h : Vs w B b L) (hf : Fits L) (hok : okL L) :
    Calls Try.prog 65 #[.slice (some ⟨b, 0, none⟩) L.length cap, .bool false, .slice (some a0) 0 0] w fun e w' => (∃ C : Nat → Int, e = .returned (.slice (some ⟨w.heap.size, 0, none⟩) L.length L.length) ∧ w'.rowIs w.heap.size 2 L.length (fun j => .int .i64 (C j)) ∧ ∀ j, j < L.length → (0 ≤ C j ↔ Can L j)) ∧ Below w.heap.size w w' := by
  have n12 := hok.2.1
  have lb := h.lt
  have nb := Nat.ne_of_lt lb
  have nb' := Ne.symm nb
  have HH : ∀ (i : Int) (w' : World), Calls Try.prog 87 #[.slice (some a0) 0 0, .int .i64 i] w' fun e w'' => e = .returned (.bool false) ∧ w' = w'' := fun i w' => by
    have := has_any (.slice (some a0) 0 0) [] i w' (.inr ⟨a0, 0, rfl, fun q => absurd q (by simp), fun i hi => absurd hi (by simp)⟩) (by simp)
    simpa using this
  have hmk := run_make_row' (P := Try.prog) 29 2 (.int .i64 0) 8 Try.underlying29 infoI rfl .i64 .i64 L.length (by omega) (by omega)
  have hb0 : Below w.heap.size w (w.alloc (.cells (madeCells #[.int .i64 0] L.length) 2)) := (Below.refl _ _).alloc (Nat.le_refl _) _
  have HOK := Lib.hid hok
  have HF := Lib.hid hf
  clear hok hf
  go_enter Try.func65, Try.ntmps65
  go_wp2
  go_loopg [8] L.length (fun g i wr => ∃ (k : Nat) (C : Nat → Int), k ≤ L.length ∧ g = L.length - k ∧ i = .int .i64 k ∧ wr.rowIs w.heap.size 2 L.length (fun j => .int .i64 (C j)) ∧ Hid (∀ j, j < k → C j = if sp L (j : Int) = true then 0 else -1) ∧ Below w.heap.size w wr)
  case atStart => exact ⟨0, fun _ => 0, Nat.zero_le _, rfl, rfl, World.rowIs_made w _ _ _, fun j hj => absurd hj (Nat.not_lt_zero _), hb0⟩
  case round =>
    clear hmk hb0
    obtain ⟨k, C, hk, rfl, rfl, hr, HC, hb⟩ := hrel
    by_cases hlt : k < L.length
    · obtain ⟨c, a1, -, -⟩ := (h.below hb).own hlt
      have hsp : sp L (k : Int) = (L.getD k (false, [])).1 := by unfold sp; rw [vAt_at]
      obtain ⟨s, hs⟩ : ∃ s, (L.getD k (false, [])).1 = s := ⟨_, rfl⟩
      rw [hs] at a1 hsp
      have c0 : wr.cell? ⟨w.heap.size, k, none⟩ = some (.int .i64 (C k)) := hr.cell hlt
      have f0 : wr.frozen? ⟨w.heap.size, k, none⟩ = false := hr.frozen k
      have HSP := Lib.hid hsp
      clear hs hsp
      cases s with
      | true =>
        go_wp2_with fail
        refine (HH _ _).mono ?_
        rintro e w1 ⟨rfl, rfl⟩
        go_wp2
        go_roundg (L.length - (k + 1))
        case measure => omega
        case rel =>
          refine ⟨k + 1, fun j => if j = k then 0 else C j, by omega, rfl, by simp, ((hr.set k _).set k _).congr (fun j _ => ?_), fun j hj => ?_, (hb.setCell (Nat.le_refl _) _).setCell (Nat.le_refl _) _⟩
          · by_cases e : j = k
            · simp [e]
            · simp [e]
          · show (if j = k then (0 : Int) else C j) = _
            by_cases e : j = k
            · subst e; rw [if_pos rfl, HSP.out]; rfl
            · rw [if_neg e]; exact HC.out j (by omega)
      | false =>
        go_wp2
        go_roundg (L.length - (k + 1))
        case measure => omega
        case rel =>
          refine ⟨k + 1, fun j => if j = k then -1 else C j, by omega, rfl, by simp, (hr.set k _).congr (fun j _ => ?_), fun j hj => ?_, hb.setCell (Nat.le_refl _) _⟩
          · by_cases e : j = k
            · simp [e]
            · simp [e]
          · show (if j = k then (-1 : Int) else C j) = _
            by_cases e : j = k
            · subst e; rw [if_pos rfl, HSP.out]; rfl
            · rw [if_neg e]; exact HC.out j (by omega)
    · have e : k = L.length := by omega
      subst e
      have hM0 : Mrk L (posC C) 0 := Mrk.start (fun j hj => by
        unfold posC
        rw [HC.out j hj]
        cases sp L (j : Int) <;> rfl)
      have hbd0 : ∀ j, j < L.length → -1 ≤ C j ∧ C j ≤ ((0 : Nat) : Int) * 48 := fun j hj => by
        rw [HC.out j hj]
        split <;> omega
      clear HC
      go_wp2
      go_loopg [9] L.length (fun g i wr => ∃ (r : Nat) (C : Nat → Int), r ≤ L.length ∧ g = L.length - r ∧ i = .int .i64 r ∧ wr.rowIs w.heap.size 2 L.length (fun j => .int .i64 (C j)) ∧ Hid (Mrk L (posC C) r) ∧ Hid (∀ j, j < L.length → -1 ≤ C j ∧ C j ≤ (r : Int) * 48) ∧ Below w.heap.size w wr)
      case atStart => exact ⟨0, C, Nat.zero_le _, rfl, rfl, hr, hM0, hbd0, hb⟩
      case round =>
        clear hM0 hbd0 hr hb hlt hk
        obtain ⟨r, C, hrn, rfl, rfl, hr, HM, HBD, hb⟩ := hrel
        by_cases hlt : r < L.length
        · have hR0 := HM.out.begin
          have hbd0 : ∀ j, j < L.length → -1 ≤ C j ∧ C j ≤ (r : Int) * 48 + ((0 : Nat) : Int) * 4 := fun j hj => by have := HBD.out j hj; omega
          obtain ⟨A0, hA0⟩ : ∃ A0, posC C = A0 := ⟨_, rfl⟩
          have hR1 : Rnv L A0 (posC C) 0 0 := by rw [← hA0]; exact hR0
          rw [hA0] at HM
          clear hR0 hA0 HBD
          go_wp2
          go_loopg [10] L.length (fun g i wr => ∃ (i' : Nat) (C : Nat → Int), i' ≤ L.length ∧ g = L.length - i' ∧ i = .int .i64 i' ∧ wr.rowIs w.heap.size 2 L.length (fun j => .int .i64 (C j)) ∧ Hid (Rnv L A0 (posC C) i' 0) ∧ Hid (∀ j, j < L.length → -1 ≤ C j ∧ C j ≤ (r : Int) * 48 + (i' : Int) * 4) ∧ Below w.heap.size w wr)
          case atStart => exact ⟨0, C, Nat.zero_le _, rfl, rfl, hr, hR1, hbd0, hb⟩
          case round =>
            clear hR1 hbd0 hr hb
            obtain ⟨i, C, hin, rfl, rfl, hr, HR, HBD, hb⟩ := hrel
            by_cases hilt : i < L.length
            · obtain ⟨c, a1, a2, a3⟩ := (h.below hb).own hilt
              have hnx := nxV_at L i
              have htl := HOK.out.2.2 i hilt
              obtain ⟨⟨s, t⟩, hq⟩ : ∃ q, L.getD i (false, []) = q := ⟨_, rfl⟩
              rw [hq] at a1 a2 a3 hnx htl
              simp only at a1 a2 a3 hnx htl
              have HQ := Lib.hid hq
              have ht4 := htl.1
              clear hq htl
              cases s with
              | true =>
                rw [if_pos rfl] at hnx
                have hR2 := HR.out.row (by rw [hnx]; exact Nat.le_refl _)
                have HR2 := Lib.hid hR2
                clear hR2 hnx
                go_wp2
                go_roundg (L.length - (i + 1))
                case measure => omega
                case rel => exact ⟨i + 1, C, by omega, rfl, by simp, hr, HR2.out, (fun j hj => by have := HBD.out j hj; omega), hb⟩
              | false =>
                rw [if_neg (by decide)] at hnx
                have hnr := nxV_rng HOK.out hilt
                rw [hnx] at hnr
                have HNR := Lib.hid hnr
                have HNX := Lib.hid hnx
                have hbd0 : ∀ j, j < L.length → -1 ≤ C j ∧ C j ≤ (r : Int) * 48 + (i : Int) * 4 + ((0 : Nat) : Int) := fun j hj => by have := HBD.out j hj; omega
                clear hnr hnx a2 a3
                go_wp2_with fail
                refine (HH _ _).mono ?_
                rintro e w1 ⟨rfl, rfl⟩
                go_wp2
                go_loopg [11] t.length (fun g i' wr => ∃ (k : Nat) (C : Nat → Int), k ≤ t.length ∧ g = t.length - k ∧ i' = .int .i64 k ∧ wr.rowIs w.heap.size 2 L.length (fun j => .int .i64 (C j)) ∧ Hid (Rnv L A0 (posC C) i k) ∧ Hid (∀ j, j < L.length → -1 ≤ C j ∧ C j ≤ (r : Int) * 48 + (i : Int) * 4 + (k : Int)) ∧ Below w.heap.size w wr)
                case atStart => exact ⟨0, C, Nat.zero_le _, rfl, rfl, hr, HR.out, hbd0, hb⟩
                case round =>
                  clear hbd0 HR HBD hr hb
                  obtain ⟨k, C, hk, rfl, rfl, hr, HR, HBD, hb⟩ := hrel
                  obtain ⟨c, -, a2, a3⟩ := (h.below hb).own hilt
                  rw [HQ.out] at a2 a3
                  simp only at a2 a3
                  by_cases hkt : k < t.length
                  · have d1 : wr.cell? ⟨c, k, none⟩ = some (.int .i64 (t.getD k 0)) := World.rowIs.cell a3 hkt
                    have hy1 := HNR.out _ (mem_getD hkt)
                    have HRS := fun hs => HR.out.skip hilt (by rw [HNX.out]; omega) hs
                    have HRM := fun A' h1 hA => HR.out.mark (A' := A') hilt (by rw [HNX.out]; exact hkt) (by rw [HNX.out]; exact HNR.out) h1 hA
                    rw [HNX.out] at HRS HRM
                    obtain ⟨y, hy⟩ : ∃ y, t.getD k 0 = y := ⟨_, rfl⟩
                    rw [hy] at d1 hy1 HRS HRM
                    obtain ⟨n, rfl⟩ : ∃ n : Nat, y = n := ⟨y.toNat, by omega⟩
                    have hn : n < L.length := by omega
                    simp only [Int.toNat_natCast] at HRS HRM
                    have c1 : wr.cell? ⟨w.heap.size, n, none⟩ = some (.int .i64 (C n)) := hr.cell hn
                    have c2 : wr.cell? ⟨w.heap.size, i, none⟩ = some (.int .i64 (C i)) := hr.cell hilt
                    have f2 : wr.frozen? ⟨w.heap.size, i, none⟩ = false := hr.frozen i
                    obtain ⟨b1, b2⟩ := HBD.out n hn
                    obtain ⟨b3, b4⟩ := HBD.out i hilt
                    obtain ⟨z, hz⟩ : ∃ z, C n = z := ⟨_, rfl⟩
                    obtain ⟨x, hx⟩ : ∃ x, C i = x := ⟨_, rfl⟩
                    rw [hz] at c1 b1 b2
                    rw [hx] at c2 b3 b4
                    have wk : IntKind.i64.wrap (1 + z) = 1 + z := by rw [IntKind.wrap_i64]; omega
                    have HZ := Lib.hid hz
                    have HX := Lib.hid hx
                    have HS9 := Lib.hid HRS
                    have HM9 := Lib.hid HRM
                    clear hz hx hy a3 HRS HRM
                    by_cases g1 : 0 ≤ z
                    · by_cases g2 : x < 0
                      · have hbd : ∀ j, j < L.length → -1 ≤ (if j = i then 1 + z else C j) ∧ (if j = i then 1 + z else C j) ≤ (r : Int) * 48 + (i : Int) * 4 + ((k + 1 : Nat) : Int) := fun j hj => by
                          have := HBD.out j hj
                          split <;> omega
                        have hmk := HM9.out (posC fun j => if j = i then 1 + z else C j) (by unfold posC; rw [HZ.out]; simpa using g1) (fun j hj => posC_upd (by omega) j)
                        have HK := Lib.hid hmk
                        have HBB := Lib.hid hbd
                        clear hbd hmk HS9 HM9 HBD
                        go_wp2
                        go_roundg (t.length - (k + 1))
                        case measure => omega
                        case rel =>
                          exact ⟨k + 1, fun j => if j = i then 1 + z else C j, by omega, rfl, by simp, (hr.set i _).congr (fun j _ => by by_cases e : j = i <;> simp [e]), HK.out, HBB.out, hb.setCell (Nat.le_refl _) _⟩
                      · have hpi : posC C i = true := by unfold posC; rw [HX.out]; simp; omega
                        by_cases g3 : 1 + z < x
                        · have hbd : ∀ j, j < L.length → -1 ≤ (if j = i then 1 + z else C j) ∧ (if j = i then 1 + z else C j) ≤ (r : Int) * 48 + (i : Int) * 4 + ((k + 1 : Nat) : Int) := fun j hj => by
                            have := HBD.out j hj
                            split <;> omega
                          have hmk := HM9.out (posC fun j => if j = i then 1 + z else C j) (by unfold posC; rw [HZ.out]; simpa using g1) (fun j hj => posC_upd (by omega) j)
                          have HK := Lib.hid hmk
                          have HBB := Lib.hid hbd
                          clear hbd hmk HS9 HM9 HBD
                          go_wp2
                          go_roundg (t.length - (k + 1))
                          case measure => omega
                          case rel =>
                            exact ⟨k + 1, fun j => if j = i then 1 + z else C j, by omega, rfl, by simp, (hr.set i _).congr (fun j _ => by by_cases e : j = i <;> simp [e]), HK.out, HBB.out, hb.setCell (Nat.le_refl _) _⟩
                        · have HK := Lib.hid (HS9.out (.inr hpi))
                          clear HS9 HM9
                          go_wp2
                          go_roundg (t.length - (k + 1))
                          case measure => omega
                          case rel => exact ⟨k + 1, C, by omega, rfl, by simp, hr, HK.out, (fun j hj => by have := HBD.out j hj; omega), hb⟩
                    · have hpn : posC C n = false := by unfold posC; rw [HZ.out]; simpa using g1
                      have HK := Lib.hid (HS9.out (.inl hpn))
                      clear HS9 HM9
                      go_wp2
                      go_roundg (t.length - (k + 1))
                      case measure => omega
                      case rel => exact ⟨k + 1, C, by omega, rfl, by simp, hr, HK.out, (fun j hj => by have := HBD.out j hj; omega), hb⟩
                  · have e : k = t.length := by omega
                    subst e
                    have hR2 := HR.out.row (by rw [HNX.out]; exact Nat.le_refl _)
                    have HR2 := Lib.hid hR2
                    clear hR2 a3
                    go_wp2
                    go_roundg (L.length - (i + 1))
                    case measure => omega
                    case rel => exact ⟨i + 1, C, by omega, rfl, by simp, hr, HR2.out, (fun j hj => by have := HBD.out j hj; omega), hb⟩
            · have e : i = L.length := by omega
              subst e
              have hM := HR.out.done HM.out HOK.out
              have HM2 := Lib.hid hM
              clear hM
              go_wp2
              go_roundg (L.length - (r + 1))
              case measure => omega
              case rel => exact ⟨r + 1, C, by omega, rfl, by simp, hr, HM2.out, (fun j hj => by have := HBD.out j hj; omega), hb⟩
        · have e : r = L.length := by omega
          subst e
          go_wp2
          go_ret
          exact ⟨⟨C, rfl, hr, fun j hj => by rw [← HM.out.result hj]; unfold posC; simp⟩, hb⟩
set_option maxHeartbeats 2000000 in
set_option maxRecDepth 100000 in
theorem sLost (L : List Vc) (w : World) (lo hi : Nat) (u : Value) (h : CpV w lo hi u L) : Calls Try.prog 34 #[u] w (PIb (mLost L) w) := by
  obtain ⟨rfl, h1, -, hf⟩ := h
  have HV := sok_any L lo lo L.length w h1 hf
  cases hz : okLB L with
  | false =>
    rw [mLost_no hz]
    rw [hz] at HV
    clear hz
    go_enter Try.func34, Try.ntmps34
    go_wp2_with fail
    refine HV.mono ?_
    rintro e w1 ⟨rfl, hb1⟩
    go_wp2
    go_ret2
    exact ⟨_, rfl, RdI.nil _ _ _, hb1⟩
  | true =>
    have hok := okL_of hz
    have n12 := hok.2.1
    obtain ⟨i0, hi, hz0, hz1, hz2⟩ := info_parts infoI
    have HC := Lib.hid (fun (a0 : Addr) w' (hw : Below w.heap.size w w') => scosts L lo lo L.length a0 w' (h1.below hw) hf hok)
    rw [mLost_yes hz]
    rw [hz] at HV
    clear hz hok
    go_enter Try.func34, Try.ntmps34
    go_wp2_with fail
    refine HV.mono ?_
    rintro e w1 ⟨rfl, hb1⟩
    have hba := hb1.alloc hb1.size (.cells #[] 2)
    have sa := hba.size
    have HC2 := HC.out ⟨w1.heap.size, 0, none⟩ _ hba
    go_wp2_with fail
    refine HC2.mono ?_
    rintro e w2 ⟨⟨C, rfl, hr, hc⟩, hb2⟩
    have HCC := Lib.hid hc
    have hb3 := hba.trans (hb2.mono sa)
    have s3 := hb3.size
    have hlt2 := hr.lt
    have hcb : (w1.alloc (.cells #[] 2)).heap.size = w1.heap.size + 1 := by simp
    rw [hcb] at hr hlt2
    have hown0 : (w2.alloc (.cells #[] 2)).ownsRow w2.heap.size 2 1 (.slice (some ⟨w2.heap.size, 0, none⟩) 0 0) ([] : List Int).length (([] : List Int).map (Value.int .i64)) := World.ownsRow_lit w2 #[] 0 (Nat.le_refl _) (by unfold maxLen; omega) rfl
    have hb4 : Below w2.heap.size w2 (w2.alloc (.cells #[] 2)) := (Below.refl _ _).alloc (Nat.le_refl _) _
    clear hc hba HC HC2 hb1
    go_wp2
    go_loopg [5, 6] L.length (fun g v i wr => ∃ (k : Nat) (l : List Int), k ≤ L.length ∧ g = L.length - k ∧ i = .int .i64 k ∧ l.length ≤ k ∧ Hid (l = setL k (lostP L)) ∧ wr.ownsRow w2.heap.size 2 1 v l.length (l.map (Value.int .i64)) ∧ Below w2.heap.size w2 wr)
    case atStart => exact ⟨0, [], Nat.zero_le _, rfl, rfl, Nat.le_refl _, rfl, hown0, hb4⟩
    case round =>
      clear hown0 hb4
      obtain ⟨k, l, hk, rfl, rfl, hll, HL, hown, hb⟩ := hrel
      by_cases hkn : k < L.length
      · have c1 : wr.cell? ⟨w1.heap.size + 1, k, none⟩ = some (.int .i64 (C k)) := (hb.cell (p := ⟨w1.heap.size + 1, k, none⟩) hlt2).trans (hr.cell hkn)
        have hs := setL_succ k (lostP L)
        have hlc := HCC.out k hkn
        obtain ⟨x, hx⟩ : ∃ x, C k = x := ⟨_, rfl⟩
        rw [hx] at c1 hlc
        have sw := hb.size
        by_cases hneg : x < 0
        · have hd : dcd (lostP L k) = true := dcd_yes (lost_iff.2 (fun q => by have := hlc.2 q; omega))
          rw [hd] at hs
          have HS := Lib.hid hs
          have HE : Hid (l ++ [(k : Int)] = setL (k + 1) (lostP L)) := by show l ++ [(k : Int)] = _; rw [HS.out, ← HL.out]; simp
          clear hs hd hlc hx
          go_wp2_with (first
            | (at_builtin; refine wpList_append_own _ rfl _ _ 29 rfl w2.heap.size 2 i0 (.int .i64 0) 1 8 Try.underlying29 hi hz0 hz1 hz2 rfl (by decide) _ _ _ rfl (hown.alloc _) ⟨wr.heap.size, 0, none⟩ 1 1 [.int .i64 (k : Int)] rfl rfl ?e1 ?e2 ?e3 ?e4 ?e5 ?_))
          try (case e1 => exact World.news_of_block (cs := #[.int .i64 (k : Int)]) (t := 2) (fr := (0, 0)) (heap_alloc_new wr _))
          case e2 => simp [Value.oneCell']
          case e3 => unfold maxLen; omega
          case e4 => omega
          case e5 => first | omega | (simp; omega)
          intro v' w3 hown3 hgrow _
          have hb5 := (hb.alloc (by omega) _).grown hgrow (by simp; omega) (fun x e => (hown.lt x e).1)
          have HO : Hid (w3.ownsRow w2.heap.size 2 1 v' (l ++ [(k : Int)]).length ((l ++ [(k : Int)]).map (Value.int .i64))) := by rw [snoc_len, snoc_map]; exact hown3
          have HLN := Lib.hid (snoc_len l (k : Int))
          clear hown3 hgrow
          go_wp2
          go_roundg (L.length - (k + 1))
          case measure => omega
          case rel => exact ⟨k + 1, l ++ [(k : Int)], by omega, rfl, by simp, by rw [HLN.out]; omega, HE, HO.out, hb5⟩
        · have hd : dcd (lostP L k) = false := dcd_no (fun q => lost_iff.1 q (hlc.1 (by omega)))
          rw [hd] at hs
          have HS := Lib.hid hs
          have HE : Hid (l = setL (k + 1) (lostP L)) := by show l = _; rw [HS.out, ← HL.out]; simp
          clear hs hd hlc hx
          go_wp2
          go_roundg (L.length - (k + 1))
          case measure => omega
          case rel => exact ⟨k + 1, l, by omega, rfl, by simp, by omega, HE, hown, hb⟩
      · have e : k = L.length := by omega
        subst e
        go_wp2
        go_ret2
        have ho := (ow_of_own hown (Nat.le_refl _) (by omega)).mono (lo' := w.heap.size) s3 (Nat.le_refl _)
        refine ⟨_, rfl, ?_, hb3.trans (hb.mono s3)⟩
        rw [HL.out] at ho
        exact ho.rd
end Go.Proofs.Ytlpidgdlbannbaa
