/- SumFractions of the specification, by its contract. -/
import Derived.Test.YtcmhdjoajkljfaaDoorSu2
namespace Go.Proofs.YtcmhdjoajkljfaaDoor
open Go.ChangeShapes Go.WideShapes Go.ChangeAt Go.RowKit Go.Deep
set_option linter.unusedSimpArgs false
set_option linter.unusedVariables false
set_option maxHeartbeats 2000000 in
set_option maxRecDepth 100000 in
theorem sSumF (L : List Fq) (b cap : Nat) (w : World) (h : Fs w b L) (hn : L.length ≤ 1048576) :
    Calls Tryd.prog 16 #[.slice (some ⟨b, 0, none⟩) L.length cap] w (suP (sumR L) w) := by
  have hbl := World.rowIs.lt h
  have b0 := (Below.refl w.heap.size w).alloc (Nat.le_refl _) (.cells #[.int .i64 0, .int .i64 0] 37)
  go_enter Tryd.func16, Tryd.ntmps16
  go_wp2
  go_loopg [4] L.length (fun g i wr => ∃ (k : Nat), k ≤ L.length ∧ g = L.length - k ∧ i = .int .i64 k ∧ Below w.heap.size w wr ∧ w.heap.size < wr.heap.size ∧ Hid (∀ j, j < k → okF (L.getD j (0, 0)).1 (L.getD j (0, 0)).2) ∧
      wr.cell? ⟨w.heap.size, 0, none⟩ = some (.int .i64 0) ∧ wr.cell? ⟨w.heap.size, 1, none⟩ = some (.int .i64 0) ∧ wr.frozen? ⟨w.heap.size, 0, none⟩ = false ∧ wr.frozen? ⟨w.heap.size, 1, none⟩ = false)
  case atStart =>
    refine ⟨0, Nat.zero_le _, rfl, rfl, b0, by simp, fun j hj => absurd hj (Nat.not_lt_zero _), ?_, ?_, ?_, ?_⟩
    all_goals go_simp
  case round =>
    clear b0
    obtain ⟨k, hk, rfl, rfl, hb, hsz, H, R0, R1, ZR0, ZR1⟩ := hrel
    by_cases hlt : k < L.length
    · obtain ⟨a1, a2⟩ := (h.below hb).at hlt
      have hnone := sumR_none (L := L) (k := k) hlt
      obtain ⟨q, hq⟩ : ∃ q, L.getD k (0, 0) = q := ⟨_, rfl⟩
      rw [hq] at a1 a2 hnone
      obtain ⟨fn, fd⟩ := q
      simp only at a1 a2 hnone
      have HQ := Lib.hid hq
      have HOK := fun w => ok_any fn fd w
      obtain ⟨z, hz⟩ : ∃ z, okB fn fd = z := ⟨_, rfl⟩
      rw [hz] at HOK hnone
      cases z with
      | false =>
        have HNO := hnone rfl
        clear hq hz hnone
        go_wp2_with fail
        refine (HOK _).mono ?_
        rintro e w1 ⟨rfl, hb1⟩
        obtain ⟨hc1, hf1⟩ := bcell hb1
        have R0' : w1.cell? ⟨w.heap.size, 0, none⟩ = some (.int .i64 0) := by rw [hc1 _ _ hsz]; exact R0
        have R1' : w1.cell? ⟨w.heap.size, 1, none⟩ = some (.int .i64 0) := by rw [hc1 _ _ hsz]; exact R1
        have ZR0' : w1.frozen? ⟨w.heap.size, 0, none⟩ = false := by rw [hf1 _ _ hsz]; exact ZR0
        have ZR1' : w1.frozen? ⟨w.heap.size, 1, none⟩ = false := by rw [hf1 _ _ hsz]; exact ZR1
        have hbw := hb.trans (hb1.mono hb.size)
        clear hc1 hf1 hb1 R0 R1 ZR0 ZR1
        go_wp2
        refine bodyPost_ret (v := .tuple #[.agg #[.int .i64 0, .int .i64 0], .bool false]) (by simp [results, Tryd.results16, go_sem, R0', R1']) rfl ?_
        rw [HNO]
        exact ⟨rfl, (hbw.setCell (Nat.le_refl _) _).setCell (Nat.le_refl _) _⟩
      | true =>
        have HT := Lib.hid (okB_t hz)
        clear hq hz hnone
        go_wp2_with fail
        refine (HOK _).mono ?_
        rintro e w1 ⟨rfl, hb1⟩
        obtain ⟨hc1, hf1⟩ := bcell hb1
        have R0' : w1.cell? ⟨w.heap.size, 0, none⟩ = some (.int .i64 0) := by rw [hc1 _ _ hsz]; exact R0
        have R1' : w1.cell? ⟨w.heap.size, 1, none⟩ = some (.int .i64 0) := by rw [hc1 _ _ hsz]; exact R1
        have ZR0' : w1.frozen? ⟨w.heap.size, 0, none⟩ = false := by rw [hf1 _ _ hsz]; exact ZR0
        have ZR1' : w1.frozen? ⟨w.heap.size, 1, none⟩ = false := by rw [hf1 _ _ hsz]; exact ZR1
        have hbw := hb.trans (hb1.mono hb.size)
        have hsz' : w.heap.size < w1.heap.size := Nat.lt_of_lt_of_le hsz hb1.size
        clear hc1 hf1 hb1 R0 R1 ZR0 ZR1
        go_wp2
        go_roundg (L.length - (k + 1))
        case measure => omega
        case rel =>
          refine ⟨k + 1, by omega, rfl, by simp, hbw, hsz', fun j hj => ?_, R0', R1', ZR0', ZR1'⟩
          by_cases ej : j = k
          · rw [ej, HQ.out]; exact HT.out
          · exact H.out j (by omega)
    · have e : k = L.length := by omega
      subst e
      by_cases hlong : 20 < L.length
      · have HNO : sumR L = none := by unfold sumR; rw [if_neg (by omega)]
        go_wp2
        refine bodyPost_ret (v := .tuple #[.agg #[.int .i64 0, .int .i64 0], .bool false]) (by simp [results, Tryd.results16, go_sem, R0, R1]) rfl ?_
        rw [HNO]
        exact ⟨rfl, (hb.setCell (Nat.le_refl _) _).setCell (Nat.le_refl _) _⟩
      · have HYES : sumR L = foldS L L.length := by unfold sumR; rw [if_pos (by omega)]
        have HS := sl01Sum L b cap wr (h.below hb) (by omega) H.out
        obtain ⟨r, hr⟩ : ∃ r, foldS L L.length = r := ⟨_, rfl⟩
        rw [hr] at HS HYES
        have HR := Lib.hid HYES
        clear HYES hr
        cases r with
        | none =>
          go_wp2_with fail
          refine HS.mono ?_
          rintro e w1 ⟨h1, hb1⟩
          simp only at h1
          subst h1
          obtain ⟨hc1, hf1⟩ := bcell hb1
          have R0' : w1.cell? ⟨w.heap.size, 0, none⟩ = some (.int .i64 0) := by rw [hc1 _ _ hsz]; exact R0
          have R1' : w1.cell? ⟨w.heap.size, 1, none⟩ = some (.int .i64 0) := by rw [hc1 _ _ hsz]; exact R1
          have ZR0' : w1.frozen? ⟨w.heap.size, 0, none⟩ = false := by rw [hf1 _ _ hsz]; exact ZR0
          have ZR1' : w1.frozen? ⟨w.heap.size, 1, none⟩ = false := by rw [hf1 _ _ hsz]; exact ZR1
          have hbw := hb.trans (hb1.mono hb.size)
          clear hc1 hf1 hb1 R0 R1 ZR0 ZR1
          go_wp2
          refine bodyPost_ret (v := .tuple #[.agg #[.int .i64 0, .int .i64 0], .bool false]) (by simp [results, Tryd.results16, go_sem, R0', R1']) rfl ?_
          rw [HR.out]
          exact ⟨rfl, (hbw.setCell (Nat.le_refl _) _).setCell (Nat.le_refl _) _⟩
        | some s =>
          go_wp2_with fail
          refine HS.mono ?_
          rintro e w1 ⟨h1, hb1⟩
          simp only at h1
          subst h1
          obtain ⟨hc1, hf1⟩ := bcell hb1
          have R0' : w1.cell? ⟨w.heap.size, 0, none⟩ = some (.int .i64 0) := by rw [hc1 _ _ hsz]; exact R0
          have R1' : w1.cell? ⟨w.heap.size, 1, none⟩ = some (.int .i64 0) := by rw [hc1 _ _ hsz]; exact R1
          have ZR0' : w1.frozen? ⟨w.heap.size, 0, none⟩ = false := by rw [hf1 _ _ hsz]; exact ZR0
          have ZR1' : w1.frozen? ⟨w.heap.size, 1, none⟩ = false := by rw [hf1 _ _ hsz]; exact ZR1
          have hbw := hb.trans (hb1.mono hb.size)
          clear hc1 hf1 hb1 R0 R1 ZR0 ZR1
          go_wp2
          refine bodyPost_ret (v := .tuple #[.agg #[.int .i64 s.1, .int .i64 s.2], .bool true]) (by simp [results, Tryd.results16, go_sem, R0', R1']) rfl ?_
          rw [HR.out]
          exact ⟨rfl, (hbw.setCell (Nat.le_refl _) _).setCell (Nat.le_refl _) _⟩
end Go.Proofs.YtcmhdjoajkljfaaDoor
