/- The program's SumFractions by its contract; the law on it. -/
import Derived.Test.YtcmhdjoajkljfaaDoorSu3
namespace Go.Proofs.YtcmhdjoajkljfaaDoor
open Go.ChangeShapes Go.WideShapes Go.ChangeAt Go.RowKit Go.Deep
set_option linter.unusedSimpArgs false
set_option linter.unusedVariables false
/-- What sumOf hands back. -/
def suE (r : Option Fq) (w : World) (e : Ending) (w' : World) : Prop :=
  (match r with
   | some s => e = .returned (.tuple #[.agg #[.int .i64 s.1, .int .i64 s.2], .nilIface])
   | none => ∃ t, e = .returned (.tuple #[.agg #[.int .i64 0, .int .i64 0], .iface 94 (.agg #[.string t])])) ∧ Below w.heap.size w w'
set_option maxHeartbeats 2000000 in
set_option maxRecDepth 100000 in
theorem isumOf (L : List Fq) (b cap : Nat) (w : World) (h : Fs w b L) (hn : L.length ≤ 1048576) :
    Calls Tryd.prog 38 #[.slice (some ⟨b, 0, none⟩) L.length cap] w (suE (sumR L) w) := by
  have hbl := World.rowIs.lt h
  by_cases hlong : 20 < L.length
  · have HNO : sumR L = none := by unfold sumR; rw [if_neg (by omega)]
    have b0 := (Below.refl w.heap.size w).alloc (Nat.le_refl _) (.cells #[.int .i64 0, .int .i64 0] 37)
    go_enter Tryd.func38, Tryd.ntmps38
    go_wp2
    refine bodyPost_ret (v := .tuple #[.agg #[.int .i64 0, .int .i64 0], .iface 94 (.agg #[.string ⟨#[116, 104, 101, 32, 108, 105, 115, 116, 32, 105, 115, 32, 116, 111, 111, 32, 108, 111, 110, 103]⟩])]) (by simp [results, Tryd.results38, go_sem]) rfl ?_
    rw [HNO]
    refine ⟨⟨_, rfl⟩, ?_⟩
    repeat first
      | exact b0
      | refine Below.setCell ?_ (by exact Nat.le_refl _) _
  · have HYES : sumR L = foldS L L.length := by unfold sumR; rw [if_pos (by omega)]
    rw [HYES]
    have b0 := ((Below.refl w.heap.size w).alloc (Nat.le_refl _) (.cells #[.int .i64 0, .int .i64 0] 37)).alloc (by simp) (.cells #[.int .i64 0, .int .i64 1] 37)
    go_enter Tryd.func38, Tryd.ntmps38
    go_wp2
    go_loopg [18] L.length (fun g i wr => ∃ (k : Nat) (s : Fq), k ≤ L.length ∧ g = L.length - k ∧ i = .int .i64 k ∧ Below w.heap.size w wr ∧ w.heap.size + 1 < wr.heap.size ∧ Hid (foldS L k = some s) ∧
        wr.cell? ⟨w.heap.size + 1, 0, none⟩ = some (.int .i64 s.1) ∧ wr.cell? ⟨w.heap.size + 1, 1, none⟩ = some (.int .i64 s.2) ∧ wr.frozen? ⟨w.heap.size + 1, 0, none⟩ = false ∧ wr.frozen? ⟨w.heap.size + 1, 1, none⟩ = false ∧
        wr.cell? ⟨w.heap.size, 0, none⟩ = some (.int .i64 0) ∧ wr.cell? ⟨w.heap.size, 1, none⟩ = some (.int .i64 0) ∧ wr.frozen? ⟨w.heap.size, 0, none⟩ = false ∧ wr.frozen? ⟨w.heap.size, 1, none⟩ = false)
    case atStart =>
      refine ⟨0, (0, 1), Nat.zero_le _, rfl, rfl, b0, by simp, foldS_zero L, ?_, ?_, ?_, ?_, ?_, ?_, ?_, ?_⟩
      all_goals go_simp
    case round =>
      clear b0
      obtain ⟨k, s, hk, rfl, rfl, hb, hsz, HS, S0, S1, ZS0, ZS1, R0, R1, ZR0, ZR1⟩ := hrel
      have hsz0 : w.heap.size < wr.heap.size := by omega
      by_cases hlt : k < L.length
      · obtain ⟨a1, a2⟩ := (h.below hb).at hlt
        have hst := foldS_succ L hlt
        rw [HS.out] at hst
        obtain ⟨q, hq⟩ : ∃ q, L.getD k (0, 0) = q := ⟨_, rfl⟩
        rw [hq] at a1 a2 hst
        obtain ⟨fn, fd⟩ := q
        obtain ⟨sn, sd⟩ := s
        simp only at a1 a2 S0 S1
        simp only [stepF] at hst
        have HP := fun w => plus_any sn sd fn fd w
        obtain ⟨z, hz⟩ : ∃ z, gB (okB sn sd && okB fn fd) (sn * fd + fn * sd) (sd * fd) = z := ⟨_, rfl⟩
        rw [hz] at HP hst
        obtain ⟨x, hx⟩ : ∃ x, rN (sn * fd + fn * sd) (sd * fd) = x := ⟨_, rfl⟩
        obtain ⟨y, hy⟩ : ∃ y, rD (sn * fd + fn * sd) (sd * fd) = y := ⟨_, rfl⟩
        rw [hx, hy] at HP hst
        have lb : b < wr.heap.size := (World.rowIs.lt (h.below hb))
        clear hx hy hz hq
        have hba := hb.alloc hb.size (.cells #[.int .i64 fn, .int .i64 fd] 37)
        cases z with
        | true =>
          rw [if_pos rfl] at hst
          have HST := Lib.hid hst
          clear hst
          go_wp2_with fail
          refine (HP _).mono ?_
          rintro e w1 ⟨h1, hb1⟩
          rw [if_pos rfl] at h1
          subst h1
          obtain ⟨hc1, hf1⟩ := bcell hb1
          have S0' : w1.cell? ⟨w.heap.size + 1, 0, none⟩ = some (.int .i64 sn) := by rw [hc1 _ _ (by first | omega | (simp <;> omega))]; go_simp
          have S1' : w1.cell? ⟨w.heap.size + 1, 1, none⟩ = some (.int .i64 sd) := by rw [hc1 _ _ (by first | omega | (simp <;> omega))]; go_simp
          have ZS0' : w1.frozen? ⟨w.heap.size + 1, 0, none⟩ = false := by rw [hf1 _ _ (by first | omega | (simp <;> omega))]; go_simp
          have ZS1' : w1.frozen? ⟨w.heap.size + 1, 1, none⟩ = false := by rw [hf1 _ _ (by first | omega | (simp <;> omega))]; go_simp
          have R0' : w1.cell? ⟨w.heap.size, 0, none⟩ = some (.int .i64 0) := by rw [hc1 _ _ (by first | omega | (simp <;> omega))]; go_simp
          have R1' : w1.cell? ⟨w.heap.size, 1, none⟩ = some (.int .i64 0) := by rw [hc1 _ _ (by first | omega | (simp <;> omega))]; go_simp
          have ZR0' : w1.frozen? ⟨w.heap.size, 0, none⟩ = false := by rw [hf1 _ _ (by first | omega | (simp <;> omega))]; go_simp
          have ZR1' : w1.frozen? ⟨w.heap.size, 1, none⟩ = false := by rw [hf1 _ _ (by first | omega | (simp <;> omega))]; go_simp
          have q1 : w.heap.size + 1 < w1.heap.size := by have := hb1.size; (try simp at this); omega
          have q3 : w.heap.size < w1.heap.size := by omega
          have hbw := hba.trans (hb1.mono hba.size)
          clear hc1 hf1 hb1 S0 S1 R0 R1 ZS0 ZS1 ZR0 ZR1
          go_wp2
          go_roundg (L.length - (k + 1))
          case measure => omega
          case rel =>
            refine ⟨k + 1, (x, y), by omega, rfl, by simp, ?_, ?_, HST, ?_, ?_, ?_, ?_, ?_, ?_, ?_, ?_⟩
            · repeat first
                | exact hbw
                | refine Below.setCell ?_ (by first | exact Nat.le_refl _ | exact Nat.le_succ _ | exact hb.size | exact hbw.size) _
                | refine Below.alloc ?_ (by first | omega | (simp [World.setCell]; omega)) _
            · first | (simp [World.setCell]; omega) | (simp; omega)
            all_goals go_simp
        | false =>
          rw [if_neg (by decide)] at hst
          have HNO : foldS L L.length = none := by
            have := foldS_none (L.length - (k + 1)) (k + 1) hst (by omega)
            rwa [show k + 1 + (L.length - (k + 1)) = L.length by omega] at this
          clear hst
          go_wp2_with fail
          refine (HP _).mono ?_
          rintro e w1 ⟨h1, hb1⟩
          rw [if_neg (by decide)] at h1
          obtain ⟨t, rfl⟩ := h1
          obtain ⟨hc1, hf1⟩ := bcell hb1
          have R0' : w1.cell? ⟨w.heap.size, 0, none⟩ = some (.int .i64 0) := by rw [hc1 _ _ (by first | omega | (simp <;> omega))]; go_simp
          have R1' : w1.cell? ⟨w.heap.size, 1, none⟩ = some (.int .i64 0) := by rw [hc1 _ _ (by first | omega | (simp <;> omega))]; go_simp
          have ZR0' : w1.frozen? ⟨w.heap.size, 0, none⟩ = false := by rw [hf1 _ _ (by first | omega | (simp <;> omega))]; go_simp
          have ZR1' : w1.frozen? ⟨w.heap.size, 1, none⟩ = false := by rw [hf1 _ _ (by first | omega | (simp <;> omega))]; go_simp
          have q3 : w.heap.size < w1.heap.size := by have := hb1.size; (try simp at this); omega
          have hbw := hba.trans (hb1.mono hba.size)
          clear hc1 hf1 hb1 S0 S1 R0 R1 ZS0 ZS1 ZR0 ZR1
          go_wp2
          refine bodyPost_ret (v := .tuple #[.agg #[.int .i64 0, .int .i64 0], .iface 94 (.agg #[.string t])]) (by simp [results, Tryd.results38, go_sem, R0', R1', q3]) rfl ?_
          rw [HNO]
          refine ⟨⟨t, rfl⟩, ?_⟩
          repeat first
            | exact hbw
            | refine Below.setCell ?_ (by first | exact Nat.le_refl _ | exact Nat.le_succ _ | exact hb.size | exact hbw.size) _
            | refine Below.alloc ?_ (by first | omega | (simp [World.setCell]; omega)) _
      · have e : k = L.length := by omega
        subst e
        go_wp2
        refine bodyPost_ret (v := .tuple #[.agg #[.int .i64 s.1, .int .i64 s.2], .nilIface]) (by simp [results, Tryd.results38, go_sem, R0, R1]) rfl ?_
        rw [HS.out]
        exact ⟨rfl, (hb.setCell (Nat.le_refl _) _).setCell (Nat.le_refl _) _⟩
set_option maxHeartbeats 2000000 in
theorem iSumF (L : List Fq) (b cap : Nat) (w : World) (h : Fs w b L) (hn : L.length ≤ 1048576) (hg : ErrT w) :
    Calls Tryd.prog 18 #[.slice (some ⟨b, 0, none⟩) L.length cap] w (suP (sumR L) w) := by
  have b0 := (Below.refl w.heap.size w).alloc (Nat.le_refl _) (.cells #[.int .i64 0, .int .i64 0] 37)
  have HS := isumOf L b cap _ (h.below b0) hn
  have g0 := hg.below b0
  generalize sumR L = r at HS ⊢
  have HG := Lib.hid g0
  clear g0 hg
  cases r with
  | none =>
    go_enter Tryd.func18, Tryd.ntmps18
    go_wp2_with fail
    refine HS.mono ?_
    rintro e w1 ⟨⟨t, rfl⟩, hb1⟩
    have b1 := b0.trans (hb1.mono b0.size)
    have g1 := HG.out.below hb1
    go_wp2_with fail
    refine (border_frac_err 0 0 t _ g1).mono ?_
    rintro e w2 ⟨rfl, hb2⟩
    have b2 := b1.trans (hb2.mono b1.size)
    have z1 : w.heap.size < w1.heap.size := by have := hb1.size; (try simp at this); omega
    obtain ⟨hc1, hf1⟩ := bcell hb1
    obtain ⟨hc2, hf2⟩ := bcell hb2
    have R0 : w2.cell? ⟨w.heap.size, 0, none⟩ = some (.int .i64 0) := by rw [hc2 _ _ z1, hc1 _ _ (by simp)]; go_simp
    have R1 : w2.cell? ⟨w.heap.size, 1, none⟩ = some (.int .i64 0) := by rw [hc2 _ _ z1, hc1 _ _ (by simp)]; go_simp
    have ZR0 : w2.frozen? ⟨w.heap.size, 0, none⟩ = false := by rw [hf2 _ _ z1, hf1 _ _ (by simp)]; go_simp
    have ZR1 : w2.frozen? ⟨w.heap.size, 1, none⟩ = false := by rw [hf2 _ _ z1, hf1 _ _ (by simp)]; go_simp
    clear hc1 hf1 hc2 hf2
    go_wp2
    refine bodyPost_ret (v := .tuple #[.agg #[.int .i64 0, .int .i64 0], .bool false]) (by simp [results, Tryd.results18, go_sem, R0, R1]) rfl ?_
    exact ⟨rfl, (b2.setCell (Nat.le_refl _) _).setCell (Nat.le_refl _) _⟩
  | some s =>
    go_enter Tryd.func18, Tryd.ntmps18
    go_wp2_with fail
    refine HS.mono ?_
    rintro e w1 ⟨h1, hb1⟩
    simp only at h1
    subst h1
    have b1 := b0.trans (hb1.mono b0.size)
    go_wp2_with fail
    refine (border_frac_nil s.1 s.2 _).mono ?_
    rintro e w2 ⟨rfl, hb2⟩
    have b2 := b1.trans (hb2.mono b1.size)
    have z1 : w.heap.size < w1.heap.size := by have := hb1.size; (try simp at this); omega
    obtain ⟨hc1, hf1⟩ := bcell hb1
    obtain ⟨hc2, hf2⟩ := bcell hb2
    have R0 : w2.cell? ⟨w.heap.size, 0, none⟩ = some (.int .i64 0) := by rw [hc2 _ _ z1, hc1 _ _ (by simp)]; go_simp
    have R1 : w2.cell? ⟨w.heap.size, 1, none⟩ = some (.int .i64 0) := by rw [hc2 _ _ z1, hc1 _ _ (by simp)]; go_simp
    have ZR0 : w2.frozen? ⟨w.heap.size, 0, none⟩ = false := by rw [hf2 _ _ z1, hf1 _ _ (by simp)]; go_simp
    have ZR1 : w2.frozen? ⟨w.heap.size, 1, none⟩ = false := by rw [hf2 _ _ z1, hf1 _ _ (by simp)]; go_simp
    clear hc1 hf1 hc2 hf2
    go_wp2
    refine bodyPost_ret (v := .tuple #[.agg #[.int .i64 s.1, .int .i64 s.2], .bool true]) (by simp [results, Tryd.results18, go_sem, R0, R1]) rfl ?_
    exact ⟨rfl, (b2.setCell (Nat.le_refl _) _).setCell (Nat.le_refl _) _⟩
end Go.Proofs.YtcmhdjoajkljfaaDoor
