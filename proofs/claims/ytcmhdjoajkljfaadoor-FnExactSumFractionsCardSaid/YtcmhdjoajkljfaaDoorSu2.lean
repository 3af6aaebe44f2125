/- The specification's sum of a list of fractions, by contracts. -/
import Derived.Test.YtcmhdjoajkljfaaDoorSu1
import Derived.Deep.RegionHeld3
namespace Go.Proofs.YtcmhdjoajkljfaaDoor
open Go.ChangeShapes Go.WideShapes Go.ChangeAt Go.RowKit Go.Deep
set_option linter.unusedSimpArgs false
set_option linter.unusedVariables false
/-- One fraction more. -/
noncomputable def stepF (s : Option Fq) (f : Fq) : Option Fq :=
  match s with
  | none => none
  | some s => if gB (okB s.1 s.2 && okB f.1 f.2) (s.1 * f.2 + f.1 * s.2) (s.2 * f.2) = true then some (rN (s.1 * f.2 + f.1 * s.2) (s.2 * f.2), rD (s.1 * f.2 + f.1 * s.2) (s.2 * f.2)) else none
noncomputable def foldS (L : List Fq) (k : Nat) : Option Fq := (L.take k).foldl stepF (some (0, 1))
theorem foldS_zero (L : List Fq) : foldS L 0 = some (0, 1) := rfl
theorem foldS_succ (L : List Fq) {k : Nat} (h : k < L.length) : foldS L (k + 1) = stepF (foldS L k) (L.getD k (0, 0)) := by
  unfold foldS
  rw [List.take_add_one, List.foldl_append]
  simp [List.getD, h]
theorem foldS_none {L : List Fq} : ∀ (m k : Nat), foldS L k = none → k + m ≤ L.length → foldS L (k + m) = none := by
  intro m
  induction m with
  | zero => intro k h _; exact h
  | succ m ih =>
    intro k h hk
    have h1 := ih k h (by omega)
    have h2 := foldS_succ L (k := k + m) (by omega)
    rw [h1] at h2
    exact h2
theorem foldS_ok {L : List Fq} : ∀ (k : Nat) (s : Fq), k ≤ L.length → foldS L k = some s → okF s.1 s.2 := by
  intro k
  induction k with
  | zero => intro s _ h; rw [foldS_zero] at h; cases h; exact ⟨by omega, by omega, by omega, by omega, by decide⟩
  | succ k ih =>
    intro s hk h
    rw [foldS_succ L (by omega)] at h
    cases hp : foldS L k with
    | none => rw [hp] at h; cases h
    | some q =>
      rw [hp] at h
      simp only [stepF] at h
      split at h
      · rename_i hg
        cases h
        unfold gB at hg
        exact okB_t (by simp at hg; exact hg.2)
      · cases h
noncomputable def sumR (L : List Fq) : Option Fq := if L.length ≤ 20 then foldS L L.length else none
/-- What the sum hands back. -/
def suP (r : Option Fq) (w : World) (e : Ending) (w' : World) : Prop :=
  (match r with
   | some s => e = .returned (.tuple #[.agg #[.int .i64 s.1, .int .i64 s.2], .bool true])
   | none => e = .returned (.tuple #[.agg #[.int .i64 0, .int .i64 0], .bool false])) ∧ Below w.heap.size w w'
theorem sumR_none {L : List Fq} {k : Nat} (hk : k < L.length) (h : okB (L.getD k (0, 0)).1 (L.getD k (0, 0)).2 = false) : sumR L = none := by
  unfold sumR
  split
  · have h1 : foldS L (k + 1) = none := by
      rw [foldS_succ L hk]
      cases foldS L k with
      | none => rfl
      | some s =>
        have : (okB s.1 s.2 && okB (L.getD k (0, 0)).1 (L.getD k (0, 0)).2) = false := by rw [h]; simp
        simp only [stepF, this]
        simp [gB]
    have := foldS_none (L.length - (k + 1)) (k + 1) h1 (by omega)
    rwa [show k + 1 + (L.length - (k + 1)) = L.length by omega] at this
  · rfl
theorem new_lt (w : World) (o : Obj) : w.heap.size < (w.drew.alloc o).heap.size := by simp
theorem new0 (w : World) (t : TypeId) (x y : Value) : (w.drew.alloc (.cells #[x, y] t)).cell? ⟨w.heap.size, 0, none⟩ = some x := by go_simp
theorem new1 (w : World) (t : TypeId) (x y : Value) : (w.drew.alloc (.cells #[x, y] t)).cell? ⟨w.heap.size, 1, none⟩ = some y := by go_simp
theorem newf (w : World) (t : TypeId) (x y : Value) (o : Nat) : (w.drew.alloc (.cells #[x, y] t)).frozen? ⟨w.heap.size, o, none⟩ = false := by go_simp
set_option maxHeartbeats 4000000 in
set_option maxRecDepth 100000 in
theorem sl01Sum (L : List Fq) (b cap : Nat) (w : World) (h : Fs w b L) (hn : L.length ≤ 20) (hok : ∀ k, k < L.length → okF (L.getD k (0, 0)).1 (L.getD k (0, 0)).2) :
    Calls Tryd.prog 35 #[.slice (some ⟨b, 0, none⟩) L.length cap] w (suP (foldS L L.length) w) := by
  have HOK := Lib.hid hok
  clear hok
  have hbl := World.rowIs.lt h
  have b0 := ((Below.refl w.heap.size w).alloc (Nat.le_refl _) (.cells #[.int .i64 0, .int .i64 0] 37)).alloc (by simp) (.cells #[.int .i64 0, .int .i64 1] 37)
  go_enter Tryd.func35, Tryd.ntmps35
  go_wp2
  go_loopg [5] L.length (fun g i wr => ∃ (k : Nat) (s : Fq), k ≤ L.length ∧ g = L.length - k ∧ i = .int .i64 k ∧ Below w.heap.size w wr ∧ w.heap.size + 1 < wr.heap.size ∧ Hid (foldS L k = some s) ∧
      wr.cell? ⟨w.heap.size + 1, 0, none⟩ = some (.int .i64 s.1) ∧ wr.cell? ⟨w.heap.size + 1, 1, none⟩ = some (.int .i64 s.2) ∧ wr.frozen? ⟨w.heap.size + 1, 0, none⟩ = false ∧ wr.frozen? ⟨w.heap.size + 1, 1, none⟩ = false ∧
      wr.cell? ⟨w.heap.size, 0, none⟩ = some (.int .i64 0) ∧ wr.cell? ⟨w.heap.size, 1, none⟩ = some (.int .i64 0) ∧ wr.frozen? ⟨w.heap.size, 0, none⟩ = false ∧ wr.frozen? ⟨w.heap.size, 1, none⟩ = false)
  case atStart =>
    refine ⟨0, (0, 1), Nat.zero_le _, rfl, rfl, b0, by simp, foldS_zero L, ?_, ?_, ?_, ?_, ?_, ?_, ?_, ?_⟩
    all_goals go_simp
  case round =>
    clear b0
    obtain ⟨k, s, hk, rfl, rfl, hb, hsz, HS, S0, S1, ZS0, ZS1, R0, R1, ZR0, ZR1⟩ := hrel
    have hsz0 : w.heap.size < wr.heap.size := by omega
    by_cases hlt : k < L.length
    · obtain ⟨a1, a2⟩ := (h.below hb).at hlt
      have hfo := HOK.out k hlt
      have hso := foldS_ok k s hk HS.out
      have hst := foldS_succ L hlt
      rw [HS.out] at hst
      obtain ⟨q, hq⟩ : ∃ q, L.getD k (0, 0) = q := ⟨_, rfl⟩
      rw [hq] at a1 a2 hfo hst
      obtain ⟨fn, fd⟩ := q
      obtain ⟨sn, sd⟩ := s
      simp only at a1 a2 hfo hso S0 S1
      have hpp : (okB sn sd && okB fn fd) = true := by rw [okB_yes hso, okB_yes hfo]; rfl
      simp only [stepF, hpp] at hst
      have HA := fun w => sadd sn sd fn fd w hso hfo
      obtain ⟨z, hz⟩ : ∃ z, gB true (sn * fd + fn * sd) (sd * fd) = z := ⟨_, rfl⟩
      rw [hz] at HA hst
      have lb : b < wr.heap.size := (World.rowIs.lt (h.below hb))
      cases z with
      | true =>
        rw [(g_yes hz).1, (g_yes hz).2] at HA
        rw [if_pos rfl] at hst
        obtain ⟨x, hx⟩ : ∃ x, rN (sn * fd + fn * sd) (sd * fd) = x := ⟨_, rfl⟩
        obtain ⟨y, hy⟩ : ∃ y, rD (sn * fd + fn * sd) (sd * fd) = y := ⟨_, rfl⟩
        rw [hx, hy] at HA hst
        have HST := Lib.hid hst
        clear hst hx hy hz hpp hfo hso hq
        go_wp2_with fail
        go_region_with (go_at_call 57; refine (HA _).mono ?_; rintro e w1 ⟨rfl, hb1⟩; obtain ⟨hc1, hf1⟩ := bcell hb1; first | (have N0 := (hc1 _ 0 (new_lt wr _)).trans (new0 wr _ _ _); have N1 := (hc1 _ 1 (new_lt wr _)).trans (new1 wr _ _ _); have M0 := (hf1 _ 0 (new_lt wr _)).trans (newf wr _ _ _ 0); have M1 := (hf1 _ 1 (new_lt wr _)).trans (newf wr _ _ _ 1)) | skip)
        all_goals (
          have q1 : w.heap.size + 1 < w1.heap.size := by have := hb1.size; (try simp at this); omega
          have S0' : w1.cell? ⟨w.heap.size + 1, 0, none⟩ = some (.int .i64 sn) := by rw [hc1 _ _ (by first | omega | (simp <;> omega))]; go_simp
          have S1' : w1.cell? ⟨w.heap.size + 1, 1, none⟩ = some (.int .i64 sd) := by rw [hc1 _ _ (by first | omega | (simp <;> omega))]; go_simp
          have ZS0' : w1.frozen? ⟨w.heap.size + 1, 0, none⟩ = false := by rw [hf1 _ _ (by first | omega | (simp <;> omega))]; go_simp
          have ZS1' : w1.frozen? ⟨w.heap.size + 1, 1, none⟩ = false := by rw [hf1 _ _ (by first | omega | (simp <;> omega))]; go_simp
          have R0' : w1.cell? ⟨w.heap.size, 0, none⟩ = some (.int .i64 0) := by rw [hc1 _ _ (by first | omega | (simp <;> omega))]; go_simp
          have R1' : w1.cell? ⟨w.heap.size, 1, none⟩ = some (.int .i64 0) := by rw [hc1 _ _ (by first | omega | (simp <;> omega))]; go_simp
          have ZR0' : w1.frozen? ⟨w.heap.size, 0, none⟩ = false := by rw [hf1 _ _ (by first | omega | (simp <;> omega))]; go_simp
          have ZR1' : w1.frozen? ⟨w.heap.size, 1, none⟩ = false := by rw [hf1 _ _ (by first | omega | (simp <;> omega))]; go_simp
          have q3 : w.heap.size < w1.heap.size := by omega
          have hbw : Below w.heap.size w w1 := by
            first
              | exact (hb.drew).trans (hb1.mono (by have := hb.size; simp; omega))
              | exact ((hb.alloc hb.size _).drew).trans (hb1.mono (by have := hb.size; simp; omega))
          clear hc1 hf1 hb1 S0 S1 R0 R1 ZS0 ZS1 ZR0 ZR1
          go_wp2
          go_roundg (L.length - (k + 1)))
        all_goals first
          | omega
          | (refine ⟨k + 1, (x, y), by omega, by first | rfl | omega, by simp, ?_, ?_, HST, ?_, ?_, ?_, ?_, ?_, ?_, ?_, ?_⟩
             · repeat first
                 | exact hbw
                 | refine Below.setCell ?_ (by first | exact Nat.le_refl _ | exact Nat.le_succ _ | exact hb.size | exact hbw.size) _
                 | refine Below.alloc ?_ (by first | omega | (simp [World.setCell]; omega)) _
             · first | (simp [World.setCell]; omega) | (simp; omega)
             all_goals go_simp)
      | false =>
        rw [(g_no hz).1, (g_no hz).2] at HA
        rw [if_neg (by decide)] at hst
        have HNO : foldS L L.length = none := by
          have := foldS_none (L.length - (k + 1)) (k + 1) hst (by omega)
          rwa [show k + 1 + (L.length - (k + 1)) = L.length by omega] at this
        clear hst hz hpp hfo hso hq
        go_wp2_with fail
        go_region_with (go_at_call 57; refine (HA _).mono ?_; rintro e w1 ⟨rfl, hb1⟩; obtain ⟨hc1, hf1⟩ := bcell hb1; first | (have N0 := (hc1 _ 0 (new_lt wr _)).trans (new0 wr _ _ _); have N1 := (hc1 _ 1 (new_lt wr _)).trans (new1 wr _ _ _); have M0 := (hf1 _ 0 (new_lt wr _)).trans (newf wr _ _ _ 0); have M1 := (hf1 _ 1 (new_lt wr _)).trans (newf wr _ _ _ 1)) | skip)
        all_goals (
          have q1 : w.heap.size + 1 < w1.heap.size := by have := hb1.size; (try simp at this); omega
          have S0' : w1.cell? ⟨w.heap.size + 1, 0, none⟩ = some (.int .i64 sn) := by rw [hc1 _ _ (by first | omega | (simp <;> omega))]; go_simp
          have S1' : w1.cell? ⟨w.heap.size + 1, 1, none⟩ = some (.int .i64 sd) := by rw [hc1 _ _ (by first | omega | (simp <;> omega))]; go_simp
          have ZS0' : w1.frozen? ⟨w.heap.size + 1, 0, none⟩ = false := by rw [hf1 _ _ (by first | omega | (simp <;> omega))]; go_simp
          have ZS1' : w1.frozen? ⟨w.heap.size + 1, 1, none⟩ = false := by rw [hf1 _ _ (by first | omega | (simp <;> omega))]; go_simp
          have R0' : w1.cell? ⟨w.heap.size, 0, none⟩ = some (.int .i64 0) := by rw [hc1 _ _ (by first | omega | (simp <;> omega))]; go_simp
          have R1' : w1.cell? ⟨w.heap.size, 1, none⟩ = some (.int .i64 0) := by rw [hc1 _ _ (by first | omega | (simp <;> omega))]; go_simp
          have ZR0' : w1.frozen? ⟨w.heap.size, 0, none⟩ = false := by rw [hf1 _ _ (by first | omega | (simp <;> omega))]; go_simp
          have ZR1' : w1.frozen? ⟨w.heap.size, 1, none⟩ = false := by rw [hf1 _ _ (by first | omega | (simp <;> omega))]; go_simp
          have q3 : w.heap.size < w1.heap.size := by omega
          have hbw : Below w.heap.size w w1 := by
            first
              | exact (hb.drew).trans (hb1.mono (by have := hb.size; simp; omega))
              | exact ((hb.alloc hb.size _).drew).trans (hb1.mono (by have := hb.size; simp; omega))
          clear hc1 hf1 hb1 S0 S1 R0 R1 ZS0 ZS1 ZR0 ZR1
          go_wp2
          refine bodyPost_ret (v := .tuple #[.agg #[.int .i64 0, .int .i64 0], .bool false]) (by simp [results, Tryd.results35, go_sem, R0', R1', q1, q3]) rfl ?_
          rw [HNO]
          refine ⟨rfl, ?_⟩
          repeat first
            | exact hbw
            | refine Below.setCell ?_ (by first | exact Nat.le_refl _ | exact Nat.le_succ _ | exact hb.size | exact hbw.size) _
            | refine Below.alloc ?_ (by first | omega | (simp [World.setCell]; omega)) _)
    · have e : k = L.length := by omega
      subst e
      go_wp2
      refine bodyPost_ret (v := .tuple #[.agg #[.int .i64 s.1, .int .i64 s.2], .bool true]) (by simp [results, Tryd.results35, go_sem, R0, R1]) rfl ?_
      rw [HS.out]
      exact ⟨rfl, (hb.setCell (Nat.le_refl _) _).setCell (Nat.le_refl _) _⟩
end Go.Proofs.YtcmhdjoajkljfaaDoor
