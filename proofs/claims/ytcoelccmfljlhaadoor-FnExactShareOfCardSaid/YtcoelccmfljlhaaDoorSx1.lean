/- The share of each voter: the specification's fraction and the program's. -/
import Derived.Test.YtcoelccmfljlhaaDoorEv2
import Derived.Test.YtcoelccmfljlhaaDoorLFrac
namespace Go.Proofs.YtcoelccmfljlhaaDoor
open Go.ChangeShapes Go.WideShapes Go.ChangeAt Go.RowKit Go.Deep
set_option linter.unusedSimpArgs false
set_option linter.unusedVariables false
theorem dnew_lt (w : World) (o : Obj) : w.heap.size < (w.drew.alloc o).heap.size := by simp
theorem dnew0 (w : World) (t : TypeId) (x y : Value) : (w.drew.alloc (.cells #[x, y] t)).cell? ⟨w.heap.size, 0, none⟩ = some x := by go_simp
theorem dnew1 (w : World) (t : TypeId) (x y : Value) : (w.drew.alloc (.cells #[x, y] t)).cell? ⟨w.heap.size, 1, none⟩ = some y := by go_simp
theorem dnewf (w : World) (t : TypeId) (x y : Value) (o : Nat) : (w.drew.alloc (.cells #[x, y] t)).frozen? ⟨w.heap.size, o, none⟩ = false := by go_simp
set_option maxHeartbeats 2000000 in
set_option maxRecDepth 100000 in
theorem sshare (M x y : Int) (n cap p : Nat) (a : Option Addr) (cv : Value) (z : Bool) (w : World) (hp : ElAt w p M cv (.slice a n cap)) (hn : n ≤ 1048576) (HA : ∀ w, Calls Tryd.prog 22 #[.int .i64 M, .int .i64 (n : Int)] w (frP z x y w)) :
    Calls Tryd.prog 13 #[.pointer (some ⟨p, 0, none⟩)] w fun e w' => e = .returned (.agg #[.int .i64 x, .int .i64 y]) ∧ Below w.heap.size w w' := by
  obtain ⟨p0, p1, p2, pl⟩ := hp
  obtain ⟨W1, hW1⟩ : ∃ W1, W1 = w.alloc (.cells #[.int .i64 0, .int .i64 0] 28) := ⟨_, rfl⟩
  have b0 : Below w.heap.size w W1 := by rw [hW1]; exact ((Below.refl w.heap.size w).alloc (Nat.le_refl _) (.cells #[.int .i64 0, .int .i64 0] 28))
  have R0 : W1.cell? ⟨w.heap.size, 0, none⟩ = some (.int .i64 0) := by rw [hW1]; go_simp
  have R1 : W1.cell? ⟨w.heap.size, 1, none⟩ = some (.int .i64 0) := by rw [hW1]; go_simp
  have Z0 : W1.frozen? ⟨w.heap.size, 0, none⟩ = false := by rw [hW1]; go_simp
  have Z1 : W1.frozen? ⟨w.heap.size, 1, none⟩ = false := by rw [hW1]; go_simp
  have np : p ≠ w.heap.size := by omega
  have e0 : W1.cell? ⟨p, 0, none⟩ = some (.int .i64 M) := by rw [hW1]; go_simp
  have e2 : W1.cell? ⟨p, 2, none⟩ = some (.slice a n cap) := by rw [hW1]; go_simp
  have q0 : w.heap.size < W1.heap.size := by rw [hW1]; simp
  have pW : p < W1.heap.size := by omega
  have HW := Lib.hid hW1
  clear hW1 p0 p1 p2
  go_enter Tryd.func13, Tryd.ntmps13
  go_wp2_with fail
  rw [← HW.out]
  go_region_with (go_at_call 22; refine (HA _).mono ?_; rintro e w1 ⟨rfl, hb1⟩; obtain ⟨hc1, hf1⟩ := bcell hb1; first | (have N0 := (hc1 _ 0 (dnew_lt W1 _)).trans (dnew0 W1 _ _ _); have N1 := (hc1 _ 1 (dnew_lt W1 _)).trans (dnew1 W1 _ _ _); have M0 := (hf1 _ 0 (dnew_lt W1 _)).trans (dnewf W1 _ _ _ 0); have M1 := (hf1 _ 1 (dnew_lt W1 _)).trans (dnewf W1 _ _ _ 1)) | skip)
  all_goals (
    have q1 : w.heap.size < w1.heap.size := by have := hb1.size; (try simp at this); omega
    have R0' : w1.cell? ⟨w.heap.size, 0, none⟩ = some (.int .i64 0) := by rw [hc1 _ _ (by first | omega | (simp <;> omega))]; go_simp
    have R1' : w1.cell? ⟨w.heap.size, 1, none⟩ = some (.int .i64 0) := by rw [hc1 _ _ (by first | omega | (simp <;> omega))]; go_simp
    have Z0' : w1.frozen? ⟨w.heap.size, 0, none⟩ = false := by rw [hf1 _ _ (by first | omega | (simp <;> omega))]; go_simp
    have Z1' : w1.frozen? ⟨w.heap.size, 1, none⟩ = false := by rw [hf1 _ _ (by first | omega | (simp <;> omega))]; go_simp
    have hbw : Below w.heap.size w w1 := by
      first
        | exact (b0.drew).trans (hb1.mono (by have := b0.size; simp; omega))
        | exact ((b0.alloc b0.size _).drew).trans (hb1.mono (by have := b0.size; simp; omega))
        | exact ((b0.drew).alloc b0.size _).trans (hb1.mono (by have := b0.size; simp; omega))
    clear hc1 hf1 hb1 R0 R1 Z0 Z1
    go_wp2
    refine bodyPost_ret (v := .agg #[.int .i64 x, .int .i64 y]) (by first | (simp [results, Tryd.results13, go_sem]; done) | (simp [results, Tryd.results13, go_sem, R0', R1', q1, Nat.ne_of_lt q1, (Nat.ne_of_lt q1).symm]; done) | (simp [results, Tryd.results13, go_sem, R0', R1']; go_simp; done)) rfl ⟨rfl, ?_⟩
    repeat first
      | exact hbw
      | refine Below.setCell ?_ (by first | exact Nat.le_refl _ | exact Nat.le_succ _ | exact hbw.size | exact b0.size | omega) _
      | refine Below.alloc ?_ (by first | exact hbw.size | omega | (simp [World.setCell]; omega)) _
      | refine Below.drew ?_)
end Go.Proofs.YtcoelccmfljlhaaDoor
