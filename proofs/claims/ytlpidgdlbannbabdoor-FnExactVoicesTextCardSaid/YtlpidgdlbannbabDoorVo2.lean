/- toVoice and toVoiceS by their contracts. -/
import Derived.Test.YtlpidgdlbannbabDoorVo1
namespace Go.Proofs.YtlpidgdlbannbabDoor
set_option linter.unusedSimpArgs false
open Go.ChangeShapes Go.WideShapes Go.ChangeAt Go.RowKit Go.Deep
/-- A row of the call's own that reads as l. -/
def OwnI (w : World) (c : Nat) (l : List Int) : Prop := w.rowIs c 2 l.length (fun i => .int .i64 (l.getD i 0))
theorem OwnI.below {w w' : World} {c : Nat} {l : List Int} (h : OwnI w c l) (hb : Below w.heap.size w w') : OwnI w' c l :=
  World.rowIs.of_block h (hb.block c h.lt)
theorem toV (s : Bool) (v : Value) (l : List Int) (w : World) (h : RowV w v l) (hl : l.length ≤ 1048576) :
    Calls Tryd.prog 12 #[.agg #[.bool s, v]] w fun e w' => ∃ c, e = .returned (.agg #[.bool s, .slice (some ⟨c, 0, none⟩) l.length l.length]) ∧ w.heap.size < c ∧ OwnI w' c l ∧ Below w.heap.size w w' := by
  go_enter Tryd.func12, Tryd.ntmps12
  go_wp2_with fail
  refine (toI v l _ (h.below ?_) hl).mono ?_
  · repeat first
      | exact Below.refl _ _
      | refine Below.setCell ?_ (by simp) _
      | refine Below.alloc ?_ (by first | exact Nat.le_refl _ | (simp <;> omega)) _
  rintro e w1 ⟨rfl, hrow, hb1⟩
  obtain ⟨hc, hf⟩ := bcell hb1
  have R0 : w1.cell? ⟨w.heap.size + 1 + 1, 0, none⟩ = some (.bool s) := by rw [hc _ _ (by simp)]; go_simp
  have R1 : w1.cell? ⟨w.heap.size + 1 + 1, 1, none⟩ = some (.slice none 0 0) := by rw [hc _ _ (by simp)]; go_simp
  have ZR1 : w1.frozen? ⟨w.heap.size + 1 + 1, 1, none⟩ = false := by rw [hf _ _ (by simp)]; go_simp
  have Q0 : w1.cell? ⟨w.heap.size + 1, 0, none⟩ = some (.bool false) := by rw [hc _ _ (by simp)]; go_simp
  have Q1 : w1.cell? ⟨w.heap.size + 1, 1, none⟩ = some (.slice none 0 0) := by rw [hc _ _ (by simp)]; go_simp
  have ZQ0 : w1.frozen? ⟨w.heap.size + 1, 0, none⟩ = false := by rw [hf _ _ (by simp)]; go_simp
  have ZQ1 : w1.frozen? ⟨w.heap.size + 1, 1, none⟩ = false := by rw [hf _ _ (by simp)]; go_simp
  have hrow' : OwnI w1 (w.heap.size + 1 + 1 + 1) l := by unfold OwnI; simpa using hrow
  have b1 : Below w.heap.size w w1 := ((((Below.refl _ _).alloc (Nat.le_refl _) _).alloc (by simp) _).alloc (by simp; omega) _).trans (hb1.mono (by simp; omega))
  clear hc hf hrow hb1
  go_wp2
  refine bodyPost_ret (v := .agg #[.bool s, .slice (some ⟨w.heap.size + 1 + 1 + 1, 0, none⟩) l.length l.length]) (by simp [results, Tryd.results12, go_sem, Q0, Q1]) rfl ⟨_, rfl, by omega, ?_, ?_⟩
  · exact World.rowIs.setOther (World.rowIs.setOther (World.rowIs.setOther hrow' (by show _ ≠ _ + _; omega) _) (by show _ ≠ _ + _; omega) _) (by show _ ≠ _ + _; omega) _
  · exact ((b1.setCell (by show _ ≤ _ + _; omega) _).setCell (by show _ ≤ _ + _; omega) _).setCell (by show _ ≤ _ + _; omega) _
abbrev Vc := Bool × List Int
/-- Element k of a list of voices that lies at x, each voice of two cells. -/
def ArgV (w : World) (x : Addr) (L : List Vc) : Prop :=
  ∀ k, k < L.length → ∃ v, w.cell? (x.add (k * 2)) = some (.bool (L.getD k (false, [])).1) ∧ w.cell? ⟨(x.add (k * 2)).block, (x.add (k * 2)).off + 1, none⟩ = some v ∧ RowV w v (L.getD k (false, [])).2
set_option maxRecDepth 100000 in
theorem infoV : (Tryd.prog.info? 36).map (fun i => (i.zero, i.size, i.bytes)) = some (some (.agg #[.bool false, .slice none 0 0]), 2, 32) := by kernel_rfl
end Go.Proofs.YtlpidgdlbannbabDoor
