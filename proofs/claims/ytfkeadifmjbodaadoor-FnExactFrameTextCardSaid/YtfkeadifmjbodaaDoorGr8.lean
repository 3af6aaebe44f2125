/- The program's ValidFrame. -/
import Derived.Test.YtfkeadifmjbodaaDoorGr7
namespace Go.Proofs.YtfkeadifmjbodaaDoor
open Go.ChangeShapes Go.WideShapes Go.ChangeAt Go.RowKit Go.Deep Go.Maps
set_option linter.unusedSimpArgs false
set_option linter.unusedVariables false
set_option maxRecDepth 100000
theorem graphof_yes (X : Fm) (b hi : Nat) (w : World) (h : FmR w b hi X) (ok : fOk X) :
    Calls Tryd.prog 65 #[.agg #[.int .i64 X.1, .slice (some ⟨b, 0, none⟩) X.2.length X.2.length]] w fun e w' => ∃ m, e = .returned (.agg #[.int .i64 X.1, .map (some m)]) ∧ GrIs w' X.1.toNat m X.2 ∧ Below w.heap.size w w' :=
  (graphof X b hi w h).mono fun e w' h => by
    obtain ⟨⟨_, m, h1, h2⟩ | ⟨h1, _⟩, h3⟩ := h
    · exact ⟨m, h1, h2, h3⟩
    · exact absurd ok h1
theorem graphof_no (X : Fm) (b hi : Nat) (w : World) (h : FmR w b hi X) (no : ¬ fOk X) :
    Calls Tryd.prog 65 #[.agg #[.int .i64 X.1, .slice (some ⟨b, 0, none⟩) X.2.length X.2.length]] w fun e w' => Panics e ∧ Below w.heap.size w w' :=
  (graphof X b hi w h).mono fun e w' h => by
    obtain ⟨⟨h1, _⟩ | ⟨_, h1⟩, h3⟩ := h
    · exact absurd h1 no
    · exact ⟨h1, h3⟩
theorem vf1_no (X : Fm) (b hi p : Nat) (w : World) (h : FmR w b hi X) (no : ¬ fOk X) (hp : FmAt w p X.1 (.slice (some ⟨b, 0, none⟩) X.2.length X.2.length)) :
    Calls Tryd.prog 113 #[.pointer (some ⟨p, 0, none⟩)] w fun e w' => Panics e ∧ Below w.heap.size w w' := by
  have b0 := (Below.refl w.heap.size w).alloc (Nat.le_refl _) (.cells #[.int .i64 0, .map none] 79)
  have HG := graphof_no X b hi _ (h.below b0) no
  obtain ⟨p0, p1, pl⟩ := hp
  clear h no
  go_enter Tryd.func113, Tryd.ntmps113
  go_wp2_with fail
  refine HG.mono ?_
  rintro e w1 ⟨⟨u, v, rfl⟩, hb1⟩
  go_wp2
  exact ⟨rfl, ⟨_, _, rfl⟩, b0.trans (hb1.mono b0.size)⟩
theorem vf1_yes (X : Fm) (b hi p : Nat) (w : World) (h : FmR w b hi X) (ok : fOk X) (hp : FmAt w p X.1 (.slice (some ⟨b, 0, none⟩) X.2.length X.2.length)) :
    Calls Tryd.prog 113 #[.pointer (some ⟨p, 0, none⟩)] w fun e w' => ∃ m, e = .returned (.agg #[.int .i64 X.1, .map (some m)]) ∧ Below w.heap.size w w' ∧ True := by
  have b0 := (Below.refl w.heap.size w).alloc (Nat.le_refl _) (.cells #[.int .i64 0, .map none] 79)
  have HG := graphof_yes X b hi _ (h.below b0) ok
  obtain ⟨p0, p1, pl⟩ := hp
  clear h ok
  go_enter Tryd.func113, Tryd.ntmps113
  go_wp2_with fail
  refine HG.mono ?_
  rintro e w1 ⟨m, rfl, hm, hb1⟩
  have c0 : w1.cell? ⟨w.heap.size, 0, none⟩ = some (.int .i64 0) := by rw [hb1.cell (p := ⟨w.heap.size, 0, none⟩) (by simp)]; go_simp
  have c1 : w1.cell? ⟨w.heap.size, 1, none⟩ = some (.map none) := by rw [hb1.cell (p := ⟨w.heap.size, 1, none⟩) (by simp)]; go_simp
  have f0 : w1.frozen? ⟨w.heap.size, 0, none⟩ = false := by rw [hb1.frozen (p := ⟨w.heap.size, 0, none⟩) (by simp)]; go_simp
  have f1 : w1.frozen? ⟨w.heap.size, 1, none⟩ = false := by rw [hb1.frozen (p := ⟨w.heap.size, 1, none⟩) (by simp)]; go_simp
  have b1 := b0.trans (hb1.mono b0.size)
  clear hm hb1
  go_wp2
  exact bodyPost_ret (v := .agg #[.int .i64 X.1, .map (some m)]) (by simp [results, Tryd.results113, go_sem, c0, c1]) rfl ⟨m, rfl, (b1.setCell (Nat.le_refl _) _).setCell (Nat.le_refl _) _, trivial⟩
theorem iVF (X : Fm) (w : World) (lo hi : Nat) (u : Value) (h : CpG w lo hi u X) : Calls Tryd.prog 48 #[u] w (Pb (fOkB X) w) := by
  obtain ⟨b, rfl, -, h⟩ := h
  have b0 := (Below.refl w.heap.size w).alloc (Nat.le_refl _) (.cells #[.int .i64 X.1, .slice (some ⟨b, 0, none⟩) X.2.length X.2.length] 28)
  have hp := fm_at w X.1 (.slice (some ⟨b, 0, none⟩) X.2.length X.2.length)
  unfold Pb
  by_cases ok : fOk X
  · have E := Lib.hid (fOkB_yes ok)
    have b1 := b0.alloc (by simp) (.cells #[.int .i64 0, .map none] 79)
    have HV := att_yes_graph 113 (fun _ _ => rfl) #[.pointer (some ⟨w.heap.size, 0, none⟩)] _ X.1 (fun _ _ => True)
      (vf1_yes X b hi w.heap.size _ ((h.below b0).below ((Below.refl _ _).alloc (Nat.le_refl _) _)) ok (hp.below ((Below.refl _ _).alloc (Nat.le_refl _) _)))
    clear h hp ok
    go_enter Tryd.func48, Tryd.ntmps48
    go_wp2_with fail
    refine HV.mono ?_
    rintro e w1 ⟨m, rfl, hb1⟩
    have b2 := b0.trans (hb1.mono b0.size)
    go_wp2
    go_ret
    exact ⟨by rw [E.out]; rfl, b2.alloc (by have := b2.size; omega) _⟩
  · have E := Lib.hid (fOkB_no ok)
    have HV := att_no_graph 113 (fun _ _ => rfl) #[.pointer (some ⟨w.heap.size, 0, none⟩)] _
      (vf1_no X b hi w.heap.size _ ((h.below b0).below ((Below.refl _ _).alloc (Nat.le_refl _) _)) ok (hp.below ((Below.refl _ _).alloc (Nat.le_refl _) _)))
    clear h hp ok
    go_enter Tryd.func48, Tryd.ntmps48
    go_wp2_with fail
    refine HV.mono ?_
    rintro e w1 ⟨rfl, hb1⟩
    have b2 := b0.trans (hb1.mono b0.size)
    go_wp2
    go_ret
    exact ⟨by rw [E.out]; rfl, b2.alloc (by have := b2.size; omega) _⟩
end Go.Proofs.YtfkeadifmjbodaaDoor
