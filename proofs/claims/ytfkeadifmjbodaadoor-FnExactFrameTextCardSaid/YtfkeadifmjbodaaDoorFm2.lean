/- The kinds of values that a law copies, compares, marks: frames. -/
import Derived.Test.YtfkeadifmjbodaaDoorFm1
namespace Go.Proofs.YtfkeadifmjbodaaDoor
open Go.ChangeShapes Go.WideShapes Go.ChangeAt Go.RowKit Go.Deep
set_option linter.unusedSimpArgs false
set_option linter.unusedVariables false
/-- A frame that lies at block p. -/
structure FmAt (w : World) (p : Nat) (m : Int) (a : Value) : Prop where
  c0 : w.cell? ⟨p, 0, none⟩ = some (.int .i64 m)
  c1 : w.cell? ⟨p, 1, none⟩ = some a
  lt : p < w.heap.size
theorem FmAt.below {w w' : World} {p : Nat} {m : Int} {a : Value} (h : FmAt w p m a) (hb : Below w.heap.size w w') : FmAt w' p m a :=
  ⟨(hb.cell (p := ⟨p, 0, none⟩) h.lt).trans h.c0, (hb.cell (p := ⟨p, 1, none⟩) h.lt).trans h.c1, Nat.lt_of_lt_of_le h.lt hb.size⟩
theorem FmAt.kept {w w' : World} {p : Nat} {m : Int} {a : Value} {S : Nat → Prop} (h : FmAt w p m a) (hk : Kept w w' S) (hs : ∀ b, p ≤ b → b < p + 1 → ¬ S b) : FmAt w' p m a :=
  ⟨(hk.cell (p := ⟨p, 0, none⟩) h.lt (hs p (Nat.le_refl _) (by omega))).trans h.c0, (hk.cell (p := ⟨p, 1, none⟩) h.lt (hs p (Nat.le_refl _) (by omega))).trans h.c1, Nat.lt_of_lt_of_le h.lt hk.size⟩
theorem fm_at (w : World) (m : Int) (a : Value) : FmAt (w.alloc (.cells #[.int .i64 m, a] 28)) w.heap.size m a :=
  ⟨by go_simp, by go_simp, by simp⟩
theorem fm_atL (w : World) (m : Int) (a : Value) : FmAt (w.alloc (.cells #[.int .i64 m, a] 24)) w.heap.size m a :=
  ⟨by go_simp, by go_simp, by simp⟩
theorem FitsG.room {X : Fm} (h : FitsG X) : X.2.length ≤ 1048576 := h.1.1
/-- The copy of a frame: its attacks in blocks from b on. -/
structure FmR (w : World) (b hi : Nat) (X : Fm) : Prop where
  rows : Js w b b X.2
  own : OwJ w b hi (.slice (some ⟨b, 0, none⟩) X.2.length X.2.length) X.2
  hi : b < hi
  fits : FitsG X
theorem FmR.below {w w' : World} {b hi : Nat} {X : Fm} (h : FmR w b hi X) (hb : Below w.heap.size w w') : FmR w' b hi X :=
  ⟨h.rows.below hb, h.own.below hb, h.hi, h.fits⟩
abbrev fmV (X : Fm) (b : Nat) : Value := .agg #[.int .i64 X.1, .slice (some ⟨b, 0, none⟩) X.2.length X.2.length]
def CpG (w : World) (lo hi : Nat) (v : Value) (X : Fm) : Prop := ∃ b, v = .agg #[.int .i64 X.1, .slice (some ⟨b, 0, none⟩) X.2.length X.2.length] ∧ lo ≤ b ∧ FmR w b hi X
theorem CpG.below {w w' : World} {lo hi : Nat} {v : Value} {X : Fm} (h : CpG w lo hi v X) (hb : Below w.heap.size w w') : CpG w' lo hi v X := by
  obtain ⟨b, e, h1, h2⟩ := h
  exact ⟨b, e, h1, h2.below hb⟩
theorem toCpG (v : Value) (X : Fm) (w : World) (h : ListG w v X) (hf : FitsG X) :
    Calls Tryd.prog 14 #[v] w fun e w' => ∃ u, e = .returned u ∧ CpG w' w.heap.size w'.heap.size u X ∧ Below w.heap.size w w' := by
  obtain ⟨va, rfl, ha⟩ := h
  exact (toFr X.1 va X.2 w ha hf.1).mono fun e w' ⟨⟨b, h1, h2, h5⟩, hb⟩ => ⟨_, h1, ⟨b, rfl, by omega, h5, h5.own (Nat.le_refl _) hf.1 _, h5.lt, hf⟩, hb⟩
set_option maxHeartbeats 1000000 in
theorem eqG (X : Fm) (b hi b' hi' : Nat) (w : World) (h : FmR w b hi X) (h' : FmR w b' hi' X) :
    Calls Tryd.prog 16 #[.agg #[.int .i64 X.1, .slice (some ⟨b, 0, none⟩) X.2.length X.2.length], .agg #[.int .i64 X.1, .slice (some ⟨b', 0, none⟩) X.2.length X.2.length]] w fun e w' => e = .returned (.bool true) ∧ Below w.heap.size w w' := by
  have b1 := ((Below.refl w.heap.size w).alloc (Nat.le_refl _) (.cells #[.int .i64 X.1, .slice (some ⟨b, 0, none⟩) X.2.length X.2.length] 28)).alloc (by simp) (.cells #[.int .i64 X.1, .slice (some ⟨b', 0, none⟩) X.2.length X.2.length] 28)
  have HJ := eqJ _ _ X.2 _ ((h.rows.below b1).list X.2.length) ((h'.rows.below b1).list X.2.length) h.fits.1
  clear h h'
  go_enter Tryd.func16, Tryd.ntmps16
  go_wp2_with fail
  refine HJ.mono ?_
  rintro e w2 ⟨rfl, hb2⟩
  go_wp2
  go_ret
  exact ⟨rfl, b1.trans (hb2.mono b1.size)⟩
set_option maxHeartbeats 1000000 in
theorem markCpG {v : Value} {X : Fm} {w : World} {lo hi : Nat} (h : CpG w lo hi v X) :
    Calls Tryd.prog 19 #[v, .int .i64 1] w fun e w' => (∃ r, e = .returned (.int .i64 r) ∧ 0 ≤ r ∧ r ≤ 3000002097152) ∧ Kept w w' (fun x => lo ≤ x ∧ x < hi) := by
  obtain ⟨b, rfl, h1, h2⟩ := h
  have b1 := (Below.refl w.heap.size w).alloc (Nat.le_refl _) (.cells #[.int .i64 X.1, .slice (some ⟨b, 0, none⟩) X.2.length X.2.length] 28)
  have HM := markOwJ (1 : Int) (h2.own.below b1) (by omega) (by omega)
  have hbh := h2.hi
  clear h2
  go_enter Tryd.func19, Tryd.ntmps19
  go_wp2_with fail
  refine HM.mono ?_
  rintro e w2 ⟨⟨r, rfl, r1, r2, -⟩, hk2⟩
  go_wp2
  go_ret
  exact ⟨⟨r, rfl, by omega, by omega⟩, (Kept.ofBelow b1).trans (hk2.mono (fun x q => by omega))⟩
/-- What a region that compares a frame with a new copy reads: the argument and the copy, kept. -/
def Bg (w0 : World) (p p' : Nat) (m : Int) (a a' : Value) (w' : World) : Prop := w'.cell? ⟨p, 0, none⟩ = some (.int .i64 m) ∧ w'.cell? ⟨p, 1, none⟩ = some a ∧ w'.cell? ⟨p', 0, none⟩ = some (.int .i64 m) ∧ w'.cell? ⟨p', 1, none⟩ = some a' ∧ Hid (Below w0.heap.size w0 w')
theorem Bg.start {w0 : World} {p p' : Nat} {m : Int} {a a' : Value} (h : FmAt w0 p m a) (h' : FmAt w0 p' m a') : Bg w0 p p' m a a' w0 := ⟨h.c0, h.c1, h'.c0, h'.c1, Lib.hid (Below.refl _ _)⟩
theorem Bg.drew {w0 w' : World} {p p' : Nat} {m : Int} {a a' : Value} (h : Bg w0 p p' m a a' w') : Bg w0 p p' m a a' w'.drew := by
  obtain ⟨a, b, d, e, g⟩ := h
  exact ⟨a, b, d, e, Lib.hid g.out.drew⟩
theorem Bg.bel {w0 w' : World} {p p' : Nat} {m : Int} {a a' : Value} (h : Bg w0 p p' m a a' w') : Below w0.heap.size w0 w' := h.2.2.2.2.out
theorem Bg.below {w0 w' w'' : World} {p p' : Nat} {m : Int} {a a' : Value} (h : Bg w0 p p' m a a' w') (hb : Below w'.heap.size w' w'') : Bg w0 p p' m a a' w'' := by
  obtain ⟨a, b, d, e, g⟩ := h
  have k : ∀ {b : Nat} {o : Nat} {v : Value}, w'.cell? ⟨b, o, none⟩ = some v → w''.cell? ⟨b, o, none⟩ = some v := fun {b o v} hc => (hb.cell (p := ⟨b, o, none⟩) (World.block_lt_of_cell? _ _ hc)).trans hc
  exact ⟨k a, k b, k d, k e, Lib.hid (g.out.trans (hb.mono g.out.size))⟩
end Go.Proofs.YtfkeadifmjbodaaDoor
