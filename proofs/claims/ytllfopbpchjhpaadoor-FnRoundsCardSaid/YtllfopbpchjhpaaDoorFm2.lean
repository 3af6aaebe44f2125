/- The kinds of values that a law copies, compares, marks: frames. -/
import Derived.Test.YtllfopbpchjhpaaDoorFm1
namespace Go.Proofs.YtllfopbpchjhpaaDoor
open Go.ChangeShapes Go.WideShapes Go.ChangeAt Go.RowKit Go.Deep
set_option linter.unusedSimpArgs false
set_option linter.unusedVariables false
/-- A frame that lies at block p. -/
structure FmAt (w : World) (p : Nat) (m : Int) (a : Value) : Prop where
  c0 : w.cell? ⟨p, 0, none⟩ = some (.int .i64 m)
  c1 : w.cell? ⟨p, 1, none⟩ = some a
  lt : p < w.heap.size
theorem FmAt.below {w w' : World} {p : Nat} {m : Int} {a : Value} (h : FmAt w p m a) (hb : Below w.heap.size w w') : FmAt w' p m a :=
  ⟨(hb.cell (p := ⟨p, 0, none⟩) h.lt).trans h.c0, (hb.cell (p := ⟨p, 1, none⟩) h.lt).trans h.c1, Nat.lt_of_lt_of_le h.lt hb.size⟩
theorem FmAt.kept {w w' : World} {p : Nat} {m : Int} {a : Value} {S : Nat → Prop} (h : FmAt w p m a) (hk : Kept w w' S) (hs : ∀ b, p ≤ b → b < p + 1 → ¬ S b) : FmAt w' p m a :=
  ⟨(hk.cell (p := ⟨p, 0, none⟩) h.lt (hs p (Nat.le_refl _) (by omega))).trans h.c0, (hk.cell (p := ⟨p, 1, none⟩) h.lt (hs p (Nat.le_refl _) (by omega))).trans h.c1, Nat.lt_of_lt_of_le h.lt hk.size⟩
theorem fm_at (w : World) (m : Int) (a : Value) : FmAt (w.alloc (.cells #[.int .i64 m, a] 26)) w.heap.size m a :=
  ⟨by go_simp, by go_simp, by simp⟩
theorem FitsG.room {X : Fm} (h : FitsG X) : X.2.length ≤ 1048576 := h.1.1
/-- The copy of a frame: its attacks in blocks from b on. -/
structure FmR (w : World) (b hi : Nat) (X : Fm) : Prop where
  rows : Js w b b X.2
  own : OwJ w b hi (.slice (some ⟨b, 0, none⟩) X.2.length X.2.length) X.2
  hi : b < hi
  fits : FitsG X
theorem FmR.below {w w' : World} {b hi : Nat} {X : Fm} (h : FmR w b hi X) (hb : Below w.heap.size w w') : FmR w' b hi X :=
  ⟨h.rows.below hb, h.own.below hb, h.hi, h.fits⟩
/-- Lists of numbers that are read in block b. -/
def Jx (w : World) (b : Nat) (L : List (List Int)) : Prop := b < w.heap.size ∧ ∀ k, k < L.length → ∃ c, w.cell? ⟨b, k, none⟩ = some (.slice (some ⟨c, 0, none⟩) (L.getD k []).length (L.getD k []).length) ∧ OwnI w c (L.getD k [])
theorem Jx.below {w w' : World} {b : Nat} {L : List (List Int)} (h : Jx w b L) (hb : Below w.heap.size w w') : Jx w' b L :=
  ⟨Nat.lt_of_lt_of_le h.1 hb.size, fun k hk => by
    obtain ⟨c, h1, h2⟩ := h.2 k hk
    exact ⟨c, (hb.cell (p := ⟨b, k, none⟩) h.1).trans h1, h2.below hb⟩⟩
theorem Jx.at {w : World} {b : Nat} {L : List (List Int)} (h : Jx w b L) {k : Nat} (hk : k < L.length) :
    ∃ c, w.cell? ⟨b, k, none⟩ = some (.slice (some ⟨c, 0, none⟩) (L.getD k []).length (L.getD k []).length) ∧ OwnI w c (L.getD k []) := h.2 k hk
theorem Jx.lt {w : World} {b : Nat} {L : List (List Int)} (h : Jx w b L) : b < w.heap.size := h.1
/-- A frame whose attacks are read in block b. -/
structure FmX (w : World) (b : Nat) (X : Fm) : Prop where
  rows : Jx w b X.2
  fits : FitsG X
theorem FmX.below {w w' : World} {b : Nat} {X : Fm} (h : FmX w b X) (hb : Below w.heap.size w w') : FmX w' b X := ⟨h.rows.below hb, h.fits⟩
theorem FmR.toX {w : World} {b hi : Nat} {X : Fm} (h : FmR w b hi X) : FmX w b X := ⟨⟨h.rows.lt, fun k hk => h.rows.at hk⟩, h.fits⟩
abbrev fmV (X : Fm) (b : Nat) : Value := .agg #[.int .i64 X.1, .slice (some ⟨b, 0, none⟩) X.2.length X.2.length]
def CpG (w : World) (lo hi : Nat) (v : Value) (X : Fm) : Prop := ∃ b, v = .agg #[.int .i64 X.1, .slice (some ⟨b, 0, none⟩) X.2.length X.2.length] ∧ lo ≤ b ∧ FmR w b hi X
theorem CpG.below {w w' : World} {lo hi : Nat} {v : Value} {X : Fm} (h : CpG w lo hi v X) (hb : Below w.heap.size w w') : CpG w' lo hi v X := by
  obtain ⟨b, e, h1, h2⟩ := h
  exact ⟨b, e, h1, h2.below hb⟩
/-- What a region that compares a frame with a new copy reads: the argument and the copy, kept. -/
def Bg (w0 : World) (p p' : Nat) (m : Int) (a a' : Value) (w' : World) : Prop := w'.cell? ⟨p, 0, none⟩ = some (.int .i64 m) ∧ w'.cell? ⟨p, 1, none⟩ = some a ∧ w'.cell? ⟨p', 0, none⟩ = some (.int .i64 m) ∧ w'.cell? ⟨p', 1, none⟩ = some a' ∧ Hid (Below w0.heap.size w0 w')
theorem Bg.start {w0 : World} {p p' : Nat} {m : Int} {a a' : Value} (h : FmAt w0 p m a) (h' : FmAt w0 p' m a') : Bg w0 p p' m a a' w0 := ⟨h.c0, h.c1, h'.c0, h'.c1, Lib.hid (Below.refl _ _)⟩
theorem Bg.drew {w0 w' : World} {p p' : Nat} {m : Int} {a a' : Value} (h : Bg w0 p p' m a a' w') : Bg w0 p p' m a a' w'.drew := by
  obtain ⟨a, b, d, e, g⟩ := h
  exact ⟨a, b, d, e, Lib.hid g.out.drew⟩
theorem Bg.bel {w0 w' : World} {p p' : Nat} {m : Int} {a a' : Value} (h : Bg w0 p p' m a a' w') : Below w0.heap.size w0 w' := h.2.2.2.2.out
theorem Bg.below {w0 w' w'' : World} {p p' : Nat} {m : Int} {a a' : Value} (h : Bg w0 p p' m a a' w') (hb : Below w'.heap.size w' w'') : Bg w0 p p' m a a' w'' := by
  obtain ⟨a, b, d, e, g⟩ := h
  have k : ∀ {b : Nat} {o : Nat} {v : Value}, w'.cell? ⟨b, o, none⟩ = some v → w''.cell? ⟨b, o, none⟩ = some v := fun {b o v} hc => (hb.cell (p := ⟨b, o, none⟩) (World.block_lt_of_cell? _ _ hc)).trans hc
  exact ⟨k a, k b, k d, k e, Lib.hid (g.out.trans (hb.mono g.out.size))⟩
end Go.Proofs.YtllfopbpchjhpaaDoor
