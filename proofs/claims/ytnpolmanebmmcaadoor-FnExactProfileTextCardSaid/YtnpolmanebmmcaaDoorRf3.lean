/- The kinds of values that a law copies, compares, marks: profiles. -/
import Derived.Test.YtnpolmanebmmcaaDoorRf2
namespace Go.Proofs.YtnpolmanebmmcaaDoor
open Go.ChangeShapes Go.WideShapes Go.ChangeAt Go.RowKit Go.Deep
set_option linter.unusedSimpArgs false
set_option linter.unusedVariables false
/-- A profile that lies at block p. -/
structure PrAt (w : World) (p : Nat) (a c : Value) : Prop where
  c0 : w.cell? ⟨p, 0, none⟩ = some a
  c1 : w.cell? ⟨p, 1, none⟩ = some c
  lt : p < w.heap.size
theorem PrAt.below {w w' : World} {p : Nat} {a c : Value} (h : PrAt w p a c) (hb : Below w.heap.size w w') : PrAt w' p a c :=
  ⟨(hb.cell (p := ⟨p, 0, none⟩) h.lt).trans h.c0, (hb.cell (p := ⟨p, 1, none⟩) h.lt).trans h.c1, Nat.lt_of_lt_of_le h.lt hb.size⟩
theorem PrAt.kept {w w' : World} {p : Nat} {a c : Value} {S : Nat → Prop} (h : PrAt w p a c) (hk : Kept w w' S) (hs : ∀ b, p ≤ b → b < p + 1 → ¬ S b) : PrAt w' p a c :=
  ⟨(hk.cell (p := ⟨p, 0, none⟩) h.lt (hs p (Nat.le_refl _) (by omega))).trans h.c0, (hk.cell (p := ⟨p, 1, none⟩) h.lt (hs p (Nat.le_refl _) (by omega))).trans h.c1, Nat.lt_of_lt_of_le h.lt hk.size⟩
theorem pr_at (w : World) (a c : Value) : PrAt (w.alloc (.cells #[a, c] 29)) w.heap.size a c :=
  ⟨by go_simp, by go_simp, by simp⟩
theorem pr_atL (w : World) (a c : Value) : PrAt (w.alloc (.cells #[a, c] 25)) w.heap.size a c :=
  ⟨by go_simp, by go_simp, by simp⟩
/-- The copy of a profile: its rankings in blocks from b on, its weights in block c. -/
structure RfR (w : World) (b c hi : Nat) (X : Pr) : Prop where
  rows : Js w b b X.1
  own : OwJ w b c (.slice (some ⟨b, 0, none⟩) X.1.length X.1.length) X.1
  wts : OwnI w c X.2
  lt : b < c
  hi : c < hi
  fits : FitsR X
theorem RfR.below {w w' : World} {b c hi : Nat} {X : Pr} (h : RfR w b c hi X) (hb : Below w.heap.size w w') : RfR w' b c hi X :=
  ⟨h.rows.below hb, h.own.below hb, h.wts.below hb, h.lt, h.hi, h.fits⟩
def CpR (w : World) (lo hi : Nat) (v : Value) (X : Pr) : Prop := ∃ b c, v = .agg #[.slice (some ⟨b, 0, none⟩) X.1.length X.1.length, .slice (some ⟨c, 0, none⟩) X.2.length X.2.length] ∧ lo ≤ b ∧ RfR w b c hi X
theorem CpR.below {w w' : World} {lo hi : Nat} {v : Value} {X : Pr} (h : CpR w lo hi v X) (hb : Below w.heap.size w w') : CpR w' lo hi v X := by
  obtain ⟨b, c, e, h1, h2⟩ := h
  exact ⟨b, c, e, h1, h2.below hb⟩
theorem toCpR (v : Value) (X : Pr) (w : World) (h : ListR w v X) (hf : FitsR X) :
    Calls Tryd.prog 6 #[v] w fun e w' => ∃ u, e = .returned u ∧ CpR w' w.heap.size w'.heap.size u X ∧ Below w.heap.size w w' := by
  obtain ⟨va, vc, rfl, ha, hc⟩ := h
  exact (toPr va vc X.1 X.2 w ha hc hf.1 hf.2.1).mono fun e w' ⟨⟨b, c, h1, h2, h3, h4, h5, h6⟩, hb⟩ => ⟨_, h1, ⟨b, c, rfl, by omega, h4, h5, h6, h3, World.rowIs.lt h6, hf⟩, hb⟩
/-- Two profiles of the same contents are equal: whatever blocks they lie in. -/
theorem eqPr (va vc va' vc' : Value) (A : List (List Int)) (C : List Int) (w : World) (h : ListJ w va A) (hc : RowV w vc C) (h' : ListJ w va' A) (hc' : RowV w vc' C) (fA : FitsJ A) (fC : C.length ≤ 1048576) :
    Calls Tryd.prog 8 #[.agg #[va, vc], .agg #[va', vc']] w fun e w' => e = .returned (.bool true) ∧ Below w.heap.size w w' := by
  have b1 := ((Below.refl w.heap.size w).alloc (Nat.le_refl _) (.cells #[va, vc] 29)).alloc (by simp) (.cells #[va', vc'] 29)
  have HJ := eqJ va va' A _ (h.below b1) (h'.below b1) fA
  have HI := fun w' (hw : Below w.heap.size w w') => eqI vc vc' C w' (hc.below hw) (hc'.below hw) (by omega)
  have k1 : ((w.alloc (.cells #[va, vc] 29)).alloc (.cells #[va', vc'] 29)).cell? ⟨w.heap.size, 1, none⟩ = some vc := by go_simp
  have k2 : ((w.alloc (.cells #[va, vc] 29)).alloc (.cells #[va', vc'] 29)).cell? ⟨w.heap.size + 1, 1, none⟩ = some vc' := by go_simp
  have K := Lib.hid (And.intro k1 k2)
  clear h h' hc hc' k1 k2
  go_enter Tryd.func8, Tryd.ntmps8
  go_wp2_with fail
  refine HJ.mono ?_
  rintro e w1 ⟨rfl, hb1⟩
  have a1 : w1.cell? ⟨w.heap.size, 1, none⟩ = some vc := (hb1.cell (p := ⟨w.heap.size, 1, none⟩) (by simp; omega)).trans K.out.1
  have a2 : w1.cell? ⟨w.heap.size + 1, 1, none⟩ = some vc' := (hb1.cell (p := ⟨w.heap.size + 1, 1, none⟩) (by simp)).trans K.out.2
  have b2 := b1.trans (hb1.mono b1.size)
  clear hb1
  go_wp2_with fail
  refine (HI _ b2).mono ?_
  rintro e w2 ⟨rfl, hb2⟩
  go_wp2
  go_ret
  exact ⟨rfl, b2.trans (hb2.mono b2.size)⟩
theorem eqR (X : Pr) (b c hi b' c' hi' : Nat) (w : World) (h : RfR w b c hi X) (h' : RfR w b' c' hi' X) :
    Calls Tryd.prog 8 #[.agg #[.slice (some ⟨b, 0, none⟩) X.1.length X.1.length, .slice (some ⟨c, 0, none⟩) X.2.length X.2.length], .agg #[.slice (some ⟨b', 0, none⟩) X.1.length X.1.length, .slice (some ⟨c', 0, none⟩) X.2.length X.2.length]] w fun e w' => e = .returned (.bool true) ∧ Below w.heap.size w w' :=
  eqPr _ _ _ _ _ _ w (h.rows.list _) (h.wts.row _) (h'.rows.list _) (h'.wts.row _) h.fits.1 h.fits.2.1
/-- What a region that compares a profile with a new copy reads: the argument and the copy, kept. -/
def Br (w0 : World) (p p' : Nat) (a c a' c' : Value) (w' : World) : Prop := w'.cell? ⟨p, 0, none⟩ = some a ∧ w'.cell? ⟨p, 1, none⟩ = some c ∧ w'.cell? ⟨p', 0, none⟩ = some a' ∧ w'.cell? ⟨p', 1, none⟩ = some c' ∧ Hid (Below w0.heap.size w0 w')
theorem Br.start {w0 : World} {p p' : Nat} {a c a' c' : Value} (h : PrAt w0 p a c) (h' : PrAt w0 p' a' c') : Br w0 p p' a c a' c' w0 := ⟨h.c0, h.c1, h'.c0, h'.c1, Lib.hid (Below.refl _ _)⟩
theorem Br.drew {w0 w' : World} {p p' : Nat} {a c a' c' : Value} (h : Br w0 p p' a c a' c' w') : Br w0 p p' a c a' c' w'.drew := by
  obtain ⟨a, b, c, d, g⟩ := h
  exact ⟨a, b, c, d, Lib.hid g.out.drew⟩
theorem Br.bel {w0 w' : World} {p p' : Nat} {a c a' c' : Value} (h : Br w0 p p' a c a' c' w') : Below w0.heap.size w0 w' := h.2.2.2.2.out
theorem Br.below {w0 w' w'' : World} {p p' : Nat} {a c a' c' : Value} (h : Br w0 p p' a c a' c' w') (hb : Below w'.heap.size w' w'') : Br w0 p p' a c a' c' w'' := by
  obtain ⟨a, b, c, d, g⟩ := h
  have k : ∀ {b : Nat} {o : Nat} {v : Value}, w'.cell? ⟨b, o, none⟩ = some v → w''.cell? ⟨b, o, none⟩ = some v := fun {b o v} hc => (hb.cell (p := ⟨b, o, none⟩) (World.block_lt_of_cell? _ _ hc)).trans hc
  exact ⟨k a, k b, k c, k d, Lib.hid (g.out.trans (hb.mono g.out.size))⟩
end Go.Proofs.YtnpolmanebmmcaaDoor
