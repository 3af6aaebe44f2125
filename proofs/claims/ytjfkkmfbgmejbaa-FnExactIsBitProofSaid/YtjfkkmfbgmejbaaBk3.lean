/- Proofs of bits: compared; what a region that compares carries; opened. -/
import Derived.Test.YtjfkkmfbgmejbaaBk2
import Derived.Test.YtjfkkmfbgmejbaaOpenV
import Derived.Deep.Strs
import Derived.Deep.RegionHeld3
namespace Go.Proofs.Ytjfkkmfbgmejbaa
open Go.ChangeShapes Go.WideShapes Go.ChangeAt Go.RowKit Go.Deep Go.Joins
set_option linter.unusedSimpArgs false
set_option linter.unusedVariables false
set_option maxHeartbeats 1000000 in
theorem eqBp (va vb vc va' vb' vc' : Value) (X : Bq) (w : World) (h1 : RowV w va X.1) (h2 : RowV w vb X.2.1) (h3 : RowV w vc X.2.2) (k1 : RowV w va' X.1) (k2 : RowV w vb' X.2.1) (k3 : RowV w vc' X.2.2) (hf : FitsB X) :
    Calls Try.prog 14 #[.agg #[va, vb, vc], .agg #[va', vb', vc']] w fun e w' => e = .returned (.bool true) ∧ Below w.heap.size w w' := by
  have b1 := ((Below.refl w.heap.size w).alloc (Nat.le_refl _) (.cells #[va, vb, vc] 24)).alloc (by simp) (.cells #[va', vb', vc'] 24)
  have f1 := hf.1
  have f2 := hf.2.1
  have f3 := hf.2.2
  have H1 := eqI va va' X.1 _ (h1.below b1) (k1.below b1) (by omega)
  have H2 := fun w' (hw : Below w.heap.size w w') => eqI vb vb' X.2.1 w' (h2.below hw) (k2.below hw) (by omega)
  have H3 := fun w' (hw : Below w.heap.size w w') => eqI vc vc' X.2.2 w' (h3.below hw) (k3.below hw) (by omega)
  have c1 : ((w.alloc (.cells #[va, vb, vc] 24)).alloc (.cells #[va', vb', vc'] 24)).cell? ⟨w.heap.size, 1, none⟩ = some vb := by go_simp
  have c2 : ((w.alloc (.cells #[va, vb, vc] 24)).alloc (.cells #[va', vb', vc'] 24)).cell? ⟨w.heap.size, 2, none⟩ = some vc := by go_simp
  have c3 : ((w.alloc (.cells #[va, vb, vc] 24)).alloc (.cells #[va', vb', vc'] 24)).cell? ⟨w.heap.size + 1, 1, none⟩ = some vb' := by go_simp
  have c4 : ((w.alloc (.cells #[va, vb, vc] 24)).alloc (.cells #[va', vb', vc'] 24)).cell? ⟨w.heap.size + 1, 2, none⟩ = some vc' := by go_simp
  have K := Lib.hid (And.intro c1 (And.intro c2 (And.intro c3 c4)))
  clear h1 h2 h3 k1 k2 k3 c1 c2 c3 c4
  go_enter Try.func14, Try.ntmps14
  go_wp2_with fail
  refine H1.mono ?_
  rintro e w1 ⟨rfl, hb1⟩
  have a1 : w1.cell? ⟨w.heap.size, 1, none⟩ = some vb := (hb1.cell (p := ⟨w.heap.size, 1, none⟩) (by simp; omega)).trans K.out.1
  have a2 : w1.cell? ⟨w.heap.size, 2, none⟩ = some vc := (hb1.cell (p := ⟨w.heap.size, 2, none⟩) (by simp; omega)).trans K.out.2.1
  have a3 : w1.cell? ⟨w.heap.size + 1, 1, none⟩ = some vb' := (hb1.cell (p := ⟨w.heap.size + 1, 1, none⟩) (by simp)).trans K.out.2.2.1
  have a4 : w1.cell? ⟨w.heap.size + 1, 2, none⟩ = some vc' := (hb1.cell (p := ⟨w.heap.size + 1, 2, none⟩) (by simp)).trans K.out.2.2.2
  have b2 := b1.trans (hb1.mono b1.size)
  have l2 : w.heap.size + 1 < w1.heap.size := by have := hb1.size; simp at this; omega
  clear hb1 K
  go_wp2_with fail
  refine (H2 _ b2).mono ?_
  rintro e w2 ⟨rfl, hb2⟩
  have a2' : w2.cell? ⟨w.heap.size, 2, none⟩ = some vc := (hb2.cell (p := ⟨w.heap.size, 2, none⟩) (by show w.heap.size < _; omega)).trans a2
  have a4' : w2.cell? ⟨w.heap.size + 1, 2, none⟩ = some vc' := (hb2.cell (p := ⟨w.heap.size + 1, 2, none⟩) (by show w.heap.size + 1 < _; omega)).trans a4
  have b3 := b2.trans (hb2.mono b2.size)
  clear a1 a2 a3 a4 hb2
  go_wp2_with fail
  refine (H3 _ b3).mono ?_
  rintro e w3 ⟨rfl, hb3⟩
  go_wp2
  go_ret
  exact ⟨rfl, b3.trans (hb3.mono b3.size)⟩
theorem BfR.rows {w : World} {a b c : Nat} {X : Bq} (h : BfR w a b c X) : RowV w (.slice (some ⟨a, 0, none⟩) X.1.length X.1.length) X.1 ∧ RowV w (.slice (some ⟨b, 0, none⟩) X.2.1.length X.2.1.length) X.2.1 ∧ RowV w (.slice (some ⟨c, 0, none⟩) X.2.2.length X.2.2.length) X.2.2 :=
  ⟨h.ra.row _, h.rb.row _, h.rc.row _⟩
theorem eqB (X : Bq) (a b c a' b' c' : Nat) (w : World) (h : BfR w a b c X) (h' : BfR w a' b' c' X) :
    Calls Try.prog 14 #[bpV a b c X, bpV a' b' c' X] w fun e w' => e = .returned (.bool true) ∧ Below w.heap.size w w' :=
  eqBp _ _ _ _ _ _ X w h.rows.1 h.rows.2.1 h.rows.2.2 h'.rows.1 h'.rows.2.1 h'.rows.2.2 h.fits
/-- A proof that lies at block p. -/
structure BpAt (w : World) (p : Nat) (x y z : Value) : Prop where
  c0 : w.cell? ⟨p, 0, none⟩ = some x
  c1 : w.cell? ⟨p, 1, none⟩ = some y
  c2 : w.cell? ⟨p, 2, none⟩ = some z
  lt : p < w.heap.size
theorem BpAt.below {w w' : World} {p : Nat} {x y z : Value} (h : BpAt w p x y z) (hb : Below w.heap.size w w') : BpAt w' p x y z :=
  ⟨(hb.cell (p := ⟨p, 0, none⟩) h.lt).trans h.c0, (hb.cell (p := ⟨p, 1, none⟩) h.lt).trans h.c1, (hb.cell (p := ⟨p, 2, none⟩) h.lt).trans h.c2, Nat.lt_of_lt_of_le h.lt hb.size⟩
theorem bp_at (w : World) (t : TypeId) (x y z : Value) : BpAt (w.alloc (.cells #[x, y, z] t)) w.heap.size x y z := ⟨by go_simp, by go_simp, by go_simp, by simp⟩
/-- What a region that compares a proof with a new copy reads, kept. -/
def Bb (w0 : World) (p p' : Nat) (x y z x' y' z' : Value) (w' : World) : Prop :=
  w'.cell? ⟨p, 0, none⟩ = some x ∧ w'.cell? ⟨p, 1, none⟩ = some y ∧ w'.cell? ⟨p, 2, none⟩ = some z ∧ w'.cell? ⟨p', 0, none⟩ = some x' ∧ w'.cell? ⟨p', 1, none⟩ = some y' ∧ w'.cell? ⟨p', 2, none⟩ = some z' ∧ Hid (Below w0.heap.size w0 w')
theorem Bb.start {w0 : World} {p p' : Nat} {x y z x' y' z' : Value} (h : BpAt w0 p x y z) (h' : BpAt w0 p' x' y' z') : Bb w0 p p' x y z x' y' z' w0 := ⟨h.c0, h.c1, h.c2, h'.c0, h'.c1, h'.c2, Lib.hid (Below.refl _ _)⟩
theorem Bb.drew {w0 w' : World} {p p' : Nat} {x y z x' y' z' : Value} (h : Bb w0 p p' x y z x' y' z' w') : Bb w0 p p' x y z x' y' z' w'.drew := by
  obtain ⟨a, b, c, d, e, f, g⟩ := h
  exact ⟨a, b, c, d, e, f, Lib.hid g.out.drew⟩
theorem Bb.bel {w0 w' : World} {p p' : Nat} {x y z x' y' z' : Value} (h : Bb w0 p p' x y z x' y' z' w') : Below w0.heap.size w0 w' := h.2.2.2.2.2.2.out
theorem Bb.below {w0 w' w'' : World} {p p' : Nat} {x y z x' y' z' : Value} (h : Bb w0 p p' x y z x' y' z' w') (hb : Below w'.heap.size w' w'') : Bb w0 p p' x y z x' y' z' w'' := by
  obtain ⟨a, b, c, d, e, f, g⟩ := h
  have k : ∀ {b : Nat} {o : Nat} {v : Value}, w'.cell? ⟨b, o, none⟩ = some v → w''.cell? ⟨b, o, none⟩ = some v := fun {b o v} hc => (hb.cell (p := ⟨b, o, none⟩) (World.block_lt_of_cell? _ _ hc)).trans hc
  exact ⟨k a, k b, k c, k d, k e, k f, Lib.hid (g.out.trans (hb.mono g.out.size))⟩
set_option maxRecDepth 100000 in
theorem cellsBp : Try.prog.cellsOf 33 = 3 := by kernel_rfl
section
variable {H : Type} {enc : TypeId × Value → H} {w : World} {base : Nat} {spare : Nat → Bool} {held : Bool}
set_option maxRecDepth 100000 in
theorem proof_of {b0 : Nat} {v : Value} {d : DataW H} {p : List MemPlace}
    (hv : Value.okWide Try.prog w .any b0 33 v) (h : DataW.Trod enc Try.prog w base spare held 33 v d p) : ∃ X, ListB w v X ∧ RoomB X := by
  obtain ⟨c0, c1, c2, y0, y1, y2, m, rfl, rfl, rfl, g0, g1, g2⟩ := open_agg3 Try.underlying33 (by kernel_rfl) cellsBp hv h
  obtain ⟨A, a1, a2, a3⟩ := row_of g0
  obtain ⟨B, b1, b2, b3⟩ := row_of g1
  obtain ⟨C, d1, d2, d3⟩ := row_of g2
  exact ⟨(A, B, C), ⟨c0, c1, c2, rfl, a1, b1, d1⟩, a2, b2, d2⟩
end
end Go.Proofs.Ytjfkkmfbgmejbaa
