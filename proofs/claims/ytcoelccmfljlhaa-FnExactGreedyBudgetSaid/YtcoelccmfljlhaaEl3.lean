/- The kinds of values that a law copies, compares, marks: elections. -/
import Derived.Test.YtcoelccmfljlhaaEl2
namespace Go.Proofs.Ytcoelccmfljlhaa
open Go.ChangeShapes Go.WideShapes Go.ChangeAt Go.RowKit Go.Deep
set_option linter.unusedSimpArgs false
set_option linter.unusedVariables false
/-- An election that lies at block p. -/
structure ElAt (w : World) (p : Nat) (m : Int) (c a : Value) : Prop where
  c0 : w.cell? ⟨p, 0, none⟩ = some (.int .i64 m)
  c1 : w.cell? ⟨p, 1, none⟩ = some c
  c2 : w.cell? ⟨p, 2, none⟩ = some a
  lt : p < w.heap.size
theorem ElAt.below {w w' : World} {p : Nat} {m : Int} {c a : Value} (h : ElAt w p m c a) (hb : Below w.heap.size w w') : ElAt w' p m c a :=
  ⟨(hb.cell (p := ⟨p, 0, none⟩) h.lt).trans h.c0, (hb.cell (p := ⟨p, 1, none⟩) h.lt).trans h.c1, (hb.cell (p := ⟨p, 2, none⟩) h.lt).trans h.c2, Nat.lt_of_lt_of_le h.lt hb.size⟩
theorem ElAt.kept {w w' : World} {p : Nat} {m : Int} {c a : Value} {S : Nat → Prop} (h : ElAt w p m c a) (hk : Kept w w' S) (hs : ∀ b, p ≤ b → b < p + 1 → ¬ S b) : ElAt w' p m c a :=
  ⟨(hk.cell (p := ⟨p, 0, none⟩) h.lt (hs p (Nat.le_refl _) (by omega))).trans h.c0, (hk.cell (p := ⟨p, 1, none⟩) h.lt (hs p (Nat.le_refl _) (by omega))).trans h.c1, (hk.cell (p := ⟨p, 2, none⟩) h.lt (hs p (Nat.le_refl _) (by omega))).trans h.c2, Nat.lt_of_lt_of_le h.lt hk.size⟩
theorem el_at (w : World) (m : Int) (c a : Value) : ElAt (w.alloc (.cells #[.int .i64 m, c, a] 28)) w.heap.size m c a :=
  ⟨by go_simp, by go_simp, by go_simp, by simp⟩
theorem el_atL (w : World) (m : Int) (c a : Value) : ElAt (w.alloc (.cells #[.int .i64 m, c, a] 25)) w.heap.size m c a :=
  ⟨by go_simp, by go_simp, by go_simp, by simp⟩
theorem FitsE.room {X : El} (h : FitsE X) : X.2.1.length ≤ 1048576 ∧ X.2.2.length ≤ 1048576 := ⟨h.1, h.2.1.1⟩
/-- The copy of an election: its costs in block c, its approvals in blocks from b on. -/
structure ElR (w : World) (c b hi : Nat) (X : El) : Prop where
  costs : OwnI w c X.2.1
  rows : Js w b b X.2.2
  own : OwJ w b hi (.slice (some ⟨b, 0, none⟩) X.2.2.length X.2.2.length) X.2.2
  lt : c < b
  hi : b < hi
  fits : FitsE X
theorem ElR.below {w w' : World} {c b hi : Nat} {X : El} (h : ElR w c b hi X) (hb : Below w.heap.size w w') : ElR w' c b hi X :=
  ⟨h.costs.below hb, h.rows.below hb, h.own.below hb, h.lt, h.hi, h.fits⟩
abbrev elV (X : El) (c b : Nat) : Value := .agg #[.int .i64 X.1, .slice (some ⟨c, 0, none⟩) X.2.1.length X.2.1.length, .slice (some ⟨b, 0, none⟩) X.2.2.length X.2.2.length]
def CpE (w : World) (lo hi : Nat) (v : Value) (X : El) : Prop := ∃ c b, v = .agg #[.int .i64 X.1, .slice (some ⟨c, 0, none⟩) X.2.1.length X.2.1.length, .slice (some ⟨b, 0, none⟩) X.2.2.length X.2.2.length] ∧ lo ≤ c ∧ ElR w c b hi X
theorem CpE.below {w w' : World} {lo hi : Nat} {v : Value} {X : El} (h : CpE w lo hi v X) (hb : Below w.heap.size w w') : CpE w' lo hi v X := by
  obtain ⟨c, b, e, h1, h2⟩ := h
  exact ⟨c, b, e, h1, h2.below hb⟩
theorem toCpE (v : Value) (X : El) (w : World) (h : ListE w v X) (hf : FitsE X) :
    Calls Try.prog 12 #[v] w fun e w' => ∃ u, e = .returned u ∧ CpE w' w.heap.size w'.heap.size u X ∧ Below w.heap.size w w' := by
  obtain ⟨vc, va, rfl, hc, ha⟩ := h
  exact (toEl X.1 vc va X.2.1 X.2.2 w hc ha hf.1 hf.2.1).mono fun e w' ⟨⟨c, b, h1, h2, h3, h4, h5⟩, hb⟩ => ⟨_, h1, ⟨c, b, rfl, by omega, h4, h5, h5.own (Nat.le_refl _) hf.2.1 _, h3, h5.lt, hf⟩, hb⟩
set_option maxHeartbeats 1000000 in
theorem eqE (X : El) (c b hi c' b' hi' : Nat) (w : World) (h : ElR w c b hi X) (h' : ElR w c' b' hi' X) :
    Calls Try.prog 14 #[.agg #[.int .i64 X.1, .slice (some ⟨c, 0, none⟩) X.2.1.length X.2.1.length, .slice (some ⟨b, 0, none⟩) X.2.2.length X.2.2.length], .agg #[.int .i64 X.1, .slice (some ⟨c', 0, none⟩) X.2.1.length X.2.1.length, .slice (some ⟨b', 0, none⟩) X.2.2.length X.2.2.length]] w fun e w' => e = .returned (.bool true) ∧ Below w.heap.size w w' := by
  have b1 := ((Below.refl w.heap.size w).alloc (Nat.le_refl _) (.cells #[.int .i64 X.1, .slice (some ⟨c, 0, none⟩) X.2.1.length X.2.1.length, .slice (some ⟨b, 0, none⟩) X.2.2.length X.2.2.length] 28)).alloc (by simp) (.cells #[.int .i64 X.1, .slice (some ⟨c', 0, none⟩) X.2.1.length X.2.1.length, .slice (some ⟨b', 0, none⟩) X.2.2.length X.2.2.length] 28)
  have hf := h.fits
  have HI := eqI _ _ X.2.1 _ ((h.costs.below b1).row X.2.1.length) ((h'.costs.below b1).row X.2.1.length) (by have := hf.1; omega)
  have HJ := fun w' (hw : Below w.heap.size w w') => eqJ _ _ X.2.2 w' ((h.rows.below hw).list X.2.2.length) ((h'.rows.below hw).list X.2.2.length) hf.2.1
  have k1 : ∀ W : World, (((W.alloc (.cells #[.int .i64 X.1, .slice (some ⟨c, 0, none⟩) X.2.1.length X.2.1.length, .slice (some ⟨b, 0, none⟩) X.2.2.length X.2.2.length] 28)).alloc (.cells #[.int .i64 X.1, .slice (some ⟨c', 0, none⟩) X.2.1.length X.2.1.length, .slice (some ⟨b', 0, none⟩) X.2.2.length X.2.2.length] 28)).cell? ⟨W.heap.size, 2, none⟩ = some (.slice (some ⟨b, 0, none⟩) X.2.2.length X.2.2.length)) := fun W => by go_simp
  have k2 : ∀ W : World, (((W.alloc (.cells #[.int .i64 X.1, .slice (some ⟨c, 0, none⟩) X.2.1.length X.2.1.length, .slice (some ⟨b, 0, none⟩) X.2.2.length X.2.2.length] 28)).alloc (.cells #[.int .i64 X.1, .slice (some ⟨c', 0, none⟩) X.2.1.length X.2.1.length, .slice (some ⟨b', 0, none⟩) X.2.2.length X.2.2.length] 28)).cell? ⟨W.heap.size + 1, 2, none⟩ = some (.slice (some ⟨b', 0, none⟩) X.2.2.length X.2.2.length)) := fun W => by go_simp
  have K := Lib.hid (And.intro (k1 w) (k2 w))
  clear h h' hf k1 k2
  go_enter Try.func14, Try.ntmps14
  go_wp2_with fail
  refine HI.mono ?_
  rintro e w1 ⟨rfl, hb1⟩
  have a1 : w1.cell? ⟨w.heap.size, 2, none⟩ = some (.slice (some ⟨b, 0, none⟩) X.2.2.length X.2.2.length) := (hb1.cell (p := ⟨w.heap.size, 2, none⟩) (by simp; omega)).trans K.out.1
  have a2 : w1.cell? ⟨w.heap.size + 1, 2, none⟩ = some (.slice (some ⟨b', 0, none⟩) X.2.2.length X.2.2.length) := (hb1.cell (p := ⟨w.heap.size + 1, 2, none⟩) (by simp)).trans K.out.2
  have b2 := b1.trans (hb1.mono b1.size)
  clear hb1
  go_wp2_with fail
  refine (HJ _ b2).mono ?_
  rintro e w2 ⟨rfl, hb2⟩
  go_wp2
  go_ret
  exact ⟨rfl, b2.trans (hb2.mono b2.size)⟩
set_option maxHeartbeats 1000000 in
theorem markCpE {v : Value} {X : El} {w : World} {lo hi : Nat} (h : CpE w lo hi v X) :
    Calls Try.prog 18 #[v, .int .i64 1] w fun e w' => (∃ r, e = .returned (.int .i64 r) ∧ 0 ≤ r ∧ r ≤ 3000002097152) ∧ Kept w w' (fun x => lo ≤ x ∧ x < hi) := by
  obtain ⟨c, b, rfl, h1, h2⟩ := h
  have b1 := (Below.refl w.heap.size w).alloc (Nat.le_refl _) (.cells #[.int .i64 X.1, .slice (some ⟨c, 0, none⟩) X.2.1.length X.2.1.length, .slice (some ⟨b, 0, none⟩) X.2.2.length X.2.2.length] 28)
  have HI := markOwI (1 : Int) ((h2.costs.below b1).ow X.2.1.length c (c + 1) (Nat.le_refl _) (by omega) h2.fits.1) (by omega) (by omega)
  have HO := h2.own.below b1
  have hcb := h2.lt
  have hbh := h2.hi
  have hcs := World.rowIs.lt h2.costs
  have K : (w.alloc (.cells #[.int .i64 X.1, .slice (some ⟨c, 0, none⟩) X.2.1.length X.2.1.length, .slice (some ⟨b, 0, none⟩) X.2.2.length X.2.2.length] 28)).cell? ⟨w.heap.size, 2, none⟩ = some (.slice (some ⟨b, 0, none⟩) X.2.2.length X.2.2.length) := by go_simp
  have K' := Lib.hid K
  clear h2 K
  go_enter Try.func18, Try.ntmps18
  go_wp2_with fail
  refine HI.mono ?_
  rintro e w1 ⟨⟨k, rfl, k1, k2, -⟩, hk1⟩
  have a1 : w1.cell? ⟨w.heap.size, 2, none⟩ = some (.slice (some ⟨b, 0, none⟩) X.2.2.length X.2.2.length) := (hk1.cell (p := ⟨w.heap.size, 2, none⟩) (by simp) (by simp; omega)).trans K'.out
  have HM := markOwJ k (HO.kept hk1 (fun x q1 q2 q3 => by omega)) (by omega) (by omega)
  have kk : Kept w w1 (fun x => lo ≤ x ∧ x < hi) := (Kept.ofBelow b1).trans (hk1.mono (fun x q => by omega))
  clear hk1 HO
  go_wp2_with fail
  refine HM.mono ?_
  rintro e w2 ⟨⟨r, rfl, r1, r2, -⟩, hk2⟩
  go_wp2
  go_ret
  exact ⟨⟨r, rfl, by omega, by omega⟩, kk.trans (hk2.mono (fun x q => by omega))⟩
/-- What a region that compares an election with a new copy reads: the argument and the copy, kept. -/
def Be (w0 : World) (p p' : Nat) (m : Int) (c a c' a' : Value) (w' : World) : Prop := w'.cell? ⟨p, 0, none⟩ = some (.int .i64 m) ∧ w'.cell? ⟨p, 1, none⟩ = some c ∧ w'.cell? ⟨p, 2, none⟩ = some a ∧ w'.cell? ⟨p', 0, none⟩ = some (.int .i64 m) ∧ w'.cell? ⟨p', 1, none⟩ = some c' ∧ w'.cell? ⟨p', 2, none⟩ = some a' ∧ Hid (Below w0.heap.size w0 w')
theorem Be.start {w0 : World} {p p' : Nat} {m : Int} {c a c' a' : Value} (h : ElAt w0 p m c a) (h' : ElAt w0 p' m c' a') : Be w0 p p' m c a c' a' w0 := ⟨h.c0, h.c1, h.c2, h'.c0, h'.c1, h'.c2, Lib.hid (Below.refl _ _)⟩
theorem Be.drew {w0 w' : World} {p p' : Nat} {m : Int} {c a c' a' : Value} (h : Be w0 p p' m c a c' a' w') : Be w0 p p' m c a c' a' w'.drew := by
  obtain ⟨a, b, c, d, e, f, g⟩ := h
  exact ⟨a, b, c, d, e, f, Lib.hid g.out.drew⟩
theorem Be.bel {w0 w' : World} {p p' : Nat} {m : Int} {c a c' a' : Value} (h : Be w0 p p' m c a c' a' w') : Below w0.heap.size w0 w' := h.2.2.2.2.2.2.out
theorem Be.below {w0 w' w'' : World} {p p' : Nat} {m : Int} {c a c' a' : Value} (h : Be w0 p p' m c a c' a' w') (hb : Below w'.heap.size w' w'') : Be w0 p p' m c a c' a' w'' := by
  obtain ⟨a, b, c, d, e, f, g⟩ := h
  have k : ∀ {b : Nat} {o : Nat} {v : Value}, w'.cell? ⟨b, o, none⟩ = some v → w''.cell? ⟨b, o, none⟩ = some v := fun {b o v} hc => (hb.cell (p := ⟨b, o, none⟩) (World.block_lt_of_cell? _ _ hc)).trans hc
  exact ⟨k a, k b, k c, k d, k e, k f, Lib.hid (g.out.trans (hb.mono g.out.size))⟩
end Go.Proofs.Ytcoelccmfljlhaa
