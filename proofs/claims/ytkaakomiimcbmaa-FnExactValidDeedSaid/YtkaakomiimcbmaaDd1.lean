/- Deeds in a world: what came in, copied. -/
import Derived.Test.YtkaakomiimcbmaaEd2
import Derived.Test.YtkaakomiimcbmaaK2v
namespace Go.Proofs.Ytkaakomiimcbmaa
open Go.ChangeShapes Go.WideShapes Go.ChangeAt Go.RowKit Go.Deep
set_option linter.unusedSimpArgs false
set_option linter.unusedVariables false
structure Dd where
  k : Int
  m : Int
  t : List Int
  n : ByteArray
  v : Int
  p : List Ed
  f : Int
  u : Int
  c : Int
/-- A deed whose lists are the values vt and vp. -/
abbrev ddV (X : Dd) (vt vp : Value) : Value := .agg #[.int .i64 X.k, .int .i64 X.m, vt, .string X.n, .int .i64 X.v, vp, .int .i64 X.f, .int .i64 X.u, .int .i64 X.c]
abbrev ddR (X : Dd) (ct cp : Nat) : Value := ddV X (.slice (some ⟨ct, 0, none⟩) X.t.length X.t.length) (.slice (some ⟨cp, 0, none⟩) X.p.length X.p.length)
def ListDd (w : World) (val : Value) (X : Dd) : Prop := ∃ vt vp, val = ddV X vt vp ∧ RowV w vt X.t ∧ ListE w vp X.p
theorem ListDd.below {w w' : World} {v : Value} {X : Dd} (h : ListDd w v X) (hb : Below w.heap.size w w') : ListDd w' v X := by
  obtain ⟨vt, vp, e, h1, h2⟩ := h
  exact ⟨vt, vp, e, h1.below hb, h2.below hb⟩
def RoomDd (X : Dd) : Prop := X.t.length ≤ 9223372036854775807 ∧ X.n.size ≤ 9223372036854775807 ∧ RoomE X.p
def FitsDd (X : Dd) : Prop := X.t.length ≤ 1048576 ∧ X.n.size ≤ 1048576 ∧ FitsE X.p
theorem far3 (w1 : World) (b o : Nat) (v2 v3 v4 : Value) (off : Nat) (h : b ≠ o ∨ (off ≠ 2 ∧ off ≠ 3 ∧ off ≠ 4)) : (((w1.setCell ⟨o, 2, none⟩ v2).setCell ⟨o, 3, none⟩ v3).setCell ⟨o, 4, none⟩ v4).cell? ⟨b, off, none⟩ = w1.cell? ⟨b, off, none⟩ := by
  have hne : ∀ j, (j = 2 ∨ j = 3 ∨ j = 4) → (⟨o, j, none⟩ : Addr) ≠ ⟨b, off, none⟩ := fun j hj e => by
    injection e with e1 e2
    omega
  rw [World.cell?_setCell_other (h := hne 4 (by omega)), World.cell?_setCell_other (h := hne 3 (by omega)), World.cell?_setCell_other (h := hne 2 (by omega))]
theorem fro3 (w1 : World) (o : Nat) (v2 v3 v4 : Value) (x : Addr) : (((w1.setCell ⟨o, 2, none⟩ v2).setCell ⟨o, 3, none⟩ v3).setCell ⟨o, 4, none⟩ v4).frozen? x = w1.frozen? x := by simp
theorem at3 (w1 : World) (o : Nat) (v2 v3 v4 u2 u3 u4 : Value) (h2 : w1.cell? ⟨o, 2, none⟩ = some u2) (h3 : w1.cell? ⟨o, 3, none⟩ = some u3) (h4 : w1.cell? ⟨o, 4, none⟩ = some u4) :
    (((w1.setCell ⟨o, 2, none⟩ v2).setCell ⟨o, 3, none⟩ v3).setCell ⟨o, 4, none⟩ v4).cell? ⟨o, 2, none⟩ = some v2 ∧ (((w1.setCell ⟨o, 2, none⟩ v2).setCell ⟨o, 3, none⟩ v3).setCell ⟨o, 4, none⟩ v4).cell? ⟨o, 3, none⟩ = some v3 ∧ (((w1.setCell ⟨o, 2, none⟩ v2).setCell ⟨o, 3, none⟩ v3).setCell ⟨o, 4, none⟩ v4).cell? ⟨o, 4, none⟩ = some v4 := by
  have hne : ∀ i j, i ≠ j → (⟨o, i, none⟩ : Addr) ≠ ⟨o, j, none⟩ := fun i j hj e => by
    injection e with e1 e2
    exact hj e2
  refine ⟨?_, ?_, ?_⟩
  · rw [World.cell?_setCell_other (h := hne 4 2 (by omega)), World.cell?_setCell_other (h := hne 3 2 (by omega)), World.cell?_setCell_same (h := h2)]
  · rw [World.cell?_setCell_other (h := hne 4 3 (by omega))]
    exact World.cell?_setCell_same _ _ _ (u := u3) (by rw [World.cell?_setCell_other (h := hne 2 3 (by omega))]; exact h3)
  · exact World.cell?_setCell_same _ _ _ (u := u4) (by rw [World.cell?_setCell_other (h := hne 3 4 (by omega)), World.cell?_setCell_other (h := hne 2 4 (by omega))]; exact h4)
set_option maxHeartbeats 4000000 in
set_option maxRecDepth 100000 in
theorem toDd (X : Dd) (vt vp : Value) (w : World) (ht : RowV w vt X.t) (hp : ListE w vp X.p) (hl : X.t.length ≤ 1048576) (hl2 : X.p.length ≤ 1048576) :
    Calls Try.prog 6 #[ddV X vt vp] w fun e w' => ∃ ct cp, e = .returned (ddR X ct cp) ∧ w.heap.size ≤ ct ∧ w.heap.size ≤ cp ∧ OwnI w' ct X.t ∧ Es w' cp X.p ∧ Below w.heap.size w w' := by
  obtain ⟨xk, xm, xt, xn, xv, xp, xf, xu, xc⟩ := X
  simp only at ht hp hl hl2
  unfold ddR ddV
  simp only
  go_enter Try.func6, Try.ntmps6
  go_wp2_with fail
  refine (toI vt xt _ (ht.below ?_) hl).mono ?_
  · repeat first
      | exact Below.refl _ _
      | refine Below.setCell ?_ (by simp) _
      | refine Below.alloc ?_ (by first | exact Nat.le_refl _ | (simp <;> omega)) _
  rintro e w1 ⟨rfl, hrow, hb1⟩
  obtain ⟨hc, hf⟩ := bcell hb1
  have P3 : w1.cell? ⟨w.heap.size, 3, none⟩ = some (.string xn) := by rw [hc _ _ (by first | (simp; done) | (simp; omega))]; go_simp
  have P4 : w1.cell? ⟨w.heap.size, 4, none⟩ = some (.int .i64 xv) := by rw [hc _ _ (by first | (simp; done) | (simp; omega))]; go_simp
  have P5 : w1.cell? ⟨w.heap.size, 5, none⟩ = some (vp) := by rw [hc _ _ (by first | (simp; done) | (simp; omega))]; go_simp
  have P6 : w1.cell? ⟨w.heap.size, 6, none⟩ = some (.int .i64 xf) := by rw [hc _ _ (by first | (simp; done) | (simp; omega))]; go_simp
  have P7 : w1.cell? ⟨w.heap.size, 7, none⟩ = some (.int .i64 xu) := by rw [hc _ _ (by first | (simp; done) | (simp; omega))]; go_simp
  have P8 : w1.cell? ⟨w.heap.size, 8, none⟩ = some (.int .i64 xc) := by rw [hc _ _ (by first | (simp; done) | (simp; omega))]; go_simp
  have R0 : w1.cell? ⟨w.heap.size + 1 + 1, 0, none⟩ = some (.int .i64 xk) := by rw [hc _ _ (by first | (simp; done) | (simp; omega))]; go_simp
  have R1 : w1.cell? ⟨w.heap.size + 1 + 1, 1, none⟩ = some (.int .i64 xm) := by rw [hc _ _ (by first | (simp; done) | (simp; omega))]; go_simp
  have R2 : w1.cell? ⟨w.heap.size + 1 + 1, 2, none⟩ = some (.slice none 0 0) := by rw [hc _ _ (by first | (simp; done) | (simp; omega))]; go_simp
  have R3 : w1.cell? ⟨w.heap.size + 1 + 1, 3, none⟩ = some (.string ⟨#[]⟩) := by rw [hc _ _ (by first | (simp; done) | (simp; omega))]; go_simp
  have R4 : w1.cell? ⟨w.heap.size + 1 + 1, 4, none⟩ = some (.int .i64 0) := by rw [hc _ _ (by first | (simp; done) | (simp; omega))]; go_simp
  have R5 : w1.cell? ⟨w.heap.size + 1 + 1, 5, none⟩ = some (.slice none 0 0) := by rw [hc _ _ (by first | (simp; done) | (simp; omega))]; go_simp
  have R6 : w1.cell? ⟨w.heap.size + 1 + 1, 6, none⟩ = some (.int .i64 0) := by rw [hc _ _ (by first | (simp; done) | (simp; omega))]; go_simp
  have R7 : w1.cell? ⟨w.heap.size + 1 + 1, 7, none⟩ = some (.int .i64 0) := by rw [hc _ _ (by first | (simp; done) | (simp; omega))]; go_simp
  have R8 : w1.cell? ⟨w.heap.size + 1 + 1, 8, none⟩ = some (.int .i64 0) := by rw [hc _ _ (by first | (simp; done) | (simp; omega))]; go_simp
  have ZR2 : w1.frozen? ⟨w.heap.size + 1 + 1, 2, none⟩ = false := by rw [hf _ _ (by first | (simp; done) | (simp; omega))]; go_simp
  have ZR3 : w1.frozen? ⟨w.heap.size + 1 + 1, 3, none⟩ = false := by rw [hf _ _ (by first | (simp; done) | (simp; omega))]; go_simp
  have ZR4 : w1.frozen? ⟨w.heap.size + 1 + 1, 4, none⟩ = false := by rw [hf _ _ (by first | (simp; done) | (simp; omega))]; go_simp
  have ZR5 : w1.frozen? ⟨w.heap.size + 1 + 1, 5, none⟩ = false := by rw [hf _ _ (by first | (simp; done) | (simp; omega))]; go_simp
  have ZR6 : w1.frozen? ⟨w.heap.size + 1 + 1, 6, none⟩ = false := by rw [hf _ _ (by first | (simp; done) | (simp; omega))]; go_simp
  have ZR7 : w1.frozen? ⟨w.heap.size + 1 + 1, 7, none⟩ = false := by rw [hf _ _ (by first | (simp; done) | (simp; omega))]; go_simp
  have ZR8 : w1.frozen? ⟨w.heap.size + 1 + 1, 8, none⟩ = false := by rw [hf _ _ (by first | (simp; done) | (simp; omega))]; go_simp
  have Q0 : w1.cell? ⟨w.heap.size + 1, 0, none⟩ = some (.int .i64 0) := by rw [hc _ _ (by first | (simp; done) | (simp; omega))]; go_simp
  have Q1 : w1.cell? ⟨w.heap.size + 1, 1, none⟩ = some (.int .i64 0) := by rw [hc _ _ (by first | (simp; done) | (simp; omega))]; go_simp
  have Q2 : w1.cell? ⟨w.heap.size + 1, 2, none⟩ = some (.slice none 0 0) := by rw [hc _ _ (by first | (simp; done) | (simp; omega))]; go_simp
  have Q3 : w1.cell? ⟨w.heap.size + 1, 3, none⟩ = some (.string ⟨#[]⟩) := by rw [hc _ _ (by first | (simp; done) | (simp; omega))]; go_simp
  have Q4 : w1.cell? ⟨w.heap.size + 1, 4, none⟩ = some (.int .i64 0) := by rw [hc _ _ (by first | (simp; done) | (simp; omega))]; go_simp
  have Q5 : w1.cell? ⟨w.heap.size + 1, 5, none⟩ = some (.slice none 0 0) := by rw [hc _ _ (by first | (simp; done) | (simp; omega))]; go_simp
  have Q6 : w1.cell? ⟨w.heap.size + 1, 6, none⟩ = some (.int .i64 0) := by rw [hc _ _ (by first | (simp; done) | (simp; omega))]; go_simp
  have Q7 : w1.cell? ⟨w.heap.size + 1, 7, none⟩ = some (.int .i64 0) := by rw [hc _ _ (by first | (simp; done) | (simp; omega))]; go_simp
  have Q8 : w1.cell? ⟨w.heap.size + 1, 8, none⟩ = some (.int .i64 0) := by rw [hc _ _ (by first | (simp; done) | (simp; omega))]; go_simp
  have ZQ0 : w1.frozen? ⟨w.heap.size + 1, 0, none⟩ = false := by rw [hf _ _ (by first | (simp; done) | (simp; omega))]; go_simp
  have ZQ1 : w1.frozen? ⟨w.heap.size + 1, 1, none⟩ = false := by rw [hf _ _ (by first | (simp; done) | (simp; omega))]; go_simp
  have ZQ2 : w1.frozen? ⟨w.heap.size + 1, 2, none⟩ = false := by rw [hf _ _ (by first | (simp; done) | (simp; omega))]; go_simp
  have ZQ3 : w1.frozen? ⟨w.heap.size + 1, 3, none⟩ = false := by rw [hf _ _ (by first | (simp; done) | (simp; omega))]; go_simp
  have ZQ4 : w1.frozen? ⟨w.heap.size + 1, 4, none⟩ = false := by rw [hf _ _ (by first | (simp; done) | (simp; omega))]; go_simp
  have ZQ5 : w1.frozen? ⟨w.heap.size + 1, 5, none⟩ = false := by rw [hf _ _ (by first | (simp; done) | (simp; omega))]; go_simp
  have ZQ6 : w1.frozen? ⟨w.heap.size + 1, 6, none⟩ = false := by rw [hf _ _ (by first | (simp; done) | (simp; omega))]; go_simp
  have ZQ7 : w1.frozen? ⟨w.heap.size + 1, 7, none⟩ = false := by rw [hf _ _ (by first | (simp; done) | (simp; omega))]; go_simp
  have ZQ8 : w1.frozen? ⟨w.heap.size + 1, 8, none⟩ = false := by rw [hf _ _ (by first | (simp; done) | (simp; omega))]; go_simp
  have hrow' : OwnI w1 (w.heap.size + 1 + 1 + 1) xt := by unfold OwnI; simpa using hrow
  have b1 : Below w.heap.size w w1 := ((((Below.refl _ _).alloc (Nat.le_refl _) _).alloc (by simp) _).alloc (by simp; omega) _).trans (hb1.mono (by simp; omega))
  have s1 : w.heap.size + 1 + 1 + 1 < w1.heap.size := World.rowIs.lt hrow'
  clear hc hf hrow hb1
  have HP := Lib.hid (fun w' (hw : Below w.heap.size w w') => toES vp xp w' (hp.below hw) hl2)
  go_wp2_with fail
  refine (HP.out _ ?_).mono ?_
  · repeat first
      | exact b1
      | refine Below.setCell ?_ (by show _ ≤ _ + _; omega) _
  rintro e w2 ⟨rfl, hrow2, hb2⟩
  obtain ⟨hc, hf⟩ := bcell hb2

  have lenx : ∀ b : Nat, b < w1.heap.size → b < (((w1.setCell ⟨w.heap.size + 1 + 1, 2, none⟩ (.slice (some ⟨w.heap.size + 1 + 1 + 1, 0, none⟩) xt.length xt.length)).setCell ⟨w.heap.size + 1 + 1, 3, none⟩ (.string xn)).setCell ⟨w.heap.size + 1 + 1, 4, none⟩ (.int .i64 xv)).heap.size := fun b h => by simp [World.setCell]; exact h
  obtain ⟨A2, A3, A4⟩ := at3 w1 (w.heap.size + 1 + 1) (.slice (some ⟨w.heap.size + 1 + 1 + 1, 0, none⟩) xt.length xt.length) (.string xn) (.int .i64 xv) _ _ _ R2 R3 R4
  have P6' : w2.cell? ⟨w.heap.size, 6, none⟩ = some (.int .i64 xf) := (hc _ _ (lenx _ (by omega))).trans ((far3 _ _ _ _ _ _ _ (.inl (by omega))).trans P6)
  have P7' : w2.cell? ⟨w.heap.size, 7, none⟩ = some (.int .i64 xu) := (hc _ _ (lenx _ (by omega))).trans ((far3 _ _ _ _ _ _ _ (.inl (by omega))).trans P7)
  have P8' : w2.cell? ⟨w.heap.size, 8, none⟩ = some (.int .i64 xc) := (hc _ _ (lenx _ (by omega))).trans ((far3 _ _ _ _ _ _ _ (.inl (by omega))).trans P8)
  have R0' : w2.cell? ⟨w.heap.size + 1 + 1, 0, none⟩ = some (.int .i64 xk) := (hc _ _ (lenx _ (by omega))).trans ((far3 _ _ _ _ _ _ _ (.inr (by omega))).trans R0)
  have R1' : w2.cell? ⟨w.heap.size + 1 + 1, 1, none⟩ = some (.int .i64 xm) := (hc _ _ (lenx _ (by omega))).trans ((far3 _ _ _ _ _ _ _ (.inr (by omega))).trans R1)
  have R2' : w2.cell? ⟨w.heap.size + 1 + 1, 2, none⟩ = some (.slice (some ⟨w.heap.size + 1 + 1 + 1, 0, none⟩) xt.length xt.length) := (hc _ _ (lenx _ (by omega))).trans A2
  have R3' : w2.cell? ⟨w.heap.size + 1 + 1, 3, none⟩ = some (.string xn) := (hc _ _ (lenx _ (by omega))).trans A3
  have R4' : w2.cell? ⟨w.heap.size + 1 + 1, 4, none⟩ = some (.int .i64 xv) := (hc _ _ (lenx _ (by omega))).trans A4
  have R5' : w2.cell? ⟨w.heap.size + 1 + 1, 5, none⟩ = some (.slice none 0 0) := (hc _ _ (lenx _ (by omega))).trans ((far3 _ _ _ _ _ _ _ (.inr (by omega))).trans R5)
  have R6' : w2.cell? ⟨w.heap.size + 1 + 1, 6, none⟩ = some (.int .i64 0) := (hc _ _ (lenx _ (by omega))).trans ((far3 _ _ _ _ _ _ _ (.inr (by omega))).trans R6)
  have R7' : w2.cell? ⟨w.heap.size + 1 + 1, 7, none⟩ = some (.int .i64 0) := (hc _ _ (lenx _ (by omega))).trans ((far3 _ _ _ _ _ _ _ (.inr (by omega))).trans R7)
  have R8' : w2.cell? ⟨w.heap.size + 1 + 1, 8, none⟩ = some (.int .i64 0) := (hc _ _ (lenx _ (by omega))).trans ((far3 _ _ _ _ _ _ _ (.inr (by omega))).trans R8)
  have ZR5' : w2.frozen? ⟨w.heap.size + 1 + 1, 5, none⟩ = false := (hf _ _ (lenx _ (by omega))).trans ((fro3 _ _ _ _ _ _).trans ZR5)
  have ZR6' : w2.frozen? ⟨w.heap.size + 1 + 1, 6, none⟩ = false := (hf _ _ (lenx _ (by omega))).trans ((fro3 _ _ _ _ _ _).trans ZR6)
  have ZR7' : w2.frozen? ⟨w.heap.size + 1 + 1, 7, none⟩ = false := (hf _ _ (lenx _ (by omega))).trans ((fro3 _ _ _ _ _ _).trans ZR7)
  have ZR8' : w2.frozen? ⟨w.heap.size + 1 + 1, 8, none⟩ = false := (hf _ _ (lenx _ (by omega))).trans ((fro3 _ _ _ _ _ _).trans ZR8)
  have Q0' : w2.cell? ⟨w.heap.size + 1, 0, none⟩ = some (.int .i64 0) := (hc _ _ (lenx _ (by omega))).trans ((far3 _ _ _ _ _ _ _ (.inl (by omega))).trans Q0)
  have Q1' : w2.cell? ⟨w.heap.size + 1, 1, none⟩ = some (.int .i64 0) := (hc _ _ (lenx _ (by omega))).trans ((far3 _ _ _ _ _ _ _ (.inl (by omega))).trans Q1)
  have Q2' : w2.cell? ⟨w.heap.size + 1, 2, none⟩ = some (.slice none 0 0) := (hc _ _ (lenx _ (by omega))).trans ((far3 _ _ _ _ _ _ _ (.inl (by omega))).trans Q2)
  have Q3' : w2.cell? ⟨w.heap.size + 1, 3, none⟩ = some (.string ⟨#[]⟩) := (hc _ _ (lenx _ (by omega))).trans ((far3 _ _ _ _ _ _ _ (.inl (by omega))).trans Q3)
  have Q4' : w2.cell? ⟨w.heap.size + 1, 4, none⟩ = some (.int .i64 0) := (hc _ _ (lenx _ (by omega))).trans ((far3 _ _ _ _ _ _ _ (.inl (by omega))).trans Q4)
  have Q5' : w2.cell? ⟨w.heap.size + 1, 5, none⟩ = some (.slice none 0 0) := (hc _ _ (lenx _ (by omega))).trans ((far3 _ _ _ _ _ _ _ (.inl (by omega))).trans Q5)
  have Q6' : w2.cell? ⟨w.heap.size + 1, 6, none⟩ = some (.int .i64 0) := (hc _ _ (lenx _ (by omega))).trans ((far3 _ _ _ _ _ _ _ (.inl (by omega))).trans Q6)
  have Q7' : w2.cell? ⟨w.heap.size + 1, 7, none⟩ = some (.int .i64 0) := (hc _ _ (lenx _ (by omega))).trans ((far3 _ _ _ _ _ _ _ (.inl (by omega))).trans Q7)
  have Q8' : w2.cell? ⟨w.heap.size + 1, 8, none⟩ = some (.int .i64 0) := (hc _ _ (lenx _ (by omega))).trans ((far3 _ _ _ _ _ _ _ (.inl (by omega))).trans Q8)
  have ZQ0' : w2.frozen? ⟨w.heap.size + 1, 0, none⟩ = false := (hf _ _ (lenx _ (by omega))).trans ((fro3 _ _ _ _ _ _).trans ZQ0)
  have ZQ1' : w2.frozen? ⟨w.heap.size + 1, 1, none⟩ = false := (hf _ _ (lenx _ (by omega))).trans ((fro3 _ _ _ _ _ _).trans ZQ1)
  have ZQ2' : w2.frozen? ⟨w.heap.size + 1, 2, none⟩ = false := (hf _ _ (lenx _ (by omega))).trans ((fro3 _ _ _ _ _ _).trans ZQ2)
  have ZQ3' : w2.frozen? ⟨w.heap.size + 1, 3, none⟩ = false := (hf _ _ (lenx _ (by omega))).trans ((fro3 _ _ _ _ _ _).trans ZQ3)
  have ZQ4' : w2.frozen? ⟨w.heap.size + 1, 4, none⟩ = false := (hf _ _ (lenx _ (by omega))).trans ((fro3 _ _ _ _ _ _).trans ZQ4)
  have ZQ5' : w2.frozen? ⟨w.heap.size + 1, 5, none⟩ = false := (hf _ _ (lenx _ (by omega))).trans ((fro3 _ _ _ _ _ _).trans ZQ5)
  have ZQ6' : w2.frozen? ⟨w.heap.size + 1, 6, none⟩ = false := (hf _ _ (lenx _ (by omega))).trans ((fro3 _ _ _ _ _ _).trans ZQ6)
  have ZQ7' : w2.frozen? ⟨w.heap.size + 1, 7, none⟩ = false := (hf _ _ (lenx _ (by omega))).trans ((fro3 _ _ _ _ _ _).trans ZQ7)
  have ZQ8' : w2.frozen? ⟨w.heap.size + 1, 8, none⟩ = false := (hf _ _ (lenx _ (by omega))).trans ((fro3 _ _ _ _ _ _).trans ZQ8)
  have hrowx : OwnI (((w1.setCell ⟨w.heap.size + 1 + 1, 2, none⟩ (.slice (some ⟨w.heap.size + 1 + 1 + 1, 0, none⟩) xt.length xt.length)).setCell ⟨w.heap.size + 1 + 1, 3, none⟩ (.string xn)).setCell ⟨w.heap.size + 1 + 1, 4, none⟩ (.int .i64 xv)) (w.heap.size + 1 + 1 + 1) xt := by
    iterate 3 refine World.rowIs.setOther ?_ (by show _ + 1 + 1 + 1 ≠ _ + 1 + 1; omega) _
    exact hrow'
  have hrowx2 := hrowx.below hb2
  have bx : Below w.heap.size w (((w1.setCell ⟨w.heap.size + 1 + 1, 2, none⟩ (.slice (some ⟨w.heap.size + 1 + 1 + 1, 0, none⟩) xt.length xt.length)).setCell ⟨w.heap.size + 1 + 1, 3, none⟩ (.string xn)).setCell ⟨w.heap.size + 1 + 1, 4, none⟩ (.int .i64 xv)) := by
    iterate 3 refine Below.setCell ?_ (by show _ ≤ _ + _; omega) _
    exact b1
  have b2 := bx.trans (hb2.mono bx.size)
  obtain ⟨cp, hcp⟩ : ∃ cp, (((w1.setCell ⟨w.heap.size + 1 + 1, 2, none⟩ (.slice (some ⟨w.heap.size + 1 + 1 + 1, 0, none⟩) xt.length xt.length)).setCell ⟨w.heap.size + 1 + 1, 3, none⟩ (.string xn)).setCell ⟨w.heap.size + 1 + 1, 4, none⟩ (.int .i64 xv)).heap.size = cp := ⟨_, rfl⟩
  have lcp : w.heap.size + 1 + 1 + 1 < cp := by rw [← hcp]; simp [World.setCell]; exact s1
  rw [hcp] at hrow2 ⊢
  clear hc hf hcp lenx hb2 A2 A3 A4 bx hrowx hrow' b1 s1 HP P3 P4 P5 P6 P7 P8 R0 R1 R2 R3 R4 R5 R6 R7 R8 ZR2 ZR3 ZR4 ZR5 ZR6 ZR7 ZR8 Q0 Q1 Q2 Q3 Q4 Q5 Q6 Q7 Q8 ZQ0 ZQ1 ZQ2 ZQ3 ZQ4 ZQ5 ZQ6 ZQ7 ZQ8
  go_wp2
  refine bodyPost_ret (v := ddR ⟨xk, xm, xt, xn, xv, xp, xf, xu, xc⟩ (w.heap.size + 1 + 1 + 1) cp) (by simp [results, Try.results6, go_sem, Q0', Q1', Q2', Q3', Q4', Q5', Q6', Q7', Q8']) rfl ⟨_, _, rfl, by omega, by omega, ?_, ?_, ?_⟩
  · iterate 13 refine World.rowIs.setOther ?_ (by show _ ≠ _ + _; omega) _
    exact hrowx2
  · iterate 13 refine World.rowIs.setOther ?_ (by show _ ≠ _ + _; omega) _
    exact hrow2
  · iterate 13 refine Below.setCell ?_ (by show _ ≤ _ + _; omega) _
    exact b2
end Go.Proofs.Ytkaakomiimcbmaa
