/- Proofs of bits (three lists of numbers): their size, copied. -/
import Derived.Test.YtjfkkmfbgmejbaaSl8
namespace Go.Proofs.Ytjfkkmfbgmejbaa
open Go.ChangeShapes Go.WideShapes Go.ChangeAt Go.RowKit Go.Deep
set_option linter.unusedSimpArgs false
set_option linter.unusedVariables false
abbrev Bq := List Int × List Int × List Int
/-- The value v is the proof X. -/
def ListB (w : World) (v : Value) (X : Bq) : Prop := ∃ a b c, v = .agg #[a, b, c] ∧ RowV w a X.1 ∧ RowV w b X.2.1 ∧ RowV w c X.2.2
theorem ListB.below {w w' : World} {v : Value} {X : Bq} (h : ListB w v X) (hb : Below w.heap.size w w') : ListB w' v X := by
  obtain ⟨a, b, c, e, h1, h2, h3⟩ := h
  exact ⟨a, b, c, e, h1.below hb, h2.below hb, h3.below hb⟩
def RoomB (X : Bq) : Prop := X.1.length ≤ 9223372036854775807 ∧ X.2.1.length ≤ 9223372036854775807 ∧ X.2.2.length ≤ 9223372036854775807
def FitsB (X : Bq) : Prop := X.1.length ≤ 1048576 ∧ X.2.1.length ≤ 1048576 ∧ X.2.2.length ≤ 1048576
theorem szOf_bd (n : Nat) (r : Int) (h : r ≤ 1048576) : -1 ≤ szOf n r ∧ szOf n r ≤ 1048576 ∧ (szOf n r < 0 → szOf n r = -1) ∧ (0 ≤ szOf n r → n ≤ 1048576) := by
  unfold szOf; split <;> omega
set_option maxHeartbeats 1000000 in
theorem szBp (v : Value) (X : Bq) (w : World) (h : ListB w v X) (hr : RoomB X) :
    Calls Try.prog 19 #[v, .int .i64 1048576] w fun e w' => (∃ r, e = .returned (.int .i64 r) ∧ -1 ≤ r ∧ r ≤ 1048576 ∧ (0 ≤ r → FitsB X)) ∧ Below w.heap.size w w' := by
  obtain ⟨a, b, c, rfl, ha, hb, hc⟩ := h
  obtain ⟨r1, r2, r3⟩ := hr
  have b1 := (Below.refl w.heap.size w).alloc (Nat.le_refl _) (.cells #[a, b, c] 33)
  have H1 := fun z z0 z1 => szI a X.1 z _ (ha.below b1) r1 z0 z1
  have H2 := fun z z0 z1 => szI b X.2.1 z _ (hb.below b1) r2 z0 z1
  have H3 := fun z z0 z1 => szI c X.2.2 z _ (hc.below b1) r3 z0 z1
  obtain ⟨x, hx⟩ : ∃ x, szOf X.1.length 1048576 = x := ⟨_, rfl⟩
  obtain ⟨x1, x2, x3, x4⟩ := szOf_bd X.1.length 1048576 (by omega)
  have H1' := H1 1048576 (by omega) (by omega)
  rw [hx] at x1 x2 x3 x4 H1'
  have X4 := Lib.hid x4
  clear ha hb hc r1 r2 r3 H1 hx x4
  by_cases n1 : x < 0
  · obtain rfl := x3 n1
    clear H2 H3
    go_enter Try.func19, Try.ntmps19
    go_wp2_with fail
    refine H1'.mono ?_
    rintro e w1 ⟨rfl, rfl⟩
    go_wp2
    go_ret
    exact ⟨⟨_, rfl, by omega, by omega, fun h => absurd h (by omega)⟩, b1⟩
  obtain ⟨y, hy⟩ : ∃ y, szOf X.2.1.length x = y := ⟨_, rfl⟩
  obtain ⟨y1, y2, y3, y4⟩ := szOf_bd X.2.1.length x (by omega)
  have H2' := H2 x (by omega) (by omega)
  rw [hy] at y1 y2 y3 y4 H2'
  have Y4 := Lib.hid y4
  clear H2 hy y4
  by_cases n2 : y < 0
  · obtain rfl := y3 n2
    clear H3
    go_enter Try.func19, Try.ntmps19
    go_wp2_with fail
    refine H1'.mono ?_
    rintro e w1 ⟨rfl, rfl⟩
    go_wp2_with fail
    refine H2'.mono ?_
    rintro e w1 ⟨rfl, rfl⟩
    go_wp2
    go_ret
    exact ⟨⟨_, rfl, by omega, by omega, fun h => absurd h (by omega)⟩, b1⟩
  obtain ⟨z, hz⟩ : ∃ z, szOf X.2.2.length y = z := ⟨_, rfl⟩
  obtain ⟨z1, z2, z3, z4⟩ := szOf_bd X.2.2.length y (by omega)
  have H3' := H3 y (by omega) (by omega)
  rw [hz] at z1 z2 z3 z4 H3'
  have Z4 := Lib.hid z4
  clear H3 hz z4
  by_cases n3 : z < 0
  · obtain rfl := z3 n3
    go_enter Try.func19, Try.ntmps19
    go_wp2_with fail
    refine H1'.mono ?_
    rintro e w1 ⟨rfl, rfl⟩
    go_wp2_with fail
    refine H2'.mono ?_
    rintro e w1 ⟨rfl, rfl⟩
    go_wp2_with fail
    refine H3'.mono ?_
    rintro e w1 ⟨rfl, rfl⟩
    go_wp2
    go_ret
    exact ⟨⟨_, rfl, by omega, by omega, fun h => absurd h (by omega)⟩, b1⟩
  · go_enter Try.func19, Try.ntmps19
    go_wp2_with fail
    refine H1'.mono ?_
    rintro e w1 ⟨rfl, rfl⟩
    go_wp2_with fail
    refine H2'.mono ?_
    rintro e w1 ⟨rfl, rfl⟩
    go_wp2_with fail
    refine H3'.mono ?_
    rintro e w1 ⟨rfl, rfl⟩
    go_wp2
    go_ret
    exact ⟨⟨_, rfl, z1, z2, fun h => ⟨X4.out (by omega), Y4.out (by omega), Z4.out h⟩⟩, b1⟩
/-- What lies while a proof is copied: the argument, the result, the copy so far. -/
structure TB (w w' : World) (va vb vc x y z : Value) : Prop where
  a0 : w'.cell? ⟨w.heap.size, 0, none⟩ = some va
  a1 : w'.cell? ⟨w.heap.size, 1, none⟩ = some vb
  a2 : w'.cell? ⟨w.heap.size, 2, none⟩ = some vc
  r0 : w'.cell? ⟨w.heap.size + 1, 0, none⟩ = some (.slice none 0 0)
  r1 : w'.cell? ⟨w.heap.size + 1, 1, none⟩ = some (.slice none 0 0)
  r2 : w'.cell? ⟨w.heap.size + 1, 2, none⟩ = some (.slice none 0 0)
  o0 : w'.cell? ⟨w.heap.size + 1 + 1, 0, none⟩ = some x
  o1 : w'.cell? ⟨w.heap.size + 1 + 1, 1, none⟩ = some y
  o2 : w'.cell? ⟨w.heap.size + 1 + 1, 2, none⟩ = some z
  fr : ∀ i, w'.frozen? ⟨w.heap.size + 1, i, none⟩ = false
  fo : ∀ i, w'.frozen? ⟨w.heap.size + 1 + 1, i, none⟩ = false
  bel : Below w.heap.size w w'
  lt : w.heap.size + 1 + 1 < w'.heap.size
section
variable {w w' w'' : World} {va vb vc x y z : Value}
theorem TB.below (h : TB w w' va vb vc x y z) (hb : Below w'.heap.size w' w'') : TB w w'' va vb vc x y z := by
  have k : ∀ b o, b ≤ w.heap.size + 1 + 1 → w''.cell? ⟨b, o, none⟩ = w'.cell? ⟨b, o, none⟩ := fun b o hbo => hb.cell (p := ⟨b, o, none⟩) (by have := h.lt; show b < _; omega)
  have f : ∀ b o, b ≤ w.heap.size + 1 + 1 → w''.frozen? ⟨b, o, none⟩ = w'.frozen? ⟨b, o, none⟩ := fun b o hbo => hb.frozen (p := ⟨b, o, none⟩) (by have := h.lt; show b < _; omega)
  exact ⟨(k _ _ (by omega)).trans h.a0, (k _ _ (by omega)).trans h.a1, (k _ _ (by omega)).trans h.a2, (k _ _ (by omega)).trans h.r0, (k _ _ (by omega)).trans h.r1, (k _ _ (by omega)).trans h.r2,
    (k _ _ (by omega)).trans h.o0, (k _ _ (by omega)).trans h.o1, (k _ _ (by omega)).trans h.o2, fun i => (f _ _ (by omega)).trans (h.fr i), fun i => (f _ _ (by omega)).trans (h.fo i), h.bel.trans (hb.mono h.bel.size), Nat.lt_of_lt_of_le h.lt hb.size⟩
theorem TB.set (h : TB w w' va vb vc x y z) (i : Nat) (v : Value) :
    TB w (w'.setCell ⟨w.heap.size + 1 + 1, i, none⟩ v) va vb vc (if i = 0 then v else x) (if i = 1 then v else y) (if i = 2 then v else z) := by
  have e : ∀ b o, b ≠ w.heap.size + 1 + 1 → (w'.setCell ⟨w.heap.size + 1 + 1, i, none⟩ v).cell? ⟨b, o, none⟩ = w'.cell? ⟨b, o, none⟩ := fun b o hb => World.cell?_setCell_other _ _ _ _ (by intro q; injection q; omega)
  have s : ∀ o u, w'.cell? ⟨w.heap.size + 1 + 1, o, none⟩ = some u → (w'.setCell ⟨w.heap.size + 1 + 1, i, none⟩ v).cell? ⟨w.heap.size + 1 + 1, o, none⟩ = some (if i = o then v else u) := fun o u hu => by
    by_cases hio : i = o
    · subst hio; rw [if_pos rfl]; exact World.cell?_setCell_same' _ _ _ (by rw [hu]; rfl)
    · rw [if_neg hio, World.cell?_setCell_other _ _ _ _ (by intro q; injection q; omega)]; exact hu
  refine ⟨(e _ _ (by omega)).trans h.a0, (e _ _ (by omega)).trans h.a1, (e _ _ (by omega)).trans h.a2, (e _ _ (by omega)).trans h.r0, (e _ _ (by omega)).trans h.r1, (e _ _ (by omega)).trans h.r2, s 0 _ h.o0, s 1 _ h.o1, s 2 _ h.o2, fun j => ?_, fun j => ?_, h.bel.setCell (by show _ ≤ _ + _; omega) _, by simpa using h.lt⟩
  · simpa using h.fr j
  · simpa using h.fo j
end
end Go.Proofs.Ytjfkkmfbgmejbaa
