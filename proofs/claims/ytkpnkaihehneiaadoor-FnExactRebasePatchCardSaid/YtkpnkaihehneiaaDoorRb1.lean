/- Edits among edits: slices.Index, Contains, Clone; the program's condition of RebasePatch. -/
import Derived.Test.YtkpnkaihehneiaaDoorDl8
namespace Go.Proofs.YtkpnkaihehneiaaDoor
open Go.ChangeShapes Go.WideShapes Go.ChangeAt Go.RowKit Go.Deep
set_option linter.unusedSimpArgs false
set_option linter.unusedVariables false
noncomputable def memE (P : List Ed) (e : Ed) : Bool := @decide (e ∈ P) (Classical.propDecidable _)
theorem memE_iff {P : List Ed} {e : Ed} : memE P e = true ↔ e ∈ P := by simp [memE]
theorem memE_yes {P : List Ed} {e : Ed} (h : e ∈ P) : memE P e = true := by simp [memE, h]
theorem memE_no {P : List Ed} {e : Ed} (h : ¬ e ∈ P) : memE P e = false := by simp [memE, h]
/-- How two edits can be told apart. -/
theorem ed_cases (x y : Ed) : (x = y) ∨ (x ≠ y ∧ (x.1 == y.1) = false) ∨ (x ≠ y ∧ x.1 = y.1 ∧ (x.2.1 == y.2.1) = false) ∨ (x ≠ y ∧ x.1 = y.1 ∧ x.2.1 = y.2.1 ∧ (x.2.2.1.toList == y.2.2.1.toList) = false) ∨ (x ≠ y ∧ x.1 = y.1 ∧ x.2.1 = y.2.1 ∧ x.2.2.1 = y.2.2.1 ∧ (x.2.2.2.toList == y.2.2.2.toList) = false) := by
  obtain ⟨k, i, a, b⟩ := x
  obtain ⟨k', i', a', b'⟩ := y
  simp only
  by_cases h1 : k = k'
  · by_cases h2 : i = i'
    · by_cases h3 : a = a'
      · by_cases h4 : b = b'
        · exact .inl (by rw [h1, h2, h3, h4])
        · exact .inr (.inr (.inr (.inr ⟨fun e => h4 (by injection e with _ e; injection e with _ e; injection e), h1, h2, h3, str_ne h4⟩)))
      · exact .inr (.inr (.inr (.inl ⟨fun e => h3 (by injection e with _ e; injection e with _ e; injection e), h1, h2, str_ne h3⟩)))
    · exact .inr (.inr (.inl ⟨fun e => h2 (by injection e with _ e; injection e), h1, by simpa using h2⟩))
  · exact .inr (.inl ⟨fun e => h1 (by injection e), by simpa using h1⟩)
set_option maxHeartbeats 4000000 in
set_option maxRecDepth 100000 in
theorem index7 (P : List Ed) (b cap : Nat) (x : Ed) (w : World) (h : Es w b P) (hl : P.length ≤ 1048576) :
    Calls Tryd.prog 88 #[.slice (some ⟨b, 0, none⟩) P.length cap, vE x] w fun e w' => (∃ r : Int, e = .returned (.int .i64 r) ∧ -1 ≤ r ∧ r ≤ 1048576 ∧ (0 ≤ r ↔ x ∈ P)) ∧ Below w.heap.size w w' := by
  have HX := Lib.hid h
  have lb := h.lt
  clear h
  obtain ⟨W1, hW1⟩ : ∃ W1, W1 = w.alloc (.cells #[.int .i64 x.1, .int .i64 x.2.1, .string x.2.2.1, .string x.2.2.2] 70) := ⟨_, rfl⟩
  have b1 : Below w.heap.size w W1 := by rw [hW1]; exact (Below.refl w.heap.size w).alloc (Nat.le_refl _) _
  have q0 : W1.cell? ⟨w.heap.size, 0, none⟩ = some (.int .i64 x.1) := by rw [hW1]; go_simp
  have q1 : W1.cell? ⟨w.heap.size, 1, none⟩ = some (.int .i64 x.2.1) := by rw [hW1]; go_simp
  have q2 : W1.cell? ⟨w.heap.size, 2, none⟩ = some (.string x.2.2.1) := by rw [hW1]; go_simp
  have q3 : W1.cell? ⟨w.heap.size, 3, none⟩ = some (.string x.2.2.2) := by rw [hW1]; go_simp
  have hsz : w.heap.size < W1.heap.size := by rw [hW1]; simp
  have QQ := Lib.hid (And.intro q0 (And.intro q1 (And.intro q2 q3)))
  have HXX := Lib.hid (rfl : x = x)
  obtain ⟨x0, hx0⟩ : ∃ x0, x = x0 := ⟨_, rfl⟩
  have HX0 := Lib.hid hx0
  obtain ⟨kx, ix, ax, bx⟩ := x
  unfold vE
  simp only at hW1 q0 q1 q2 q3 QQ ⊢
  clear hx0
  go_enter Tryd.func88, Tryd.ntmps88
  go_wp2
  simp only [← hW1]
  clear hW1 q0 q1 q2 q3
  go_loopg [5, 8] P.length (fun g _ i wr => ∃ k : Nat, k ≤ P.length ∧ g = P.length - k ∧ i = .int .i64 k ∧ Below W1.heap.size W1 wr ∧ Hid (∀ j, j < k → (kx, ix, ax, bx) ≠ P.getD j e0))
  case atStart => exact ⟨0, Nat.zero_le _, rfl, rfl, Below.refl _ _, fun j hj => absurd hj (Nat.not_lt_zero _)⟩
  case round =>
    obtain ⟨k, hk, rfl, rfl, hb, H⟩ := hrel
    have hbw := b1.trans (hb.mono b1.size)
    by_cases hlt : k < P.length
    · obtain ⟨a1, a2, a3, a4⟩ := (HX.out.below hbw).at hlt
      have p0 := (hb.cell (p := ⟨w.heap.size, 0, none⟩) hsz).trans QQ.out.1
      have p1 := (hb.cell (p := ⟨w.heap.size, 1, none⟩) hsz).trans QQ.out.2.1
      have p2 := (hb.cell (p := ⟨w.heap.size, 2, none⟩) hsz).trans QQ.out.2.2.1
      have p3 := (hb.cell (p := ⟨w.heap.size, 3, none⟩) hsz).trans QQ.out.2.2.2
      obtain ⟨q, hq⟩ : ∃ q, P.getD k e0 = q := ⟨_, rfl⟩
      rw [hq] at a1 a2 a3 a4
      have HQ := Lib.hid hq
      obtain ⟨n, y, sa, sb⟩ := q
      simp only at a1 a2 a3 a4
      have hc := ed_cases (kx, ix, ax, bx) (n, y, sa, sb)
      simp only at hc
      clear hq
      rcases hc with e | ⟨hne, t⟩ | ⟨hne, rfl, t⟩ | ⟨hne, rfl, rfl, t⟩ | ⟨hne, rfl, rfl, rfl, t⟩
      · injection e with e1 e
        injection e with e2 e
        injection e with e3 e4
        subst e1 e2 e3 e4
        have HM : Hid ((kx, ix, ax, bx) ∈ P) := by
          show _ ∈ P
          rw [← HQ.out]
          simp [List.getD, hlt]
        go_wp2_with fail
        go_region
        all_goals
          go_wp2
          go_ret
          exact ⟨⟨_, rfl, by omega, by omega, ⟨fun _ => HM.out, fun _ => by omega⟩⟩, by first | exact hbw.drew | exact hbw⟩
      all_goals
        have HNE := Lib.hid hne
        clear hne
        go_wp2_with fail
        go_region
        all_goals
          go_wp2
          go_roundg (P.length - (k + 1))
          · refine ⟨k + 1, by omega, rfl, by simp, by first | exact hb.drew | exact hb, fun j hj => ?_⟩
            by_cases ej : j = k
            · subst ej; rw [HQ.out]; exact HNE.out
            · exact H.out j (by omega)
          · omega
    · obtain rfl : k = P.length := by omega
      have HM : Hid (¬ (kx, ix, ax, bx) ∈ P) := fun hm => by
        obtain ⟨j, hj, e⟩ := List.mem_iff_getElem.1 hm
        have := H.out j hj
        apply this
        simp [List.getD, hj, e]
      go_wp2
      go_ret
      exact ⟨⟨_, rfl, by omega, by omega, ⟨fun h => absurd h (by omega), fun h => absurd h HM.out⟩⟩, hbw⟩
set_option maxHeartbeats 1000000 in
theorem contains7 (P : List Ed) (b cap : Nat) (x : Ed) (w : World) (h : Es w b P) (hl : P.length ≤ 1048576) :
    Calls Tryd.prog 64 #[.slice (some ⟨b, 0, none⟩) P.length cap, vE x] w fun e w' => e = .returned (.bool (memE P x)) ∧ Below w.heap.size w w' := by
  have b1 := (Below.refl w.heap.size w).alloc (Nat.le_refl _) (.cells #[.int .i64 x.1, .int .i64 x.2.1, .string x.2.2.1, .string x.2.2.2] 70)
  have HI := index7 P b cap x _ (h.below b1) hl
  have HM := Lib.hid (fun hm => memE_yes (P := P) (e := x) hm)
  have HN := Lib.hid (fun hm => memE_no (P := P) (e := x) hm)
  obtain ⟨z, hz⟩ : ∃ z, memE P x = z := ⟨_, rfl⟩
  rw [hz] at HM HN ⊢
  obtain ⟨kx, ix, ax, bx⟩ := x
  unfold vE at HI ⊢
  simp only at HI b1 ⊢
  clear h hz
  go_enter Tryd.func64, Tryd.ntmps64
  go_wp2_with fail
  refine HI.mono ?_
  rintro e w1 ⟨⟨r, rfl, r1, r2, r3⟩, hb1⟩
  have hbb := b1.trans (hb1.mono b1.size)
  have R3 := Lib.hid r3
  clear r3 HI hb1
  by_cases hr : 0 ≤ r
  · have hz := HM.out (R3.out.1 hr)
    subst hz
    go_wp2
    go_ret
    exact ⟨by simp [hr], hbb⟩
  · have hz := HN.out (fun hm => hr (R3.out.2 hm))
    subst hz
    go_wp2
    go_ret
    exact ⟨by simp; omega, hbb⟩
end Go.Proofs.YtkpnkaihehneiaaDoor
