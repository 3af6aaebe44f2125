/- Quotas and pools: their size, copied, compared. -/
import Derived.Test.YtfjpjiieocdgeaaDoorPo1
import Derived.Test.YtfjpjiieocdgeaaDoorVo5
namespace Go.Proofs.YtfjpjiieocdgeaaDoor
open Go.ChangeShapes Go.WideShapes Go.ChangeAt Go.RowKit Go.Deep
set_option linter.unusedSimpArgs false
set_option linter.unusedVariables false
theorem szQ (m n : Int) (v : Value) (l : List Int) (left : Int) (w : World) (h : RowV w v l) (hl : l.length ≤ 9223372036854775807) (h1 : 0 ≤ left) (h2 : left ≤ 1048576) :
    Calls Tryd.prog 60 #[.agg #[v, .int .i64 m, .int .i64 n], .int .i64 left] w fun e w' => e = .returned (.int .i64 (szOf l.length left)) ∧ Below w.heap.size w w' := by
  obtain ⟨z, hz⟩ : ∃ z, szOf l.length left = z := ⟨_, rfl⟩
  have b1 := (Below.refl w.heap.size w).alloc (Nat.le_refl _) (.cells #[v, .int .i64 m, .int .i64 n] 97)
  have HI := fun w h => szI v l left w h hl h1 h2
  rw [hz] at HI ⊢
  have hr : -1 ≤ z ∧ z ≤ 1048576 ∧ (z < 0 → z = -1) := by rw [← hz]; unfold szOf; split <;> omega
  obtain ⟨r1, r2, r3⟩ := hr
  by_cases hc : z < 0
  · obtain rfl := r3 hc
    go_enter Tryd.func60, Tryd.ntmps60
    go_wp2_with fail
    refine (HI _ (h.below b1)).mono ?_
    rintro e w1 ⟨rfl, rfl⟩
    go_wp2
    go_ret
    exact ⟨rfl, b1⟩
  · go_enter Tryd.func60, Tryd.ntmps60
    go_wp2_with fail
    refine (HI _ (h.below b1)).mono ?_
    rintro e w1 ⟨rfl, rfl⟩
    go_wp2
    go_ret
    exact ⟨rfl, b1⟩
/-- What the law's size test lets through. -/
def FitsQ (L : List Qt) : Prop := L.length ≤ 1048576 ∧ ∀ k, k < L.length → (L.getD k q0).1.length ≤ 1048576
def RoomQ (L : List Qt) : Prop := L.length ≤ 9223372036854775807 ∧ ∀ k, k < L.length → (L.getD k q0).1.length ≤ 9223372036854775807
set_option maxRecDepth 100000 in
theorem szQS (v : Value) (L : List Qt) (w : World) (h : ListQ w v L) (hr : RoomQ L) :
    Calls Tryd.prog 39 #[v, .int .i64 1048576] w fun e w' => (∃ r, e = .returned (.int .i64 r) ∧ -1 ≤ r ∧ r ≤ 1048576 ∧ (0 ≤ r → FitsQ L)) ∧ Below w.heap.size w w' := by
  obtain ⟨hr1, hr2⟩ := hr
  rcases h with ⟨rfl, rfl⟩ | ⟨x, cap, rfl, hx, h⟩
  · go_enter Tryd.func39, Tryd.ntmps39
    go_wp2
    go_loopg [1, 5] 0 (fun g z i wr => z = .int .i64 1048576 ∧ i = .int .i64 0 ∧ wr = w)
    case atStart => exact ⟨rfl, rfl, rfl⟩
    case round =>
      obtain ⟨rfl, rfl, rfl⟩ := hrel
      go_wp2
      go_ret
      exact ⟨⟨_, rfl, by omega, by omega, fun _ => ⟨by simp, fun k hk => absurd hk (Nat.not_lt_zero _)⟩⟩, Below.refl _ _⟩
  · by_cases hbig : 1048576 < L.length
    · go_enter Tryd.func39, Tryd.ntmps39
      go_wp2
      go_ret
      exact ⟨⟨_, rfl, by omega, by omega, fun h => absurd h (by omega)⟩, Below.refl _ _⟩
    · go_enter Tryd.func39, Tryd.ntmps39
      go_wp2
      go_loopg [1, 5] L.length (fun g z i wr => ∃ (k : Nat) (r : Int), k ≤ L.length ∧ g = L.length - k ∧ z = .int .i64 r ∧ i = .int .i64 k ∧ 0 ≤ r ∧ r ≤ 1048576 ∧ Below w.heap.size w wr ∧ Hid (∀ j, j < k → (L.getD j q0).1.length ≤ 1048576))
      case atStart => exact ⟨0, _, Nat.zero_le _, rfl, rfl, rfl, by omega, by omega, Below.refl _ _, fun j hj => absurd hj (Nat.not_lt_zero _)⟩
      case round =>
        obtain ⟨k, r, hk, rfl, rfl, rfl, q1, q2, hb, H⟩ := hrel
        by_cases hlt : k < L.length
        · have ha := (h.below hx hb) k hlt
          obtain ⟨v, a1, a2, a3, a4⟩ := ha
          have hlen := hr2 k hlt
          obtain ⟨q, hq⟩ : ∃ q, L.getD k q0 = q := ⟨_, rfl⟩
          rw [hq] at a2 a3 a4 hlen
          have HQ := Lib.hid hq
          clear hq
          obtain ⟨l, m, n⟩ := q
          simp only at a2 a3 a4 hlen
          have HZ := szQ m n v l r wr a4 hlen q1 q2
          obtain ⟨z, hz⟩ : ∃ z, szOf l.length r = z := ⟨_, rfl⟩
          have hzr : -1 ≤ z ∧ z ≤ 1048576 ∧ (z < 0 → z = -1) ∧ (0 ≤ z → l.length ≤ 1048576) := by rw [← hz]; unfold szOf; split <;> omega
          obtain ⟨z1, z2, z3, z4⟩ := hzr
          rw [hz] at HZ
          clear hz hlen a4
          have Z4 := Lib.hid z4
          clear z4
          by_cases hneg : z < 0
          · obtain rfl := z3 hneg
            go_wp2_with fail
            refine HZ.mono ?_
            rintro e w1 ⟨rfl, hb1⟩
            go_wp2
            go_ret
            exact ⟨⟨_, rfl, by omega, by omega, fun h => absurd h (by omega)⟩, hb.trans (hb1.mono hb.size)⟩
          · go_wp2_with fail
            refine HZ.mono ?_
            rintro e w1 ⟨rfl, hb1⟩
            go_wp2
            go_roundg (L.length - (k + 1))
            case measure => omega
            case rel =>
              refine ⟨k + 1, z, by omega, rfl, rfl, by simp, by omega, by omega, hb.trans (hb1.mono hb.size), fun j hj => ?_⟩
              by_cases e : j = k
              · subst e; rw [HQ.out]; exact Z4.out (by omega)
              · exact H.out j (by omega)
        · have e : k = L.length := by omega
          subst e
          go_wp2
          go_ret
          exact ⟨⟨_, rfl, by omega, by omega, fun _ => ⟨by omega, H.out⟩⟩, hb⟩
theorem szP (p s : Int) (v : Value) (L : List Qt) (w : World) (h : ListQ w v L) (hr : RoomQ L) :
    Calls Tryd.prog 16 #[.agg #[.int .i64 p, .int .i64 s, v], .int .i64 1048576] w fun e w' => (∃ r, e = .returned (.int .i64 r) ∧ -1 ≤ r ∧ r ≤ 1048576 ∧ (0 ≤ r → FitsQ L)) ∧ Below w.heap.size w w' := by
  have b1 := (Below.refl w.heap.size w).alloc (Nat.le_refl _) (.cells #[.int .i64 p, .int .i64 s, v] 39)
  have HZ := fun w' (hw : Below w.heap.size w w') => szQS v L w' (h.below hw) hr
  clear h hr
  go_enter Tryd.func16, Tryd.ntmps16
  go_wp2_with fail
  refine (HZ _ b1).mono ?_
  rintro e w1 ⟨⟨r, rfl, r1, r2, r3⟩, hb1⟩
  have R3 := Lib.hid r3
  clear r3
  by_cases hneg : r < 0
  · go_wp2
    go_ret
    exact ⟨⟨_, rfl, by omega, by omega, fun h => absurd h (by omega)⟩, b1.trans (hb1.mono b1.size)⟩
  · go_wp2
    go_ret
    exact ⟨⟨_, rfl, r1, r2, R3.out⟩, b1.trans (hb1.mono b1.size)⟩
theorem Qs.other {w : World} {base b x o : Nat} {L : List Qt} (h : Qs w base b L) (hx : x ≠ b) (hy : x ≤ base) (v : Value) : Qs (w.setCell ⟨x, o, none⟩ v) base b L := by
  obtain ⟨c, h⟩ := h
  exact ⟨c, World.rowIs.setOther h.row (by show b ≠ x; omega) _, fun j hj => ⟨(h.own j hj).1, World.rowIs.setOther (h.own j hj).2 (by have := (h.own j hj).1; show c j ≠ x; omega) _⟩⟩
theorem toP (p s : Int) (v : Value) (L : List Qt) (w : World) (h : ListQ w v L) (hf : FitsQ L) :
    Calls Tryd.prog 18 #[.agg #[.int .i64 p, .int .i64 s, v]] w fun e w' => (∃ b, e = .returned (.agg #[.int .i64 p, .int .i64 s, .slice (some ⟨b, 0, none⟩) L.length L.length]) ∧ w.heap.size < b ∧ Qs w' b b L) ∧ Below w.heap.size w w' := by
  go_enter Tryd.func18, Tryd.ntmps18
  go_wp2_with fail
  refine (toQS_any v L _ (h.below ?_) hf.1 hf.2).mono ?_
  · repeat first
      | exact Below.refl _ _
      | refine Below.setCell ?_ (by simp) _
      | refine Below.alloc ?_ (by first | exact Nat.le_refl _ | (simp <;> omega)) _
  rintro e w1 ⟨rfl, hrow, hb1⟩
  obtain ⟨hc, hf⟩ := bcell hb1
  have R0 : w1.cell? ⟨w.heap.size + 1 + 1, 0, none⟩ = some (.int .i64 p) := by rw [hc _ _ (by simp)]; go_simp
  have R1 : w1.cell? ⟨w.heap.size + 1 + 1, 1, none⟩ = some (.int .i64 s) := by rw [hc _ _ (by simp)]; go_simp
  have R2 : w1.cell? ⟨w.heap.size + 1 + 1, 2, none⟩ = some (.slice none 0 0) := by rw [hc _ _ (by simp)]; go_simp
  have ZR2 : w1.frozen? ⟨w.heap.size + 1 + 1, 2, none⟩ = false := by rw [hf _ _ (by simp)]; go_simp
  have Q0 : w1.cell? ⟨w.heap.size + 1, 0, none⟩ = some (.int .i64 0) := by rw [hc _ _ (by first | (simp; done) | (simp; omega))]; go_simp
  have Q1 : w1.cell? ⟨w.heap.size + 1, 1, none⟩ = some (.int .i64 0) := by rw [hc _ _ (by first | (simp; done) | (simp; omega))]; go_simp
  have Q2 : w1.cell? ⟨w.heap.size + 1, 2, none⟩ = some (.slice none 0 0) := by rw [hc _ _ (by first | (simp; done) | (simp; omega))]; go_simp
  have ZQ0 : w1.frozen? ⟨w.heap.size + 1, 0, none⟩ = false := by rw [hf _ _ (by first | (simp; done) | (simp; omega))]; go_simp
  have ZQ1 : w1.frozen? ⟨w.heap.size + 1, 1, none⟩ = false := by rw [hf _ _ (by first | (simp; done) | (simp; omega))]; go_simp
  have ZQ2 : w1.frozen? ⟨w.heap.size + 1, 2, none⟩ = false := by rw [hf _ _ (by first | (simp; done) | (simp; omega))]; go_simp
  have hrow' : Qs w1 (w.heap.size + 1 + 1 + 1) (w.heap.size + 1 + 1 + 1) L := by simpa using hrow
  have b1 : Below w.heap.size w w1 := ((((Below.refl _ _).alloc (Nat.le_refl _) _).alloc (by simp) _).alloc (by simp; omega) _).trans (hb1.mono (by simp; omega))
  clear hc hf hrow hb1
  go_wp2
  refine bodyPost_ret (v := .agg #[.int .i64 p, .int .i64 s, .slice (some ⟨w.heap.size + 1 + 1 + 1, 0, none⟩) L.length L.length]) (by simp [results, Tryd.results18, go_sem, Q0, Q1, Q2]) rfl ⟨⟨_, rfl, by omega, ?_⟩, ?_⟩
  · iterate 4 refine Qs.other ?_ (by show _ + _ ≠ _ + _; omega) (by show _ + _ ≤ _ + _; omega) _
    exact hrow'
  · iterate 4 refine Below.setCell ?_ (by show _ ≤ _ + _; omega) _
    exact b1
theorem eqQ (m n : Int) (v v' : Value) (l : List Int) (w : World) (h : RowV w v l) (h' : RowV w v' l) (hl : l.length ≤ 9223372036854775807) :
    Calls Tryd.prog 67 #[.agg #[v, .int .i64 m, .int .i64 n], .agg #[v', .int .i64 m, .int .i64 n]] w fun e w' => e = .returned (.bool true) ∧ Below w.heap.size w w' := by
  have b1 := ((Below.refl w.heap.size w).alloc (Nat.le_refl _) (.cells #[v, .int .i64 m, .int .i64 n] 81)).alloc (by simp) (.cells #[v', .int .i64 m, .int .i64 n] 81)
  have g1 := h.below b1
  have g2 := h'.below b1
  go_enter Tryd.func67, Tryd.ntmps67
  go_wp2_with fail
  refine (eqI _ _ l _ g1 g2 hl).mono ?_
  rintro e w1 ⟨rfl, hb1⟩
  obtain ⟨hc, hf⟩ := bcell hb1
  have A1 : w1.cell? ⟨w.heap.size, 1, none⟩ = some (.int .i64 m) := by rw [hc _ _ (by simp; omega)]; go_simp
  have A2 : w1.cell? ⟨w.heap.size, 2, none⟩ = some (.int .i64 n) := by rw [hc _ _ (by simp; omega)]; go_simp
  have B1 : w1.cell? ⟨w.heap.size + 1, 1, none⟩ = some (.int .i64 m) := by rw [hc _ _ (by simp)]; go_simp
  have B2 : w1.cell? ⟨w.heap.size + 1, 2, none⟩ = some (.int .i64 n) := by rw [hc _ _ (by simp)]; go_simp
  have bb := b1.trans (hb1.mono b1.size)
  clear hc hf hb1 b1 g1 g2 h h'
  go_wp2
  go_ret
  exact ⟨rfl, bb⟩
set_option maxRecDepth 100000 in
theorem eqQS (L : List Qt) (B b B' b' cap cap' : Nat) (w : World) (h : Qs w B b L) (h' : Qs w B' b' L) (hf : FitsQ L) :
    Calls Tryd.prog 46 #[.slice (some ⟨b, 0, none⟩) L.length cap, .slice (some ⟨b', 0, none⟩) L.length cap'] w fun e w' => e = .returned (.bool true) ∧ Below w.heap.size w w' := by
  obtain ⟨hf1, hf2⟩ := hf
  go_enter Tryd.func46, Tryd.ntmps46
  go_wp2
  go_loopg [5] L.length (fun g i wr => ∃ k : Nat, k ≤ L.length ∧ g = L.length - k ∧ i = .int .i64 k ∧ Below w.heap.size w wr)
  case atStart => exact ⟨0, Nat.zero_le _, rfl, rfl, Below.refl _ _⟩
  case round =>
    obtain ⟨k, hk, rfl, rfl, hb⟩ := hrel
    by_cases hlt : k < L.length
    · obtain ⟨c, a1, a2, a3, a4⟩ := (h.below hb).at hlt
      obtain ⟨c', d1, d2, d3, d4⟩ := (h'.below hb).at hlt
      have hlen := hf2 k hlt
      have bd : Below wr.heap.size wr wr.drew := (Below.refl _ _).drew
      generalize L.getD k q0 = q at a1 a2 a3 a4 d1 d2 d3 d4 hlen
      obtain ⟨l, m, n⟩ := q
      simp only at a1 a2 a3 a4 d1 d2 d3 d4 hlen
      have HE := eqQ m n _ _ _ wr.drew (a4.below bd) (d4.below bd) (by omega)
      clear a4 d4 hlen
      go_wp2_with fail
      go_still_tail 8, (by kernel_rfl)
      change wpList _ _ _ _ _ wr.drew
      go_wp2_with fail
      refine HE.mono ?_
      rintro e w1 ⟨rfl, hb1⟩
      go_wp2
      go_roundg (L.length - (k + 1))
      case measure => omega
      case rel => exact ⟨k + 1, by omega, rfl, by simp, hb.trans (bd.trans hb1 |>.mono hb.size)⟩
    · have e : k = L.length := by omega
      subst e
      go_wp2
      go_ret
      exact ⟨rfl, hb⟩
theorem eqP (p s : Int) (L : List Qt) (B b B' b' cap cap' : Nat) (w : World) (h : Qs w B b L) (h' : Qs w B' b' L) (hf : FitsQ L) :
    Calls Tryd.prog 20 #[.agg #[.int .i64 p, .int .i64 s, .slice (some ⟨b, 0, none⟩) L.length cap], .agg #[.int .i64 p, .int .i64 s, .slice (some ⟨b', 0, none⟩) L.length cap']] w fun e w' => e = .returned (.bool true) ∧ Below w.heap.size w w' := by
  have b1 := ((Below.refl w.heap.size w).alloc (Nat.le_refl _) (.cells #[.int .i64 p, .int .i64 s, .slice (some ⟨b, 0, none⟩) L.length cap] 44)).alloc (by simp) (.cells #[.int .i64 p, .int .i64 s, .slice (some ⟨b', 0, none⟩) L.length cap'] 44)
  have HE := fun w' (hw : Below w.heap.size w w') => eqQS L B b B' b' cap cap' w' (h.below hw) (h'.below hw) hf
  clear h h' hf
  go_enter Tryd.func20, Tryd.ntmps20
  go_wp2_with fail
  refine (HE _ b1).mono ?_
  rintro e w1 ⟨rfl, hb1⟩
  go_wp2
  go_ret
  exact ⟨rfl, b1.trans (hb1.mono b1.size)⟩
end Go.Proofs.YtfjpjiieocdgeaaDoor
