/- The least sample: the specification's. -/
import Derived.Test.YtjfkkmfbgmejbabDoorRi2
import Derived.Test.YtjfkkmfbgmejbabDoorCF
import Derived.Test.YtjfkkmfbgmejbabDoorValid0
import Derived.Deep.RegionHeld3
import Derived.Deep.DeepCutAuto
namespace Go.Proofs.YtjfkkmfbgmejbabDoor
open Go.ChangeShapes Go.WideShapes Go.ChangeAt Go.RowKit Go.Deep
set_option linter.unusedSimpArgs false
set_option linter.unusedVariables false
/-- A sample of s meets the limit. -/
def cnd (n u ln ld : Int) (s : Nat) : Prop := rkIn n u (s : Int) ∧ okF ln ld ∧ cmpI (rkN n u s * ld) (ln * rkD n u s) ≤ 0
/-- s is the least sample that meets the limit. -/
def least9 (n u ln ld : Int) (s : Nat) : Prop := s ≤ 30 ∧ cnd n u ln ld s ∧ ∀ j, j < s → ¬ cnd n u ln ld j
noncomputable def mSmp (n u ln ld : Int) : Int × Bool := @dite _ (∃ s, least9 n u ln ld s) (Classical.propDecidable _) (fun h => ((Classical.choose h : Nat), true)) (fun _ => (0, false))
theorem least9_one {n u ln ld : Int} {s t : Nat} (hs : least9 n u ln ld s) (ht : least9 n u ln ld t) : s = t := by
  obtain ⟨-, a, b⟩ := hs
  obtain ⟨-, c, d⟩ := ht
  by_cases h : s < t
  · exact absurd a (d s h)
  · by_cases h2 : t < s
    · exact absurd c (b t h2)
    · omega
theorem mSmp_yes {n u ln ld : Int} {s : Nat} (h : least9 n u ln ld s) : mSmp n u ln ld = ((s : Int), true) := by
  unfold mSmp
  rw [dif_pos ⟨s, h⟩]
  have := least9_one (Classical.choose_spec (⟨s, h⟩ : ∃ s, least9 n u ln ld s)) h
  rw [this]
theorem mSmp_no {n u ln ld : Int} (h : ∀ s, s ≤ 30 → ¬ cnd n u ln ld s) : mSmp n u ln ld = (0, false) := by
  unfold mSmp
  rw [dif_neg (by rintro ⟨s, a, b, _⟩; exact h s a b)]
theorem cnd_le {n u ln ld : Int} {s : Nat} (h : cnd n u ln ld s) : (s : Int) ≤ n := h.1.2.2.2.2.2
/-- A box of a fraction lies where it lay. -/
def B2 (w : World) (p : Nat) (x y : Int) (w' : World) : Prop :=
  w'.cell? ⟨p, 0, none⟩ = some (.int .i64 x) ∧ w'.cell? ⟨p, 1, none⟩ = some (.int .i64 y) ∧ Hid (Below w.heap.size w w' ∧ p < w'.heap.size)
theorem B2.bel {w w' : World} {p : Nat} {x y : Int} (h : B2 w p x y w') : Below w.heap.size w w' := h.2.2.out.1
theorem B2.drew {w w' : World} {p : Nat} {x y : Int} (h : B2 w p x y w') : B2 w p x y w'.drew := ⟨h.1, h.2.1, h.2.2.out.1.drew, h.2.2.out.2⟩
theorem B2.below {w w1 w' : World} {p : Nat} {x y : Int} (h : B2 w p x y w1) (hb : Below w1.heap.size w1 w') : B2 w p x y w' :=
  ⟨(hb.cell (p := ⟨p, 0, none⟩) h.2.2.out.2).trans h.1, (hb.cell (p := ⟨p, 1, none⟩) h.2.2.out.2).trans h.2.1, h.2.2.out.1.trans (hb.mono h.2.2.out.1.size), Nat.lt_of_lt_of_le h.2.2.out.2 hb.size⟩
theorem B2.start (w : World) (t : TypeId) (x y : Int) : B2 w w.heap.size x y (w.alloc (.cells #[.int .i64 x, .int .i64 y] t)) :=
  ⟨by go_simp, by go_simp, (Below.refl _ _).alloc (Nat.le_refl _) _, by simp⟩
set_option maxHeartbeats 4000000 in
theorem ssmp (n : Nat) (u ln ld : Int) (w : World) (hn : n ≤ 30) (hu : 0 ≤ u ∧ u ≤ n) (ok : okF ln ld) :
    Calls Tryd.prog 30 #[.int .i64 (n : Int), .int .i64 u, .agg #[.int .i64 ln, .int .i64 ld]] w fun e w' => (∃ r, e = .returned (.int .i64 r) ∧ ((∃ s : Nat, r = (s : Int) ∧ least9 n u ln ld s) ∨ (r = -1 ∧ ∀ s, s ≤ 30 → ¬ cnd n u ln ld s))) ∧ Below w.heap.size w w' := by
  have hB := Lib.hid (B2.start w 26 ln ld)
  have HK := Lib.hid ok
  have HU := Lib.hid hu
  have HN := Lib.hid hn
  clear ok hu
  go_enter Tryd.func30, Tryd.ntmps30
  go_wp2
  go_loopg [7] (n + 1) (fun g i wr => ∃ s : Nat, s ≤ n + 1 ∧ g = n + 1 - s ∧ i = .int .i64 (s : Int) ∧ Hid (B2 w w.heap.size ln ld wr) ∧ Hid (∀ j, j < s → ¬ cnd n u ln ld j))
  case atStart => exact ⟨0, Nat.zero_le _, rfl, rfl, hB, fun j hj => absurd hj (Nat.not_lt_zero _)⟩
  case round =>
    clear hB
    obtain ⟨s, hs, rfl, rfl, HB, HL⟩ := hrel
    by_cases hlt : s ≤ n
    · have rin : rkIn (n : Int) u (s : Int) := by have := HU.out; have := HN.out; unfold rkIn; omega
      have HR := fun w' => srisk n u s w' rin
      have HC := fun w' => scmp_any (rkN n u s) (rkD n u s) ln ld w' (rk_ok rin) HK.out
      have hle : (s : Int) ≤ (n : Int) := by omega
      have HCN : Hid (cnd n u ln ld s ↔ cmpI (rkN n u s * ld) (ln * rkD n u s) ≤ 0) := Lib.hid ⟨fun h => h.2.2, fun h => ⟨rin, HK.out, h⟩⟩
      generalize cmpI (rkN n u s * ld) (ln * rkD n u s) = z at HC HCN
      generalize rkN n u s = x at HR HC
      generalize rkD n u s = y at HR HC
      have HRR := Lib.hid HR
      have HCC := Lib.hid HC
      clear HR HC rin
      by_cases hz : z ≤ 0
      · have HZ := Lib.hid hz
        go_wp2_with fail
        go_region_held3 (fun w' => w'.cell? ⟨w.heap.size, 0, none⟩ = some (.int .i64 ln) ∧ w'.cell? ⟨w.heap.size, 1, none⟩ = some (.int .i64 ld) ∧ Hid (Below w.heap.size w w' ∧ w.heap.size < w'.heap.size))
          (first | exact (Hid.out HB).drew | exact Hid.out (by assumption))
          (first
            | (go_at_call 63; have hcur : B2 w w.heap.size ln ld _ := (by assumption); refine (HRR.out _).mono ?_; rintro e wt ⟨rfl, hbt⟩; have hB1 : Hid (B2 w w.heap.size ln ld wt) := Lib.hid (hcur.below hbt))
            | (go_at_call 62; have hcur : B2 w w.heap.size ln ld _ := (by assumption); refine (HCC.out _).mono ?_; rintro e wt2 ⟨rfl, hbt⟩; have hB2 : Hid (B2 w w.heap.size ln ld wt2) := Lib.hid (hcur.below hbt)))
        all_goals
          go_wp2
          go_ret
          refine ⟨⟨_, rfl, .inl ⟨s, rfl, by have := HN.out; omega, HCN.out.2 HZ.out, HL.out⟩⟩, ?_⟩
          first | exact (Hid.out hB2).bel | exact (Hid.out hB2).drew.bel | assumption
      · have HZ := Lib.hid hz
        go_wp2_with fail
        go_region_held3 (fun w' => w'.cell? ⟨w.heap.size, 0, none⟩ = some (.int .i64 ln) ∧ w'.cell? ⟨w.heap.size, 1, none⟩ = some (.int .i64 ld) ∧ Hid (Below w.heap.size w w' ∧ w.heap.size < w'.heap.size))
          (first | exact (Hid.out HB).drew | exact Hid.out (by assumption))
          (first
            | (go_at_call 63; have hcur : B2 w w.heap.size ln ld _ := (by assumption); refine (HRR.out _).mono ?_; rintro e wt ⟨rfl, hbt⟩; have hB1 : Hid (B2 w w.heap.size ln ld wt) := Lib.hid (hcur.below hbt))
            | (go_at_call 62; have hcur : B2 w w.heap.size ln ld _ := (by assumption); refine (HCC.out _).mono ?_; rintro e wt2 ⟨rfl, hbt⟩; have hB2 : Hid (B2 w w.heap.size ln ld wt2) := Lib.hid (hcur.below hbt)))
        all_goals
          go_wp2
          go_roundg (n + 1 - (s + 1))
          case measure => omega
          case rel =>
            refine ⟨s + 1, by omega, rfl, by simp, ?_, fun j hj => ?_⟩
            · first | exact hB2 | exact Lib.hid (Hid.out hB2).drew | assumption
            · by_cases ej : j = s
              · subst ej; exact fun h => by have h1 := HZ.out; have h2 := HCN.out.1 h; omega
              · exact HL.out j (by omega)
    · have hgt : ¬ (s : Int) ≤ (n : Int) := by omega
      go_wp2
      go_ret
      refine ⟨⟨_, rfl, .inr ⟨rfl, fun j hj hc => ?_⟩⟩, (Hid.out HB).bel⟩
      have := cnd_le hc
      exact HL.out j (by omega) hc
end Go.Proofs.YtjfkkmfbgmejbabDoor
