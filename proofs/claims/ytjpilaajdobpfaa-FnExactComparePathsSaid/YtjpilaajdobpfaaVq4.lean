/- The law on RanksOf, walked. -/
import Derived.Test.YtjpilaajdobpfaaVq3
namespace Go.Proofs.Ytjpilaajdobpfaa
open Go.ChangeShapes Go.WideShapes Go.ChangeAt Go.RowKit Go.Deep
set_option linter.unusedSimpArgs false
set_option linter.unusedVariables false
theorem Vs.shape {w : World} {lo : Nat} {L : List Vc} (h : Vs w lo lo L) : ∃ c, ShV w lo L.length c (fun j => (L.getD j (false, [])).2.length) ∧ ∀ j, j < L.length → lo ≤ c j ∧ c j < w.heap.size ∧ lo ≠ c j := by
  obtain ⟨c, h⟩ := h
  refine ⟨c, ⟨⟨_, h.row, fun j hj => ?_⟩, fun j hj => ⟨_, (h.own j hj).2⟩⟩, fun j hj => ⟨by have := (h.own j hj).1; omega, (h.own j hj).2.lt, by have := (h.own j hj).1; omega⟩⟩
  have e1 : (j * 2 + 1) / 2 = j := by omega
  have e2 : (j * 2 + 1) % 2 = 1 := by omega
  simp [vf, e1, e2, hj]
theorem markVs (L : List Vc) (lo hi cap : Nat) (w : World) (h : ∃ c, ShV w lo L.length c (fun j => (L.getD j (false, [])).2.length) ∧ ∀ j, j < L.length → lo ≤ c j ∧ c j < hi ∧ lo ≠ c j) (hf : Fits L) (hlt : lo < hi) :
    Calls Try.prog 14 #[.slice (some ⟨lo, 0, none⟩) L.length cap, .int .i64 1] w fun e w' => (∃ r, e = .returned (.int .i64 r) ∧ 0 ≤ r ∧ r ≤ 2000000000000) ∧ Kept w w' (fun x => lo ≤ x ∧ x < hi) := by
  obtain ⟨c, h1, h2⟩ := h
  exact (markVS lo L.length cap lo hi c _ w h1 hf.1 hf.2 ⟨Nat.le_refl _, hlt⟩ h2).mono fun e w' ⟨a, _, b⟩ => ⟨a, b⟩
theorem ShV.below {w w' : World} {b n : Nat} {c len : Nat → Nat} (h : ShV w b n c len) (hb : Below w.heap.size w w') : ShV w' b n c len := by
  obtain ⟨⟨f, h1, h2⟩, h3⟩ := h
  refine ⟨⟨f, h1.of_block (hb.block b h1.lt), h2⟩, fun j hj => ?_⟩
  obtain ⟨f', h4⟩ := h3 j hj
  exact ⟨f', h4.of_block (hb.block _ h4.lt)⟩
theorem iRanksY (L : List Vc) (B b cap bp : Nat) (p : List Int) (w : World) (l : List Int) (m : Nat) (hm : p.length - 1 = m) (hz : pB L p = true) (hlz : rkL L p = l) (h : Vs w B b L) (hf : Fits L) (hp : OwnI w bp p) (hl : p.length ≤ 1048576) :
    Calls Try.prog 49 #[.slice (some ⟨b, 0, none⟩) L.length cap, .slice (some ⟨bp, 0, none⟩) p.length p.length] w fun e w' => (∃ c, w.heap.size ≤ c ∧ e = .returned (.tuple #[.slice (some ⟨c, 0, none⟩) m m, .bool true]) ∧ OwnI w' c l) ∧ Below w.heap.size w w' := by
  refine (iranks L B b cap bp p w h hf hp hl).mono ?_
  rintro e w' ⟨a, hb⟩
  rw [if_pos hz, hlz, hm] at a
  exact ⟨a, hb⟩
theorem iRanksN (L : List Vc) (B b cap bp : Nat) (p : List Int) (w : World) (hz : pB L p = false) (h : Vs w B b L) (hf : Fits L) (hp : OwnI w bp p) (hl : p.length ≤ 1048576) :
    Calls Try.prog 49 #[.slice (some ⟨b, 0, none⟩) L.length cap, .slice (some ⟨bp, 0, none⟩) p.length p.length] w fun e w' => e = .returned (.tuple #[.slice none 0 0, .bool false]) ∧ Below w.heap.size w w' := by
  refine (iranks L B b cap bp p w h hf hp hl).mono ?_
  rintro e w' ⟨a, hb⟩
  rw [if_neg (by rw [hz]; decide)] at a
  exact ⟨a, hb⟩
end Go.Proofs.Ytjpilaajdobpfaa
