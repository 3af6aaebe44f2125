/- Marks written into a list of voices of the call's own. -/
import Derived.Test.YtlpidgdlbannbaaVq1
namespace Go.Proofs.Ytlpidgdlbannbaa
open Go.ChangeShapes Go.WideShapes Go.ChangeAt Go.RowKit Go.Deep
set_option linter.unusedSimpArgs false
set_option linter.unusedVariables false
/-- The shape of a list of voices of the call's own: its row, and rows of numbers. -/
structure ShV (w : World) (b n : Nat) (c len : Nat → Nat) : Prop where
  row : ∃ f, w.rowIs b 64 (n * 2) f ∧ ∀ j, j < n → f (j * 2 + 1) = .slice (some ⟨c j, 0, none⟩) (len j) (len j)
  own : ∀ j, j < n → SomeI w (c j) (len j)
theorem ShV.keep {w w' : World} {b n : Nat} {c len : Nat → Nat} (h : ShV w b n c len) {j : Nat} (hj : j < n) (hne : b ≠ c j) (hk : Kept w w' (fun x => x = c j)) (hr : ∃ f, w'.rowIs (c j) 2 (len j) f) : ShV w' b n c len := by
  obtain ⟨⟨f, h1, h2⟩, h3⟩ := h
  refine ⟨⟨f, hk.row h1 hne, h2⟩, fun i hi => ?_⟩
  by_cases e : c i = c j
  · obtain ⟨f', h4⟩ := h3 i hi
    obtain ⟨g, h5⟩ := hr
    obtain ⟨f6, h6⟩ := h3 j hj
    have hl : len i = len j := by
      obtain ⟨c1, q1, q2, _⟩ := h4
      obtain ⟨c2, q3, q4, _⟩ := h6
      rw [e, q3] at q1
      injection q1 with q1
      injection q1 with q1
      rw [← q2, ← q4, q1]
    rw [e, hl]
    exact ⟨g, h5⟩
  · obtain ⟨f', h4⟩ := h3 i hi
    exact ⟨f', hk.row h4 e⟩
theorem ShV.set {w : World} {b n : Nat} {c len : Nat → Nat} (h : ShV w b n c len) (k : Nat) (v : Value) (hne : ∀ j, j < n → b ≠ c j) : ShV (w.setCell ⟨b, k * 2, none⟩ v) b n c len := by
  obtain ⟨⟨f, h1, h2⟩, h3⟩ := h
  refine ⟨⟨_, h1.set (k * 2) v, fun j hj => ?_⟩, fun i hi => ?_⟩
  · rw [if_neg (by omega)]; exact h2 j hj
  · obtain ⟨f', h4⟩ := h3 i hi
    exact ⟨f', h4.setOther (by exact fun e => hne i hi e.symm) _⟩
set_option maxHeartbeats 600000 in
set_option maxRecDepth 100000 in
theorem markVS (b n cap lo hi : Nat) (c len : Nat → Nat) (w : World) (h : ShV w b n c len) (hn : n ≤ 1048576) (hl : ∀ j, j < n → len j ≤ 1048576) (hb : lo ≤ b ∧ b < hi) (hc : ∀ j, j < n → lo ≤ c j ∧ c j < hi ∧ b ≠ c j) :
    Calls Try.prog 24 #[.slice (some ⟨b, 0, none⟩) n cap, .int .i64 1] w fun e w' => (∃ r, e = .returned (.int .i64 r) ∧ 0 ≤ r ∧ r ≤ 2000000000000) ∧ ShV w' b n c len ∧ Kept w w' (fun x => lo ≤ x ∧ x < hi) := by
  go_enter Try.func24, Try.ntmps24
  go_wp2
  go_loopg [1, 5] n (fun g kk i wr => ∃ (m : Nat) (k : Int), m ≤ n ∧ g = n - m ∧ kk = .int .i64 k ∧ i = .int .i64 m ∧ 0 ≤ k ∧ k ≤ 1 + 1048577 * m ∧ ShV wr b n c len ∧ Kept w wr (fun x => lo ≤ x ∧ x < hi))
  case atStart => exact ⟨0, 1, Nat.zero_le _, rfl, rfl, rfl, by omega, by omega, h, Kept.refl _ _⟩
  case round =>
    obtain ⟨m, k, hm, rfl, rfl, rfl, k1, k2, hS, hk⟩ := hrel
    by_cases hlt : m < n
    · obtain ⟨⟨f, h1, h2⟩, h3⟩ := hS
      have c1 : wr.cell? ⟨b, m * 2, none⟩ = some (f (m * 2)) := h1.cell (by omega)
      have c2 : wr.cell? ⟨b, m * 2 + 1, none⟩ = some (.slice (some ⟨c m, 0, none⟩) (len m) (len m)) := by rw [← h2 m hlt]; exact h1.cell (by omega)
      have f1 : wr.frozen? ⟨b, m * 2, none⟩ = false := h1.frozen _
      have wk1 : IntKind.i64.wrap (k + 1) = k + 1 := by rw [IntKind.wrap_i64]; omega
      have hlm := hl m hlt
      obtain ⟨hc1, hc2, hc3⟩ := hc m hlt
      have hS2 := fun v => ShV.set ⟨⟨f, h1, h2⟩, h3⟩ m v (fun j hj => (hc j hj).2.2)
      have HS2 := Lib.hid hS2
      clear h1 h2 h3 hS2
      go_wp2_with fail
      refine (markI (c m) (len m) _ _ _ ((HS2.out _).own m hlt) hlm (by omega) (by omega)).mono ?_
      rintro e w1 ⟨rfl, hr1, hk1⟩
      have hS3 := (HS2.out _).keep hlt hc3 hk1 ⟨_, hr1⟩
      have HS3 := Lib.hid hS3
      clear hS3
      have wk2 : IntKind.i64.wrap (k + 1 + (len m : Int)) = k + 1 + len m := by rw [IntKind.wrap_i64]; omega
      go_wp2
      go_roundg (n - (m + 1))
      case measure => omega
      case rel =>
        exact ⟨m + 1, k + 1 + len m, by omega, rfl, by first | rfl | simp, by simp, by omega, by omega, HS3.out, (hk.trans (Kept.set _ _ _ ⟨hb.1, hb.2⟩)).trans (hk1.mono (fun x e => by subst e; exact ⟨hc1, hc2⟩))⟩
    · have e : m = n := by omega
      subst e
      go_wp2
      go_ret
      exact ⟨⟨k, rfl, k1, by omega⟩, hS, hk⟩
end Go.Proofs.Ytlpidgdlbannbaa
