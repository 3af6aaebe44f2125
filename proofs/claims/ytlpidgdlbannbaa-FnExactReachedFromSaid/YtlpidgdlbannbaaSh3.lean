/- Marks written into lists of shares. -/
import Derived.Test.YtlpidgdlbannbaaSh2
namespace Go.Proofs.Ytlpidgdlbannbaa
open Go.ChangeShapes Go.WideShapes Go.ChangeAt Go.RowKit Go.Deep
set_option linter.unusedSimpArgs false
set_option linter.unusedVariables false
/-- A row of shares of the call's own, whatever they are. -/
def SomeS (w : World) (c n : Nat) : Prop := ∃ f, w.rowIs c 86 (n * 2) f
set_option maxRecDepth 100000 in
theorem markS (c n cap : Nat) (k : Int) (w : World) (h : SomeS w c n) (hn : n ≤ 1048576) (h1 : 0 ≤ k) (h2 : k ≤ 4000000000000) :
    Calls Try.prog 75 #[.slice (some ⟨c, 0, none⟩) n cap, .int .i64 k] w fun e w' => e = .returned (.int .i64 (k + 2 * n)) ∧ w'.rowIs c 86 (n * 2) (fun i => .int .i64 (k + i)) ∧ Kept w w' (fun b => b = c) := by
  obtain ⟨f, h⟩ := h
  go_enter Try.func75, Try.ntmps75
  go_wp2
  go_loopg [1, 5] n (fun g kk i wr => ∃ m : Nat, m ≤ n ∧ g = n - m ∧ kk = .int .i64 (k + 2 * m) ∧ i = .int .i64 m ∧ wr.rowIs c 86 (n * 2) (mkf f k (m * 2)) ∧ Kept w wr (fun b => b = c))
  case atStart => exact ⟨0, Nat.zero_le _, rfl, by simp, rfl, h.congr (fun i _ => by simp [mkf]), Kept.refl _ _⟩
  case round =>
    obtain ⟨m, hm, rfl, rfl, rfl, hr, hk⟩ := hrel
    by_cases hlt : m < n
    · have c1 : wr.cell? ⟨c, m * 2, none⟩ = some (mkf f k (m * 2) (m * 2)) := hr.cell (by omega)
      have c2 : wr.cell? ⟨c, m * 2 + 1, none⟩ = some (mkf f k (m * 2) (m * 2 + 1)) := hr.cell (by omega)
      have f1 : wr.frozen? ⟨c, m * 2, none⟩ = false := hr.frozen _
      have f2 : wr.frozen? ⟨c, m * 2 + 1, none⟩ = false := hr.frozen _
      have wk : IntKind.i64.wrap (k + 2 * (m : Int)) = k + 2 * m := by rw [IntKind.wrap_i64]; omega
      have wk1 : IntKind.i64.wrap (k + 2 * (m : Int) + 1) = k + 2 * m + 1 := by rw [IntKind.wrap_i64]; omega
      have wk2 : IntKind.i64.wrap (k + 2 * (m : Int) + 1 + 1) = k + 2 * m + 1 + 1 := by rw [IntKind.wrap_i64]; omega
      go_wp2
      go_roundg (n - (m + 1))
      case measure => omega
      case rel =>
        refine ⟨m + 1, by omega, rfl, by (congr 1; first | (simp; omega) | (rw [wk2]; simp; omega)), by simp, ((hr.set (m * 2) _).set (m * 2 + 1) _).congr (fun i _ => ?_), (hk.trans (Kept.set _ _ _ rfl)).trans (Kept.set _ _ _ rfl)⟩
        unfold mkf
        by_cases e : i = m * 2 + 1
        · subst e; rw [if_pos rfl, if_pos (by omega)]; congr 1; simp; omega
        · rw [if_neg e]
          by_cases e2 : i = m * 2
          · subst e2; rw [if_pos rfl, if_pos (by omega)]; congr 1; simp; omega
          · rw [if_neg e2]
            by_cases hi : i < m * 2
            · rw [if_pos hi, if_pos (by omega)]
            · rw [if_neg hi, if_neg (by omega)]
    · have e : m = n := by omega
      subst e
      go_wp2
      go_ret
      exact ⟨rfl, hr.congr (fun i hi => by simp [mkf, hi]), hk⟩
/-- The shape of a list of lists of shares of the call's own. -/
structure ShSS (w : World) (b n : Nat) (c len : Nat → Nat) : Prop where
  row : w.rowIs b 84 n (fun j => .slice (some ⟨c j, 0, none⟩) (len j) (len j))
  own : ∀ j, j < n → SomeS w (c j) (len j)
theorem ShSS.keep {w w' : World} {b n : Nat} {c len : Nat → Nat} (h : ShSS w b n c len) {j : Nat} (hj : j < n) (hne : b ≠ c j) (hk : Kept w w' (fun x => x = c j)) (hr : ∃ f, w'.rowIs (c j) 86 (len j * 2) f) : ShSS w' b n c len := by
  obtain ⟨h1, h3⟩ := h
  refine ⟨hk.row h1 hne, fun i hi => ?_⟩
  by_cases e : c i = c j
  · obtain ⟨f', h4⟩ := h3 i hi
    obtain ⟨g, h5⟩ := hr
    obtain ⟨f6, h6⟩ := h3 j hj
    have hl : len i = len j := by
      obtain ⟨c1, q1, q2, _⟩ := h4
      obtain ⟨c2, q3, q4, _⟩ := h6
      rw [e, q3] at q1
      injection q1 with q1
      injection q1 with q1
      have : len i * 2 = len j * 2 := by rw [← q2, ← q4, q1]
      omega
    rw [e, hl]
    exact ⟨g, h5⟩
  · obtain ⟨f', h4⟩ := h3 i hi
    exact ⟨f', hk.row h4 e⟩
theorem ShSS.below {w w' : World} {b n : Nat} {c len : Nat → Nat} (h : ShSS w b n c len) (hb : Below w.heap.size w w') : ShSS w' b n c len := by
  obtain ⟨h1, h3⟩ := h
  refine ⟨h1.of_block (hb.block b h1.lt), fun j hj => ?_⟩
  obtain ⟨f', h4⟩ := h3 j hj
  exact ⟨f', h4.of_block (hb.block _ h4.lt)⟩
set_option maxHeartbeats 600000 in
set_option maxRecDepth 100000 in
theorem markSS (b n cap lo hi : Nat) (c len : Nat → Nat) (w : World) (h : ShSS w b n c len) (hn : n ≤ 1048576) (hl : ∀ j, j < n → len j ≤ 1048576) (hb : lo ≤ b ∧ b < hi) (hc : ∀ j, j < n → lo ≤ c j ∧ c j < hi ∧ b ≠ c j) :
    Calls Try.prog 42 #[.slice (some ⟨b, 0, none⟩) n cap, .int .i64 1] w fun e w' => (∃ r, e = .returned (.int .i64 r) ∧ 0 ≤ r ∧ r ≤ 3000000000000) ∧ Kept w w' (fun x => lo ≤ x ∧ x < hi) := by
  go_enter Try.func42, Try.ntmps42
  go_wp2
  go_loopg [1, 5] n (fun g kk i wr => ∃ (m : Nat) (k : Int), m ≤ n ∧ g = n - m ∧ kk = .int .i64 k ∧ i = .int .i64 m ∧ 0 ≤ k ∧ k ≤ 1 + 2097152 * m ∧ ShSS wr b n c len ∧ Kept w wr (fun x => lo ≤ x ∧ x < hi))
  case atStart => exact ⟨0, 1, Nat.zero_le _, rfl, rfl, rfl, by omega, by omega, h, Kept.refl _ _⟩
  case round =>
    obtain ⟨m, k, hm, rfl, rfl, rfl, k1, k2, hS, hk⟩ := hrel
    by_cases hlt : m < n
    · have c2 : wr.cell? ⟨b, m, none⟩ = some (.slice (some ⟨c m, 0, none⟩) (len m) (len m)) := hS.row.cell (by omega)
      have hlm := hl m hlt
      obtain ⟨hc1, hc2, hc3⟩ := hc m hlt
      go_wp2_with fail
      refine (markS (c m) (len m) _ _ _ (hS.own m hlt) hlm (by omega) (by omega)).mono ?_
      rintro e w1 ⟨rfl, hr1, hk1⟩
      have hS3 := hS.keep hlt hc3 hk1 ⟨_, hr1⟩
      have HS3 := Lib.hid hS3
      clear hS3
      have wk2 : IntKind.i64.wrap (k + 2 * (len m : Int)) = k + 2 * len m := by rw [IntKind.wrap_i64]; omega
      go_wp2
      go_roundg (n - (m + 1))
      case measure => omega
      case rel =>
        exact ⟨m + 1, k + 2 * len m, by omega, rfl, by first | rfl | simp, by simp, by omega, by omega, HS3.out, hk.trans (hk1.mono (fun x e => by subst e; exact ⟨hc1, hc2⟩))⟩
    · have e : m = n := by omega
      subst e
      go_wp2
      go_ret
      exact ⟨⟨k, rfl, k1, by omega⟩, hk⟩
theorem SS.sh {w : World} {lo : Nat} {L : List (List Sq)} (h : SS w lo lo L) : ∃ c, ShSS w lo L.length c (fun j => (L.getD j []).length) ∧ ∀ j, j < L.length → lo ≤ c j ∧ c j < w.heap.size ∧ lo ≠ c j := by
  obtain ⟨c, h⟩ := h
  refine ⟨c, ⟨h.row.congr fun j hj => by simp [ssf, hj], fun j hj => ⟨_, (h.own j hj).2⟩⟩, fun j hj => ⟨by have := (h.own j hj).1; omega, World.rowIs.lt (h.own j hj).2, by have := (h.own j hj).1; omega⟩⟩
/-- The shape of a list that was copied, in blocks from lo to below hi. -/
def MkS (w : World) (lo hi : Nat) (L : List (List Sq)) : Prop := lo < hi ∧ ∃ c, ShSS w lo L.length c (fun j => (L.getD j []).length) ∧ ∀ j, j < L.length → lo ≤ c j ∧ c j < hi ∧ lo ≠ c j
theorem MkS.below {w w' : World} {lo hi : Nat} {L : List (List Sq)} (h : MkS w lo hi L) (hb : Below w.heap.size w w') : MkS w' lo hi L := by
  obtain ⟨h0, c, h1, h2⟩ := h
  exact ⟨h0, c, h1.below hb, h2⟩
theorem markSSany (L : List (List Sq)) (lo hi cap : Nat) (w : World) (h : MkS w lo hi L) (hf : FitsS L) :
    Calls Try.prog 42 #[.slice (some ⟨lo, 0, none⟩) L.length cap, .int .i64 1] w fun e w' => (∃ r, e = .returned (.int .i64 r) ∧ 0 ≤ r ∧ r ≤ 3000000000000) ∧ Kept w w' (fun x => lo ≤ x ∧ x < hi) := by
  obtain ⟨h0, c, h1, h2⟩ := h
  exact markSS lo L.length cap lo hi c _ w h1 hf.1 hf.2 ⟨Nat.le_refl _, h0⟩ h2
theorem SS.mk {w : World} {lo : Nat} {L : List (List Sq)} (h : SS w lo lo L) : MkS w lo w.heap.size L := ⟨h.lt, h.sh⟩
end Go.Proofs.Ytlpidgdlbannbaa
