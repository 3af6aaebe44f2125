/- The program's graph: those, attackedBy, defendedBy, isConflictFree, defendsItself. -/
import Derived.Test.YthffhllkfadejaaGr3
namespace Go.Proofs.Ythffhllkfadejaa
open Go.ChangeShapes Go.WideShapes Go.ChangeAt Go.RowKit Go.Deep Go.Maps
set_option linter.unusedSimpArgs false
set_option linter.unusedVariables false
abbrev grV (n m : Nat) : Value := .agg #[.int .i64 (n : Int), .map (some m)]
set_option maxHeartbeats 1000000 in
set_option maxRecDepth 100000 in
theorem those_any (F : FuncId) (HF : ∀ args w, (callFunc F args).run Try.prog w = .ok (.enter F args) w) (caps : Array Value) (n : Nat) (m : Value) (p : Nat → Bool) (w : World) (hn : n ≤ 10)
    (HT : ∀ k w', k < n → Below w.heap.size w w' → Calls Try.prog F (#[.int .i64 (k : Int)] ++ caps) w' fun e w'' => e = .returned (.bool (p k)) ∧ Below w'.heap.size w' w'') :
    Calls Try.prog 53 #[.agg #[.int .i64 (n : Int), m], .func (.func F) #[] caps] w fun e w' => e = .returned (.int .u16 (those n p : Int)) ∧ Below w.heap.size w w' := by
  have H := Lib.hid HT
  have b0 := (Below.refl w.heap.size w).alloc (Nat.le_refl _) (.cells #[.int .i64 (n : Int), m] 42)
  clear HT
  go_enter Try.func53, Try.ntmps53
  go_wp2
  go_loopg [5, 9] n (fun g s i wr => ∃ k : Nat, k ≤ n ∧ g = n - k ∧ s = .int .u16 (those k p : Int) ∧ i = .int .i64 (k : Int) ∧ Below w.heap.size w wr)
  case atStart => exact ⟨0, Nat.zero_le _, rfl, rfl, rfl, b0⟩
  case round =>
    clear b0
    obtain ⟨k, hk, rfl, rfl, rfl, hb⟩ := hrel
    by_cases hlt : k < n
    · have HC := H.out k wr hlt hb
      have hl : those k p < 65536 := Nat.lt_of_lt_of_le (those_lt k p) (Nat.le_trans (Nat.pow_le_pow_right (by omega) (by omega : k ≤ 10)) (by decide))
      have HW := fun w' => with_any (those k p) (k : Int) w' hl (by omega) (by omega)
      obtain ⟨z, hz⟩ : ∃ z, p k = z := ⟨_, rfl⟩
      rw [hz] at HC
      have hs : those (k + 1) p = if z = true then those k p ||| 2 ^ k else those k p := by rw [← hz]; rfl
      have HS := Lib.hid hs
      clear hz hs hl
      cases z with
      | true =>
        go_wp2_with fail
        refine HC.mono ?_
        rintro e w1 ⟨rfl, hb1⟩
        go_wp2_with fail
        refine (HW _).mono ?_
        rintro e w2 ⟨rfl, rfl⟩
        go_wp2
        go_roundg (n - (k + 1))
        case measure => omega
        case rel => exact ⟨k + 1, by omega, rfl, by rw [HS.out]; simp, by simp, hb.trans (hb1.mono hb.size)⟩
      | false =>
        clear HW
        go_wp2_with fail
        refine HC.mono ?_
        rintro e w1 ⟨rfl, hb1⟩
        go_wp2
        go_roundg (n - (k + 1))
        case measure => omega
        case rel => exact ⟨k + 1, by omega, rfl, by rw [HS.out]; simp, by simp, hb.trans (hb1.mono hb.size)⟩
    · obtain rfl : k = n := by omega
      go_wp2
      go_ret
      exact ⟨rfl, hb⟩
/-- A graph of a valid frame: the map of the attackers. -/
structure GrIs (w : World) (n m : Nat) (L : List (List Int)) : Prop where
  map : ∃ c f, MapB w m c f ∧ ∀ y : Int, f y = byF L y
  ok : ∀ l ∈ L, atkOk (n : Int) l
  le : n ≤ 10
theorem GrIs.below {w w' : World} {n m : Nat} {L : List (List Int)} (h : GrIs w n m L) (hb : Below w.heap.size w w') : GrIs w' n m L := by
  obtain ⟨⟨c, f, h1, h2⟩, h3, h4⟩ := h
  exact ⟨⟨c, f, h1.below hb, h2⟩, h3, h4⟩
theorem GrIs.lt {w : World} {n m : Nat} {L : List (List Int)} (h : GrIs w n m L) : m < w.heap.size := by
  obtain ⟨⟨c, f, h1, h2⟩, h3, h4⟩ := h
  exact h1.lt
theorem GrIs.look {w : World} {n m : Nat} {L : List (List Int)} (h : GrIs w n m L) (y : Nat) (hy : y < 10) :
    (Instr.lookup TB (.map (some m)) (.int .i64 (y : Int)) false).run Try.prog w = .ok (.int .u16 (byF L (y : Int) : Int)) w := by
  obtain ⟨⟨c, f, h1, h2⟩, h3, h4⟩ := h
  rw [h1.look (y : Int) (Go.WalkArith.wf_i64 (by omega)), h2]
theorem pow10 {n : Nat} (h : n ≤ 10) : 2 ^ n ≤ 1024 := Nat.le_trans (Nat.pow_le_pow_right (by omega) h) (by decide)
theorem GrIs.by_lt {w : World} {n m : Nat} {L : List (List Int)} (h : GrIs w n m L) (y : Nat) : byF L (y : Int) < 1024 := Nat.lt_of_lt_of_le (byF_lt h.ok y) (pow10 h.le)
theorem attB_lt10 {n : Nat} (h : n ≤ 10) (L : List (List Int)) (s : Nat) : attB n L s < 1024 := Nat.lt_of_lt_of_le (attB_lt n L s) (pow10 h)
theorem defB_lt10 {n : Nat} (h : n ≤ 10) (L : List (List Int)) (s : Nat) : defB n L s < 1024 := Nat.lt_of_lt_of_le (defB_lt n L s) (pow10 h)
theorem and_ne (a b : Nat) (ha : a < 65536) (hb : b < 65536) : (bits .and .u16 (a : Int) (b : Int) != 0) = !decide (a &&& b = 0) := by
  rw [u16_and_nat a b ha hb, Bool.eq_iff_iff]; simp
theorem and_eq (a b : Nat) (ha : a < 65536) (hb : b < 65536) : (bits .and .u16 (a : Int) (b : Int) == 0) = decide (a &&& b = 0) := by
  rw [u16_and_nat a b ha hb, Bool.eq_iff_iff]; simp
/-- The closure of attackedBy. -/
theorem att1_any (n m : Nat) (L : List (List Int)) (s k p q : Nat) (w : World) (h : GrIs w n m L) (hk : k < 10) (hs : s < 65536)
    (c1 : w.cell? ⟨p, 1, none⟩ = some (.map (some m))) (c2 : w.cell? ⟨q, 0, none⟩ = some (.int .u16 (s : Int))) :
    Calls Try.prog 54 (#[.int .i64 (k : Int)] ++ #[.pointer (some ⟨p, 0, none⟩), .pointer (some ⟨q, 0, none⟩)]) w fun e w' => e = .returned (.bool (!decide (byF L (k : Int) &&& s = 0))) ∧ Below w.heap.size w w' := by
  show Calls Try.prog 54 #[.int .i64 (k : Int), .pointer (some ⟨p, 0, none⟩), .pointer (some ⟨q, 0, none⟩)] w _
  have hl := h.look k hk
  have E := Lib.hid (and_ne _ s (Nat.lt_trans (h.by_lt k) (by decide)) hs)
  clear h
  go_enter Try.func54, Try.ntmps54
  go_wp2
  go_ret
  exact ⟨by rw [E.out]; rfl, Below.refl _ _⟩
set_option maxHeartbeats 1000000 in
theorem att_any (n m : Nat) (L : List (List Int)) (s : Nat) (w : World) (h : GrIs w n m L) (hs : s < 65536) :
    Calls Try.prog 46 #[.agg #[.int .i64 (n : Int), .map (some m)], .int .u16 (s : Int)] w fun e w' => e = .returned (.int .u16 (attB n L s : Int)) ∧ Below w.heap.size w w' := by
  have b0 := ((Below.refl w.heap.size w).alloc (Nat.le_refl _) (.cells #[.int .i64 (n : Int), .map (some m)] 42)).alloc (by simp) (.cells #[.int .u16 (s : Int)] 57)
  obtain ⟨W, hW⟩ : ∃ W, W = (w.alloc (.cells #[.int .i64 (n : Int), .map (some m)] 42)).alloc (.cells #[.int .u16 (s : Int)] 57) := ⟨_, rfl⟩
  have c1 : W.cell? ⟨w.heap.size, 1, none⟩ = some (.map (some m)) := by rw [hW]; go_simp
  have c2 : W.cell? ⟨w.heap.size + 1, 0, none⟩ = some (.int .u16 (s : Int)) := by rw [hW]; go_simp
  have hsz : w.heap.size + 1 < W.heap.size := by rw [hW]; simp
  have hG := h.below (hW ▸ b0)
  have HT := those_any 54 (fun _ _ => rfl) #[.pointer (some ⟨w.heap.size, 0, none⟩), .pointer (some ⟨w.heap.size + 1, 0, none⟩)] n (.map (some m)) (fun x => !decide (byF L (x : Int) &&& s = 0)) W h.le
    (fun k w' hk hb => att1_any n m L s k _ _ w' (hG.below hb) (by have := h.le; omega) hs ((hb.cell (p := ⟨w.heap.size, 1, none⟩) (by show w.heap.size < _; omega)).trans c1) ((hb.cell (p := ⟨w.heap.size + 1, 0, none⟩) hsz).trans c2))
  rw [hW] at HT
  have B := Lib.hid b0
  clear c1 c2 hsz hG hW b0 h
  go_enter Try.func46, Try.ntmps46
  go_wp2_with fail
  refine HT.mono ?_
  rintro e w1 ⟨rfl, hb1⟩
  go_wp2
  go_ret
  exact ⟨rfl, B.out.trans (hb1.mono B.out.size)⟩
end Go.Proofs.Ythffhllkfadejaa
