/- slices.ContainsFunc over numbers and over lists of numbers, for any function that tells a bool. -/
import Derived.Test.YtjfkkmfbgmejbabEl1
import Derived.Test.YtjfkkmfbgmejbabPo3
namespace Go.Proofs.Ytjfkkmfbgmejbab
open Go.ChangeShapes Go.WideShapes Go.ChangeAt Go.RowKit Go.Deep
set_option linter.unusedSimpArgs false
set_option linter.unusedVariables false
set_option maxHeartbeats 1000000 in
set_option maxRecDepth 100000 in
theorem idxI (F : FuncId) (HF : ∀ args w, (callFunc F args).run Try.prog w = .ok (.enter F args) w) (caps : Array Value) (l : List Int) (P : Nat → Bool) (v : Value) (w : World) (h : RowV w v l) (hl : l.length ≤ 1048576)
    (HT : ∀ k w', k < l.length → Below w.heap.size w w' → Calls Try.prog F (#[.int .i64 (l.getD k 0)] ++ caps) w' fun e w'' => e = .returned (.bool (P k)) ∧ Below w'.heap.size w' w'') :
    Calls Try.prog 84 #[v, .func (.func F) #[] caps] w fun e w' => (∃ r : Int, e = .returned (.int .i64 r) ∧ -1 ≤ r ∧ r ≤ 1048576 ∧ (r < 0 ↔ ∀ k, k < l.length → P k = false)) ∧ Below w.heap.size w w' := by
  have H := Lib.hid HT
  clear HT
  by_cases e : l = []
  · subst e
    obtain ⟨a, cap, rfl⟩ := h.shape
    clear h
    go_enter Try.func84, Try.ntmps84
    go_wp2
    go_loopg [8] 0 (fun g i wr => i = .int .i64 0 ∧ w = wr)
    case atStart => exact ⟨rfl, rfl⟩
    case round =>
      obtain ⟨rfl, rfl⟩ := hrel
      go_wp2
      go_ret
      exact ⟨⟨_, rfl, by omega, by omega, ⟨fun _ k hk => absurd hk (Nat.not_lt_zero _), fun _ => by omega⟩⟩, Below.refl _ _⟩
  · obtain ⟨x, cap, rfl, hx, hc⟩ := h.cons e
    clear h
    go_enter Try.func84, Try.ntmps84
    go_wp2
    go_loopg [8] l.length (fun g i wr => ∃ k : Nat, k ≤ l.length ∧ g = l.length - k ∧ i = .int .i64 k ∧ Below w.heap.size w wr ∧ Hid (∀ j, j < k → P j = false))
    case atStart => exact ⟨0, Nat.zero_le _, rfl, rfl, Below.refl _ _, fun j hj => absurd hj (Nat.not_lt_zero _)⟩
    case round =>
      obtain ⟨k, hk, rfl, rfl, hb, HK⟩ := hrel
      by_cases hlt : k < l.length
      · have c1 := (hb.cell (p := x.add k) (by rw [block_add]; exact hx)).trans (hc k hlt)
        have HC := H.out k wr hlt hb
        obtain ⟨z, hz⟩ : ∃ z, P k = z := ⟨_, rfl⟩
        obtain ⟨y, hy⟩ : ∃ y, l.getD k 0 = y := ⟨_, rfl⟩
        rw [hz, hy] at HC
        rw [hy] at c1
        have HZ := Lib.hid hz
        clear hz hy hc
        cases z with
        | false =>
          go_wp2_with fail
          refine HC.mono ?_
          rintro e w1 ⟨rfl, hb1⟩
          go_wp2
          go_roundg (l.length - (k + 1))
          case measure => omega
          case rel =>
            refine ⟨k + 1, by omega, rfl, by simp, hb.trans (hb1.mono hb.size), fun j hj => ?_⟩
            by_cases ej : j = k
            · subst ej; exact HZ.out
            · exact HK.out j (by omega)
        | true =>
          go_wp2_with fail
          refine HC.mono ?_
          rintro e w1 ⟨rfl, hb1⟩
          go_wp2
          go_ret
          refine ⟨⟨_, rfl, by omega, by omega, ⟨fun h => by omega, fun h => ?_⟩⟩, hb.trans (hb1.mono hb.size)⟩
          have h9 := h k hlt
          rw [HZ.out] at h9
          cases h9
      · have e : k = l.length := by omega
        subst e
        go_wp2
        go_ret
        exact ⟨⟨_, rfl, by omega, by omega, ⟨fun _ => HK.out, fun _ => by omega⟩⟩, hb⟩
theorem contI (F : FuncId) (HF : ∀ args w, (callFunc F args).run Try.prog w = .ok (.enter F args) w) (caps : Array Value) (l : List Int) (P : Nat → Bool) (v : Value) (w : World) (h : RowV w v l) (hl : l.length ≤ 1048576)
    (HT : ∀ k w', k < l.length → Below w.heap.size w w' → Calls Try.prog F (#[.int .i64 (l.getD k 0)] ++ caps) w' fun e w'' => e = .returned (.bool (P k)) ∧ Below w'.heap.size w' w'') :
    Calls Try.prog 66 #[v, .func (.func F) #[] caps] w fun e w' => (∃ z, e = .returned (.bool z) ∧ (z = false ↔ ∀ k, k < l.length → P k = false)) ∧ Below w.heap.size w w' := by
  have HI := idxI F HF caps l P v w h hl HT
  clear h HT
  go_enter Try.func66, Try.ntmps66
  go_wp2_with fail
  refine HI.mono ?_
  rintro e w1 ⟨⟨r, rfl, r1, r2, r3⟩, hb1⟩
  have R3 := Lib.hid r3
  clear r3
  by_cases h0 : r < 0
  · go_wp2
    go_ret
    exact ⟨⟨false, by first | rfl | simp [h0], ⟨fun _ => R3.out.1 h0, fun _ => rfl⟩⟩, hb1⟩
  · go_wp2
    go_ret
    exact ⟨⟨true, by first | rfl | simp [h0], ⟨(fun q => by cases q), (fun q => by have := R3.out.2 q; omega)⟩⟩, hb1⟩
/-- The numbers below n for which a function tells true, in order. -/
def selN (n : Nat) (P : Nat → Bool) : List Int := ((List.range n).filter P).map fun i : Nat => (i : Int)
theorem selN_succ (n : Nat) (P : Nat → Bool) : selN (n + 1) P = selN n P ++ if P n = true then [(n : Int)] else [] := by
  unfold selN
  rw [List.range_succ, List.filter_append, List.map_append]
  by_cases h : P n = true <;> simp [h]
theorem selN_len (n : Nat) (P : Nat → Bool) : (selN n P).length ≤ n := by
  unfold selN
  have := List.length_filter_le P (List.range n)
  simpa using this
theorem selN_congr {n : Nat} {P Q : Nat → Bool} (h : ∀ i, i < n → P i = Q i) : selN n P = selN n Q := by
  unfold selN
  congr 1
  refine List.filter_congr fun i hi => ?_
  exact h i (by simpa using hi)
theorem snoc_map' (l : List Int) (n : Int) : (l ++ [n]).map (Value.int .i64) = l.map (Value.int .i64) ++ [Value.int .i64 n] := by simp
theorem snoc_len' (l : List Int) (n : Int) : (l ++ [n]).length = l.length + 1 := by simp
end Go.Proofs.Ytjfkkmfbgmejbab
