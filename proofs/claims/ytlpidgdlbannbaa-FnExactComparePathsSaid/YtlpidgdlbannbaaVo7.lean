/- slices.Index and slices.Contains at numbers, by their contracts. -/
import Derived.Test.YtlpidgdlbannbaaVo6
namespace Go.Proofs.Ytlpidgdlbannbaa
open Go.ChangeShapes Go.WideShapes Go.ChangeAt Go.RowKit Go.Deep
set_option linter.unusedSimpArgs false
set_option linter.unusedVariables false
/-- Where n stands first in l, or -1. -/
def ix (l : List Int) (n : Int) : Int := if n ∈ l then (l.idxOf n : Int) else -1
theorem ix_hit {l : List Int} {n : Int} {k : Nat} (h : k < l.length) (hk : l[k] = n) (H : ∀ j (hj : j < l.length), j < k → l[j] ≠ n) : ix l n = k := by
  have hm : n ∈ l := by rw [← hk]; exact List.getElem_mem h
  unfold ix
  rw [if_pos hm]
  have h1 : l.idxOf n < l.length := List.idxOf_lt_length_of_mem hm
  have h2 : l[l.idxOf n] = n := List.getElem_idxOf h1
  have h3 : ¬ l.idxOf n < k := fun q => H _ h1 q h2
  have h4 : ¬ k < l.idxOf n := fun q => by
    have := List.not_of_lt_findIdx (p := (· == n)) (xs := l) q
    simp [hk] at this
  omega
theorem ix_miss {l : List Int} {n : Int} (h : ¬ n ∈ l) : ix l n = -1 := by simp [ix, h]
theorem ix_bd (l : List Int) (n : Int) : -1 ≤ ix l n ∧ ix l n < l.length + 1 ∧ (0 ≤ ix l n ↔ n ∈ l) := by
  unfold ix
  split
  · rename_i h
    have := List.idxOf_lt_length_of_mem h
    refine ⟨by omega, by omega, fun _ => h, fun _ => by omega⟩
  · rename_i h
    exact ⟨by omega, by omega, fun q => by omega, fun q => absurd q h⟩
set_option maxRecDepth 100000 in
theorem idx_any (v : Value) (l : List Int) (n : Int) (w : World) (h : RowV w v l) (hl : l.length ≤ 9223372036854775807) :
    Calls Try.prog 59 #[v, .int .i64 n] w fun e w' => e = .returned (.int .i64 (ix l n)) ∧ w = w' := by
  by_cases e : l = []
  · subst e
    obtain ⟨a, cap, rfl⟩ := h.shape
    clear h
    go_enter Try.func59, Try.ntmps59
    go_wp2
    go_loopg [8] 0 (fun g i wr => i = .int .i64 0 ∧ w = wr)
    case atStart => exact ⟨rfl, rfl⟩
    case round =>
      obtain ⟨rfl, rfl⟩ := hrel
      go_wp2
      go_ret
      simp [ix]
  · obtain ⟨x, cap, rfl, hx, hc⟩ := h.cons e
    clear h
    go_enter Try.func59, Try.ntmps59
    go_wp2
    go_loopg [8] l.length (fun g i wr => ∃ k : Nat, k ≤ l.length ∧ g = l.length - k ∧ i = .int .i64 k ∧ w = wr ∧ Hid (∀ j (hj : j < l.length), j < k → l[j] ≠ n))
    case atStart => exact ⟨0, Nat.zero_le _, rfl, rfl, rfl, fun j _ hj => absurd hj (Nat.not_lt_zero _)⟩
    case round =>
      obtain ⟨k, hk, rfl, rfl, rfl, H⟩ := hrel
      by_cases hlt : k < l.length
      · have c1 := hc k hlt
        have eg : l.getD k 0 = l[k] := by simp [List.getD, hlt]
        rw [eg] at c1
        obtain ⟨y, hy⟩ : ∃ y, l[k] = y := ⟨_, rfl⟩
        rw [hy] at c1
        have HY := Lib.hid hy
        clear hy eg hc
        by_cases hq : n = y
        · subst hq
          go_wp2
          go_ret
          rw [ix_hit hlt HY.out H.out]
          exact ⟨rfl, rfl⟩
        · have hq' : (n == y) = false := by simp [hq]
          go_wp2
          go_roundg (l.length - (k + 1))
          case measure => omega
          case rel =>
            refine ⟨k + 1, by omega, rfl, by simp, rfl, fun j h1 h2 => ?_⟩
            by_cases ej : j = k
            · subst ej; rw [HY.out]; exact fun h => hq h.symm
            · exact H.out j h1 (by omega)
      · have e : k = l.length := by omega
        subst e
        go_wp2
        go_ret
        have hm : ¬ n ∈ l := fun hm => by
          obtain ⟨j, hj, e⟩ := List.mem_iff_getElem.1 hm
          exact H.out j hj hj e
        rw [ix_miss hm]
        exact ⟨rfl, rfl⟩
theorem cont_any (v : Value) (l : List Int) (n : Int) (w : World) (h : RowV w v l) (hl : l.length ≤ 9223372036854775807) :
    Calls Try.prog 99 #[v, .int .i64 n] w fun e w' => e = .returned (.bool (decide (n ∈ l))) ∧ w = w' := by
  have HI := idx_any v l n w h hl
  have hb := ix_bd l n
  generalize ix l n = z at HI hb
  obtain ⟨b1, b2, b3⟩ := hb
  have B3 := Lib.hid b3
  clear b3
  go_enter Try.func99, Try.ntmps99
  go_wp2_with fail
  refine HI.mono ?_
  rintro e w1 ⟨rfl, rfl⟩
  go_wp2
  go_ret
  refine ⟨?_, rfl⟩
  show Ending.returned (.bool (decide (0 ≤ z))) = _
  rw [decide_eq_decide.2 B3.out]
end Go.Proofs.Ytlpidgdlbannbaa
