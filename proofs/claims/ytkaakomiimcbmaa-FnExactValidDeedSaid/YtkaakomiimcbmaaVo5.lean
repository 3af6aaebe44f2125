/- Lists of numbers asked for a number; lists compared. -/
import Derived.Test.YtkaakomiimcbmaaVo4
import Derived.StillTailTactics
namespace Go.Proofs.Ytkaakomiimcbmaa
open Go.ChangeShapes Go.WideShapes Go.ChangeAt Go.RowKit Go.Deep
set_option linter.unusedSimpArgs false
set_option linter.unusedVariables false
theorem RowV.cons {w : World} {v : Value} {l : List Int} (h : RowV w v l) (hl : l ≠ []) : ∃ x cap, v = .slice (some x) l.length cap ∧ x.block < w.heap.size ∧ ∀ i, i < l.length → w.cell? (x.add i) = some (.int .i64 (l.getD i 0)) := by
  rcases h with ⟨_, h⟩ | h
  · exact absurd h hl
  · obtain ⟨x, cap, e, hx, hc⟩ := h
    exact ⟨x, cap, e, hx (List.length_pos_iff.2 hl), hc⟩
set_option maxRecDepth 100000 in
theorem has_any (v : Value) (l : List Int) (n : Int) (w : World) (h : RowV w v l) (hl : l.length ≤ 9223372036854775807) :
    Calls Try.prog 31 #[v, .int .i64 n] w fun e w' => e = .returned (.bool (decide (n ∈ l))) ∧ w = w' := by
  by_cases e : l = []
  · subst e
    obtain ⟨a, cap, rfl⟩ := h.shape
    clear h
    go_enter Try.func31, Try.ntmps31
    go_wp2
    go_loopg [5] 0 (fun g i wr => i = .int .i64 0 ∧ w = wr)
    case atStart => exact ⟨rfl, rfl⟩
    case round =>
      obtain ⟨rfl, rfl⟩ := hrel
      go_wp2
      go_ret
      simp
  · obtain ⟨x, cap, rfl, hx, hc⟩ := h.cons e
    clear h
    go_enter Try.func31, Try.ntmps31
    go_wp2
    go_loopg [5] l.length (fun g i wr => ∃ k : Nat, k ≤ l.length ∧ g = l.length - k ∧ i = .int .i64 k ∧ w = wr ∧ Hid (∀ j (hj : j < l.length), j < k → l[j] ≠ n))
    case atStart => exact ⟨0, Nat.zero_le _, rfl, rfl, rfl, fun j _ hj => absurd hj (Nat.not_lt_zero _)⟩
    case round =>
      obtain ⟨k, hk, rfl, rfl, rfl, H⟩ := hrel
      by_cases hlt : k < l.length
      · have c1 := hc k hlt
        have eg : l.getD k 0 = l[k] := by simp [List.getD, hlt]
        rw [eg] at c1
        obtain ⟨y, hy⟩ : ∃ y, l[k] = y := ⟨_, rfl⟩
        rw [hy] at c1
        have HY := Lib.hid hy
        clear hy eg hc
        by_cases hq : y = n
        · subst hq
          go_wp2
          go_ret
          have hm : l[k] ∈ l := List.getElem_mem hlt
          rw [HY.out] at hm
          simp [hm]
        · have hq' : (y == n) = false := by simp [hq]
          go_wp2
          go_roundg (l.length - (k + 1))
          case measure => omega
          case rel =>
            refine ⟨k + 1, by omega, rfl, by simp, rfl, fun j h1 h2 => ?_⟩
            by_cases ej : j = k
            · subst ej; rw [HY.out]; exact hq
            · exact H.out j h1 (by omega)
      · have e : k = l.length := by omega
        subst e
        go_wp2
        go_ret
        have hm : ¬ n ∈ l := fun hm => by
          obtain ⟨j, hj, e⟩ := List.mem_iff_getElem.1 hm
          exact H.out j hj hj e
        simp [hm]
set_option maxRecDepth 100000 in
theorem eqI (v v' : Value) (l : List Int) (w : World) (h : RowV w v l) (h' : RowV w v' l) (hl : l.length ≤ 9223372036854775807) :
    Calls Try.prog 15 #[v, v'] w fun e w' => e = .returned (.bool true) ∧ Below w.heap.size w w' := by
  by_cases e : l = []
  · subst e
    obtain ⟨a, cap, rfl⟩ := h.shape
    obtain ⟨a', cap', rfl⟩ := h'.shape
    clear h h'
    go_enter Try.func15, Try.ntmps15
    go_wp2
    go_loopg [5] 0 (fun g i wr => i = .int .i64 0 ∧ w = wr)
    case atStart => exact ⟨rfl, rfl⟩
    case round =>
      obtain ⟨rfl, rfl⟩ := hrel
      go_wp2
      go_ret
      exact ⟨rfl, Below.refl _ _⟩
  · obtain ⟨x, cap, rfl, hx, hc⟩ := h.cons e
    obtain ⟨x', cap', rfl, hx', hc'⟩ := h'.cons e
    clear h h'
    go_enter Try.func15, Try.ntmps15
    go_wp2
    go_loopg [5] l.length (fun g i wr => ∃ k : Nat, k ≤ l.length ∧ g = l.length - k ∧ i = .int .i64 k ∧ Below w.heap.size w wr)
    case atStart => exact ⟨0, Nat.zero_le _, rfl, rfl, Below.refl _ _⟩
    case round =>
      obtain ⟨k, hk, rfl, rfl, hb⟩ := hrel
      by_cases hlt : k < l.length
      · have c1 := (hb.cell (p := x.add k) (by rw [block_add]; exact hx)).trans (hc k hlt)
        have c2 := (hb.cell (p := x'.add k) (by rw [block_add]; exact hx')).trans (hc' k hlt)
        clear hc hc'
        go_wp2
        go_region
        all_goals go_wp2
        all_goals go_roundg (l.length - (k + 1))
        all_goals first | omega | exact ⟨k + 1, by omega, rfl, by simp, hb.drew⟩ | exact ⟨k + 1, by omega, rfl, by simp, hb⟩
      · have e : k = l.length := by omega
        subst e
        go_wp2
        go_ret
        exact ⟨rfl, hb⟩
end Go.Proofs.Ytkaakomiimcbmaa
