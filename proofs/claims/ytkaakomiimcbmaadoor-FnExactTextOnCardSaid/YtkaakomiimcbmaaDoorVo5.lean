/- Lists of numbers asked for a number; lists compared. -/
import Derived.Test.YtkaakomiimcbmaaDoorVo4
import Derived.StillTailTactics
namespace Go.Proofs.YtkaakomiimcbmaaDoor
open Go.ChangeShapes Go.WideShapes Go.ChangeAt Go.RowKit Go.Deep
set_option linter.unusedSimpArgs false
set_option linter.unusedVariables false
theorem RowV.cons {w : World} {v : Value} {l : List Int} (h : RowV w v l) (hl : l ≠ []) : ∃ x cap, v = .slice (some x) l.length cap ∧ x.block < w.heap.size ∧ ∀ i, i < l.length → w.cell? (x.add i) = some (.int .i64 (l.getD i 0)) := by
  rcases h with ⟨_, h⟩ | h
  · exact absurd h hl
  · obtain ⟨x, cap, e, hx, hc⟩ := h
    exact ⟨x, cap, e, hx (List.length_pos_iff.2 hl), hc⟩
set_option maxRecDepth 100000 in
theorem eqI (v v' : Value) (l : List Int) (w : World) (h : RowV w v l) (h' : RowV w v' l) (hl : l.length ≤ 9223372036854775807) :
    Calls Tryd.prog 13 #[v, v'] w fun e w' => e = .returned (.bool true) ∧ Below w.heap.size w w' := by
  by_cases e : l = []
  · subst e
    obtain ⟨a, cap, rfl⟩ := h.shape
    obtain ⟨a', cap', rfl⟩ := h'.shape
    clear h h'
    go_enter Tryd.func13, Tryd.ntmps13
    go_wp2
    go_loopg [5] 0 (fun g i wr => i = .int .i64 0 ∧ w = wr)
    case atStart => exact ⟨rfl, rfl⟩
    case round =>
      obtain ⟨rfl, rfl⟩ := hrel
      go_wp2
      go_ret
      exact ⟨rfl, Below.refl _ _⟩
  · obtain ⟨x, cap, rfl, hx, hc⟩ := h.cons e
    obtain ⟨x', cap', rfl, hx', hc'⟩ := h'.cons e
    clear h h'
    go_enter Tryd.func13, Tryd.ntmps13
    go_wp2
    go_loopg [5] l.length (fun g i wr => ∃ k : Nat, k ≤ l.length ∧ g = l.length - k ∧ i = .int .i64 k ∧ Below w.heap.size w wr)
    case atStart => exact ⟨0, Nat.zero_le _, rfl, rfl, Below.refl _ _⟩
    case round =>
      obtain ⟨k, hk, rfl, rfl, hb⟩ := hrel
      by_cases hlt : k < l.length
      · have c1 := (hb.cell (p := x.add k) (by rw [block_add]; exact hx)).trans (hc k hlt)
        have c2 := (hb.cell (p := x'.add k) (by rw [block_add]; exact hx')).trans (hc' k hlt)
        clear hc hc'
        go_wp2
        go_region
        all_goals go_wp2
        all_goals go_roundg (l.length - (k + 1))
        all_goals first | omega | exact ⟨k + 1, by omega, rfl, by simp, hb.drew⟩ | exact ⟨k + 1, by omega, rfl, by simp, hb⟩
      · have e : k = l.length := by omega
        subst e
        go_wp2
        go_ret
        exact ⟨rfl, hb⟩
end Go.Proofs.YtkaakomiimcbmaaDoor
