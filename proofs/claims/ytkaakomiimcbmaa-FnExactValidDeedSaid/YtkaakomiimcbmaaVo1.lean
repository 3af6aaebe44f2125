/- Slices of numbers and lists of voices in a world; toInt64S by its contract. -/
import Derived.Test.YtkaakomiimcbmaaVb
import Derived.Deep.OwnRows
import Derived.Deep.LoopGhost
namespace Go.Proofs.Ytkaakomiimcbmaa
open Go.ChangeShapes Go.WideShapes Go.ChangeAt Go.RowKit Go.Deep
set_option maxRecDepth 100000 in
theorem infoI : (Try.prog.info? 2).map (fun i => (i.zero, i.size, i.bytes)) = some (some (.int .i64 0), 1, 8) := by kernel_rfl
/-- A slice whose elements read as l. -/
def RowV (w : World) (v : Value) (l : List Int) : Prop :=
  (v = .slice none 0 0 ∧ l = []) ∨ ∃ (x : Addr) (cap : Nat), v = .slice (some x) l.length cap ∧ (0 < l.length → x.block < w.heap.size) ∧ ∀ i, i < l.length → w.cell? (x.add i) = some (.int .i64 (l.getD i 0))
theorem RowV.below {w w' : World} {v : Value} {l : List Int} (h : RowV w v l) (hb : Below w.heap.size w w') : RowV w' v l := by
  rcases h with h | ⟨x, cap, rfl, hx, hc⟩
  · exact .inl h
  · exact .inr ⟨x, cap, rfl, fun h => Nat.lt_of_lt_of_le (hx h) hb.size, fun i hi => (hb.cell (p := x.add i) (by rw [block_add]; exact hx (by omega))).trans (hc i hi)⟩
/-- The numbers of l behind the first k are 0 yet. -/
def fillI (l : List Int) (k : Nat) : Nat → Value := fun j => if j < k then .int .i64 (l.getD j 0) else .int .i64 0
structure CopyI (w wr : World) (l : List Int) (k : Nat) : Prop where
  bel : Below w.heap.size w wr
  row : wr.rowIs w.heap.size 2 l.length (fillI l k)
theorem copy_start (w : World) (l : List Int) : CopyI w (w.alloc (.cells (madeCells #[.int .i64 0] l.length) 2)) l 0 :=
  ⟨(Below.refl _ _).alloc (Nat.le_refl _) _, (World.rowIs_made w _ _ _).congr (fun j _ => by simp [fillI])⟩
theorem copy_step {w wr : World} {l : List Int} {k : Nat} (h : CopyI w wr l k) : CopyI w (wr.setCell ⟨w.heap.size, k, none⟩ (.int .i64 (l.getD k 0))) l (k + 1) :=
  ⟨h.bel.setCell (Nat.le_refl _) _, (h.row.set k _).congr (fun j _ => by
    unfold fillI
    by_cases e : j = k
    · subst e; simp
    · rw [if_neg e]
      by_cases hlt : j < k
      · rw [if_pos hlt, if_pos (by omega)]
      · rw [if_neg hlt, if_neg (by omega)])⟩
set_option maxRecDepth 100000 in
theorem toI (v : Value) (l : List Int) (w : World) (h : RowV w v l) (hl : l.length ≤ 1048576) :
    Calls Try.prog 12 #[v] w fun e w' => e = .returned (.slice (some ⟨w.heap.size, 0, none⟩) l.length l.length) ∧ w'.rowIs w.heap.size 2 l.length (fun i => .int .i64 (l.getD i 0)) ∧ Below w.heap.size w w' := by
  rcases h with ⟨rfl, rfl⟩ | ⟨x, cap, rfl, hx, hc⟩
  · have hmk : ∀ w, (Instr.makeSlice 22 (.int .i64 0) (.int .i64 0)).run Try.prog w = .ok (.slice (some ⟨w.heap.size, 0, none⟩) 0 0) (w.alloc (.cells (madeCells #[.int .i64 0] 0) 2)) :=
      run_make_row' (P := Try.prog) 22 2 (.int .i64 0) 8 Try.underlying22 infoI rfl .i64 .i64 0 (by omega) (by omega)
    go_enter Try.func12, Try.ntmps12
    go_wp2
    have hC := copy_start w []
    go_loopg [4] 0 (fun g i wr => i = .int .i64 0 ∧ CopyI w wr [] 0)
    case atStart => exact ⟨rfl, hC⟩
    case round =>
      obtain ⟨rfl, hC⟩ := hrel
      clear hmk
      go_wp2
      go_ret
      exact ⟨rfl, hC.row, hC.bel⟩
  · have hmk := run_make_row' (P := Try.prog) 22 2 (.int .i64 0) 8 Try.underlying22 infoI rfl .i64 .i64 l.length (by omega) (by omega)
    go_enter Try.func12, Try.ntmps12
    go_wp2
    go_loopg [4] l.length (fun g i wr => ∃ k : Nat, k ≤ l.length ∧ g = l.length - k ∧ i = .int .i64 k ∧ CopyI w wr l k)
    case atStart => exact ⟨0, Nat.zero_le _, rfl, rfl, copy_start w l⟩
    case round =>
      obtain ⟨k, hk, rfl, rfl, hC⟩ := hrel
      have c1 : k < l.length → wr.cell? (x.add k) = some (.int .i64 (l.getD k 0)) := fun h => (hC.bel.cell (p := x.add k) (by rw [block_add]; exact hx (by omega))).trans (hc k h)
      have c2 : k < l.length → wr.cell? ⟨w.heap.size, k, none⟩ = some (fillI l k k) := fun h => hC.row.cell h
      have c3 : wr.frozen? ⟨w.heap.size, k, none⟩ = false := hC.row.frozen k
      clear hmk
      go_wp2
      · go_roundg (l.length - (k + 1))
        case measure => omega
        case rel =>
          have := copy_step hC
          have hlt : k < l.length := by assumption
          have eg : l.getD k 0 = l[k] := by simp [List.getD, hlt]
          rw [eg] at this
          exact ⟨k + 1, by omega, rfl, by simp, this⟩
      · have e : k = l.length := by omega
        subst e
        go_ret
        exact ⟨rfl, hC.row.congr fun i hi => by simp [fillI, hi], hC.bel⟩
end Go.Proofs.Ytkaakomiimcbmaa
