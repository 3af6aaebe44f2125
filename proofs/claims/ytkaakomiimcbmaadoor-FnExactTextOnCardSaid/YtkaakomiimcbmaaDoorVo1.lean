/- Slices of numbers and lists of voices in a world; toInt64S by its contract. -/
import Derived.Test.YtkaakomiimcbmaaDoorVb
import Derived.Deep.OwnRows
import Derived.Deep.LoopGhost
namespace Go.Proofs.YtkaakomiimcbmaaDoor
open Go.ChangeShapes Go.WideShapes Go.ChangeAt Go.RowKit Go.Deep
set_option maxRecDepth 100000 in
theorem infoI : (Tryd.prog.info? 2).map (fun i => (i.zero, i.size, i.bytes)) = some (some (.int .i64 0), 1, 8) := by kernel_rfl
/-- A slice whose elements read as l. -/
def RowV (w : World) (v : Value) (l : List Int) : Prop :=
  (v = .slice none 0 0 ∧ l = []) ∨ ∃ (x : Addr) (cap : Nat), v = .slice (some x) l.length cap ∧ (0 < l.length → x.block < w.heap.size) ∧ ∀ i, i < l.length → w.cell? (x.add i) = some (.int .i64 (l.getD i 0))
theorem RowV.below {w w' : World} {v : Value} {l : List Int} (h : RowV w v l) (hb : Below w.heap.size w w') : RowV w' v l := by
  rcases h with h | ⟨x, cap, rfl, hx, hc⟩
  · exact .inl h
  · exact .inr ⟨x, cap, rfl, fun h => Nat.lt_of_lt_of_le (hx h) hb.size, fun i hi => (hb.cell (p := x.add i) (by rw [block_add]; exact hx (by omega))).trans (hc i hi)⟩
/-- The numbers of l behind the first k are 0 yet. -/
def fillI (l : List Int) (k : Nat) : Nat → Value := fun j => if j < k then .int .i64 (l.getD j 0) else .int .i64 0
structure CopyI (w wr : World) (l : List Int) (k : Nat) : Prop where
  bel : Below w.heap.size w wr
  row : wr.rowIs w.heap.size 2 l.length (fillI l k)
theorem copy_start (w : World) (l : List Int) : CopyI w (w.alloc (.cells (madeCells #[.int .i64 0] l.length) 2)) l 0 :=
  ⟨(Below.refl _ _).alloc (Nat.le_refl _) _, (World.rowIs_made w _ _ _).congr (fun j _ => by simp [fillI])⟩
theorem copy_step {w wr : World} {l : List Int} {k : Nat} (h : CopyI w wr l k) : CopyI w (wr.setCell ⟨w.heap.size, k, none⟩ (.int .i64 (l.getD k 0))) l (k + 1) :=
  ⟨h.bel.setCell (Nat.le_refl _) _, (h.row.set k _).congr (fun j _ => by
    unfold fillI
    by_cases e : j = k
    · subst e; simp
    · rw [if_neg e]
      by_cases hlt : j < k
      · rw [if_pos hlt, if_pos (by omega)]
      · rw [if_neg hlt, if_neg (by omega)])⟩
end Go.Proofs.YtkaakomiimcbmaaDoor
