/- slices.Sort at numbers, by the library's contract. -/
import Derived.Test.YtlpidgdlbannbaaKJ
import Derived.Test.YtlpidgdlbannbaaShelfS
namespace Go.Proofs.Ytlpidgdlbannbaa
open Go.ChangeShapes Go.WideShapes Go.ChangeAt Go.RowKit Go.Deep
theorem getBang_toArray (l : List Int) (i : Nat) (h : i < l.length) : l.toArray[i]! = l.getD i 0 := by
  rw [getElem!_pos _ i (by simpa using h)]
  simp [List.getD, h]
theorem sortI (c cap : Nat) (l : List Int) (w : World) (base : Nat) (h : w.ownsRow base 2 1 (.slice (some ⟨c, 0, none⟩) l.length cap) l.length (l.map (Value.int .i64))) (hl : l.length ≤ 1048576) :
    Calls Try.prog 115 #[.slice (some ⟨c, 0, none⟩) l.length cap] w fun e w' => e = .returned (.tuple #[]) ∧ OwI w' base w'.heap.size (.slice (some ⟨c, 0, none⟩) l.length cap) (l.mergeSort fun x y => decide (x ≤ y)) ∧ Kept w w' (fun b => b = c) := by
  have ho := ow_of_own h (Nat.le_refl _) hl
  obtain ⟨hx, -⟩ := ho
  have key : ∃ N f, base ≤ c ∧ l.length ≤ N ∧ w.rowIs c 2 N f ∧ ∀ i, i < l.length → f i = .int .i64 (l.getD i 0) := by
    rcases hx with ⟨h1, -⟩ | ⟨c', cap', N, f, h1, h2, h3, h4, h5, h6⟩
    · cases h1
    · simp only [Value.slice.injEq, Option.some.injEq, Addr.mk.injEq] at h1
      obtain ⟨⟨rfl, -⟩, -⟩ := h1
      exact ⟨N, f, h2, h4, h5, h6⟩
  obtain ⟨N, f, h2, h4, h5, h6⟩ := key
  have hH : Go.Sort.Holds (Value.int .i64) w c 0 l.toArray := fun j hj => by
    have hj' : j < l.length := by simpa using hj
    rw [Nat.zero_add, getBang_toArray l j hj']
    exact ⟨by rw [h5.cell (i := j) (by omega), h6 j hj'], h5.frozen j⟩
  have hS := Try.slices_Sort c 0 cap l w hH h5.lt (by omega)
  refine hS.mono ?_
  rintro e w' ⟨rfl, n, os, rfl⟩
  have hsl : (l.mergeSort fun x y => decide (x ≤ y)).length = l.length := by simp
  generalize (l.mergeSort fun x y => decide (x ≤ y)) = S at hsl ⊢
  obtain ⟨cs, g1, g2, g3⟩ := h5
  have hlt : c < w.heap.size := (Array.getElem?_eq_some_iff.1 g1).1
  have hsz : (Go.Sort.grow (Go.Sort.putRow (Value.int .i64) (Go.Sort.ahead w n) c 0 S.toArray) os).heap.size = w.heap.size + os.size := by
    rw [Go.Sort.size_grow]
    congr 1
    simp [Go.Sort.putRow, Go.Sort.mapBlock, Go.Sort.ahead]
  have hblk : ∀ b, b < w.heap.size → (Go.Sort.grow (Go.Sort.putRow (Value.int .i64) (Go.Sort.ahead w n) c 0 S.toArray) os).heap[b]? = if c = b then (w.heap[b]?).map (Go.Sort.onCells (Go.Sort.putCells (Value.int .i64) 0 S.toArray)) else w.heap[b]? := fun b hb => by
    rw [Go.Sort.heap_grow_old _ _ (by simp [Go.Sort.putRow, Go.Sort.mapBlock, Go.Sort.ahead]; exact hb)]
    simp only [Go.Sort.putRow, Go.Sort.mapBlock, Go.Sort.ahead, Array.getElem?_modify]
  refine ⟨rfl, ⟨.inr ⟨c, cap, N, fun i => if i < l.length then .int .i64 (S.getD i 0) else f i, by rw [hsl], h2, by rw [hsz]; omega, by omega, ?_, fun i hi => by rw [hsl] at hi; simp [hi]⟩, by omega⟩, ⟨rfl, rfl, rfl, by rw [hsz]; omega, fun b hb hne => ?_⟩⟩
  · refine ⟨Go.Sort.putCells (Value.int .i64) 0 S.toArray cs, ?_, by simp [Go.Sort.putCells, g2], fun i hi => ?_⟩
    · rw [hblk c hlt, if_pos rfl, g1]; rfl
    · simp only [Go.Sort.putCells, Array.getElem?_mapIdx, g3 i hi, Option.map_some, Nat.zero_le, true_and, Nat.zero_add, Nat.sub_zero, List.size_toArray, hsl]
      by_cases hil : i < l.length
      · rw [if_pos hil, if_pos hil, getBang_toArray S i (by omega)]
      · rw [if_neg hil, if_neg hil]
  · rw [hblk b hb, if_neg (fun e => hne e.symm)]
end Go.Proofs.Ytlpidgdlbannbaa
