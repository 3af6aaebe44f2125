/- atBorder by contracts. -/
import Derived.Test.YtjfkkmfbgmejbabDoorAs
import Derived.Test.YtjfkkmfbgmejbabDoorMake
namespace Go.Proofs.YtjfkkmfbgmejbabDoor
open Go.ChangeShapes Go.WideShapes Go.ChangeAt Go.RowKit
/-- errors.errorType holds the handle of the type error. -/
def ErrT (w : World) : Prop := w.cell? ⟨1, 0, none⟩ = some (.iface 119 (.agg #[.pointer (some ⟨2, 69, none⟩)]))
theorem ErrT.lt {w : World} (h : ErrT w) : 1 < w.heap.size := by
  rcases Nat.lt_or_ge 1 w.heap.size with k | k
  · exact k
  · unfold ErrT at h; simp [World.cell?, Array.getElem?_eq_none k] at h
theorem ErrT.below {w w' : World} (h : ErrT w) (hb : Below w.heap.size w w') : ErrT w' := by
  have hl := h.lt
  unfold ErrT at *
  rw [hb.cell hl]; exact h
/-- What errors.As does to the world, as far as it matters. -/
theorem as_hit_below (e : ByteArray) (t : Addr) (old : Value) (w : World) (hg : ErrT w) (ht0 : w.cell? t = some old) (hf0 : w.frozen? t = false) (B : Nat) (hB : B ≤ t.block) (hB2 : B ≤ w.heap.size) :
    Calls Tryd.prog 81 #[.iface 110 (.agg #[.string e]), .iface 112 (.pointer (some t))] w fun ev w' => ev = .returned (.bool true) ∧ Below B w w' ∧ (∀ p : Addr, p.block < w.heap.size → p.block ≠ t.block → w'.cell? p = w.cell? p ∧ w'.frozen? p = w.frozen? p) ∧ w.heap.size ≤ w'.heap.size := by
  refine (as_hit e t old w hg ht0 hf0).mono ?_
  rintro ev w' ⟨rfl, rfl⟩
  have b0 : Below w.heap.size w ((((w.alloc (.cells #[.pointer (some t)] 112)).alloc (.cells #[.pointer (some ⟨2, 112, none⟩), .pointer (some ⟨w.heap.size, 0, none⟩), .int .u64 150] 132)).alloc (.cells #[.pointer (some ⟨2, 112, none⟩), .pointer (some ⟨w.heap.size, 0, none⟩), .int .u64 150] 132)).alloc (.cells #[.string e] 110)) :=
    ((((Below.refl _ _).alloc (Nat.le_refl _) _).alloc (by simp) _).alloc (by simp; omega) _).alloc (by simp; omega) _
  refine ⟨rfl, (b0.mono hB2).setCell hB _, fun p hp hne => ⟨?_, ?_⟩, by simp; omega⟩
  · rw [World.cell?_setCell_other _ _ _ _ (fun h => hne (by rw [h]))]
    exact b0.cell hp
  · have h1 := World.frozen?_of_block (w := w) (w' := _) (a := p) (b0.block p.block hp)
    rw [← h1]
    simp
theorem border_frac_nil (n d : Int) (w : World) :
    Calls Tryd.prog 53 #[.agg #[.int .i64 n, .int .i64 d], .nilIface] w fun e w' => e = .returned (.tuple #[.agg #[.int .i64 n, .int .i64 d], .bool true]) ∧ Below w.heap.size w w' := by
  go_enter Tryd.func53, Tryd.ntmps53
  go_wp2_with (go_at_call 81; refine (as_nil _ _).mono ?_; rintro e w' ⟨rfl, rfl⟩)
  refine bodyPost_ret (v := .tuple #[.agg #[.int .i64 n, .int .i64 d], .bool true]) (by simp [results, Tryd.results53, go_sem]) rfl ⟨rfl, ?_⟩
  exact ((((Below.refl _ _).alloc (Nat.le_refl _) _).alloc (by simp) _).alloc (by simp; omega) _)
theorem border_frac_err (n d : Int) (e : ByteArray) (w : World) (hg : ErrT w) :
    Calls Tryd.prog 53 #[.agg #[.int .i64 n, .int .i64 d], .iface 110 (.agg #[.string e])] w fun e w' => e = .returned (.tuple #[.agg #[.int .i64 0, .int .i64 0], .bool false]) ∧ Below w.heap.size w w' := by
  have hl := hg.lt
  have HG := Lib.hid hg
  clear hg
  go_enter Tryd.func53, Tryd.ntmps53
  go_wp2_with fail
  refine (as_hit_below e _ (.string ⟨#[]⟩) _ ?_ ?_ ?_ w.heap.size ?_ ?_).mono ?_
  · exact HG.out.below (((Below.refl _ _).alloc (Nat.le_refl _) _).alloc (by simp) _ |>.alloc (by simp; omega) _)
  · go_simp
  · go_simp
  · simp; omega
  · simp; omega
  · rintro e w' ⟨rfl, hb, hk, hz⟩
    have c0 : w'.cell? ⟨w.heap.size + 1, 0, none⟩ = some (.int .i64 0) := by rw [(hk _ (by simp) (by simp)).1]; go_simp
    have c1 : w'.cell? ⟨w.heap.size + 1, 1, none⟩ = some (.int .i64 0) := by rw [(hk _ (by simp) (by simp)).1]; go_simp
    have f0 : w'.frozen? ⟨w.heap.size + 1, 0, none⟩ = false := by rw [(hk _ (by simp) (by simp)).2]; go_simp
    have f1 : w'.frozen? ⟨w.heap.size + 1, 1, none⟩ = false := by rw [(hk _ (by simp) (by simp)).2]; go_simp
    have z1 : w.heap.size + 1 < w'.heap.size := by simp at hz; omega
    clear hk hz
    go_wp2
    refine bodyPost_ret (v := .tuple #[.agg #[.int .i64 0, .int .i64 0], .bool false]) (by simp [results, Tryd.results53, go_sem, c0, c1, z1]) rfl ⟨rfl, ?_⟩
    have b0 := (((((Below.refl w.heap.size w).alloc (Nat.le_refl _) (.cells #[.int .i64 n, .int .i64 d] 26)).alloc (by simp) (.cells #[.int .i64 0, .int .i64 0] 26)).alloc (by simp; omega) (.cells #[.string ⟨#[]⟩] 110)).trans hb)
    refine ((Below.setCell (Below.setCell b0 ?_ _) ?_ _)).alloc (by simp; omega) _
    all_goals (show _ ≤ _ + 1; omega)
theorem border_int_nil (x : Int) (w : World) :
    Calls Tryd.prog 56 #[.int .i64 x, .nilIface] w fun e w' => e = .returned (.tuple #[.int .i64 x, .bool true]) ∧ Below w.heap.size w w' := by
  go_enter Tryd.func56, Tryd.ntmps56
  go_wp2_with (go_at_call 81; refine (as_nil _ _).mono ?_; rintro e w' ⟨rfl, rfl⟩)
  go_ret2
  exact ⟨rfl, (Below.refl _ _).alloc (Nat.le_refl _) _⟩
theorem border_int_err (x : Int) (e : ByteArray) (w : World) (hg : ErrT w) :
    Calls Tryd.prog 56 #[.int .i64 x, .iface 110 (.agg #[.string e])] w fun e w' => e = .returned (.tuple #[.int .i64 0, .bool false]) ∧ Below w.heap.size w w' := by
  have HG := Lib.hid hg
  clear hg
  go_enter Tryd.func56, Tryd.ntmps56
  go_wp2_with fail
  refine (as_hit_below e _ (.string ⟨#[]⟩) _ ?_ ?_ ?_ w.heap.size ?_ ?_).mono ?_
  · exact HG.out.below ((Below.refl _ _).alloc (Nat.le_refl _) _)
  · go_simp
  · go_simp
  · simp
  · simp
  · rintro e w' ⟨rfl, hb, hk, hz⟩
    clear hk hz
    go_wp2
    go_ret2
    exact ⟨rfl, ((Below.refl w.heap.size w).alloc (Nat.le_refl _) _).trans hb⟩
end Go.Proofs.YtjfkkmfbgmejbabDoor
