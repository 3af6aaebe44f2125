/- Marks written into the call's own lists and read back. -/
import Derived.Test.YtkaakomiimcbmaaDoorVp3
namespace Go.Proofs.YtkaakomiimcbmaaDoor
open Go.ChangeShapes Go.WideShapes Go.ChangeAt Go.RowKit Go.Deep
set_option linter.unusedSimpArgs false
set_option linter.unusedVariables false
/-- All blocks outside S are as they were. -/
structure Kept (w w' : World) (S : Nat → Prop) : Prop where
  os : w'.os = w.os
  tape : w'.tape = w.tape
  output : w'.output = w.output
  size : w.heap.size ≤ w'.heap.size
  block : ∀ b, b < w.heap.size → ¬ S b → w'.heap[b]? = w.heap[b]?
theorem Kept.refl (w : World) (S : Nat → Prop) : Kept w w S := ⟨rfl, rfl, rfl, Nat.le_refl _, fun _ _ _ => rfl⟩
theorem Kept.trans {a b c : World} {S : Nat → Prop} (h : Kept a b S) (k : Kept b c S) : Kept a c S :=
  ⟨k.os.trans h.os, k.tape.trans h.tape, k.output.trans h.output, Nat.le_trans h.size k.size, fun i hi hs => (k.block i (Nat.lt_of_lt_of_le hi h.size) hs).trans (h.block i hi hs)⟩
theorem Kept.mono {w w' : World} {S T : Nat → Prop} (h : Kept w w' S) (hs : ∀ b, S b → T b) : Kept w w' T :=
  ⟨h.os, h.tape, h.output, h.size, fun b hb ht => h.block b hb (fun s => ht (hs b s))⟩
theorem Kept.below {w w' : World} {S : Nat → Prop} {B : Nat} (h : Kept w w' S) (hB : B ≤ w.heap.size) (hs : ∀ b, S b → B ≤ b) : Below B w w' :=
  ⟨h.os, h.tape, h.output, h.size, fun b hb => h.block b (Nat.lt_of_lt_of_le hb hB) (fun s => absurd (hs b s) (by omega))⟩
theorem Kept.set (w : World) (a : Addr) (v : Value) {S : Nat → Prop} (h : S a.block) : Kept w (w.setCell a v) S :=
  ⟨rfl, rfl, rfl, by simp [World.setCell], fun b _ hb => Below.heap_setCell _ _ _ _ (fun e => hb (e ▸ h))⟩
theorem Kept.row {w w' : World} {S : Nat → Prop} (h : Kept w w' S) {b t n : Nat} {f : Nat → Value} (hr : w.rowIs b t n f) (hb : ¬ S b) : w'.rowIs b t n f := hr.of_block (h.block b hr.lt hb)
/-- A row of numbers of the call's own, whatever they are. -/
def SomeI (w : World) (c n : Nat) : Prop := ∃ f, w.rowIs c 2 n f
def mkf (f : Nat → Value) (k : Int) (m : Nat) : Nat → Value := fun i => if i < m then .int .i64 (k + i) else f i
set_option maxRecDepth 100000 in
theorem markI (c n cap : Nat) (k : Int) (w : World) (h : SomeI w c n) (hn : n ≤ 1048576) (h1 : 0 ≤ k) (h2 : k ≤ 4000000000000) :
    Calls Tryd.prog 15 #[.slice (some ⟨c, 0, none⟩) n cap, .int .i64 k] w fun e w' => e = .returned (.int .i64 (k + n)) ∧ w'.rowIs c 2 n (fun i => .int .i64 (k + i)) ∧ Kept w w' (fun b => b = c) := by
  obtain ⟨f, h⟩ := h
  go_enter Tryd.func15, Tryd.ntmps15
  go_wp2
  go_loopg [1, 5] n (fun g kk i wr => ∃ m : Nat, m ≤ n ∧ g = n - m ∧ kk = .int .i64 (k + m) ∧ i = .int .i64 m ∧ wr.rowIs c 2 n (mkf f k m) ∧ Kept w wr (fun b => b = c))
  case atStart => exact ⟨0, Nat.zero_le _, rfl, by simp, rfl, h.congr (fun i _ => by simp [mkf]), Kept.refl _ _⟩
  case round =>
    obtain ⟨m, hm, rfl, rfl, rfl, hr, hk⟩ := hrel
    by_cases hlt : m < n
    · have c1 : wr.cell? ⟨c, m, none⟩ = some (mkf f k m m) := hr.cell hlt
      have f1 : wr.frozen? ⟨c, m, none⟩ = false := hr.frozen m
      have wk : IntKind.i64.wrap (k + (m : Int)) = k + m := by rw [IntKind.wrap_i64]; omega
      have wk1 : IntKind.i64.wrap (k + (m : Int) + 1) = k + m + 1 := by rw [IntKind.wrap_i64]; omega
      go_wp2
      go_roundg (n - (m + 1))
      case measure => omega
      case rel =>
        refine ⟨m + 1, by omega, rfl, by congr 1; simp; omega, by simp, (hr.set m _).congr (fun i _ => ?_), hk.trans (Kept.set _ _ _ rfl)⟩
        unfold mkf
        by_cases e : i = m
        · subst e; simp
        · rw [if_neg e]
          by_cases hi : i < m
          · rw [if_pos hi, if_pos (by omega)]
          · rw [if_neg hi, if_neg (by omega)]
    · have e : m = n := by omega
      subst e
      go_wp2
      go_ret
      exact ⟨rfl, hr.congr (fun i hi => by simp [mkf, hi]), hk⟩
set_option maxRecDepth 100000 in
theorem markI_nil (a : Option Addr) (cap : Nat) (k : Int) (w : World) :
    Calls Tryd.prog 15 #[.slice a 0 cap, .int .i64 k] w fun e w' => e = .returned (.int .i64 k) ∧ w = w' := by
  go_enter Tryd.func15, Tryd.ntmps15
  go_wp2
  go_loopg [1, 5] 0 (fun g kk i wr => kk = .int .i64 k ∧ i = .int .i64 0 ∧ w = wr)
  case atStart => exact ⟨rfl, rfl, rfl⟩
  case round =>
    obtain ⟨rfl, rfl, rfl⟩ := hrel
    go_wp2
    go_ret
    exact ⟨rfl, rfl⟩
set_option maxRecDepth 100000 in
theorem heldI (c n cap : Nat) (k : Int) (w : World) (h : w.rowIs c 2 n (fun i => .int .i64 (k + i))) (hn : n ≤ 1048576) (h1 : 0 ≤ k) (h2 : k ≤ 4000000000000) :
    Calls Tryd.prog 16 #[.slice (some ⟨c, 0, none⟩) n cap, .int .i64 k] w fun e w' => e = .returned (.int .i64 (k + n)) ∧ w = w' := by
  go_enter Tryd.func16, Tryd.ntmps16
  go_wp2
  go_loopg [1, 5] n (fun g kk i wr => ∃ m : Nat, m ≤ n ∧ g = n - m ∧ kk = .int .i64 (k + m) ∧ i = .int .i64 m ∧ w = wr)
  case atStart => exact ⟨0, Nat.zero_le _, rfl, by simp, rfl, rfl⟩
  case round =>
    obtain ⟨m, hm, rfl, rfl, rfl, rfl⟩ := hrel
    by_cases hlt : m < n
    · have c1 : w.cell? ⟨c, m, none⟩ = some (.int .i64 (k + m)) := h.cell hlt
      have wk : IntKind.i64.wrap (k + (m : Int)) = k + m := by rw [IntKind.wrap_i64]; omega
      have wk1 : IntKind.i64.wrap (k + (m : Int) + 1) = k + m + 1 := by rw [IntKind.wrap_i64]; omega
      go_wp2
      go_roundg (n - (m + 1))
      case measure => omega
      case rel => exact ⟨m + 1, by omega, rfl, by congr 1; simp; omega, by simp, rfl⟩
    · have e : m = n := by omega
      subst e
      go_wp2
      go_ret
      exact ⟨rfl, rfl⟩
set_option maxRecDepth 100000 in
theorem heldI_nil (a : Option Addr) (cap : Nat) (k : Int) (w : World) :
    Calls Tryd.prog 16 #[.slice a 0 cap, .int .i64 k] w fun e w' => e = .returned (.int .i64 k) ∧ w = w' := by
  go_enter Tryd.func16, Tryd.ntmps16
  go_wp2
  go_loopg [1, 5] 0 (fun g kk i wr => kk = .int .i64 k ∧ i = .int .i64 0 ∧ w = wr)
  case atStart => exact ⟨rfl, rfl, rfl⟩
  case round =>
    obtain ⟨rfl, rfl, rfl⟩ := hrel
    go_wp2
    go_ret
    exact ⟨rfl, rfl⟩
end Go.Proofs.YtkaakomiimcbmaaDoor
