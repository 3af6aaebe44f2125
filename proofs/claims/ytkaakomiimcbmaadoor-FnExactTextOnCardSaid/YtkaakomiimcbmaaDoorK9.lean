/- Lists of edits that a call answers: their marks held; what calls answer. -/
import Derived.Test.YtkaakomiimcbmaaDoorK8
import Derived.Deep.RegionHeld3
namespace Go.Proofs.YtkaakomiimcbmaaDoor
open Go.ChangeShapes Go.WideShapes Go.ChangeAt Go.RowKit Go.Deep
set_option linter.unusedSimpArgs false
set_option linter.unusedVariables false
theorem markD_nil (a : Option Addr) (cap : Nat) (k : Int) (w : World) :
    Calls Tryd.prog 37 #[.slice a 0 cap, .int .i64 k] w fun e w' => e = .returned (.int .i64 k) ∧ w = w' := by
  go_enter Tryd.func37, Tryd.ntmps37
  go_wp2
  go_loopg [1, 5] 0 (fun g kk i wr => kk = .int .i64 k ∧ i = .int .i64 0 ∧ w = wr)
  case atStart => exact ⟨rfl, rfl, rfl⟩
  case round =>
    obtain ⟨rfl, rfl, rfl⟩ := hrel
    go_wp2
    go_ret
    exact ⟨rfl, rfl⟩
theorem markOwD {v : Value} {l : List Ed} {w : World} {lo hi : Nat} (k : Int) (h : OwD w lo hi v l) (h1 : 0 ≤ k) (h2 : k ≤ 4000000000000) :
    Calls Tryd.prog 37 #[v, .int .i64 k] w fun e w' => (∃ r, e = .returned (.int .i64 r) ∧ k ≤ r ∧ r ≤ k + 4194304 ∧ MkD w' lo hi v k r) ∧ Kept w w' (fun b => lo ≤ b ∧ b < hi) := by
  obtain ⟨⟨rfl, rfl⟩ | ⟨c, cap, N, f, rfl, q1, q2, q3, q4, q5⟩, hl⟩ := h
  · exact (markD_nil none 0 k w).mono fun e w' ⟨he, hw⟩ => ⟨⟨k, he, by omega, by omega, .inl ⟨none, 0, rfl, rfl⟩⟩, hw ▸ Kept.refl _ _⟩
  · exact (markE c l.length cap N k w f q4 q3 hl h1 h2).mono fun e w' ⟨he, hr, hk⟩ => ⟨⟨_, he, by omega, by omega, .inr ⟨c, l.length, cap, N, _, rfl, q1, q2, q3, hl, hr, fun j hj => by rw [mkE, if_pos (by omega)], rfl⟩⟩, hk.mono (fun b e => by subst e; exact ⟨q1, q2⟩)⟩
/-- What a region that compares a text with a mark reads. -/
def Bm (w0 : World) (c o : Nat) (s : ByteArray) (w' : World) : Prop := w'.cell? ⟨c, o, none⟩ = some (.string s) ∧ Hid (Below w0.heap.size w0 w')
theorem Bm.drew {w0 w' : World} {c o : Nat} {s : ByteArray} (h : Bm w0 c o s w') : Bm w0 c o s w'.drew := ⟨h.1, Lib.hid h.2.out.drew⟩
theorem Bm.bel {w0 w' : World} {c o : Nat} {s : ByteArray} (h : Bm w0 c o s w') : Below w0.heap.size w0 w' := h.2.out
theorem Bm.below {w0 w' w'' : World} {c o : Nat} {s : ByteArray} (h : Bm w0 c o s w') (hb : Below w'.heap.size w' w'') : Bm w0 c o s w'' :=
  ⟨(hb.cell (p := ⟨c, o, none⟩) (World.block_lt_of_cell? _ _ h.1)).trans h.1, Lib.hid (h.2.out.trans (hb.mono h.2.out.size))⟩
theorem CpD.ow {w : World} {lo hi : Nat} {v : Value} {l : List Ed} (h : CpD w lo hi v l) : OwD w lo hi v l := by
  obtain ⟨rfl, h1, h2, h3⟩ := h
  exact h1.ow _ _ _ (Nat.le_refl _) h2 h3.1
theorem markCpD {v : Value} {l : List Ed} {w : World} {lo hi : Nat} (k : Int) (h : CpD w lo hi v l) (h1 : 0 ≤ k) (h2 : k ≤ 4000000000000) :
    Calls Tryd.prog 37 #[v, .int .i64 k] w fun e w' => (∃ r, e = .returned (.int .i64 r) ∧ 0 ≤ r ∧ r ≤ k + 4194304) ∧ Kept w w' (fun b => lo ≤ b ∧ b < hi) :=
  (markOwD k h.ow h1 h2).mono fun e w' ⟨⟨r, he, a, b, _⟩, hk⟩ => ⟨⟨r, he, by omega, by omega⟩, hk⟩
/-- A list of edits to be read, and a bool. -/
def PDb (m : List Ed × Bool) (w : World) (e : Ending) (w' : World) : Prop := ∃ v, e = .returned (.tuple #[v, .bool m.2]) ∧ RdD w' w.heap.size w'.heap.size v m.1 ∧ Below w.heap.size w w'
theorem PDb.out {l : List Ed} {z : Bool} {w w' : World} {e : Ending} (h : PDb (l, z) w e w') : ∃ v, e = .returned (.tuple #[v, .bool z]) ∧ RdD w' w.heap.size w'.heap.size v l ∧ Below w.heap.size w w' := h
/-- A list of edits in memory of the call's own, and a bool. -/
def QDb (m : List Ed × Bool) (w : World) (e : Ending) (w' : World) : Prop := ∃ v, e = .returned (.tuple #[v, .bool m.2]) ∧ OwD w' w.heap.size w'.heap.size v m.1 ∧ Below w.heap.size w w'
theorem QDb.out {l : List Ed} {z : Bool} {w w' : World} {e : Ending} (h : QDb (l, z) w e w') : ∃ v, e = .returned (.tuple #[v, .bool z]) ∧ OwD w' w.heap.size w'.heap.size v l ∧ Below w.heap.size w w' := h
end Go.Proofs.YtkaakomiimcbmaaDoor
