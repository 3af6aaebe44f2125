/- Articles in a world: what came in, copied, sized, compared. -/
import Derived.Test.YtkaakomiimcbmaaEd2
namespace Go.Proofs.Ytkaakomiimcbmaa
open Go.ChangeShapes Go.WideShapes Go.ChangeAt Go.RowKit Go.Deep
set_option linter.unusedSimpArgs false
set_option linter.unusedVariables false
abbrev Ar := Int × ByteArray
abbrev a0 : Ar := (0, ⟨#[]⟩)
def ArAt (w : World) (b o : Nat) (e : Ar) : Prop := w.cell? ⟨b, o, none⟩ = some (.int .i64 e.1) ∧ w.cell? ⟨b, o + 1, none⟩ = some (.string e.2)
/-- Element k of a list of articles that lies at x, each of two cells. -/
def ArgA (w : World) (x : Addr) (L : List Ar) : Prop :=
  ∀ k, k < L.length → w.cell? (x.add (k * 2)) = some (.int .i64 (L.getD k a0).1) ∧ w.cell? ⟨(x.add (k * 2)).block, (x.add (k * 2)).off + 1, none⟩ = some (.string (L.getD k a0).2)
theorem ArgA.below {w w' : World} {x : Addr} {L : List Ar} (h : ArgA w x L) (hx : 0 < L.length → x.block < w.heap.size) (hb : Below w.heap.size w w') : ArgA w' x L := fun k hk => by
  have hx := hx (by omega)
  obtain ⟨h1, h2⟩ := h k hk
  exact ⟨(hb.cell (by rw [block_add]; exact hx)).trans h1, (hb.cell (by show (x.add (k * 2)).block < _; rw [block_add]; exact hx)).trans h2⟩
def ListA (w : World) (v : Value) (L : List Ar) : Prop := (v = .slice none 0 0 ∧ L = []) ∨ ∃ (x : Addr) (cap : Nat), v = .slice (some x) L.length cap ∧ (0 < L.length → x.block < w.heap.size) ∧ ArgA w x L
theorem ListA.below {w w' : World} {v : Value} {L : List Ar} (h : ListA w v L) (hb : Below w.heap.size w w') : ListA w' v L := by
  rcases h with h | ⟨x, cap, rfl, hx, h⟩
  · exact .inl h
  · exact .inr ⟨x, cap, rfl, fun h => Nat.lt_of_lt_of_le (hx h) hb.size, h.below hx hb⟩
theorem ListA.shape {w : World} {v : Value} {L : List Ar} (h : ListA w v L) : ∃ a cap, v = .slice a L.length cap := by
  rcases h with ⟨rfl, rfl⟩ | ⟨x, cap, rfl, -, -⟩
  · exact ⟨none, 0, rfl⟩
  · exact ⟨_, cap, rfl⟩
/-- What cell j of a new row holds when the first k articles are laid. -/
def af (L : List Ar) (k : Nat) : Nat → Value := fun j =>
  if j / 2 < k then (if j % 2 = 0 then .int .i64 (L.getD (j / 2) a0).1 else .string (L.getD (j / 2) a0).2)
  else (if j % 2 = 0 then .int .i64 0 else .string ⟨#[]⟩)
/-- Articles that are read in a block, if there are any. -/
def Ax (w : World) (a : Option Addr) (L : List Ar) : Prop := 0 < L.length → ∃ b, a = some ⟨b, 0, none⟩ ∧ b < w.heap.size ∧ ∀ k, k < L.length → ArAt w b (k * 2) (L.getD k a0)
theorem Ax.below {w w' : World} {a : Option Addr} {L : List Ar} (h : Ax w a L) (hb : Below w.heap.size w w') : Ax w' a L := fun h0 => by
  obtain ⟨b, e, h1, h2⟩ := h h0
  exact ⟨b, e, Nat.lt_of_lt_of_le h1 hb.size, fun k hk => ⟨(hb.cell (p := ⟨b, k * 2, none⟩) h1).trans (h2 k hk).1, (hb.cell (p := ⟨b, k * 2 + 1, none⟩) h1).trans (h2 k hk).2⟩⟩
theorem af_step (L : List Ar) (k j : Nat) :
    (if j = k * 2 + 1 then Value.string (L.getD k a0).2 else if j = k * 2 then .int .i64 (L.getD k a0).1 else af L k j) = af L (k + 1) j := by
  unfold af
  by_cases q1 : j = k * 2 + 1
  · subst q1
    have h1 : (k * 2 + 1) / 2 = k := by omega
    have h2 : (k * 2 + 1) % 2 = 1 := by omega
    simp [h1, h2]
  by_cases q0 : j = k * 2
  · subst q0
    have h1 : (k * 2) / 2 = k := by omega
    have h2 : (k * 2) % 2 = 0 := by omega
    simp [h1, h2]
  rw [if_neg q1, if_neg q0]
  by_cases h : j / 2 < k
  · have h4 : j / 2 < k + 1 := by omega
    rw [if_pos h, if_pos h4]
  · have h4 : ¬ j / 2 < k + 1 := by omega
    rw [if_neg h, if_neg h4]
def RoomA (L : List Ar) : Prop := L.length ≤ 9223372036854775807 ∧ ∀ k, k < L.length → (L.getD k a0).2.size ≤ 9223372036854775807
def FitsA (L : List Ar) : Prop := L.length ≤ 1048576 ∧ ∀ k, k < L.length → (L.getD k a0).2.size ≤ 1048576
def szA1 (m : Nat) (left : Int) : Int := if left - m < 0 then -1 else left - m
end Go.Proofs.Ytkaakomiimcbmaa
