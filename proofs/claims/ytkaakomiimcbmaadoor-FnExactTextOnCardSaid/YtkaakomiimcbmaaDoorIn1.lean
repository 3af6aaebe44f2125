/- The edit from a text to another one, by the specification; lists of edits that are built by append. -/
import Derived.Test.YtkaakomiimcbmaaDoorK9
import Derived.Deep.AppendLies
import Derived.Laws.OwnMore
namespace Go.Proofs.YtkaakomiimcbmaaDoor
open Go.ChangeShapes Go.WideShapes Go.ChangeAt Go.RowKit Go.Deep
set_option linter.unusedSimpArgs false
set_option linter.unusedVariables false
noncomputable def stepE (i : Int) (a b : ByteArray) : Ed := @ite _ (a = b) (Classical.propDecidable _) e0 (kindE a b, i, a, b)
theorem stepE_eq (i : Int) (a : ByteArray) : stepE i a a = e0 := by unfold stepE; rw [if_pos rfl]
theorem stepE_ne {i : Int} {a b : ByteArray} (h : a ≠ b) : stepE i a b = (kindE a b, i, a, b) := by unfold stepE; rw [if_neg h]
def vE (e : Ed) : Value := .agg #[.int .i64 e.1, .int .i64 e.2.1, .string e.2.2.1, .string e.2.2.2]
theorem own_block7 {w w' : World} {base size n : Nat} {e : TypeId} {v : Value} {xs : List Value} (h : w.ownsRow base e size v n xs) (hb : ∀ g, v.ownBlock = some g → g < w.heap.size → w'.heap[g]? = w.heap[g]?) : w'.ownsRow base e size v n xs := by
  obtain ⟨h0, h | ⟨g, cap, cur, rfl, h1, h2, h3⟩⟩ := h
  · exact ⟨h0, .inl h⟩
  · exact ⟨h0, .inr ⟨g, cap, cur, rfl, h1, (hb g rfl (Array.getElem?_eq_some_iff.1 h2).1).trans h2, h3⟩⟩
/-- The cells of a list of edits. -/
def fl (L : List Ed) : List Value := (List.range (L.length * 4)).map (ec L)
theorem fl_nil : fl [] = [] := rfl
theorem fl_len (L : List Ed) : (fl L).length = L.length * 4 := by simp [fl]
theorem fl_snoc (L : List Ed) (e : Ed) : fl (L ++ [e]) = fl L ++ [.int .i64 e.1, .int .i64 e.2.1, .string e.2.2.1, .string e.2.2.2] := by
  have hl : (L ++ [e]).length * 4 = L.length * 4 + 1 + 1 + 1 + 1 := by simp; omega
  have hg : (L ++ [e]).getD L.length e0 = e := by simp [List.getD]
  unfold fl
  rw [hl, List.range_succ, List.range_succ, List.range_succ, List.range_succ]
  simp only [List.map_append, List.map_cons, List.map_nil, List.append_assoc]
  congr 1
  · refine List.map_congr_left fun j hj => ?_
    have hj : j < L.length * 4 := by simpa using hj
    have : (L ++ [e]).getD (j / 4) e0 = L.getD (j / 4) e0 := by
      simp [List.getD, List.getElem?_append_left (show j / 4 < L.length by omega)]
    unfold ec
    rw [this]
  · have a0 : L.length * 4 / 4 = L.length := by omega
    have a1 : (L.length * 4 + 1) / 4 = L.length := by omega
    have a2 : (L.length * 4 + 1 + 1) / 4 = L.length := by omega
    have a3 : (L.length * 4 + 1 + 1 + 1) / 4 = L.length := by omega
    have m0 : L.length * 4 % 4 = 0 := by omega
    have m1 : (L.length * 4 + 1) % 4 = 1 := by omega
    have m2 : (L.length * 4 + 1 + 1) % 4 = 2 := by omega
    have m3 : (L.length * 4 + 1 + 1 + 1) % 4 = 3 := by omega
    unfold ec
    rw [a0, a1, a2, a3, m0, m1, m2, m3, hg]
    rfl
/-- v has been built by append and is the list L. -/
def BldD (w : World) (base : Nat) (v : Value) (L : List Ed) : Prop := w.ownsRow base 93 4 v L.length (fl L)
theorem BldD.below {w w' : World} {base : Nat} {v : Value} {L : List Ed} (h : BldD w base v L) (hb : Below w.heap.size w w') : BldD w' base v L := by
  obtain ⟨h0, h | ⟨g, cap, cur, rfl, h1, h2, h3⟩⟩ := h
  · exact ⟨h0, .inl h⟩
  · exact ⟨h0, .inr ⟨g, cap, cur, rfl, h1, (hb.block g (Array.getElem?_eq_some_iff.1 h2).1).trans h2, h3⟩⟩
theorem BldD.done {w : World} {base hi : Nat} {v : Value} {L : List Ed} (h : BldD w base v L) (hh : w.heap.size ≤ hi) (hl : L.length ≤ 1048576) : OwD w base hi v L := by
  obtain ⟨_, h⟩ := h
  rcases h with ⟨rfl, h0⟩ | ⟨g, cap, cur, rfl, hb, hg, hn, hcap, hs, ht⟩
  · exact ⟨.inl ⟨rfl, List.eq_nil_of_length_eq_zero h0⟩, hl⟩
  · have hlt : g < w.heap.size := (Array.getElem?_eq_some_iff.1 hg).1
    refine ⟨.inr ⟨g, cap, cur.size, fun i => (cur[i]?).getD (.bool false), rfl, hb, by omega, by omega, ⟨cur, hg, rfl, fun i hi => by simp [hi]⟩, fun j hj => ?_⟩, hl⟩
    have h1 : (cur.toList.take (L.length * 4))[j]? = (fl L)[j]? := by rw [ht]
    rw [List.getElem?_take_of_lt hj, Array.getElem?_toList] at h1
    show (cur[j]?).getD (.bool false) = _
    rw [h1]
    simp [fl, hj]
end Go.Proofs.YtkaakomiimcbmaaDoor
