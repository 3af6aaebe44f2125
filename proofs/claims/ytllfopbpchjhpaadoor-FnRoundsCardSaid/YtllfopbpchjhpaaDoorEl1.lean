/- Lists of lists of numbers that came in: copied, their size. -/
import Derived.Test.YtllfopbpchjhpaaDoorKJ
namespace Go.Proofs.YtllfopbpchjhpaaDoor
open Go.ChangeShapes Go.WideShapes Go.ChangeAt Go.RowKit Go.Deep
set_option linter.unusedSimpArgs false
set_option linter.unusedVariables false
theorem ListJ.below {w w' : World} {v : Value} {L : List (List Int)} (h : ListJ w v L) (hb : Below w.heap.size w w') : ListJ w' v L := by
  rcases h with h | ⟨x, cap, rfl, hx, h⟩
  · exact .inl h
  · exact .inr ⟨x, cap, rfl, fun h => Nat.lt_of_lt_of_le (hx h) hb.size, h.below hx hb⟩
/-- What cell j of the new row holds when the first k lists are laid. -/
def jjf (L : List (List Int)) (c : Nat → Nat) (k : Nat) : Nat → Value := fun j => if j < k then .slice (some ⟨c j, 0, none⟩) (L.getD j []).length (L.getD j []).length else .slice none 0 0
/-- The first k lists of L lie copied, their row in block b, they themselves in blocks above base, each in one of its own. -/
structure CopyJ (base b : Nat) (wr : World) (L : List (List Int)) (n k : Nat) (c : Nat → Nat) : Prop where
  row : wr.rowIs b 28 n (jjf L c k)
  own : ∀ j, j < k → base < c j ∧ OwnI wr (c j) (L.getD j [])
  inj : ∀ i j, i < j → j < k → c i ≠ c j
theorem copyJ_step {base b : Nat} {wr w1 : World} {L : List (List Int)} {n k : Nat} {c : Nat → Nat} {c' : Nat} (h : CopyJ base b wr L n k c) (hb : Below wr.heap.size wr w1) (hbb : b ≤ base) (hlt : base < c') (hnew : wr.heap.size ≤ c') (ho : OwnI w1 c' (L.getD k [])) :
    CopyJ base b (w1.setCell ⟨b, k, none⟩ (.slice (some ⟨c', 0, none⟩) (L.getD k []).length (L.getD k []).length)) L n (k + 1) (fun i => if i = k then c' else c i) := by
  refine ⟨((World.rowIs.of_block h.row (hb.block b h.row.lt)).set k _).congr (fun j _ => ?_), fun j hj => ?_, fun i j hij hj => ?_⟩
  · unfold jjf
    by_cases e : j = k
    · subst e; simp
    · rw [if_neg e]
      by_cases hlt : j < k
      · rw [if_pos hlt, if_pos (by omega)]; simp [e]
      · rw [if_neg hlt, if_neg (by omega)]
  · by_cases e : j = k
    · subst e
      simp only [if_pos rfl]
      exact ⟨hlt, World.rowIs.setOther ho (by show c' ≠ b; omega) _⟩
    · rw [if_neg e]
      obtain ⟨q1, q2⟩ := h.own j (by omega)
      exact ⟨q1, World.rowIs.setOther (q2.below hb) (by show c j ≠ b; omega) _⟩
  · have hi : i ≠ k := by omega
    rw [if_neg hi]
    by_cases e : j = k
    · rw [if_pos e]
      have := World.rowIs.lt (h.own i (by omega)).2
      omega
    · rw [if_neg e]; exact h.inj i j hij (by omega)
/-- L lies copied in block b, its lists in blocks above base. -/
def Js (w : World) (base b : Nat) (L : List (List Int)) : Prop := ∃ c, CopyJ base b w L L.length L.length c
theorem Js.below {w w' : World} {base b : Nat} {L : List (List Int)} (h : Js w base b L) (hb : Below w.heap.size w w') : Js w' base b L := by
  obtain ⟨c, h⟩ := h
  exact ⟨c, World.rowIs.of_block h.row (hb.block b h.row.lt), fun j hj => ⟨(h.own j hj).1, (h.own j hj).2.below hb⟩, h.inj⟩
theorem Js.lt {w : World} {base b : Nat} {L : List (List Int)} (h : Js w base b L) : b < w.heap.size := by
  obtain ⟨c, h⟩ := h
  exact h.row.lt
/-- What is read of list k. -/
theorem Js.at {w : World} {base b : Nat} {L : List (List Int)} (h : Js w base b L) {k : Nat} (hk : k < L.length) :
    ∃ c, w.cell? ⟨b, k, none⟩ = some (.slice (some ⟨c, 0, none⟩) (L.getD k []).length (L.getD k []).length) ∧ OwnI w c (L.getD k []) := by
  obtain ⟨c, h⟩ := h
  refine ⟨c k, ?_, (h.own k hk).2⟩
  rw [h.row.cell (i := k) (by omega)]; simp [jjf, hk]
def RoomJ (L : List (List Int)) : Prop := L.length ≤ 9223372036854775807 ∧ ∀ k, k < L.length → (L.getD k []).length ≤ 9223372036854775807
theorem Js.list {w : World} {base b : Nat} {L : List (List Int)} (h : Js w base b L) (cap : Nat) : ListJ w (.slice (some ⟨b, 0, none⟩) L.length cap) L :=
  .inr ⟨_, cap, rfl, fun _ => h.lt, fun k hk => by
    obtain ⟨c, h1, h2⟩ := h.at hk
    rw [Addr.add_lit, Nat.zero_add]
    exact ⟨_, h1, h2.row _⟩⟩
theorem Js.own {w : World} {b hi : Nat} {L : List (List Int)} (h : Js w b b L) (hh : w.heap.size ≤ hi) (hf : FitsJ L) (cap : Nat) : OwJ w b hi (.slice (some ⟨b, 0, none⟩) L.length cap) L := by
  have hlt := h.lt
  obtain ⟨c, h⟩ := h
  have hf' := hf
  obtain ⟨hf1, hf2⟩ := hf'
  refine ⟨.inr ⟨b, cap, L.length, _, rfl, Nat.le_refl _, by omega, Nat.le_refl _, h.row, fun i hi => ?_, fun i hi => ?_, fun i j d hij hj => ?_⟩, hf⟩
  · obtain ⟨q1, q2⟩ := h.own i hi
    have := World.rowIs.lt q2
    simp only [jjf, hi, if_true]
    exact q2.ow _ _ _ (by omega) (by omega) (hf2 i hi)
  · obtain ⟨q1, q2⟩ := h.own i hi
    simp only [jjf, hi, if_true, Value.ownBlock]
    intro e
    have : c i = b := by simpa using e
    omega
  · have hi : i < L.length := by omega
    simp only [jjf, hi, hj, if_true, Value.ownBlock]
    intro e1 e2
    have e1 : c i = d := by simpa using e1
    have e2 : c j = d := by simpa using e2
    exact h.inj i j hij hj (by omega)
end Go.Proofs.YtllfopbpchjhpaaDoor
