/- Patches as lists: sorted by their Ids; what two of them share. No program in sight. -/
import Derived.Test.YtkpnkaihehneiaaDoorIn2
namespace Go.Proofs.YtkpnkaihehneiaaDoor
open Go.ChangeShapes Go.WideShapes Go.ChangeAt Go.RowKit Go.Deep
set_option linter.unusedSimpArgs false
set_option linter.unusedVariables false
theorem sorted_ext : ∀ (l l' : List Int), l.Pairwise (· < ·) → l'.Pairwise (· < ·) → (∀ x, x ∈ l ↔ x ∈ l') → l = l' := by
  intro l
  induction l with
  | nil =>
    intro l' _ _ h
    cases l' with
    | nil => rfl
    | cons a t => exact absurd ((h a).2 (by simp)) (by simp)
  | cons a t ih =>
    intro l' hs hs' h
    cases l' with
    | nil => exact absurd ((h a).1 (by simp)) (by simp)
    | cons b t' =>
      rw [List.pairwise_cons] at hs hs'
      have hab : a = b := by
        have h1 : a ∈ b :: t' := (h a).1 (by simp)
        have h2 : b ∈ a :: t := (h b).2 (by simp)
        rcases List.mem_cons.1 h1 with e | e
        · exact e
        · rcases List.mem_cons.1 h2 with e' | e'
          · exact e'.symm
          · have := hs.1 b e'
            have := hs'.1 a e
            omega
      subst hab
      have ht : t = t' := ih t' hs.2 hs'.2 fun x => by
        constructor
        · intro hx
          rcases List.mem_cons.1 ((h x).1 (List.mem_cons_of_mem _ hx)) with e | e
          · have := hs.1 x hx; omega
          · exact e
        · intro hx
          rcases List.mem_cons.1 ((h x).2 (List.mem_cons_of_mem _ hx)) with e | e
          · have := hs'.1 x hx; omega
          · exact e
      rw [ht]
theorem pat_lt {L : List Ed} (h : ∀ k, k < L.length → pat1 L k) : ∀ j i, i < j → j < L.length → (L.getD i e0).2.1 < (L.getD j e0).2.1 := by
  intro j
  induction j with
  | zero => intro i hi; omega
  | succ j ih =>
    intro i hi hj
    have h1 := (h (j + 1) hj).2.2 (by omega)
    rw [Nat.add_sub_cancel] at h1
    by_cases e : i = j
    · subst e; exact h1
    · have := ih i (by omega) (by omega); omega
/-- The Ids increase. -/
def incs (L : List Ed) : Prop := (L.map (fun e => e.2.1)).Pairwise (· < ·)
theorem pat_incs {L : List Ed} (h : ∀ k, k < L.length → pat1 L k) : incs L := by
  unfold incs
  rw [List.pairwise_iff_getElem]
  intro i j hi hj hij
  simp only [List.length_map] at hi hj
  have := pat_lt h j i hij hj
  simpa [List.getD, hi, hj] using this
theorem incs_cons {e : Ed} {L : List Ed} : incs (e :: L) ↔ (∀ x ∈ L, e.2.1 < x.2.1) ∧ incs L := by
  unfold incs
  rw [List.map_cons, List.pairwise_cons]
  constructor
  · rintro ⟨h1, h2⟩; exact ⟨fun x hx => h1 _ (List.mem_map_of_mem hx), h2⟩
  · rintro ⟨h1, h2⟩
    refine ⟨fun y hy => ?_, h2⟩
    obtain ⟨x, hx, rfl⟩ := List.mem_map.1 hy
    exact h1 x hx
theorem incs_filter {L : List Ed} (h : incs L) (p : Ed → Bool) : incs (L.filter p) := by
  induction L with
  | nil => exact h
  | cons e t ih =>
    rw [incs_cons] at h
    rw [List.filter_cons]
    split
    · rw [incs_cons]
      exact ⟨fun x hx => h.1 x ((List.mem_filter.1 hx).1), ih h.2⟩
    · exact ih h.2
theorem incs_inj {L : List Ed} (h : incs L) {x y : Ed} (hx : x ∈ L) (hy : y ∈ L) (e : x.2.1 = y.2.1) : x = y := by
  induction L with
  | nil => cases hx
  | cons a t ih =>
    rw [incs_cons] at h
    rcases List.mem_cons.1 hx with rfl | hx'
    · rcases List.mem_cons.1 hy with rfl | hy'
      · rfl
      · have := h.1 y hy'; omega
    · rcases List.mem_cons.1 hy with rfl | hy'
      · have := h.1 x hx'; omega
      · exact ih h.2 hx' hy'
/-- The first edit with an Id. -/
def fnd (L : List Ed) (y : Int) : Option Ed := L.find? (fun e => e.2.1 == y)
theorem fnd_some {L : List Ed} {y : Int} {e : Ed} (h : fnd L y = some e) : e ∈ L ∧ e.2.1 = y := by
  unfold fnd at h
  exact ⟨List.mem_of_find?_eq_some h, by simpa using List.find?_some h⟩
theorem fnd_none {L : List Ed} {y : Int} : fnd L y = none ↔ ∀ e ∈ L, e.2.1 ≠ y := by
  unfold fnd
  rw [List.find?_eq_none]
  simp
theorem fnd_of_mem {L : List Ed} (h : incs L) {e : Ed} (he : e ∈ L) : fnd L e.2.1 = some e := by
  cases hf : fnd L e.2.1 with
  | none => exact absurd rfl (fnd_none.1 hf e he)
  | some x =>
    obtain ⟨h1, h2⟩ := fnd_some hf
    rw [incs_inj h h1 he h2]
/-- The last edit with an Id. -/
def lst (L : List Ed) (y : Int) : Option Ed := L.reverse.find? (fun e => e.2.1 == y)
theorem lst_nil (y : Int) : lst [] y = none := rfl
theorem lst_snoc (L : List Ed) (e : Ed) (y : Int) : lst (L ++ [e]) y = if e.2.1 = y then some e else lst L y := by
  unfold lst
  rw [List.reverse_append, List.reverse_cons, List.reverse_nil, List.nil_append, List.singleton_append, List.find?_cons]
  by_cases h : e.2.1 = y
  · simp [h]
  · have : (e.2.1 == y) = false := by simpa using h
    simp [this, h]
theorem lst_some {L : List Ed} {y : Int} {e : Ed} (h : lst L y = some e) : e ∈ L ∧ e.2.1 = y := by
  unfold lst at h
  exact ⟨by simpa using List.mem_of_find?_eq_some h, by simpa using List.find?_some h⟩
theorem lst_none {L : List Ed} {y : Int} : lst L y = none ↔ ∀ e ∈ L, e.2.1 ≠ y := by
  unfold lst
  rw [List.find?_eq_none]
  simp
theorem lst_fnd {L : List Ed} (h : incs L) (y : Int) : lst L y = fnd L y := by
  cases hf : fnd L y with
  | none => exact lst_none.2 (fnd_none.1 hf)
  | some e =>
    obtain ⟨h1, h2⟩ := fnd_some hf
    cases hl : lst L y with
    | none => exact absurd h2 (lst_none.1 hl e h1)
    | some e' =>
      obtain ⟨h3, h4⟩ := lst_some hl
      rw [incs_inj h h3 h1 (by omega)]
/-- The Ids that an edit x of P and an edit y of Q have for which a condition holds. -/
def shd (P Q : List Ed) (c : Ed → Ed → Bool) : List Int := (Q.filter fun y => match lst P y.2.1 with | some x => c x y | none => false).map fun y => y.2.1
theorem shd_incs {P Q : List Ed} (h : incs Q) (c : Ed → Ed → Bool) : (shd P Q c).Pairwise (· < ·) := incs_filter h _
theorem shd_mem {P Q : List Ed} {c : Ed → Ed → Bool} {i : Int} : i ∈ shd P Q c ↔ ∃ y ∈ Q, y.2.1 = i ∧ ∃ x, lst P i = some x ∧ c x y = true := by
  unfold shd
  rw [List.mem_map]
  constructor
  · rintro ⟨y, hy, rfl⟩
    rw [List.mem_filter] at hy
    obtain ⟨h1, h2⟩ := hy
    refine ⟨y, h1, rfl, ?_⟩
    cases hl : lst P y.2.1 with
    | none => rw [hl] at h2; cases h2
    | some x => rw [hl] at h2; exact ⟨x, rfl, h2⟩
  · rintro ⟨y, h1, rfl, x, h2, h3⟩
    refine ⟨y, ?_, rfl⟩
    rw [List.mem_filter]
    exact ⟨h1, by simp only [h2]; exact h3⟩
/-- The Ids of the edits of P that Q has otherwise. -/
noncomputable def cfl (P Q : List Ed) : List Int := (P.filter fun x => match fnd Q x.2.1 with | some y => @decide (y ≠ x) (Classical.propDecidable _) | none => false).map fun x => x.2.1
noncomputable def neE (x y : Ed) : Bool := @decide (x ≠ y) (Classical.propDecidable _)
theorem cfl_mem {P Q : List Ed} {i : Int} : i ∈ cfl P Q ↔ ∃ x ∈ P, x.2.1 = i ∧ ∃ y, fnd Q i = some y ∧ y ≠ x := by
  unfold cfl
  rw [List.mem_map]
  constructor
  · rintro ⟨x, hx, rfl⟩
    rw [List.mem_filter] at hx
    obtain ⟨h1, h2⟩ := hx
    refine ⟨x, h1, rfl, ?_⟩
    cases hl : fnd Q x.2.1 with
    | none => rw [hl] at h2; cases h2
    | some y => rw [hl] at h2; exact ⟨y, rfl, by simpa using h2⟩
  · rintro ⟨x, h1, rfl, y, h2, h3⟩
    refine ⟨x, ?_, rfl⟩
    rw [List.mem_filter]
    exact ⟨h1, by simp only [h2]; simpa using h3⟩
theorem cfl_shd {P Q : List Ed} (hP : incs P) (hQ : incs Q) : cfl P Q = shd P Q neE := by
  refine sorted_ext _ _ (incs_filter hP _) (shd_incs hQ _) fun i => ?_
  rw [cfl_mem, shd_mem]
  constructor
  · rintro ⟨x, hx, rfl, y, hy, hne⟩
    obtain ⟨h1, h2⟩ := fnd_some hy
    refine ⟨y, h1, h2, x, ?_, ?_⟩
    · rw [lst_fnd hP, fnd_of_mem hP hx]
    · simp only [neE, decide_eq_true_eq]; exact fun e => hne e.symm
  · rintro ⟨y, hy, rfl, x, hx, hc⟩
    obtain ⟨h1, h2⟩ := lst_some hx
    refine ⟨x, h1, h2, y, fnd_of_mem hQ hy, ?_⟩
    simp only [neE, decide_eq_true_eq] at hc
    exact fun e => hc e.symm
end Go.Proofs.YtkpnkaihehneiaaDoor
