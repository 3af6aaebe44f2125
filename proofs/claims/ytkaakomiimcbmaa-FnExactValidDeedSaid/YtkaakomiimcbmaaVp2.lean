/- What the program's look at a path says, in the specification's words; the program's RanksOf by its contract. -/
import Derived.Test.YtkaakomiimcbmaaVp1
namespace Go.Proofs.Ytkaakomiimcbmaa
open Go.ChangeShapes Go.WideShapes Go.ChangeAt Go.RowKit Go.Deep
set_option linter.unusedSimpArgs false
set_option linter.unusedVariables false
theorem hole : ∀ (n : Nat) (p : List Int), p.Nodup → (∀ x ∈ p, 0 ≤ x ∧ x < (n : Int)) → p.length ≤ n := by
  intro n
  induction n with
  | zero =>
    intro p _ h
    cases p with
    | nil => simp
    | cons a r => have := h a (by simp); omega
  | succ n ih =>
    intro p hp h
    by_cases hm : (n : Int) ∈ p
    · have h1 := ih (p.erase n) (hp.erase _) (fun x hx => by
        have h2 := (List.Nodup.mem_erase_iff hp).1 hx
        have h3 := h x h2.2
        have h4 := h2.1
        omega)
      rw [List.length_erase_of_mem hm] at h1
      omega
    · have h1 := ih p hp (fun x hx => by
        have h3 := h x hx
        have h4 : x ≠ n := fun e => hm (e ▸ hx)
        omega)
      omega
theorem getD_of {p : List Int} {i : Nat} (h : i < p.length) : p.getD i 0 = p[i] := by simp [List.getD, h]
theorem diff_len {n : Nat} {p : List Int} (h : allDiff n p) : p.length ≤ n := by
  refine hole n p ?_ (fun x hx => ?_)
  · rw [List.nodup_iff_pairwise_ne, List.pairwise_iff_getElem]
    intro i j hi hj hij e
    have := (h j hj).2.2
    rw [getD_of hj, ← e] at this
    exact this (List.mem_take_iff_getElem.2 ⟨i, by omega, rfl⟩)
  · obtain ⟨j, hj, e⟩ := List.mem_iff_getElem.1 hx
    have := h j hj
    rw [getD_of hj, e] at this
    exact ⟨this.1, this.2.1⟩
/-- Step i of a path goes from one who is silent to one whom it trusts. -/
def hop (L : List Vc) (p : List Int) (i : Nat) : Prop := (vAt L (p.getD i 0)).1 = false ∧ p.getD (i + 1) 0 ∈ (vAt L (p.getD i 0)).2
theorem path_iff {L : List Vc} {p : List Int} : pathOk L p ↔ 1 ≤ p.length ∧ allDiff L.length p ∧ (vAt L (p.getD (p.length - 1) 0)).1 = true ∧ ∀ i, i < p.length - 1 → hop L p i := by
  constructor
  · rintro ⟨h1, h2, h3⟩
    refine ⟨h1, fun m hm => ?_, ?_, fun i hi => ?_⟩
    · obtain ⟨a, b, _⟩ := h3 m hm
      exact ⟨a.1, by omega, b⟩
    · rw [(h3 (p.length - 1) (by omega)).2.2.1]
      simp; omega
    · constructor
      · rw [(h3 i (by omega)).2.2.1]
        simp; omega
      · have := (h3 (i + 1) (by omega)).2.2.2 (by omega)
        simpa using this
  · rintro ⟨h1, h2, h3, h4⟩
    refine ⟨h1, diff_len h2, fun m hm => ?_⟩
    obtain ⟨a, b, c⟩ := h2 m hm
    refine ⟨⟨a, by omega⟩, c, ?_, fun hp => ?_⟩
    · by_cases e : m = p.length - 1
      · subst e
        rw [h3]; symm; simp; omega
      · rw [(h4 m (by omega)).1]; symm; simp; omega
    · have := (h4 (m - 1) (by omega)).2
      rwa [show m - 1 + 1 = m by omega] at this
/-- The ranks of a path. -/
def rkL (L : List Vc) (p : List Int) : List Int := (List.range (p.length - 1)).map fun i => ix (vAt L (p.getD i 0)).2 (p.getD (i + 1) 0) + 1
theorem rkL_len (L : List Vc) (p : List Int) : (rkL L p).length = p.length - 1 := by simp [rkL]
theorem rkL_at (L : List Vc) (p : List Int) {k : Nat} (h : k < p.length - 1) : (rkL L p).getD k 0 = ix (vAt L (p.getD k 0)).2 (p.getD (k + 1) 0) + 1 := by simp [rkL, List.getD, h]
noncomputable def pB (L : List Vc) (p : List Int) : Bool := okLB L && pathB L p
/-- What RanksOf hands back. -/
def rkPost (L : List Vc) (p : List Int) (w : World) (e : Ending) (w' : World) : Prop :=
  (if pB L p = true then ∃ c, w.heap.size ≤ c ∧ e = .returned (.tuple #[.slice (some ⟨c, 0, none⟩) (p.length - 1) (p.length - 1), .bool true]) ∧ OwnI w' c (rkL L p) else e = .returned (.tuple #[.slice none 0 0, .bool false])) ∧ Below w.heap.size w w'
theorem rk_no {L : List Vc} {p : List Int} {w w' : World} (h : ¬ (okL L ∧ pathOk L p)) (hb : Below w.heap.size w w') : rkPost L p w (.returned (.tuple #[.slice none 0 0, .bool false])) w' := by
  have : pB L p = false := by
    unfold pB okLB pathB
    by_cases a : okL L
    · by_cases b : pathOk L p
      · exact absurd ⟨a, b⟩ h
      · simp [b]
    · simp [a]
  unfold rkPost
  rw [this]
  exact ⟨rfl, hb⟩
end Go.Proofs.Ytkaakomiimcbmaa
