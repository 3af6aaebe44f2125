/- Edits: the one from a text to another one; whether an edit is valid. -/
import Derived.Test.YtkaakomiimcbmaaSe2
import Derived.Deep.RegionHeld3
namespace Go.Proofs.Ytkaakomiimcbmaa
open Go.ChangeShapes Go.WideShapes Go.ChangeAt Go.RowKit Go.Deep
set_option linter.unusedSimpArgs false
set_option linter.unusedVariables false
theorem str_ne {a b : ByteArray} (h : a ≠ b) : (a.toList == b.toList) = false := by
  simp only [beq_eq_false_iff_ne, ne_eq]
  intro q
  apply h
  rw [Lib.toList_data, Lib.toList_data] at q
  exact ByteArray.ext (by simpa using q)
theorem str_em {a : ByteArray} (h : a ≠ ⟨#[]⟩) : a.toList.isEmpty = false := by
  have q := str_ne h
  rw [Lib.toList_data] at q ⊢
  cases e : a.data.toList with
  | nil => rw [e] at q; simp at q
  | cons _ _ => rfl
theorem senF_ne {a : ByteArray} (h : senF a) : a ≠ ⟨#[]⟩ := by
  rintro rfl
  have := h.1
  simp [ByteArray.size] at this
theorem senB_nil : senB ⟨#[]⟩ = false := senB_no (fun h => senF_ne h rfl)
/-- The kind of the edit from a text to another one. -/
noncomputable def kindE (a b : ByteArray) : Int := @ite _ (a = ⟨#[]⟩) (Classical.propDecidable _) 1 (@ite _ (b = ⟨#[]⟩) (Classical.propDecidable _) 2 3)
theorem kindE_1 {b : ByteArray} : kindE ⟨#[]⟩ b = 1 := by unfold kindE; rw [if_pos rfl]
theorem kindE_2 {a : ByteArray} (h : a ≠ ⟨#[]⟩) : kindE a ⟨#[]⟩ = 2 := by unfold kindE; rw [if_neg h, if_pos rfl]
theorem kindE_3 {a b : ByteArray} (h : a ≠ ⟨#[]⟩) (h' : b ≠ ⟨#[]⟩) : kindE a b = 3 := by unfold kindE; rw [if_neg h, if_neg h']
set_option maxHeartbeats 1000000 in
theorem iefrom (i : Int) (a b : ByteArray) (w : World) :
    Calls Try.prog 68 #[.int .i64 i, .string a, .string b] w fun e w' => e = .returned (.agg #[.int .i64 (kindE a b), .int .i64 i, .string a, .string b]) ∧ Below w.heap.size w w' := by
  have b1 : ∀ x, Below w.heap.size w (w.alloc x) := fun x => (Below.refl w.heap.size w).alloc (Nat.le_refl _) _
  by_cases ha : a = ⟨#[]⟩
  · subst ha
    rw [kindE_1]
    go_enter Try.func68, Try.ntmps68
    go_wp2
    refine bodyPost_ret (v := .agg #[.int .i64 1, .int .i64 i, .string ⟨#[]⟩, .string b]) (by simp [results, Try.results68, go_sem]) rfl ⟨rfl, b1 _⟩
  · have ta := str_em ha
    by_cases hb : b = ⟨#[]⟩
    · subst hb
      rw [kindE_2 ha]
      clear ha
      go_enter Try.func68, Try.ntmps68
      go_wp2
      refine bodyPost_ret (v := .agg #[.int .i64 2, .int .i64 i, .string a, .string ⟨#[]⟩]) (by simp [results, Try.results68, go_sem]) rfl ⟨rfl, b1 _⟩
    · have tb := str_em hb
      rw [kindE_3 ha hb]
      clear ha hb
      go_enter Try.func68, Try.ntmps68
      go_wp2
      refine bodyPost_ret (v := .agg #[.int .i64 3, .int .i64 i, .string a, .string b]) (by simp [results, Try.results68, go_sem]) rfl ⟨rfl, b1 _⟩
/-- Whether an edit is valid, apart from its Id. -/
def edF (e : Ed) : Prop := (e.1 = 1 ∧ e.2.2.1 = ⟨#[]⟩ ∧ senF e.2.2.2) ∨ (e.1 = 2 ∧ senF e.2.2.1 ∧ e.2.2.2 = ⟨#[]⟩) ∨ (e.1 = 3 ∧ senF e.2.2.1 ∧ senF e.2.2.2 ∧ e.2.2.1 ≠ e.2.2.2)
noncomputable def edB (e : Ed) : Bool := @decide (edF e) (Classical.propDecidable _)
theorem edB_iff {e : Ed} : edB e = true ↔ edF e := by simp [edB]
theorem edB_yes {e : Ed} (h : edF e) : edB e = true := by simp [edB, h]
theorem edB_no {e : Ed} (h : ¬ edF e) : edB e = false := by simp [edB, h]
theorem edF_alt (e : Ed) : edF e ↔ (e.2.2.1 = ⟨#[]⟩ ∨ senF e.2.2.1) ∧ (e.2.2.2 = ⟨#[]⟩ ∨ senF e.2.2.2) ∧ e.2.2.1 ≠ e.2.2.2 ∧ e.1 = kindE e.2.2.1 e.2.2.2 := by
  obtain ⟨k, i, a, b⟩ := e
  unfold edF
  simp only
  constructor
  · rintro (⟨rfl, rfl, hb⟩ | ⟨rfl, ha, rfl⟩ | ⟨rfl, ha, hb, hne⟩)
    · exact ⟨.inl rfl, .inr hb, fun h => senF_ne hb h.symm, kindE_1.symm⟩
    · exact ⟨.inr ha, .inl rfl, senF_ne ha, (kindE_2 (senF_ne ha)).symm⟩
    · exact ⟨.inr ha, .inr hb, hne, (kindE_3 (senF_ne ha) (senF_ne hb)).symm⟩
  · rintro ⟨ha, hb, hne, hk⟩
    rcases ha with rfl | ha
    · rcases hb with rfl | hb
      · exact absurd rfl hne
      · exact .inl ⟨by rw [hk, kindE_1], rfl, hb⟩
    · rcases hb with rfl | hb
      · exact .inr (.inl ⟨by rw [hk, kindE_2 (senF_ne ha)], ha, rfl⟩)
      · exact .inr (.inr ⟨by rw [hk, kindE_3 (senF_ne ha) (senF_ne hb)], ha, hb, hne⟩)
end Go.Proofs.Ytkaakomiimcbmaa
