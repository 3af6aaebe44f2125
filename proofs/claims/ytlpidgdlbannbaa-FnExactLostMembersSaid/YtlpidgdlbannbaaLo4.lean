/- The specification's costs: which are not negative. Plain mathematics. -/
import Derived.Test.YtlpidgdlbannbaaLo3
namespace Go.Proofs.Ytlpidgdlbannbaa
open Go.ChangeShapes Go.WideShapes Go.ChangeAt Go.RowKit Go.Deep
set_option linter.unusedSimpArgs false
set_option linter.unusedVariables false
def cntV (n : Nat) (A : Nat → Bool) : Nat := ((List.range n).filter A).length
theorem cntV_le (n : Nat) (A : Nat → Bool) : cntV n A ≤ n := by
  have := List.length_filter_le A (List.range n)
  unfold cntV
  simpa using this
theorem cntV_lt {n : Nat} {A B : Nat → Bool} (h : ∀ j, j < n → A j = true → B j = true) {j : Nat} (hj : j < n) (h1 : A j = false) (h2 : B j = true) : cntV n A + 1 ≤ cntV n B := by
  have hs : (j :: (List.range n).filter A) ⊆ (List.range n).filter B := by
    intro x hx
    rcases List.mem_cons.1 hx with rfl | hx
    · simp [hj, h2]
    · simp only [List.mem_filter, List.mem_range] at hx ⊢
      exact ⟨hx.1, h x hx.1 hx.2⟩
  have hn : (j :: (List.range n).filter A).Nodup := by
    rw [List.nodup_cons]
    exact ⟨by simp [h1], (List.nodup_range).sublist List.filter_sublist⟩
  have := hn.length_le_of_subset hs
  simpa [cntV] using this
/-- A ballot of member j can be settled. -/
def Can (L : List Vc) (j : Nat) : Prop := ∃ e : Nat, e < L.length ∧ sp L (e : Int) = true ∧ Rch (nxV L) [(j : Int)] (e : Int)
theorem lost_iff {L : List Vc} {j : Nat} : lostP L j ↔ ¬ Can L j := by
  unfold lostP endL Can
  rw [List.filter_eq_nil_iff]
  constructor
  · rintro h ⟨e, he, hs, hr⟩
    exact h (e : Int) (rchV_mem.2 ⟨e, he, hr, rfl⟩) hs
  · intro h x hx hs
    obtain ⟨i, hi, hr, rfl⟩ := rchV_mem.1 hx
    exact h ⟨i, hi, hs, hr⟩
theorem rch_trans {nx : Int → List Int} {x y z : Int} (h : Rch nx [y] z) (hy : y ∈ nx x) : Rch nx [x] z := h _ (fun q hq => by
  have hq : q = y := by simpa using hq
  subst hq
  exact (Rch.base (by simp)).step hy) (fun a b ha hb => ha.step hb)
structure Mrk (L : List Vc) (A : Nat → Bool) (r : Nat) : Prop where
  base : ∀ j, j < L.length → sp L (j : Int) = true → A j = true
  sound : ∀ j, j < L.length → A j = true → Can L j
  far : (∀ j, j < L.length → Can L j → A j = true) ∨ r ≤ cntV L.length A
structure Rnv (L : List Vc) (A0 A : Nat → Bool) (i k : Nat) : Prop where
  sub : ∀ j, j < L.length → A0 j = true → A j = true
  sound : ∀ j, j < L.length → A j = true → Can L j
  past : ∀ i' k', i' < L.length → k' < (nxV L (i' : Int)).length → (i' < i ∨ (i' = i ∧ k' < k)) → A0 ((nxV L (i' : Int)).getD k' 0).toNat = true → A i' = true
theorem Mrk.begin {L : List Vc} {A : Nat → Bool} {r : Nat} (h : Mrk L A r) : Rnv L A A 0 0 := ⟨fun j _ h => h, h.sound, fun i' k' _ _ h => by omega⟩
theorem Rnv.row {L : List Vc} {A0 A : Nat → Bool} {i k : Nat} (h : Rnv L A0 A i k) (hk : (nxV L (i : Int)).length ≤ k) : Rnv L A0 A (i + 1) 0 :=
  ⟨h.sub, h.sound, fun i' k' h1 h2 h3 h4 => by
    by_cases e : i' = i
    · subst e; exact h.past i' k' h1 h2 (.inr ⟨rfl, by omega⟩) h4
    · exact h.past i' k' h1 h2 (by omega) h4⟩
theorem Rnv.skip {L : List Vc} {A0 A : Nat → Bool} {i k : Nat} (h : Rnv L A0 A i k) (hi : i < L.length) (ht : ((nxV L (i : Int)).getD k 0).toNat < L.length) (hs : A ((nxV L (i : Int)).getD k 0).toNat = false ∨ A i = true) : Rnv L A0 A i (k + 1) :=
  ⟨h.sub, h.sound, fun i' k' h1 h2 h3 h4 => by
    by_cases e : i' = i ∧ k' = k
    · obtain ⟨rfl, rfl⟩ := e
      rcases hs with hs | hs
      · rw [h.sub _ ht h4] at hs; cases hs
      · exact hs
    · exact h.past i' k' h1 h2 (by omega) h4⟩
theorem Rnv.mark {L : List Vc} {A0 A A' : Nat → Bool} {i k : Nat} (h : Rnv L A0 A i k) (hi : i < L.length) (hk : k < (nxV L (i : Int)).length) (hr : ∀ z ∈ nxV L (i : Int), 0 ≤ z ∧ z < (L.length : Int)) (h1 : A ((nxV L (i : Int)).getD k 0).toNat = true) (hA : ∀ j, j < L.length → A' j = if j = i then true else A j) : Rnv L A0 A' i (k + 1) := by
  have hz := mem_getD hk
  obtain ⟨z1, z2⟩ := hr _ hz
  obtain ⟨t, ht⟩ : ∃ t : Nat, (nxV L (i : Int)).getD k 0 = t := ⟨((nxV L (i : Int)).getD k 0).toNat, by omega⟩
  rw [ht] at h1 z2 hz
  refine ⟨fun j hj h0 => ?_, fun j hj ha => ?_, fun i' k' q1 q2 q3 q4 => ?_⟩
  · rw [hA j hj]; split
    · rfl
    · exact h.sub j hj h0
  · rw [hA j hj] at ha
    by_cases e : j = i
    · subst e
      obtain ⟨e, he, hs, hrc⟩ := h.sound t (by omega) (by simpa using h1)
      exact ⟨e, he, hs, rch_trans hrc hz⟩
    · rw [if_neg e] at ha; exact h.sound j hj ha
  · rw [hA i' q1]; split
    · rfl
    · exact h.past i' k' q1 q2 (by omega) q4
theorem Rnv.done {L : List Vc} {A0 A : Nat → Bool} {r : Nat} (h : Rnv L A0 A L.length 0) (h0 : Mrk L A0 r) (hok : okL L) : Mrk L A (r + 1) := by
  refine ⟨fun j hj hs => h.sub j hj (h0.base j hj hs), h.sound, ?_⟩
  by_cases hall : ∀ j, j < L.length → A j = true → A0 j = true
  · left
    rintro j hj ⟨e, he, hs, hR⟩
    refine Classical.byContradiction fun hA => ?_
    have hA : A j = false := by simpa using hA
    have := hR (fun x => 0 ≤ x ∧ x < (L.length : Int) ∧ A x.toNat = false) (fun y hy => by
      have hy : y = (j : Int) := by simpa using hy
      subst hy
      exact ⟨by omega, by omega, by simpa using hA⟩) (fun y z ⟨q1, q2, q3⟩ hz => by
      obtain ⟨i, rfl⟩ : ∃ i : Nat, y = i := ⟨y.toNat, by omega⟩
      have hi : i < L.length := by omega
      obtain ⟨z1, z2⟩ := nxV_rng hok hi z hz
      refine ⟨z1, z2, ?_⟩
      simp only [Int.toNat_natCast] at q3
      cases e9 : A z.toNat with
      | false => rfl
      | true =>
        obtain ⟨p, hp, hpz⟩ := getD_of_mem hz
        have := h.past i p hi hp (.inl hi) (by rw [hpz]; exact hall _ (by omega) e9)
        rw [this] at q3; cases q3)
    have h9 := h.sub e he (h0.base e he hs)
    simp only [Int.toNat_natCast] at this
    rw [this.2.2] at h9; cases h9
  · rcases h0.far with hf | hf
    · exact .inl fun j hj hR => h.sub j hj (hf j hj hR)
    · right
      have : ∃ j, j < L.length ∧ A j = true ∧ A0 j = false := by
        refine Classical.byContradiction fun hno => hall fun j hj ha => ?_
        cases e : A0 j with
        | true => rfl
        | false => exact absurd ⟨j, hj, ha, e⟩ hno
      obtain ⟨j, hj, h1, h2⟩ := this
      have := cntV_lt h.sub hj h2 h1
      omega
theorem Mrk.result {L : List Vc} {A : Nat → Bool} (h : Mrk L A L.length) {j : Nat} (hj : j < L.length) : A j = true ↔ Can L j := by
  refine ⟨h.sound j hj, fun hR => ?_⟩
  rcases h.far with hf | hf
  · exact hf j hj hR
  · cases e : A j with
    | true => rfl
    | false =>
      have := cntV_lt (n := L.length) (A := A) (B := fun _ => true) (fun _ _ _ => rfl) hj e rfl
      have := cntV_le L.length (fun _ => true)
      omega
theorem Mrk.start {L : List Vc} {A : Nat → Bool} (hA : ∀ j, j < L.length → A j = sp L (j : Int)) : Mrk L A 0 :=
  ⟨fun j hj hs => by rw [hA j hj]; exact hs, fun j hj ha => ⟨j, hj, by rw [← hA j hj]; exact ha, Rch.base (by simp)⟩, .inr (Nat.zero_le _)⟩
end Go.Proofs.Ytlpidgdlbannbaa
