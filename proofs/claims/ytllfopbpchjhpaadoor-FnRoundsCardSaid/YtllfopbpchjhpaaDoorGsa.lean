/- Several of this claim's texts in one: Gs3, Gs4. -/
import Derived.Test.YtllfopbpchjhpaaDoorGzb
import Derived.Deep.DeepCutAuto
import Derived.BigRegion
/- The specification's graph of a frame: l08Of. -/
namespace Go.Proofs.YtllfopbpchjhpaaDoor
open Go.ChangeShapes Go.WideShapes Go.ChangeAt Go.RowKit Go.Deep Go.Maps
set_option linter.unusedSimpArgs false
set_option linter.unusedVariables false
/-- The graph of the first k attacks under way. -/
structure SgTo (w0 w : World) (q h c n k : Nat) (L : List (List Int)) : Prop where
  c0 : w.cell? ⟨q, 0, none⟩ = some (.int .i64 (n : Int))
  c1 : w.cell? ⟨q, 1, none⟩ = some (.slice (some ⟨h, 0, none⟩) n n)
  c2 : w.cell? ⟨q, 2, none⟩ = some (.slice (some ⟨c, 0, none⟩) n n)
  hits : w.rowIs h 2 n (fun i => .int .i64 (hitF (L.take k) (i : Int) : Int))
  bys : w.rowIs c 2 n (fun i => .int .i64 (byF (L.take k) (i : Int) : Int))
  hq : w0.heap.size ≤ q
  hh : w0.heap.size ≤ h
  hc : w0.heap.size ≤ c
  qh : q ≠ h
  qc : q ≠ c
  hc' : h ≠ c
  bel : Below w0.heap.size w0 w
theorem sg_row0 (w' : World) (b N : Nat) (f : Nat → Value) (hf : ∀ i, f i = .int .i64 0) (h : w'.heap[b]? = some (.cells (madeCells #[.int .i64 0] N) 2)) : w'.rowIs b 2 N f := by
  obtain ⟨cs, h1, h2, h3⟩ := World.rowIs_made w' (.int .i64 0) N 2
  rw [heap_alloc_new] at h1
  cases h1
  exact ⟨_, h, h2, fun i hi => by rw [hf i]; exact h3 i hi⟩
abbrev mkO (N : Nat) : Obj := .cells (madeCells #[.int .i64 0] N) 2
end Go.Proofs.YtllfopbpchjhpaaDoor
/- The specification's IsConflictFree and IsAdmissible. -/
namespace Go.Proofs.YtllfopbpchjhpaaDoor
open Go.ChangeShapes Go.WideShapes Go.ChangeAt Go.RowKit Go.Deep Go.Maps
set_option linter.unusedSimpArgs false
set_option linter.unusedVariables false
noncomputable def mFits (X : Fm) (l : List Int) : Bool := fOkB X && risB l 0 (X.1 - 1)
noncomputable def mFree (X : Fm) (l : List Int) : Bool := mFits X l && freeB X.1.toNat X.2 (setL l)
noncomputable def mAdm (X : Fm) (l : List Int) : Bool := mFits X l && (freeB X.1.toNat X.2 (setL l) && ownB X.1.toNat X.2 (setL l))
theorem ris_all {l : List Int} {hi : Int} (h : ris l 0 hi) : ∀ x ∈ l, 0 ≤ x ∧ x ≤ hi := by
  intro x hx
  obtain ⟨k, hk, e⟩ := List.getElem_of_mem hx
  have := h k hk
  unfold ris1 at this
  have eg : l.getD k 0 = l[k] := by simp [List.getD, hk]
  rw [eg, e] at this
  exact ⟨this.1, this.2.1⟩
theorem mFits_iff {X : Fm} {l : List Int} : mFits X l = true ↔ fOk X ∧ ris l 0 (X.1 - 1) := by
  unfold mFits; rw [Bool.and_eq_true, fOkB_iff, risB_iff]
theorem fits_mem {X : Fm} {l : List Int} (h : mFits X l = true) : X.1.toNat ≤ 10 ∧ ∀ x ∈ l, 0 ≤ x ∧ x < (X.1.toNat : Int) := by
  obtain ⟨h1, h2⟩ := mFits_iff.1 h
  have a := h1.1
  have b := h1.2.1
  exact ⟨by omega, fun x hx => by have := ris_all h2 x hx; omega⟩
theorem set_small {l : List Int} {n : Nat} (hn : n ≤ 10) (h : ∀ x ∈ l, 0 ≤ x ∧ x < (n : Int)) : setL l < 65536 := Nat.lt_of_lt_of_le (setL_lt l n h) (Nat.le_trans (pow_10 hn) (by decide))
end Go.Proofs.YtllfopbpchjhpaaDoor
