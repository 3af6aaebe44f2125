/- The specification's IsConflictFree and IsAdmissible. -/
import Derived.Test.YthffhllkfadejaaDoorGs3
namespace Go.Proofs.YthffhllkfadejaaDoor
open Go.ChangeShapes Go.WideShapes Go.ChangeAt Go.RowKit Go.Deep Go.Maps
set_option linter.unusedSimpArgs false
set_option linter.unusedVariables false
noncomputable def mFits (X : Fm) (l : List Int) : Bool := fOkB X && risB l 0 (X.1 - 1)
noncomputable def mFree (X : Fm) (l : List Int) : Bool := mFits X l && freeB X.1.toNat X.2 (setL l)
noncomputable def mAdm (X : Fm) (l : List Int) : Bool := mFits X l && (freeB X.1.toNat X.2 (setL l) && ownB X.1.toNat X.2 (setL l))
theorem ris_all {l : List Int} {hi : Int} (h : ris l 0 hi) : ∀ x ∈ l, 0 ≤ x ∧ x ≤ hi := by
  intro x hx
  obtain ⟨k, hk, e⟩ := List.getElem_of_mem hx
  have := h k hk
  unfold ris1 at this
  have eg : l.getD k 0 = l[k] := by simp [List.getD, hk]
  rw [eg, e] at this
  exact ⟨this.1, this.2.1⟩
set_option maxHeartbeats 1000000 in
theorem sfits (X : Fm) (b hi p : Nat) (v : Value) (l : List Int) (w : World) (h : FmR w b hi X) (hp : FmAt w p X.1 (.slice (some ⟨b, 0, none⟩) X.2.length X.2.length)) (hv : RowV w v l) (hl : l.length ≤ 1048576) :
    Calls Tryd.prog 41 #[.pointer (some ⟨p, 0, none⟩), v] w fun e w' => e = .returned (.bool (mFits X l)) ∧ Below w.heap.size w w' := by
  have HS := sfok X b hi p w h hp
  obtain ⟨p0, p1, pl⟩ := hp
  unfold mFits
  by_cases ok : fOk X
  · have e1 := fOkB_yes ok
    have n0 := ok.1
    have n1 := ok.2.1
    rw [e1] at HS ⊢
    obtain ⟨P', hP'⟩ : ∃ P' : Int, X.1 - 1 = P' := ⟨_, rfl⟩
    have wq1 : IntKind.i64.wrap (X.1 - 1) = P' := by rw [IntKind.wrap_i64]; omega
    have HR := fun w' (hb : Below w.heap.size w w') => srises v l 0 P' w' (hv.below hb) (by omega)
    rw [hP', Bool.true_and]
    generalize risB l 0 P' = z at HR ⊢
    clear hP' h e1 ok hv
    go_enter Tryd.func41, Tryd.ntmps41
    go_wp2_with fail
    refine HS.mono ?_
    rintro e w1 ⟨rfl, hd1⟩
    have b1 := hd1.below
    have c0 := (b1.cell (p := ⟨p, 0, none⟩) pl).trans p0
    have HR1 := HR _ b1
    clear HR hd1
    go_wp2_with fail
    refine HR1.mono ?_
    rintro e w2 ⟨rfl, hd2⟩
    go_wp2
    go_ret
    exact ⟨rfl, b1.trans (hd2.below.mono b1.size)⟩
  · have e1 := fOkB_no ok
    rw [e1] at HS ⊢
    rw [Bool.false_and]
    clear h e1 ok hv
    go_enter Tryd.func41, Tryd.ntmps41
    go_wp2_with fail
    refine HS.mono ?_
    rintro e w1 ⟨rfl, hd1⟩
    go_wp2
    go_ret
    exact ⟨rfl, hd1.below⟩
theorem mFits_iff {X : Fm} {l : List Int} : mFits X l = true ↔ fOk X ∧ ris l 0 (X.1 - 1) := by
  unfold mFits; rw [Bool.and_eq_true, fOkB_iff, risB_iff]
theorem fits_mem {X : Fm} {l : List Int} (h : mFits X l = true) : X.1.toNat ≤ 10 ∧ ∀ x ∈ l, 0 ≤ x ∧ x < (X.1.toNat : Int) := by
  obtain ⟨h1, h2⟩ := mFits_iff.1 h
  have a := h1.1
  have b := h1.2.1
  exact ⟨by omega, fun x hx => by have := ris_all h2 x hx; omega⟩
theorem set_small {l : List Int} {n : Nat} (hn : n ≤ 10) (h : ∀ x ∈ l, 0 ≤ x ∧ x < (n : Int)) : setL l < 65536 := Nat.lt_of_lt_of_le (setL_lt l n h) (Nat.le_trans (pow_10 hn) (by decide))
end Go.Proofs.YthffhllkfadejaaDoor
