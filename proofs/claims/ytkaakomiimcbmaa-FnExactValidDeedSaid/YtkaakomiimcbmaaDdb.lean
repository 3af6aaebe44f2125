/- The map of the kinds of deeds that the program makes. -/
import Derived.Test.YtkaakomiimcbmaaDda
import Derived.Maps.Own
import Derived.Maps.OwnSet
import Derived.Maps.Views
namespace Go.Proofs.Ytkaakomiimcbmaa
open Go.ChangeShapes Go.WideShapes Go.ChangeAt Go.RowKit Go.Deep Go.Maps
set_option linter.unusedSimpArgs false
set_option linter.unusedVariables false
abbrev TMF : TypeId := 57
theorem keyF : Keyed Try.prog 2 := int_keyed Try.underlying2
theorem zeroF (w : World) : (zeroValue 56).run Try.prog w = .ok .nilFunc w := by kernel_rfl
def fv1 (p : Nat) : Value := .func (.func 25) #[.pointer (some ⟨p, 0, none⟩)] #[]
def fv2 (p : Nat) : Value := .func (.func 26) #[.pointer (some ⟨p, 0, none⟩)] #[]
def fv3 (p : Nat) : Value := .func (.func 27) #[.pointer (some ⟨p, 0, none⟩)] #[]
def fv4 (p : Nat) : Value := .func (.func 28) #[.pointer (some ⟨p, 0, none⟩)] #[]
def fvk (p : Nat) (k : Int) : Value := if k = 1 then fv1 p else if k = 2 then fv2 p else if k = 3 then fv3 p else if k = 4 then fv4 p else .nilFunc
def dF (k : Int) : DataW Unit := .lit (.int .i64 k)
theorem dF_inj {a b : Int} (h : dF a = dF b) : a = b := by
  unfold dF at h
  injection h with h
  injection h
theorem fvk_inj {p : Nat} {a b : Int} (ha : 0 ≤ a ∧ a ≤ 4) (hb : 0 ≤ b ∧ b ≤ 4) (h : fvk p a = fvk p b) : a = b := by
  have ha' : a = 0 ∨ a = 1 ∨ a = 2 ∨ a = 3 ∨ a = 4 := by omega
  have hb' : b = 0 ∨ b = 1 ∨ b = 2 ∨ b = 3 ∨ b = 4 := by omega
  rcases ha' with rfl | rfl | rfl | rfl | rfl <;> rcases hb' with rfl | rfl | rfl | rfl | rfl <;> first | rfl | (simp [fvk, fv1, fv2, fv3, fv4] at h)
noncomputable def rF (p : Nat) (v : Value) : Option (DataW Unit × List MemPlace) := @dite _ (∃ k, (0 ≤ k ∧ k ≤ 4) ∧ v = fvk p k) (Classical.propDecidable _) (fun h => some (dF (Classical.choose h), [])) (fun _ => none)
theorem rF_mk (p : Nat) {k : Int} (hk : 0 ≤ k ∧ k ≤ 4) : rF p (fvk p k) = some (dF k, []) := by
  have h : ∃ x, (0 ≤ x ∧ x ≤ 4) ∧ fvk p k = fvk p x := ⟨k, hk, rfl⟩
  unfold rF
  rw [dif_pos h, ← fvk_inj hk (Classical.choose_spec h).1 (Classical.choose_spec h).2]
theorem rF_inv {p : Nat} {v : Value} {z : DataW Unit × List MemPlace} (h : rF p v = some z) : ∃ k, v = fvk p k ∧ z.1 = dF k := by
  unfold rF at h
  split at h
  · rename_i hx
    cases h
    exact ⟨_, (Classical.choose_spec hx).2, rfl⟩
  · cases h
def kOf (n : Nat) (y : Int) : Int := if 1 ≤ y ∧ y ≤ (n : Int) then y else 0
/-- The map holds the first n kinds. -/
def MapF (p : Nat) (w : World) (b n : Nat) : Prop :=
  ∃ D : DataW Unit, w.ownsMap Try.prog 2 (rF p) b n D ∧ ∀ y : Int, has D (.int .i64 y) = decide (1 ≤ y ∧ y ≤ (n : Int)) ∧ D.atKey (.int .i64 y) (dF 0) = dF (kOf n y)
theorem MapF.made (p : Nat) (w : World) : MapF p (w.alloc (.map #[] 0)) w.heap.size 0 := ⟨_, World.ownsMap_made w _ _ _, fun y => ⟨by
    have : ¬ (1 ≤ y ∧ y ≤ ((0 : Nat) : Int)) := by omega
    simp [has]; omega, by
    have : kOf 0 y = 0 := by unfold kOf; rw [if_neg (by omega)]
    rw [this]; simp [WideAt.atKey_none]⟩⟩
set_option maxRecDepth 100000 in
theorem MapF.look {p : Nat} {w : World} {b n : Nat} (h : MapF p w b n) (y : Int) (hy : (Lit.int .i64 y).wf = true) :
    (Instr.lookup TMF (.map (some b)) (.int .i64 y) true).run Try.prog w = .ok (.tuple #[fvk p (kOf n y), .bool (decide (1 ≤ y ∧ y ≤ (n : Int)))]) w := by
  obtain ⟨D, h, hD⟩ := h
  obtain ⟨v, ps, hrun, hv⟩ := h.look_ok keyF Try.underlying57 (zeroF w) (rF_mk p (k := 0) (by omega)) (keyOf_int_mk Try.underlying2 hy)
  obtain ⟨k, rfl, hx⟩ := rF_inv hv
  have hh := (hD y).2.symm.trans hx
  rw [hrun, (hD y).1, dF_inj hh]
set_option maxRecDepth 100000 in
theorem MapF.store {p : Nat} {w : World} {b n : Nat} (h : MapF p w b n) (hn : n < 4) :
    ∃ w', (Instr.mapUpdate TMF (.map (some b)) (.int .i64 ((n : Int) + 1)) (fvk p ((n : Int) + 1))).run Try.prog w = .ok () w' ∧ MapF p w' b (n + 1) ∧ w.grownBy w' (some b) := by
  obtain ⟨D, h, hD⟩ := h
  have hy : (Lit.int .i64 ((n : Int) + 1)).wf = true := Go.WalkArith.wf_i64 ⟨by omega, by omega⟩
  obtain ⟨w', hrun, h', hg⟩ := h.update keyF Try.underlying57 (by unfold maxLen; omega) (keyOf_int_mk Try.underlying2 hy) (rF_mk p (k := (n : Int) + 1) (by omega))
  refine ⟨w', hrun, ⟨_, h', fun z => ?_⟩, hg⟩
  by_cases q : z = (n : Int) + 1
  · subst q
    rw [atKey_put_same h.isMap (by exact trivial), has_put_same h.isMap (by exact trivial)]
    refine ⟨by symm; simp; omega, ?_⟩
    unfold kOf
    rw [if_pos (by omega)]
  · have hne : (Lit.int IntKind.i64 z) ≠ (Lit.int IntKind.i64 ((n : Int) + 1)) := by intro k; injection k with _ k; exact q k
    rw [atKey_put_other hne, has_put_other hne, (hD z).1, (hD z).2]
    refine ⟨decide_eq_decide.2 ⟨fun h => by omega, fun h => by omega⟩, ?_⟩
    unfold kOf
    by_cases r : 1 ≤ z ∧ z ≤ (n : Int)
    · rw [if_pos r, if_pos (by omega)]
    · rw [if_neg r, if_neg (by omega)]
end Go.Proofs.Ytkaakomiimcbmaa
