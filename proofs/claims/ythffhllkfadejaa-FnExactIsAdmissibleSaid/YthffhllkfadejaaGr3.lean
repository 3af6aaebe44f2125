/- The map from arguments to the sets of their attackers, made by the call. -/
import Derived.Test.YthffhllkfadejaaGr2
import Derived.Maps.Own
import Derived.Maps.OwnSet
import Derived.Maps.Views
namespace Go.Proofs.Ythffhllkfadejaa
open Go.ChangeShapes Go.WideShapes Go.ChangeAt Go.RowKit Go.Deep Go.Maps
set_option linter.unusedSimpArgs false
set_option linter.unusedVariables false
abbrev TB : TypeId := 40
theorem keyI8 : Keyed Try.prog 2 := int_keyed Try.underlying2
theorem zeroBs (w : World) : (zeroValue 57).run Try.prog w = .ok (.int .u16 0) w := by kernel_rfl
theorem wf_u16n {a : Nat} (h : a < 65536) : (Lit.int .u16 (a : Int)).wf = true := Go.WalkArith.wf_u16 (by omega)
/-- The call's own map holds the sets of f by their arguments. -/
def MapB (w : World) (b n : Nat) (f : Int → Nat) : Prop :=
  ∃ D : DataW Unit, w.ownsMap Try.prog 2 (plainElem Try.prog 57) b n D ∧ ∀ y : Int, D.atKey (.int .i64 y) (.lit (.int .u16 0)) = .lit (.int .u16 (f y : Int))
theorem MapB.made (w : World) : MapB (w.alloc (.map #[] 0)) w.heap.size 0 (fun _ => 0) := ⟨_, World.ownsMap_made w _ _ _, fun y => by simp [WideAt.atKey_none]⟩
theorem MapB.lt {w : World} {b n : Nat} {f : Int → Nat} (h : MapB w b n f) : b < w.heap.size := by
  obtain ⟨D, h, _⟩ := h
  exact h.lt
theorem MapB.below {w w' : World} {b n : Nat} {f : Int → Nat} (h : MapB w b n f) (hb : Below w.heap.size w w') : MapB w' b n f := by
  obtain ⟨D, h, hD⟩ := h
  have hl := h.lt
  obtain ⟨es, clock, hh, F, hs, e⟩ := h
  exact ⟨D, ⟨es, clock, (hb.block b hl).trans hh, F, hs, e⟩, hD⟩
theorem MapB.setCell {w : World} {b n : Nat} {f : Int → Nat} (h : MapB w b n f) {a : Addr} (ha : b ≠ a.block) (u : Value) : MapB (w.setCell a u) b n f := by
  obtain ⟨D, h, hD⟩ := h
  exact ⟨D, h.setCell ha u, hD⟩
theorem MapB.congr {w : World} {b n : Nat} {f g : Int → Nat} (h : MapB w b n f) (e : ∀ y, f y = g y) : MapB w b n g := by
  obtain ⟨D, h, hD⟩ := h
  exact ⟨D, h, fun y => by rw [← e]; exact hD y⟩
theorem MapB.look {w : World} {b n : Nat} {f : Int → Nat} (h : MapB w b n f) (y : Int) (hy : (Lit.int .i64 y).wf = true) :
    (Instr.lookup TB (.map (some b)) (.int .i64 y) false).run Try.prog w = .ok (.int .u16 (f y : Int)) w := by
  obtain ⟨D, h, hD⟩ := h
  obtain ⟨v, ps, hrun, hv⟩ := h.lookup keyI8 Try.underlying40 (zeroBs w) (plainElem_int Try.underlying57 (by decide)) (keyOf_int_mk Try.underlying2 hy)
  obtain ⟨x, rfl, hx, -⟩ := plainElem_int_inv Try.underlying57 hv
  have e := (hD y).symm.trans (congrArg Prod.fst hx)
  simp only [DataW.lit.injEq, Lit.int.injEq, true_and] at e
  rw [hrun, e]
theorem MapB.store {w : World} {b n : Nat} {f : Int → Nat} (h : MapB w b n f) (hn : n < maxLen) (y : Int) (hy : (Lit.int .i64 y).wf = true) (a : Nat) (ha : a < 65536) :
    ∃ w', (Instr.mapUpdate TB (.map (some b)) (.int .i64 y) (.int .u16 (a : Int))).run Try.prog w = .ok () w' ∧ MapB w' b (n + 1) (fun z => if z = y then a else f z) ∧ w.grownBy w' (some b) := by
  obtain ⟨D, h, hD⟩ := h
  obtain ⟨w', hrun, h', hg⟩ := h.update keyI8 Try.underlying40 hn (keyOf_int_mk Try.underlying2 hy) (plainElem_int Try.underlying57 (wf_u16n ha))
  refine ⟨w', hrun, ⟨_, h', fun z => ?_⟩, hg⟩
  by_cases q : z = y
  · subst q
    rw [atKey_put_same h.isMap (by exact trivial)]
    simp
  · have hne : (Lit.int IntKind.i64 z) ≠ (Lit.int IntKind.i64 y) := by intro k; injection k with _ k; exact q k
    rw [atKey_put_other hne]
    simp only [if_neg q]
    exact hD z
end Go.Proofs.Ythffhllkfadejaa
