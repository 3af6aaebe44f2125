/- The inverse of a patch: the specification's. -/
import Derived.Test.YtkaakomiimcbmaaDoorIn1
import Derived.Deep.RegionHeld3
namespace Go.Proofs.YtkaakomiimcbmaaDoor
open Go.ChangeShapes Go.WideShapes Go.ChangeAt Go.RowKit Go.Deep
set_option linter.unusedSimpArgs false
set_option linter.unusedVariables false
noncomputable def invE (e : Ed) : Ed := (kindE e.2.2.2 e.2.2.1, e.2.1, e.2.2.2, e.2.2.1)
noncomputable def invs (L : List Ed) : List Ed := L.map invE
theorem invs_len (L : List Ed) : (invs L).length = L.length := by simp [invs]
theorem invs_get (L : List Ed) {k : Nat} (hk : k < L.length) : (invs L).getD k e0 = invE (L.getD k e0) := by simp [invs, List.getD, hk]
theorem invs_take (L : List Ed) {k : Nat} (hk : k < L.length) : invs (L.take (k + 1)) = invs (L.take k) ++ [invE (L.getD k e0)] := by
  unfold invs
  rw [List.take_add_one, List.getElem?_eq_getElem hk, List.map_append]
  simp [List.getD, hk]
theorem edF_ne {e : Ed} (h : edF e) : e.2.2.2 ≠ e.2.2.1 := fun q => ((edF_alt e).1 h).2.2.1 q.symm
theorem info_parts7 {P : Program} {t : TypeId} {z : Value} {s b : Nat} (h : (P.info? t).map (fun i => (i.zero, i.size, i.bytes)) = some (some z, s, b)) : ∃ i, P.info? t = some i ∧ i.zero = some z ∧ i.size = s ∧ i.bytes = b := by
  obtain ⟨i, hi, hzz⟩ := Option.map_eq_some_iff.1 h
  simp only [Prod.mk.injEq] at hzz
  exact ⟨i, hi, hzz.1, hzz.2.1, hzz.2.2⟩
end Go.Proofs.YtkaakomiimcbmaaDoor
