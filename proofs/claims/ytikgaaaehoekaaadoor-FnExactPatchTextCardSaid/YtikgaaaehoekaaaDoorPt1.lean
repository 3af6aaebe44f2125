/- PatchText: the line of an edit: pure. -/
import Derived.Test.YtikgaaaehoekaaaDoorSt3
import Derived.Test.YtikgaaaehoekaaaDoorEd5
namespace Go.Proofs.YtikgaaaehoekaaaDoor
open Go.ChangeShapes Go.WideShapes Go.ChangeAt Go.RowKit Go.Deep
set_option linter.unusedSimpArgs false
set_option linter.unusedVariables false
set_option maxRecDepth 100000
def sgE (k : Int) : UInt8 := if k = 1 then 43 else if k = 2 then 45 else 126
def wdE (e : Ed) : List UInt8 := if e.1 = 3 then e.2.2.1.data.toList ++ ([124] ++ e.2.2.2.data.toList) else e.2.2.1.data.toList ++ e.2.2.2.data.toList
def eline (e : Ed) : List UInt8 := [sgE e.1] ++ (Lib.itoa e.2.1 ++ ([32] ++ wdE e))
def etl (L : List Ed) : Nat → List UInt8
  | 0 => []
  | k + 1 => etl L k ++ (eline (L.getD k e0) ++ [10])
/-- An edit whose line is short. -/
def smE (e : Ed) : Prop := (0 ≤ e.2.1 ∧ e.2.1 ≤ 999) ∧ e.2.2.1.data.toList.length ≤ 40 ∧ e.2.2.2.data.toList.length ≤ 40
theorem wdE_len {e : Ed} (h : smE e) : (wdE e).length ≤ 81 := by
  obtain ⟨-, h1, h2⟩ := h
  unfold wdE
  split <;> simp only [List.length_append, List.length_cons, List.length_nil] <;> omega
theorem eline_len {e : Ed} (h : smE e) : (eline e).length ≤ 110 := by
  have := itoa_len9 (n := e.2.1) (by have := h.1; omega) (by have := h.1; omega)
  have := wdE_len h
  unfold eline
  simp only [List.length_append, List.length_cons, List.length_nil]
  omega
theorem etl_len {L : List Ed} (h : ∀ k, k < L.length → smE (L.getD k e0)) (k : Nat) (hk : k ≤ L.length) : (etl L k).length ≤ 111 * k := by
  induction k with
  | zero => simp [etl]
  | succ k ih =>
    have := ih (by omega)
    have := eline_len (h k (by omega))
    show (etl L k ++ (eline (L.getD k e0) ++ [10])).length ≤ _
    simp only [List.length_append, List.length_cons, List.length_nil]
    omega
theorem sen_len {s : ByteArray} (h : senF s) : s.data.toList.length ≤ 40 := by
  have q := h.2.1
  have e : s.data.toList.length = s.size := rfl
  omega
theorem pat_small {L : List Ed} (h : patF L) : L.length ≤ 16 ∧ ∀ k, k < L.length → smE (L.getD k e0) ∧ edF (L.getD k e0) := by
  refine ⟨h.1, fun k hk => ?_⟩
  obtain ⟨h1, h2, -⟩ := h.2 k hk
  generalize L.getD k e0 = e at h1 h2 ⊢
  refine ⟨⟨⟨by omega, by omega⟩, ?_⟩, h2⟩
  rcases h2 with ⟨-, a, b⟩ | ⟨-, a, b⟩ | ⟨-, a, b, -⟩
  · rw [a]; exact ⟨by decide, sen_len b⟩
  · rw [b]; exact ⟨sen_len a, by decide⟩
  · exact ⟨sen_len a, sen_len b⟩
noncomputable def mPTx (L : List Ed) : ByteArray × Bool := if patB L then (bytesOf (etl L L.length), true) else (⟨#[]⟩, false)
end Go.Proofs.YtikgaaaehoekaaaDoor
