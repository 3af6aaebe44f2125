/- toVoice and toVoiceS by their contracts. -/
import Derived.Test.YtkaakomiimcbmaaVo1
namespace Go.Proofs.Ytkaakomiimcbmaa
set_option linter.unusedSimpArgs false
open Go.ChangeShapes Go.WideShapes Go.ChangeAt Go.RowKit Go.Deep
/-- A row of the call's own that reads as l. -/
def OwnI (w : World) (c : Nat) (l : List Int) : Prop := w.rowIs c 2 l.length (fun i => .int .i64 (l.getD i 0))
theorem OwnI.below {w w' : World} {c : Nat} {l : List Int} (h : OwnI w c l) (hb : Below w.heap.size w w') : OwnI w' c l :=
  World.rowIs.of_block h (hb.block c h.lt)
abbrev Vc := Bool × List Int
/-- Element k of a list of voices that lies at x, each voice of two cells. -/
def ArgV (w : World) (x : Addr) (L : List Vc) : Prop :=
  ∀ k, k < L.length → ∃ v, w.cell? (x.add (k * 2)) = some (.bool (L.getD k (false, [])).1) ∧ w.cell? ⟨(x.add (k * 2)).block, (x.add (k * 2)).off + 1, none⟩ = some v ∧ RowV w v (L.getD k (false, [])).2
end Go.Proofs.Ytkaakomiimcbmaa
