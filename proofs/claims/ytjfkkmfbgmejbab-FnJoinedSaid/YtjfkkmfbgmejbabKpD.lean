/- Draws change no block. -/
import Derived.Test.YtjfkkmfbgmejbabCt1
namespace Go.Proofs.Ytjfkkmfbgmejbab
open Go.ChangeShapes Go.WideShapes Go.ChangeAt Go.RowKit Go.Deep
theorem Kept.ofBelow {w w' : World} {S : Nat → Prop} (h : Below w.heap.size w w') : Kept w w' S := ⟨h.os, h.tape, h.output, h.size, fun b hb _ => h.block b hb⟩
theorem keptD {w : World} {S : Nat → Prop} (n : Nat) : Kept w (w.drewN n) S := Kept.ofBelow (below_drewN (Below.refl _ _) n)
end Go.Proofs.Ytjfkkmfbgmejbab
