/- ShareOut: both calls, with the parameters as the law gives them. -/
import Derived.Test.YtcoelccmfljlhaaSo7
import Derived.Test.YtcoelccmfljlhaaSo5
namespace Go.Proofs.Ytcoelccmfljlhaa
open Go.ChangeShapes Go.WideShapes Go.ChangeAt Go.RowKit Go.Deep
theorem sSO' (t : Int) (W : List Int) (w : World) (ht : (Lit.int .i64 t).wf = true) (lo hi : Nat) (u : Value) (h : CpI w lo hi u W) : Calls Try.prog 28 #[.int .i64 t, u] w (PIb (mSO t W) w) := sSO t W w ht lo hi u h
theorem iSO' (t : Int) (W : List Int) (w : World) (ht : (Lit.int .i64 t).wf = true) (lo hi : Nat) (u : Value) (h : CpI w lo hi u W) : Calls Try.prog 29 #[.int .i64 t, u] w (QIb (mSO t W) w) := iSO t W w ht lo hi u h
end Go.Proofs.Ytcoelccmfljlhaa
