/- toFraction by its contract. -/
import Derived.Test.YtjfkkmfbgmejbabDoorBase
namespace Go.Proofs.YtjfkkmfbgmejbabDoor
open Go.ChangeShapes Go.WideShapes Go.ChangeAt Go.RowKit
theorem toF (n d : Int) (w : World) :
    Calls Tryd.prog 9 #[.agg #[.int .i64 n, .int .i64 d]] w fun e w' => e = .returned (.agg #[.int .i64 n, .int .i64 d]) ∧ Below w.heap.size w w' := by
  go_enter Tryd.func9, Tryd.ntmps9
  go_wp2
  refine bodyPost_ret (v := .agg #[.int .i64 n, .int .i64 d]) (by simp [results, Tryd.results9, go_sem]) rfl ⟨rfl, ?_⟩
  exact ((((Below.refl _ _).alloc (Nat.le_refl _) _).alloc (by simp) _).alloc (by simp; omega) _)

end Go.Proofs.YtjfkkmfbgmejbabDoor
