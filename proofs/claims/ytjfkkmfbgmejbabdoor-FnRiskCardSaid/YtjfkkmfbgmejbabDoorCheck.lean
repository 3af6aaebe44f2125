/- Contracts of the check of a fraction. -/
import Derived.Test.YtjfkkmfbgmejbabDoorProg
import Derived.Test.YtjfkkmfbgmejbabDoorBase
import Derived.WalkKit
import Derived.WalkLawsBesides
import Derived.ProofKit
import Derived.Outline
import Derived.Lib.Hide
import Derived.LoopTactic
import Derived.RegionTactic
import Derived.Deep.QuietTactic
import Derived.BigQuiet
import Derived.Deep.RegionWith
namespace Go.Proofs.YtjfkkmfbgmejbabDoor
open Go.ChangeShapes Go.WideShapes Go.ChangeAt Go.RowKit
def anErr (E : TypeId) (v : Value) : Prop := ∃ s, v = .iface E (.agg #[.string s])
theorem check_yes (n d : Int) (w : World) (h : okF n d) :
    Calls Tryd.prog 71 #[.agg #[.int .i64 n, .int .i64 d]] w fun e w' => e = .returned .nilIface ∧ Below w.heap.size w w' := by
  obtain ⟨h1, h2, h3, h4, h5⟩ := h
  have g : ((Int.gcd n d : Int) != 1) = false := by rw [h5]; rfl
  clear h5
  go_enter Tryd.func71, Tryd.ntmps71
  go_wp2_with (go_at_call 82; refine (div_any _ _ _ (by omega) (by omega) (by omega) (by omega)).mono ?_; rintro e w' ⟨rfl, k, rfl⟩)
  go_ret
  exact ⟨rfl, below_drewN ((Below.refl _ _).alloc (Nat.le_refl _) _) _⟩
set_option maxHeartbeats 1000000 in
theorem check_no (n d : Int) (w : World) (h : ¬ okF n d) :
    Calls Tryd.prog 71 #[.agg #[.int .i64 n, .int .i64 d]] w fun e w' => (∃ v, e = .returned v ∧ anErr 110 v) ∧ Below w.heap.size w w' := by
  by_cases hd : 1 ≤ d ∧ d ≤ 1000000000
  · obtain ⟨d1, d2⟩ := hd
    by_cases hn : -1000000000 ≤ n ∧ n ≤ 1000000000
    · obtain ⟨n1, n2⟩ := hn
      have g : ((Int.gcd n d : Int) != 1) = true := by
        rw [bne_iff_ne]
        intro e
        exact h ⟨d1, d2, n1, n2, by omega⟩
      clear h
      go_enter Tryd.func71, Tryd.ntmps71
      go_wp2_with (go_at_call 82; refine (div_any _ _ _ (by omega) (by omega) (by omega) (by omega)).mono ?_; rintro e w' ⟨rfl, k, rfl⟩)
      go_ret
      exact ⟨⟨_, rfl, _, rfl⟩, below_drewN ((Below.refl _ _).alloc (Nat.le_refl _) _) _⟩
    · clear h
      by_cases n1 : n < -1000000000
      · go_enter Tryd.func71, Tryd.ntmps71
        go_wp2
        go_ret
        exact ⟨⟨_, rfl, _, rfl⟩, (Below.refl _ _).alloc (Nat.le_refl _) _⟩
      · have n2 : 1000000000 < n := by omega
        go_enter Tryd.func71, Tryd.ntmps71
        go_wp2
        go_ret
        exact ⟨⟨_, rfl, _, rfl⟩, (Below.refl _ _).alloc (Nat.le_refl _) _⟩
  · clear h
    by_cases n1 : d < 1
    · go_enter Tryd.func71, Tryd.ntmps71
      go_wp2
      go_ret
      exact ⟨⟨_, rfl, _, rfl⟩, (Below.refl _ _).alloc (Nat.le_refl _) _⟩
    · have n2 : 1000000000 < d := by omega
      go_enter Tryd.func71, Tryd.ntmps71
      go_wp2
      go_ret
      exact ⟨⟨_, rfl, _, rfl⟩, (Below.refl _ _).alloc (Nat.le_refl _) _⟩
end Go.Proofs.YtjfkkmfbgmejbabDoor
