/- Reading a fraction by contracts. -/
import Derived.Test.YtcmhdjoajkljfabGreatDoorSDig
import Derived.Test.YtcmhdjoajkljfabGreatDoorFPure
import Derived.Test.YtcmhdjoajkljfabGreatDoorShelfC
import Derived.Test.YtcmhdjoajkljfabGreatDoorFText
namespace Go.Proofs.YtcmhdjoajkljfabGreatDoor
open Go.ChangeShapes Go.WideShapes Go.ChangeAt Go.RowKit
set_option linter.unusedVariables false
/-- A fraction and whether there is one. -/
def fP (b : Bool) (n d : Int) (w : World) (e : Ending) (w' : World) : Prop := e = .returned (.tuple #[.agg #[.int .i64 n, .int .i64 d], .bool b]) ∧ Below w.heap.size w w'
/-- Where a text is divided, from a place on. -/
def sc (s : ByteArray) (k : Nat) : Nat := cutAt s.data.toList k
theorem len_eq (s : ByteArray) : s.data.toList.length = s.size := by show _ = s.data.size; simp
theorem sc_end (s : ByteArray) : sc s s.size = s.size := by have := cutAt_end s.data.toList; rwa [len_eq] at this
theorem sc_hit {s : ByteArray} {k : Nat} (h : k < s.size) (e : (s[k].toNat : Int) = 47) : sc s k = k := by
  refine cutAt_hit (by rw [len_eq]; exact h) ?_
  have : s.data.toList[k]'(by rw [len_eq]; exact h) = s[k] := rfl
  rw [this]
  exact UInt8.toNat_inj.1 (by show _ = 47; omega)
theorem sc_miss {s : ByteArray} {k : Nat} (h : k < s.size) (e : ¬ (s[k].toNat : Int) = 47) : sc s k = sc s (k + 1) := by
  refine cutAt_miss (by rw [len_eq]; exact h) ?_
  have : s.data.toList[k]'(by rw [len_eq]; exact h) = s[k] := rfl
  rw [this]
  intro h'
  exact e (by rw [h']; rfl)
end Go.Proofs.YtcmhdjoajkljfabGreatDoor
