/- The specification's reading of a term of a fraction, by contract. -/
import Derived.Test.YtcmhdjoajkljfabGreatDoorSRead
namespace Go.Proofs.YtcmhdjoajkljfabGreatDoor
open Go.ChangeShapes Go.WideShapes Go.ChangeAt Go.RowKit
theorem rd_less {l : List UInt8} (h1 : ¬ Lib.itoa 1000000000 = l) (h2 : ¬ Lib.itoa (-1000000000) = l) : rdB 1000000000 l = rdB 999999999 l ∧ rdN 1000000000 l = rdN 999999999 l := by
  by_cases hx : ∃ n, Rd 1000000000 l n
  · obtain ⟨n, a, b, c⟩ := hx
    have n1 : n ≠ 1000000000 := fun e => h1 (by rw [← e]; exact c)
    have n2 : n ≠ -1000000000 := fun e => h2 (by rw [← e]; exact c)
    obtain ⟨r1, r2⟩ := rd_yes (most := 1000000000) (l := l) (n := n) (by omega) ⟨a, b, c⟩
    obtain ⟨r3, r4⟩ := rd_yes (most := 999999999) (l := l) (n := n) (by omega) ⟨by omega, by omega, c⟩
    rw [r1, r2, r3, r4]
    exact ⟨rfl, rfl⟩
  · obtain ⟨r1, r2⟩ := rd_no hx
    obtain ⟨r3, r4⟩ := rd_no (most := 999999999) (l := l) (fun ⟨n, a, b, c⟩ => hx ⟨n, by omega, by omega, c⟩)
    rw [r1, r2, r3, r4]
    exact ⟨rfl, rfl⟩
theorem ne_bytes {l : List UInt8} {s : ByteArray} (h : ¬ l = s.data.toList) : (s.toList == (⟨l.toArray⟩ : ByteArray).toList) = false := by
  rw [beq_eq_false_iff_ne, ByteArray.toList_eq, ByteArray.toList_eq]
  exact fun e => h (by simpa using e.symm)
end Go.Proofs.YtcmhdjoajkljfabGreatDoor
