/- Reading a decimal, the specification's, by contracts, and the law on ReadDecimal, walked. -/
import Derived.Test.YtcmhdjoajkljfabGreatDoorRead
namespace Go.Proofs.YtcmhdjoajkljfabGreatDoor
open Go.ChangeShapes Go.WideShapes Go.ChangeAt Go.RowKit
/-- What the first bytes of a text spell. -/
def spl (s : ByteArray) (k : Nat) : Nat := spell 0 (s.data.toList.take k)
theorem spl_zero (s : ByteArray) : spl s 0 = 0 := rfl
theorem spl_all (s : ByteArray) : spl s s.size = spell 0 s.data.toList := by
  unfold spl
  rw [List.take_of_length_le (by show s.data.toList.length ≤ s.data.size; simp)]
theorem spl_succ (s : ByteArray) (k : Nat) (h : k < s.size) : spl s (k + 1) = if 48 ≤ s[k].toNat ∧ s[k].toNat ≤ 57 then 10 * spl s k + (s[k].toNat - 48) else spl s k := by
  unfold spl spell
  rw [List.take_succ_eq_append_getElem (by simpa using h), List.foldl_append]
  rfl
theorem spl_bound (s : ByteArray) (k : Nat) (h : k ≤ 10) : spl s k < 10000000000 := by
  have b := spell_bound (s.data.toList.take k) 0
  have l : (s.data.toList.take k).length ≤ 10 := by rw [List.length_take]; omega
  have p : (10 : Nat) ^ (s.data.toList.take k).length ≤ 10 ^ 10 := Nat.pow_le_pow_right (by omega) l
  have e : (10 : Nat) ^ 10 = 10000000000 := by decide
  unfold spl
  omega
/-- The number that the specification makes of a text. -/
def sval (s : ByteArray) : Int := if h : 0 < s.size then (if (s[0].toNat : Int) = 45 then -(spl s s.size : Int) else spl s s.size) else spl s s.size
theorem sval_bound (s : ByteArray) (h : s.size ≤ 10) : -10000000000 < sval s ∧ sval s < 10000000000 := by
  have := spl_bound s s.size h
  unfold sval
  split
  · split <;> omega
  · omega
theorem itoa_ne (n : Int) : 1 ≤ (Lib.itoa n).length := by
  unfold Lib.itoa
  split
  · simp
  · obtain ⟨c, r, e, _, _⟩ := dec_head n.toNat
    rw [e]; simp
theorem sval_itoa (s : ByteArray) (n : Int) (h : Lib.itoa n = s.data.toList) : sval s = n := by
  have hz : 0 < s.size := by
    have := itoa_ne n
    rw [h] at this
    have e2 : s.data.toList.length = s.size := by show _ = s.data.size; simp
    omega
  have e : spl s s.size = n.natAbs := by rw [spl_all, ← h, spell_itoa]
  have e0 : s.data.toList[0]'(by simpa using hz) = s[0] := rfl
  have hc : s[0] = (Lib.itoa n)[0]'(by have := itoa_ne n; omega) := by
    rw [← e0]
    congr 1
    rw [h]
  unfold sval
  rw [dif_pos hz, e]
  by_cases hn : n < 0
  · have : (Lib.itoa n)[0]'(by have := itoa_ne n; omega) = 45 := by
      unfold Lib.itoa
      simp [hn]
    rw [hc, this, if_pos (by decide)]
    omega
  · obtain ⟨c, r, ec, c1, c2⟩ := dec_head n.toNat
    have : (Lib.itoa n)[0]'(by have := itoa_ne n; omega) = c := by
      have e2 : Lib.itoa n = c :: r := by unfold Lib.itoa; rw [if_neg hn, ec]
      simp [e2]
    rw [hc, this, if_neg (by omega)]
    omega
theorem rd_len {s : ByteArray} {n : Int} (h : Rd 999999999 s.data.toList n) : s.size ≤ 10 := by
  obtain ⟨h1, h2, h3⟩ := h
  have e : s.size = (Lib.itoa n).length := by rw [h3]; show s.data.size = _; simp
  rw [e]
  unfold Lib.itoa
  split
  · have := digs_len 9 n.natAbs (by have : (10 : Nat) ^ 9 = 1000000000 := by decide
                                    omega)
    rw [digs_pos (by omega)] at this
    simp; omega
  · by_cases hz : 0 < n.toNat
    · have := digs_len 9 n.toNat (by have : (10 : Nat) ^ 9 = 1000000000 := by decide
                                     omega)
      rw [digs_pos hz] at this
      omega
    · have : n.toNat = 0 := by omega
      rw [this, Lib.decDigits, dif_pos (by decide)]
      simp
end Go.Proofs.YtcmhdjoajkljfabGreatDoor
