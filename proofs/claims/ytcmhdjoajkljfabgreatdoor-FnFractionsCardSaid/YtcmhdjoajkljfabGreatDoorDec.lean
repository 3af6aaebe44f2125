/- Decimals by contracts. -/
import Derived.Test.YtcmhdjoajkljfabGreatDoorBase
import Derived.Test.YtcmhdjoajkljfabGreatDoorShelf
import Derived.Lib.ItoaNum
import Derived.Laws.IdiomStrings
namespace Go.Proofs.YtcmhdjoajkljfabGreatDoor
open Go.ChangeShapes Go.WideShapes Go.ChangeAt Go.RowKit
/-- The digits of k, none for 0. -/
def digs (k : Nat) : List UInt8 := if k = 0 then [] else Lib.decDigits k
def dgt (k : Nat) : UInt8 := UInt8.ofNat (48 + k % 10)
theorem dgt_nat (k : Nat) : (dgt k).toNat = 48 + k % 10 := by
  unfold dgt
  rw [UInt8.toNat_ofNat']
  omega
theorem digs_step {k : Nat} (h : 0 < k) : digs k = digs (k / 10) ++ [dgt k] := by
  unfold digs dgt
  rw [if_neg (by omega)]
  by_cases h9 : k < 10
  · rw [Lib.decDigits, dif_pos h9, if_pos (by omega), Nat.mod_eq_of_lt h9]; rfl
  · rw [Lib.decDigits, dif_neg h9, if_neg (by omega)]
theorem digs_pos {k : Nat} (h : 0 < k) : digs k = Lib.decDigits k := by unfold digs; rw [if_neg (by omega)]
theorem digs_len : ∀ (e k : Nat), k < 10 ^ e → (digs k).length ≤ e := by
  intro e
  induction e with
  | zero =>
    intro k h
    have : k = 0 := by simpa using h
    subst this; simp [digs]
  | succ e ih =>
    intro k h
    by_cases hk : 0 < k
    · rw [digs_step hk]
      have := ih (k / 10) (by rw [Nat.pow_succ] at h; omega)
      simp; omega
    · have : k = 0 := by omega
      subst this; simp [digs]
theorem digs_len20 {n : Int} (h : -9223372036854775808 ≤ -(n.natAbs : Int)) : (digs n.natAbs).length ≤ 20 := by
  apply digs_len
  have e : (10 : Nat) ^ 20 = 100000000000000000000 := by decide
  rw [e]
  omega
def strOf (l : List UInt8) : Value := .string ⟨l.toArray⟩
theorem neg_rem {z : Int} (h : z ≤ 0) : z.tmod 10 = -((z.natAbs % 10 : Nat) : Int) := by
  obtain ⟨k, rfl⟩ : ∃ k : Nat, z = -(k : Int) := ⟨z.natAbs, by omega⟩
  rw [Int.neg_tmod, Int.natAbs_neg, Int.natAbs_natCast]; rfl
theorem neg_quo {z : Int} (h : z ≤ 0) : z.tdiv 10 = -((z.natAbs / 10 : Nat) : Int) := by
  obtain ⟨k, rfl⟩ : ∃ k : Nat, z = -(k : Int) := ⟨z.natAbs, by omega⟩
  rw [Int.neg_tdiv, Int.natAbs_neg, Int.natAbs_natCast]; rfl
def decBound (z : Int) : Prop := -9223372036854775808 ≤ z
theorem conv1 (W : World) (z : Int) (h : z ≤ 0) : Sem.run Tryz.prog (Go.convert 22 9 (.slice (some ⟨W.heap.size, 0, none⟩) 1 1)) (W.alloc (.cells #[.int .u8 (48 - z.tmod 10)] 5)) = .ok (strOf [dgt z.natAbs]) (W.alloc (.cells #[.int .u8 (48 - z.tmod 10)] 5)) := by
  have e : (48 - z.tmod 10 : Int) = ((dgt z.natAbs).toNat : Int) := by rw [neg_rem h, dgt_nat]; omega
  rw [e]
  refine run_convert_bytes_back (P := Tryz.prog) _ _ _ 5 _ _ [dgt z.natAbs] Tryz.underlying22 Tryz.underlying5 Tryz.underlying9 ?_
  intro j hj
  obtain rfl : j = 0 := by simpa using hj
  show (World.alloc W _).cell? ⟨W.heap.size, 0, none⟩ = _
  simp
theorem itoa_zero : Lib.itoa 0 = [48] := by
  unfold Lib.itoa
  rw [if_neg (by omega), Lib.decDigits, dif_pos (by decide)]
  rfl
theorem itoa_neg {n : Int} (h : n < 0) (l : List UInt8) (hl : digs n.natAbs = digs (0 : Int).natAbs ++ l) : Lib.itoa n = 45 :: l := by
  unfold Lib.itoa
  rw [if_pos h, ← digs_pos (by omega), hl]
  simp [digs]
theorem itoa_pos {n : Int} (h : 0 < n) (l : List UInt8) (hl : digs n.natAbs = digs (0 : Int).natAbs ++ l) : Lib.itoa n = l := by
  unfold Lib.itoa
  rw [if_neg (by omega), show n.toNat = n.natAbs by omega, ← digs_pos (by omega), hl]
  simp [digs]
theorem str_app (a b : List UInt8) : (⟨a.toArray⟩ : ByteArray) ++ ⟨b.toArray⟩ = ⟨(a ++ b).toArray⟩ := by
  apply ByteArray.ext
  simp [ByteArray.data_append]
end Go.Proofs.YtcmhdjoajkljfabGreatDoor
