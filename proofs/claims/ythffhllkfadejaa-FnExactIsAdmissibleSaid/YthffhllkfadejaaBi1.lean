/- Bits of small numbers of type int64. -/
import Derived.Test.YthffhllkfadejaaGr1
import Derived.Test.YthffhllkfadejaaFm2
namespace Go.Proofs.Ythffhllkfadejaa
open Go.RowKit
set_option linter.unusedSimpArgs false
set_option linter.unusedVariables false
theorem ofInt_64 (a : Nat) (ha : a < 65536) : (BitVec.ofInt 64 (a : Int)).toNat = a := by
  rw [BitVec.ofInt_natCast, BitVec.toNat_ofNat]; exact Nat.mod_eq_of_lt (by omega)
theorem i64_and_nat (a b : Nat) (ha : a < 65536) (hb : b < 65536) : bits .and .i64 (a : Int) (b : Int) = ((a &&& b : Nat) : Int) := by
  have hx : a &&& b < 2 ^ 16 := Nat.and_lt_two_pow _ (by omega)
  show IntKind.i64.wrap ((BitVec.ofInt 64 (a : Int) &&& BitVec.ofInt 64 (b : Int)).toNat : Int) = _
  rw [BitVec.toNat_and, ofInt_64 a ha, ofInt_64 b hb, IntKind.wrap_i64]
  omega
theorem i64_or_nat (a b : Nat) (ha : a < 65536) (hb : b < 65536) : bits .or .i64 (a : Int) (b : Int) = ((a ||| b : Nat) : Int) := by
  have hx : a ||| b < 2 ^ 16 := Nat.or_lt_two_pow (by omega) (by omega)
  show IntKind.i64.wrap ((BitVec.ofInt 64 (a : Int) ||| BitVec.ofInt 64 (b : Int)).toNat : Int) = _
  rw [BitVec.toNat_or, ofInt_64 a ha, ofInt_64 b hb, IntKind.wrap_i64]
  omega
theorem mask_64 (a b : Nat) (ha : a < 65536) (hb : b < 65536) : a &&& (2 ^ 64 - 1 - b) = a &&& (65535 - b) := by
  apply bits_ext
  intro i
  rw [Nat.testBit_and, Nat.testBit_and, mask_bit 64 b i (by omega), mask_bit 16 b i hb]
  by_cases h : a.testBit i = true
  · have := bits_lt (n := 16) ha h
    have h64 : i < 64 := by omega
    simp [this, h64]
  · simp [h]
theorem i64_andNot_nat (a b : Nat) (ha : a < 65536) (hb : b < 65536) : bits .andNot .i64 (a : Int) (b : Int) = ((a &&& (65535 - b) : Nat) : Int) := by
  have hx : a &&& (65535 - b) < 2 ^ 16 := Nat.and_lt_two_pow _ (by omega)
  show IntKind.i64.wrap ((BitVec.ofInt 64 (a : Int) &&& ~~~BitVec.ofInt 64 (b : Int)).toNat : Int) = _
  rw [BitVec.toNat_and, BitVec.toNat_not, ofInt_64 a ha, ofInt_64 b hb, mask_64 a b ha hb, IntKind.wrap_i64]
  omega
theorem i64_bit (b x : Nat) (hb : b < 65536) : (bits .and .i64 ((b : Int) / 2 ^ x) 1 == 1) = b.testBit x := by
  have ep : ((2 : Int) ^ x) = ((2 ^ x : Nat) : Int) := by simp
  have e : (b : Int) / 2 ^ x = ((b / 2 ^ x : Nat) : Int) := by rw [ep]; simp
  have h2 : bits .and .i64 ((b : Int) / 2 ^ x) 1 = ((b / 2 ^ x &&& 1 : Nat) : Int) := by
    rw [e]; exact i64_and_nat _ 1 (Nat.lt_of_le_of_lt (Nat.div_le_self _ _) hb) (by omega)
  rw [h2, nat_mask1, shr_bit]
  cases b.testBit x <;> rfl
theorem wrap_64n (a : Nat) (h : a < 65536) : IntKind.i64.wrap (a : Int) = (a : Int) := IntWalk.i64_in _ (by omega)
end Go.Proofs.Ythffhllkfadejaa
