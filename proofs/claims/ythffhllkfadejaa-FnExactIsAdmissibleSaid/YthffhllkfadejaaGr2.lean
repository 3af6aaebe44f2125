/- The program's sets of arguments: all, has, with, isIn. -/
import Derived.Test.YthffhllkfadejaaAt2
import Derived.Test.YthffhllkfadejaaGr1
namespace Go.Proofs.Ythffhllkfadejaa
open Go.ChangeShapes Go.WideShapes Go.ChangeAt Go.RowKit Go.Deep
set_option linter.unusedSimpArgs false
set_option linter.unusedVariables false
theorem pow_cast (n : Nat) : ((2 : Int) ^ n) = ((2 ^ n : Nat) : Int) := by simp
theorem wrap_u16n (a : Nat) (h : a < 65536) : IntKind.u16.wrap (a : Int) = (a : Int) := IntWalk.u16_in _ (by omega)
theorem pow_lt16 {x : Nat} (h : x < 16) : 2 ^ x < 65536 := by have := Nat.pow_lt_pow_right (a := 2) (by omega) h; simpa using this
/-- Whether a number is in a set. -/
def hasB (b : Nat) (x : Int) : Bool := decide (0 ≤ x) && b.testBit x.toNat
theorem hasB_nat (b x : Nat) : hasB b (x : Int) = b.testBit x := by simp [hasB]
theorem all_any (n : Int) (m : Value) (w : World) (h0 : 0 ≤ n) (h1 : n ≤ 10) :
    Calls Try.prog 40 #[.agg #[.int .i64 n, m]] w fun e w' => e = .returned (.int .u16 ((2 ^ n.toNat - 1 : Nat) : Int)) ∧ Below w.heap.size w w' := by
  have hp : 2 ^ n.toNat < 65536 := pow_lt16 (by omega)
  have hq : 0 < 2 ^ n.toNat := Nat.pow_pos (by omega)
  have e1 : IntKind.u16.wrap (IntKind.u16.wrap (2 ^ n.toNat) - 1) = ((2 ^ n.toNat - 1 : Nat) : Int) := by
    rw [pow_cast, wrap_u16n _ hp, IntWalk.u16_in _ (by omega)]; omega
  have E := Lib.hid e1
  clear e1 hp hq
  go_enter Try.func40, Try.ntmps40
  go_wp2
  go_ret
  exact ⟨by rw [E.out]; rfl, (Below.refl _ _).alloc (Nat.le_refl _) _⟩
theorem has_bit (b x : Nat) (hb : b < 65536) : (bits .and .u16 ((b : Int) / 2 ^ x) 1 == 1) = b.testBit x := by
  have e : (b : Int) / 2 ^ x = ((b / 2 ^ x : Nat) : Int) := by rw [pow_cast]; simp
  have h2 : bits .and .u16 ((b : Int) / 2 ^ x) 1 = ((b / 2 ^ x &&& 1 : Nat) : Int) := by
    rw [e]; exact u16_and_nat _ 1 (Nat.lt_of_le_of_lt (Nat.div_le_self _ _) hb) (by omega)
  rw [h2, nat_mask1, shr_bit]
  cases b.testBit x <;> rfl
theorem has_any (b : Nat) (x : Int) (w : World) (hb : b < 65536) :
    Calls Try.prog 41 #[.int .u16 b, .int .i64 x] w fun e w' => e = .returned (.bool (hasB b x)) ∧ w = w' := by
  by_cases h0 : 0 ≤ x
  · by_cases h1 : x < 16
    · have E := Lib.hid (has_bit b x.toNat hb)
      have HB := Lib.hid (show hasB b x = b.testBit x.toNat by simp [hasB, h0])
      go_enter Try.func41, Try.ntmps41
      go_wp2
      go_ret
      exact ⟨by rw [E.out, HB.out]; rfl, rfl⟩
    · have hz : b.testBit x.toNat = false := Nat.testBit_lt_two_pow (Nat.lt_of_lt_of_le (show b < 2 ^ 16 from hb) (Nat.pow_le_pow_right (by omega) (by omega : 16 ≤ x.toNat)))
      have hm : min x.toNat 16 = 16 := by omega
      have e0 : (b : Int) / 65536 = 0 := by omega
      have e1 : (bits .and .u16 ((b : Int) / 65536) 1 == 1) = false := by rw [e0]; decide
      have E := Lib.hid e1
      have HB := Lib.hid (show hasB b x = false by simp [hasB, hz])
      clear hz e0 e1
      go_enter Try.func41, Try.ntmps41
      go_wp2
      go_ret
      exact ⟨by rw [E.out, HB.out]; rfl, rfl⟩
  · have HB := Lib.hid (show hasB b x = false by simp [hasB]; omega)
    go_enter Try.func41, Try.ntmps41
    go_wp2
    go_ret
    exact ⟨by rw [HB.out]; rfl, rfl⟩
theorem with_any (b : Nat) (x : Int) (w : World) (hb : b < 65536) (h0 : 0 ≤ x) (h1 : x < 16) :
    Calls Try.prog 42 #[.int .u16 b, .int .i64 x] w fun e w' => e = .returned (.int .u16 ((b ||| 2 ^ x.toNat : Nat) : Int)) ∧ w = w' := by
  have e1 : bits .or .u16 (b : Int) (IntKind.u16.wrap (2 ^ x.toNat)) = ((b ||| 2 ^ x.toNat : Nat) : Int) := by
    rw [pow_cast, wrap_u16n _ (pow_lt16 (by omega))]; exact u16_or_nat _ _ hb (pow_lt16 (by omega))
  have E := Lib.hid e1
  clear e1
  go_enter Try.func42, Try.ntmps42
  go_wp2
  go_ret
  exact ⟨by rw [E.out]; rfl, rfl⟩
theorem isin_any (a b : Nat) (w : World) (ha : a < 65536) (hb : b < 65536) :
    Calls Try.prog 49 #[.int .u16 a, .int .u16 b] w fun e w' => e = .returned (.bool (subB a b)) ∧ w = w' := by
  have e1 : (bits .andNot .u16 (a : Int) (b : Int) == 0) = subB a b := by
    rw [u16_andNot_nat a b ha hb]
    unfold subB
    rw [Bool.eq_iff_iff]
    simp
  have E := Lib.hid e1
  clear e1
  go_enter Try.func49, Try.ntmps49
  go_wp2
  go_ret
  exact ⟨by rw [E.out]; rfl, rfl⟩
end Go.Proofs.Ythffhllkfadejaa
