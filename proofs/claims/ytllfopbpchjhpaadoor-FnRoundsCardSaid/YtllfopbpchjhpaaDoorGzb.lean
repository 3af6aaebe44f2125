/- Several of this claim's texts in one: Bi1, Gs1, Gs2. -/
import Derived.Test.YtllfopbpchjhpaaDoorGr1
import Derived.Test.YtllfopbpchjhpaaDoorFm2
import Derived.Test.YtllfopbpchjhpaaDoorGr9
/- Bits of small numbers of type int64. -/
namespace Go.Proofs.YtllfopbpchjhpaaDoor
open Go.RowKit
set_option linter.unusedSimpArgs false
set_option linter.unusedVariables false
theorem ofInt_64 (a : Nat) (ha : a < 65536) : (BitVec.ofInt 64 (a : Int)).toNat = a := by
  rw [BitVec.ofInt_natCast, BitVec.toNat_ofNat]; exact Nat.mod_eq_of_lt (by omega)
theorem i64_and_nat (a b : Nat) (ha : a < 65536) (hb : b < 65536) : bits .and .i64 (a : Int) (b : Int) = ((a &&& b : Nat) : Int) := by
  have hx : a &&& b < 2 ^ 16 := Nat.and_lt_two_pow _ (by omega)
  show IntKind.i64.wrap ((BitVec.ofInt 64 (a : Int) &&& BitVec.ofInt 64 (b : Int)).toNat : Int) = _
  rw [BitVec.toNat_and, ofInt_64 a ha, ofInt_64 b hb, IntKind.wrap_i64]
  omega
theorem i64_or_nat (a b : Nat) (ha : a < 65536) (hb : b < 65536) : bits .or .i64 (a : Int) (b : Int) = ((a ||| b : Nat) : Int) := by
  have hx : a ||| b < 2 ^ 16 := Nat.or_lt_two_pow (by omega) (by omega)
  show IntKind.i64.wrap ((BitVec.ofInt 64 (a : Int) ||| BitVec.ofInt 64 (b : Int)).toNat : Int) = _
  rw [BitVec.toNat_or, ofInt_64 a ha, ofInt_64 b hb, IntKind.wrap_i64]
  omega
theorem mask_64 (a b : Nat) (ha : a < 65536) (hb : b < 65536) : a &&& (2 ^ 64 - 1 - b) = a &&& (65535 - b) := by
  apply bits_ext
  intro i
  rw [Nat.testBit_and, Nat.testBit_and, mask_bit 64 b i (by omega), mask_bit 16 b i hb]
  by_cases h : a.testBit i = true
  · have := bits_lt (n := 16) ha h
    have h64 : i < 64 := by omega
    simp [this, h64]
  · simp [h]
theorem i64_andNot_nat (a b : Nat) (ha : a < 65536) (hb : b < 65536) : bits .andNot .i64 (a : Int) (b : Int) = ((a &&& (65535 - b) : Nat) : Int) := by
  have hx : a &&& (65535 - b) < 2 ^ 16 := Nat.and_lt_two_pow _ (by omega)
  show IntKind.i64.wrap ((BitVec.ofInt 64 (a : Int) &&& ~~~BitVec.ofInt 64 (b : Int)).toNat : Int) = _
  rw [BitVec.toNat_and, BitVec.toNat_not, ofInt_64 a ha, ofInt_64 b hb, mask_64 a b ha hb, IntKind.wrap_i64]
  omega
theorem i64_bit (b x : Nat) (hb : b < 65536) : (bits .and .i64 ((b : Int) / 2 ^ x) 1 == 1) = b.testBit x := by
  have ep : ((2 : Int) ^ x) = ((2 ^ x : Nat) : Int) := by simp
  have e : (b : Int) / 2 ^ x = ((b / 2 ^ x : Nat) : Int) := by rw [ep]; simp
  have h2 : bits .and .i64 ((b : Int) / 2 ^ x) 1 = ((b / 2 ^ x &&& 1 : Nat) : Int) := by
    rw [e]; exact i64_and_nat _ 1 (Nat.lt_of_le_of_lt (Nat.div_le_self _ _) hb) (by omega)
  rw [h2, nat_mask1, shr_bit]
  cases b.testBit x <;> rfl
theorem wrap_64n (a : Nat) (h : a < 65536) : IntKind.i64.wrap (a : Int) = (a : Int) := IntWalk.i64_in _ (by omega)
end Go.Proofs.YtllfopbpchjhpaaDoor
/- The specification's graph: l08In, l08Set, hit, defends, free, admissible. -/
namespace Go.Proofs.YtllfopbpchjhpaaDoor
open Go.ChangeShapes Go.WideShapes Go.ChangeAt Go.RowKit Go.Deep Go.Maps
set_option linter.unusedSimpArgs false
set_option linter.unusedVariables false
theorem pow_c (n : Nat) : ((2 : Int) ^ n) = ((2 ^ n : Nat) : Int) := by simp
theorem pow_10 {n : Nat} (h : n ≤ 10) : 2 ^ n ≤ 1024 := Nat.le_trans (Nat.pow_le_pow_right (by omega) h) (by decide)
/-- The specification's graph of a frame: it lies at q, what is attacked in block h, the attackers in block c. -/
structure SgIs (w : World) (q h c n : Nat) (L : List (List Int)) : Prop where
  c0 : w.cell? ⟨q, 0, none⟩ = some (.int .i64 (n : Int))
  c1 : w.cell? ⟨q, 1, none⟩ = some (.slice (some ⟨h, 0, none⟩) n n)
  c2 : w.cell? ⟨q, 2, none⟩ = some (.slice (some ⟨c, 0, none⟩) n n)
  hits : w.rowIs h 2 n (fun i => .int .i64 (hitF L (i : Int) : Int))
  bys : w.rowIs c 2 n (fun i => .int .i64 (byF L (i : Int) : Int))
  ok : ∀ l ∈ L, atkOk (n : Int) l
  le : n ≤ 10
theorem SgIs.below {w w' : World} {q h c n : Nat} {L : List (List Int)} (H : SgIs w q h c n L) (hb : Below w.heap.size w w') : SgIs w' q h c n L := by
  obtain ⟨c0, c1, c2, h1, h2, h3, h4⟩ := H
  have k : ∀ {o : Nat} {v : Value}, w.cell? ⟨q, o, none⟩ = some v → w'.cell? ⟨q, o, none⟩ = some v := fun {o v} hc => (hb.cell (p := ⟨q, o, none⟩) (World.block_lt_of_cell? _ _ hc)).trans hc
  exact ⟨k c0, k c1, k c2, h1.of_block (hb.block h h1.lt), h2.of_block (hb.block c h2.lt), h3, h4⟩
theorem hitS_lt {n : Nat} {L : List (List Int)} (h : ∀ l ∈ L, atkOk (n : Int) l) (hn : n ≤ 10) (s k : Nat) : hitS L s k < 1024 := by
  refine Nat.lt_of_lt_of_le (lt_of_bits (n := n) (fun i hi => ?_)) (pow_10 hn)
  obtain ⟨j, _, _, q⟩ := (hitS_bit L n h s k i).1 hi
  exact (atk_lt h q).2
end Go.Proofs.YtllfopbpchjhpaaDoor
/- The specification's graph: defends, free, admissible, l08Set. -/
namespace Go.Proofs.YtllfopbpchjhpaaDoor
open Go.ChangeShapes Go.WideShapes Go.ChangeAt Go.RowKit Go.Deep Go.Maps
set_option linter.unusedSimpArgs false
set_option linter.unusedVariables false
theorem pow_16 {x : Nat} (h : x < 16) : 2 ^ x < 65536 := by have := Nat.pow_lt_pow_right (a := 2) (by omega) h; simpa using this
theorem or_shl (a x : Nat) (ha : a < 65536) (hx : x < 16) : bits .or .i64 (a : Int) (IntKind.i64.wrap (2 ^ x)) = ((a ||| 2 ^ x : Nat) : Int) := by
  rw [pow_c, wrap_64n _ (pow_16 hx)]; exact i64_or_nat _ _ ha (pow_16 hx)
theorem or_shl' (a x : Nat) (ha : a < 65536) (hx : x < 16) : bits .or .i64 (a : Int) (wrap64 (2 ^ x)) = ((a ||| 2 ^ x : Nat) : Int) := by
  have e : wrap64 (2 ^ x) = IntKind.i64.wrap (2 ^ x) := by unfold wrap64; rw [IntKind.wrap_i64]
  rw [e, or_shl a x ha hx]
theorem attB_1024 {n : Nat} (h : n ≤ 10) (L : List (List Int)) (s : Nat) : attB n L s < 65536 := Nat.lt_of_lt_of_le (attB_lt n L s) (Nat.le_trans (pow_10 h) (by decide))
theorem defB_1024 {n : Nat} (h : n ≤ 10) (L : List (List Int)) (s : Nat) : defB n L s < 65536 := Nat.lt_of_lt_of_le (defB_lt n L s) (Nat.le_trans (pow_10 h) (by decide))
end Go.Proofs.YtllfopbpchjhpaaDoor
