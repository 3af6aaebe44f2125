/- Plain lemmas on reading decimals: no program in sight. -/
import Derived.Lib.ItoaNum
import Derived.Lib.ParseIntB
import Derived.WalkKit
namespace Go.Proofs.YtjfkkmfbgmejbabDoor
theorem u8d {d : Nat} (h : d < 10) : (UInt8.ofNat (48 + d)).toNat = 48 + d := by
  rw [UInt8.toNat_ofNat']
  omega
theorem parse_digits (M : Nat) : ∀ (u : Nat) (r : List UInt8), u ≤ M → u ≤ 1000000000000000000 → Lib.parseUintM M 0 (Lib.decDigits u ++ r) = Lib.parseUintM M u r := by
  intro u
  induction u using Nat.strongRecOn with
  | _ u ih =>
    intro r hM hB
    by_cases h : u < 10
    · rw [Lib.decDigits, dif_pos h]
      simp only [List.cons_append, List.nil_append, Lib.parseUintM]
      rw [u8d h, if_pos (by omega), if_neg (by omega), if_neg (by omega)]
      congr 1
      omega
    · rw [Lib.decDigits, dif_neg h, List.append_assoc, ih (u / 10) (by omega) _ (by omega) (by omega)]
      simp only [List.cons_append, List.nil_append, Lib.parseUintM]
      rw [u8d (by omega), if_pos (by omega), if_neg (by omega), if_neg (by omega)]
      congr 1
      omega
theorem dec_head (u : Nat) : ∃ c r, Lib.decDigits u = c :: r ∧ 48 ≤ c.toNat ∧ c.toNat ≤ 57 := by
  induction u using Nat.strongRecOn with
  | _ u ih =>
    by_cases h : u < 10
    · rw [Lib.decDigits, dif_pos h]
      exact ⟨_, _, rfl, by rw [u8d h]; omega, by rw [u8d h]; omega⟩
    · obtain ⟨c, r, e, h1, h2⟩ := ih (u / 10) (by omega)
      rw [Lib.decDigits, dif_neg h, e]
      exact ⟨c, _, rfl, h1, h2⟩
theorem parse_dec {B u : Nat} (hM : u ≤ 2 ^ B - 1) (hB : u ≤ 1000000000000000000) : Lib.parseUintB B (Lib.decDigits u) = .ok u := by
  obtain ⟨c, r, e, -, -⟩ := dec_head u
  unfold Lib.parseUintB
  rw [if_neg (by rw [e]; simp)]
  have := parse_digits (2 ^ B - 1) u [] hM hB
  rw [List.append_nil] at this
  rw [this]; rfl
theorem parse_itoa {n : Int} (h1 : -1000000000000000000 ≤ n) (h2 : n ≤ 1000000000000000000) : Lib.parseIntB 64 (Lib.itoa n) = .ok n := by
  have e63 : (2 : Nat) ^ (64 - 1) = 9223372036854775808 := by decide
  have e64 : (2 : Nat) ^ 64 - 1 = 18446744073709551615 := by decide
  unfold Lib.itoa
  by_cases hn : n < 0
  · rw [if_pos hn]
    unfold Lib.parseIntB
    have e := parse_dec (B := 64) (u := n.natAbs) (by rw [e64]; omega) (by omega)
    simp only [show (45 : UInt8).toNat = 45 from rfl, or_true, if_true, e, e63, not_true_eq_false, false_and, if_false, true_and]
    rw [if_neg (by omega)]
    congr 1
    omega
  · rw [if_neg hn]
    obtain ⟨c, r, ec, c1, c2⟩ := dec_head n.toNat
    have e := parse_dec (B := 64) (u := n.toNat) (by rw [e64]; omega) (by omega)
    rw [ec] at e ⊢
    unfold Lib.parseIntB
    have n1 : ¬ c.toNat = 43 := by omega
    have n2 : ¬ c.toNat = 45 := by omega
    simp only [n1, n2, or_self, if_false, e, e63, not_false_eq_true, true_and, false_and]
    rw [if_neg (by omega)]
    congr 1
    omega
theorem itoa_inj {n m : Int} (h1 : -1000000000000000000 ≤ n) (h2 : n ≤ 1000000000000000000) (h3 : -1000000000000000000 ≤ m) (h4 : m ≤ 1000000000000000000) (h : Lib.itoa n = Lib.itoa m) : n = m := by
  have e := parse_itoa h1 h2
  rw [h, parse_itoa h3 h4] at e
  injection e with e
  exact e.symm
/-- What the bytes of a text spell, whatever is no digit passed over. -/
def spell (acc : Nat) (l : List UInt8) : Nat := l.foldl (fun n c => if 48 ≤ c.toNat ∧ c.toNat ≤ 57 then 10 * n + (c.toNat - 48) else n) acc
theorem spell_dec : ∀ (u : Nat), spell 0 (Lib.decDigits u) = u := by
  intro u
  induction u using Nat.strongRecOn with
  | _ u ih =>
    by_cases h : u < 10
    · rw [Lib.decDigits, dif_pos h]
      simp only [spell, List.foldl_cons, List.foldl_nil]
      rw [u8d h, if_pos (by omega)]; omega
    · rw [Lib.decDigits, dif_neg h]
      have := ih (u / 10) (by omega)
      unfold spell at this ⊢
      rw [List.foldl_append, this]
      simp only [List.foldl_cons, List.foldl_nil]
      rw [u8d (by omega), if_pos (by omega)]; omega
theorem spell_itoa (n : Int) : spell 0 (Lib.itoa n) = n.natAbs := by
  unfold Lib.itoa
  by_cases hn : n < 0
  · rw [if_pos hn]
    have e : spell 0 (45 :: Lib.decDigits n.natAbs) = spell 0 (Lib.decDigits n.natAbs) := by
      unfold spell
      simp only [List.foldl_cons]
      rw [if_neg (by decide)]
    rw [e, spell_dec]
  · rw [if_neg hn, spell_dec]; omega
theorem spell_bound : ∀ (l : List UInt8) (acc : Nat), spell acc l < (acc + 1) * 10 ^ l.length := by
  intro l
  induction l with
  | nil => intro acc; simp [spell]
  | cons c r ih =>
    intro acc
    have e : spell acc (c :: r) = spell (if 48 ≤ c.toNat ∧ c.toNat ≤ 57 then 10 * acc + (c.toNat - 48) else acc) r := rfl
    rw [e]
    refine Nat.lt_of_lt_of_le (ih _) ?_
    rw [List.length_cons, Nat.pow_succ]
    have h : (if 48 ≤ c.toNat ∧ c.toNat ≤ 57 then 10 * acc + (c.toNat - 48) else acc) + 1 ≤ (acc + 1) * 10 := by split <;> omega
    calc _ ≤ (acc + 1) * 10 * 10 ^ r.length := Nat.mul_le_mul_right _ h
      _ = _ := by rw [Nat.mul_assoc, Nat.mul_comm 10]
/-- The number up to a limit whose decimal is a text. -/
def Rd (most : Int) (l : List UInt8) (n : Int) : Prop := -most ≤ n ∧ n ≤ most ∧ Lib.itoa n = l
noncomputable def rdB (most : Int) (l : List UInt8) : Bool := @decide (∃ n, Rd most l n) (Classical.propDecidable _)
noncomputable def rdN (most : Int) (l : List UInt8) : Int := @dite _ (∃ n, Rd most l n) (Classical.propDecidable _) (fun h => h.choose) (fun _ => 0)
theorem rd_yes {most : Int} {l : List UInt8} {n : Int} (hm : most ≤ 1000000000000000000) (h : Rd most l n) : rdB most l = true ∧ rdN most l = n := by
  have hx : ∃ n, Rd most l n := ⟨n, h⟩
  refine ⟨by simp [rdB, hx], ?_⟩
  unfold rdN
  rw [dif_pos hx]
  have k := hx.choose_spec
  exact itoa_inj (by have := k.1; omega) (by have := k.2.1; omega) (by have := h.1; omega) (by have := h.2.1; omega) (k.2.2.trans h.2.2.symm)
theorem rd_no {most : Int} {l : List UInt8} (h : ¬ ∃ n, Rd most l n) : rdB most l = false ∧ rdN most l = 0 := by
  refine ⟨by simp [rdB, h], ?_⟩
  unfold rdN
  rw [dif_neg h]
end Go.Proofs.YtjfkkmfbgmejbabDoor
