/- Fractions in lowest terms; texts without a slash: plain lemmas. -/
import Derived.Test.YtjfkkmfbgmejbabDoorMake
import Derived.Test.YtjfkkmfbgmejbabDoorFPure
import Derived.Test.YtjfkkmfbgmejbabDoorRPure
import Derived.Lib.ItoaNum
namespace Go.Proofs.YtjfkkmfbgmejbabDoor
open Go
theorem rw_terms {n d : Int} : n = rN n d * sG n d ∧ d = rD n d * sG n d := by
  have h1 : sG n d ∣ n := by unfold sG; split <;> simp [Int.gcd_dvd_left]
  have h2 : sG n d ∣ d := by unfold sG; split <;> simp [Int.gcd_dvd_right]
  exact ⟨(Int.tdiv_mul_cancel h1).symm, (Int.tdiv_mul_cancel h2).symm⟩
theorem rD_pos {n d : Int} (hd : d ≠ 0) : 1 ≤ rD n d := by
  obtain ⟨_, h2⟩ := rw_terms (n := n) (d := d)
  have hs := sG_ne (n := n) hd
  have h3 : 0 < rD n d := by
    by_cases h : d < 0
    · have g : sG n d < 0 := by rw [← sG_neg h]; have := gcd_pos' (n := n) hd; omega
      by_cases k : 0 < rD n d
      · exact k
      · have := Int.mul_nonneg_of_nonpos_of_nonpos (a := rD n d) (b := sG n d) (by omega) (by omega)
        omega
    · have g : 0 < sG n d := by rw [← sG_pos h]; have := gcd_pos' (n := n) hd; omega
      by_cases k : 0 < rD n d
      · exact k
      · have := Int.mul_nonpos_of_nonpos_of_nonneg (a := rD n d) (b := sG n d) (by omega) (by omega)
        omega
  omega
theorem r_gcd {n d : Int} (hd : d ≠ 0) : Int.gcd (rN n d) (rD n d) = 1 := by
  obtain ⟨h1, h2⟩ := rw_terms (n := n) (d := d)
  have hp := gcd_pos' (n := n) hd
  have hs : (sG n d).natAbs = Int.gcd n d := by unfold sG; split <;> omega
  have e := Int.gcd_mul_right (rN n d) (sG n d) (rD n d)
  rw [← h1, ← h2, hs] at e
  exact (Nat.eq_of_mul_eq_mul_right hp (by omega : 1 * Int.gcd n d = Int.gcd (rN n d) (rD n d) * Int.gcd n d)).symm
theorem r_ok {n d : Int} (hd : d ≠ 0) (h1 : -1000000000 ≤ n) (h2 : n ≤ 1000000000) (h3 : -1000000000 ≤ d) (h4 : d ≤ 1000000000) : okF (rN n d) (rD n d) := by
  have a : -(n.natAbs : Int) ≤ rN n d ∧ rN n d ≤ n.natAbs := tdiv_bd n (sG n d)
  have b : -(d.natAbs : Int) ≤ rD n d ∧ rD n d ≤ d.natAbs := tdiv_bd d (sG n d)
  refine ⟨rD_pos hd, ?_, ?_, ?_, r_gcd hd⟩ <;> omega
theorem r_cross {n d : Int} : rN n d * d = n * rD n d := by
  obtain ⟨h1, h2⟩ := rw_terms (n := n) (d := d)
  generalize rN n d = x at *
  generalize rD n d = y at *
  generalize sG n d = z at *
  subst h1 h2
  rw [Int.mul_assoc x z y, Int.mul_comm z y]
theorem dvd_cop {c a b : Int} (h : c ∣ a * b) (g : Int.gcd c a = 1) : c ∣ b := by
  have h' := Int.natAbs_dvd_natAbs.2 h
  rw [Int.natAbs_mul] at h'
  exact Int.natAbs_dvd_natAbs.1 (Nat.Coprime.dvd_of_dvd_mul_left (show Nat.Coprime c.natAbs a.natAbs from g) h')
theorem r_same {n d a b : Int} (hd : d ≠ 0) (k : okF a b) (h : n * b = a * d) : rN n d = a ∧ rD n d = b := by
  have hp := rD_pos (n := n) hd
  have hg := r_gcd (n := n) hd
  have hc := r_cross (n := n) (d := d)
  have e : rN n d * b = a * rD n d := by
    have : d * (rN n d * b) = d * (a * rD n d) := by
      calc d * (rN n d * b) = (rN n d * d) * b := by rw [← Int.mul_assoc, Int.mul_comm d]
        _ = (n * b) * rD n d := by rw [hc, Int.mul_assoc, Int.mul_comm (rD n d), ← Int.mul_assoc]
        _ = d * (a * rD n d) := by rw [h, Int.mul_comm a, Int.mul_assoc]
    exact Int.eq_of_mul_eq_mul_left hd this
  obtain ⟨k1, -, -, -, k5⟩ := k
  have d1 : rD n d ∣ b := dvd_cop (a := rN n d) (by rw [e]; exact Int.dvd_mul_left _ _) (by rw [Int.gcd_comm]; exact hg)
  have d2 : b ∣ rD n d := dvd_cop (a := a) (by rw [← e]; exact Int.dvd_mul_left _ _) (by rw [Int.gcd_comm]; exact k5)
  have l1 := Int.le_of_dvd (by omega) d1
  have l2 := Int.le_of_dvd (by omega) d2
  have eb : rD n d = b := by omega
  refine ⟨?_, eb⟩
  rw [eb] at e
  exact Int.eq_of_mul_eq_mul_right (by omega) e
theorem r_num_bd (n d : Int) : -(n.natAbs : Int) ≤ rN n d ∧ rN n d ≤ n.natAbs := tdiv_bd _ _
theorem r_den_bd (n d : Int) : rD n d ≤ d.natAbs := (tdiv_bd _ _).2
theorem r_sign {n d : Int} (hd : 0 < d) : (0 < rN n d ↔ 0 < n) ∧ (rN n d < 0 ↔ n < 0) ∧ (rN n d = 0 ↔ n = 0) := by
  have hp := rD_pos (n := n) (d := d) (by omega)
  have hc := r_cross (n := n) (d := d)
  have p1 : 0 < rN n d → 0 < n := fun h => by
    have : 0 < n * rD n d := by rw [← hc]; exact Int.mul_pos h hd
    exact Int.pos_of_mul_pos_left this (by omega)
  have p2 : rN n d < 0 → n < 0 := fun h => by
    have : n * rD n d < 0 := by rw [← hc]; exact Int.mul_neg_of_neg_of_pos h hd
    exact Int.neg_of_mul_neg_left this (by omega)
  have p3 : rN n d = 0 → n = 0 := fun h => by
    have : n * rD n d = 0 := by rw [← hc, h, Int.zero_mul]
    rcases Int.mul_eq_zero.1 this with h | h <;> omega
  refine ⟨⟨p1, ?_⟩, ⟨p2, ?_⟩, ⟨p3, ?_⟩⟩ <;> intro h <;> rcases Int.lt_trichotomy (rN n d) 0 with q | q | q <;> first | omega | (have := p1 q; omega) | (have := p2 q; omega) | (have := p3 q; omega)
/-- A drawn fraction: valid, and its terms are small. -/
def small (n d : Int) : Prop := okF n d ∧ -300 ≤ n ∧ n ≤ 300 ∧ d ≤ 300
theorem mulB {a b A B : Int} (h1 : -A ≤ a) (h2 : a ≤ A) (h3 : -B ≤ b) (h4 : b ≤ B) : -(A * B) ≤ a * b ∧ a * b ≤ A * B := by
  have h : (a * b).natAbs ≤ A.natAbs * B.natAbs := by rw [Int.natAbs_mul]; exact Nat.mul_le_mul (by omega) (by omega)
  have e : ((A.natAbs * B.natAbs : Nat) : Int) = A * B := by
    rw [Int.natCast_mul]; congr 1 <;> omega
  omega
theorem mul_pos1 {a b A B : Int} (h1 : 1 ≤ a) (h2 : a ≤ A) (h3 : 1 ≤ b) (h4 : b ≤ B) : 1 ≤ a * b ∧ a * b ≤ A * B := by
  refine ⟨?_, (mulB (A := A) (B := B) (by omega) (by omega) (by omega) (by omega)).2⟩
  have := Int.mul_pos (a := a) (b := b) (by omega) (by omega)
  omega
theorem dec_no_slash : ∀ (u : Nat), ∀ c ∈ Lib.decDigits u, c ≠ 47 := by
  intro u
  induction u using Nat.strongRecOn with
  | ind u ih =>
    intro c hc
    rw [Lib.decDigits] at hc
    have key : ∀ d, d < 10 → UInt8.ofNat (48 + d) ≠ 47 := fun d hd e => by
      have := u8d hd
      rw [e] at this
      have e47 : (47 : UInt8).toNat = 47 := rfl
      omega
    split at hc
    · rename_i h
      rw [List.mem_singleton.1 hc]; exact key _ h
    · rename_i h
      rcases List.mem_append.1 hc with hc | hc
      · exact ih _ (by omega) c hc
      · rw [List.mem_singleton.1 hc]; exact key _ (by omega)
theorem itoa_no_slash (n : Int) : ∀ c ∈ Lib.itoa n, c ≠ 47 := by
  intro c hc
  unfold Lib.itoa at hc
  split at hc
  · rcases List.mem_cons.1 hc with h | h
    · rw [h]; decide
    · exact dec_no_slash _ c h
  · exact dec_no_slash _ c hc
theorem cut_none {l : List UInt8} (h : ∀ c ∈ l, c ≠ 47) : cutAt l 0 = l.length := by
  unfold cutAt
  simp only [List.drop_zero, Nat.zero_add]
  exact List.findIdx_eq_length_of_false (fun x hx => by simpa using h x hx)
theorem cut_some {l r : List UInt8} (h : ∀ c ∈ l, c ≠ 47) : cutAt (l ++ ([47] ++ r)) 0 = l.length := by
  unfold cutAt
  simp only [List.drop_zero, Nat.zero_add, List.findIdx_append]
  rw [List.findIdx_eq_length_of_false (fun x hx => by simpa using h x hx)]
  simp [List.findIdx_cons]
end Go.Proofs.YtjfkkmfbgmejbabDoor
