/- Frames of arguments: who attacks whom, as sets of bits: pure. -/
import Derived.Test.YtllfopbpchjhpaaDoorBt1
namespace Go.Proofs.YtllfopbpchjhpaaDoor
set_option linter.unusedSimpArgs false
set_option linter.unusedVariables false
/-- Whether a set is a part of another one. -/
def subB (a b : Nat) : Bool := decide (a &&& (65535 - b) = 0)
theorem sub_iff (a b : Nat) (hb : b < 65536) : (a &&& (65535 - b) = 0) ↔ ∀ i, a.testBit i = true → i < 16 → b.testBit i = true := by
  rw [and_zero]
  have hm : ∀ i, (65535 - b).testBit i = (decide (i < 16) && !b.testBit i) := fun i => mask_bit 16 b i hb
  constructor
  · intro h i hi h16
    have := h i hi
    rw [hm] at this
    simpa [h16] using this
  · intro h i hi
    rw [hm]
    by_cases q : i < 16
    · simp [q, h i hi q]
    · simp [q]
theorem subB_iff {a b : Nat} (ha : a < 65536) (hb : b < 65536) : subB a b = true ↔ ∀ i, a.testBit i = true → b.testBit i = true := by
  unfold subB
  rw [decide_eq_true_iff, sub_iff a b hb]
  exact ⟨fun h i hi => h i hi (bits_lt (n := 16) ha hi), fun h i hi _ => h i hi⟩
/-- An attack between two of n arguments. -/
def atkOk (n : Int) (l : List Int) : Prop := l.length = 2 ∧ 0 ≤ l.getD 0 0 ∧ l.getD 0 0 < n ∧ 0 ≤ l.getD 1 0 ∧ l.getD 1 0 < n
def keyA (l : List Int) : Int := l.getD 0 0 * 10 + l.getD 1 0
/-- Whether a frame is valid. -/
def fOk (X : Int × List (List Int)) : Prop := 0 ≤ X.1 ∧ X.1 ≤ 10 ∧ ∀ k, k < X.2.length → atkOk X.1 (X.2.getD k []) ∧ ∀ j, j + 1 = k → keyA (X.2.getD j []) < keyA (X.2.getD k [])
noncomputable def fOkB (X : Int × List (List Int)) : Bool := @decide (fOk X) (Classical.propDecidable _)
theorem fOkB_iff {X : Int × List (List Int)} : fOkB X = true ↔ fOk X := by simp [fOkB]
theorem fOkB_yes {X : Int × List (List Int)} (h : fOk X) : fOkB X = true := by simp [fOkB, h]
theorem fOkB_no {X : Int × List (List Int)} (h : ¬ fOk X) : fOkB X = false := by simp [fOkB, h]
theorem fOk.mem {X : Int × List (List Int)} (h : fOk X) : ∀ l ∈ X.2, atkOk X.1 l := by
  intro l hl
  obtain ⟨k, hk, e⟩ := List.getElem_of_mem hl
  have := (h.2.2 k hk).1
  have eg : X.2.getD k [] = X.2[k] := by simp [List.getD, hk]
  rw [eg, e] at this
  exact this
/-- The attackers of an argument. -/
def byF (L : List (List Int)) (t : Int) : Nat := L.foldl (fun s l => if l.getD 1 0 = t then s ||| 2 ^ (l.getD 0 0).toNat else s) 0
/-- What an argument attacks. -/
def hitF (L : List (List Int)) (a : Int) : Nat := L.foldl (fun s l => if l.getD 0 0 = a then s ||| 2 ^ (l.getD 1 0).toNat else s) 0
theorem byF_nil (t : Int) : byF [] t = 0 := rfl
theorem hitF_nil (t : Int) : hitF [] t = 0 := rfl
theorem byF_snoc (L : List (List Int)) (l : List Int) (t : Int) : byF (L ++ [l]) t = if l.getD 1 0 = t then byF L t ||| 2 ^ (l.getD 0 0).toNat else byF L t := by simp [byF, List.foldl_append]
theorem hitF_snoc (L : List (List Int)) (l : List Int) (t : Int) : hitF (L ++ [l]) t = if l.getD 0 0 = t then hitF L t ||| 2 ^ (l.getD 1 0).toNat else hitF L t := by simp [hitF, List.foldl_append]
/-- Whether one argument attacks another one. -/
def atk (L : List (List Int)) (i j : Nat) : Bool := L.any (fun l => decide (l.getD 0 0 = (i : Int)) && decide (l.getD 1 0 = (j : Int)))
theorem snoc_rec {α : Type} {P : List α → Prop} (h0 : P []) (h1 : ∀ l a, P l → P (l ++ [a])) : ∀ l, P l := by
  intro l
  have : ∀ r : List α, P r.reverse := fun r => by
    induction r with
    | nil => exact h0
    | cons a r ih => rw [List.reverse_cons]; exact h1 _ _ ih
  simpa using this l.reverse
theorem byF_bit (L : List (List Int)) (n : Int) (h : ∀ l ∈ L, atkOk n l) (i j : Nat) : (byF L (j : Int)).testBit i = atk L i j := by
  revert h
  induction L using snoc_rec with
  | h0 => intro _; simp [byF_nil, atk]
  | h1 L l ih =>
    intro h
    have hl := h l (by simp)
    have ih := ih (fun x hx => h x (by simp [hx]))
    unfold atk at ih ⊢
    rw [byF_snoc, List.any_append, ← ih]
    simp only [List.any_cons, List.any_nil, Bool.or_false]
    obtain ⟨-, h1, h2, h3, h4⟩ := hl
    generalize l.getD 0 0 = a at *
    generalize l.getD 1 0 = b at *
    by_cases e : b = (j : Int)
    · rw [if_pos e, Nat.testBit_or, bit_two]
      congr 1
      rw [Bool.eq_iff_iff]
      simp [e]
      omega
    · rw [if_neg e]; simp [e]
theorem hitF_bit (L : List (List Int)) (n : Int) (h : ∀ l ∈ L, atkOk n l) (i j : Nat) : (hitF L (i : Int)).testBit j = atk L i j := by
  revert h
  induction L using snoc_rec with
  | h0 => intro _; simp [hitF_nil, atk]
  | h1 L l ih =>
    intro h
    have hl := h l (by simp)
    have ih := ih (fun x hx => h x (by simp [hx]))
    unfold atk at ih ⊢
    rw [hitF_snoc, List.any_append, ← ih]
    simp only [List.any_cons, List.any_nil, Bool.or_false]
    obtain ⟨-, h1, h2, h3, h4⟩ := hl
    generalize l.getD 0 0 = a at *
    generalize l.getD 1 0 = b at *
    by_cases e : a = (i : Int)
    · rw [if_pos e, Nat.testBit_or, bit_two]
      congr 1
      rw [Bool.eq_iff_iff]
      simp [e]
      omega
    · rw [if_neg e]; simp [e]
theorem atk_lt {L : List (List Int)} {n : Nat} (h : ∀ l ∈ L, atkOk (n : Int) l) {i j : Nat} (ha : atk L i j = true) : i < n ∧ j < n := by
  unfold atk at ha
  rw [List.any_eq_true] at ha
  obtain ⟨l, hl, hq⟩ := ha
  obtain ⟨-, h1, h2, h3, h4⟩ := h l hl
  simp only [Bool.and_eq_true, decide_eq_true_eq] at hq
  omega
theorem byF_lt {L : List (List Int)} {n : Nat} (h : ∀ l ∈ L, atkOk (n : Int) l) (j : Nat) : byF L (j : Int) < 2 ^ n := lt_of_bits (fun i hi => by rw [byF_bit L n h] at hi; exact (atk_lt h hi).1)
theorem hitF_lt {L : List (List Int)} {n : Nat} (h : ∀ l ∈ L, atkOk (n : Int) l) (j : Nat) : hitF L (j : Int) < 2 ^ n := lt_of_bits (fun i hi => by rw [hitF_bit L n h] at hi; exact (atk_lt h hi).2)
/-- What a set attacks, what it defends. -/
def attB (n : Nat) (L : List (List Int)) (s : Nat) : Nat := those n (fun x => !decide (byF L (x : Int) &&& s = 0))
def defB (n : Nat) (L : List (List Int)) (s : Nat) : Nat := those n (fun x => subB (byF L (x : Int)) (attB n L s))
def freeB (n : Nat) (L : List (List Int)) (s : Nat) : Bool := decide (attB n L s &&& s = 0)
def ownB (n : Nat) (L : List (List Int)) (s : Nat) : Bool := subB s (defB n L s)
/-- What a set attacks, by the specification. -/
def hitS (L : List (List Int)) (s : Nat) : Nat → Nat
  | 0 => 0
  | n + 1 => if s.testBit n then hitS L s n ||| hitF L (n : Int) else hitS L s n
theorem hitS_bit (L : List (List Int)) (N : Int) (h : ∀ l ∈ L, atkOk N l) (s n j : Nat) : (hitS L s n).testBit j = true ↔ ∃ i, i < n ∧ s.testBit i = true ∧ atk L i j = true := by
  induction n with
  | zero => simp [hitS]
  | succ n ih =>
    unfold hitS
    by_cases e : s.testBit n = true
    · rw [if_pos e, Nat.testBit_or, Bool.or_eq_true, ih, hitF_bit L N h]
      constructor
      · rintro (⟨i, q1, q2, q3⟩ | q)
        · exact ⟨i, by omega, q2, q3⟩
        · exact ⟨n, by omega, e, q⟩
      · rintro ⟨i, q1, q2, q3⟩
        by_cases ei : i = n
        · subst ei; exact .inr q3
        · exact .inl ⟨i, by omega, q2, q3⟩
    · rw [if_neg e, ih]
      constructor
      · rintro ⟨i, q1, q2, q3⟩; exact ⟨i, by omega, q2, q3⟩
      · rintro ⟨i, q1, q2, q3⟩
        by_cases ei : i = n
        · subst ei; exact absurd q2 e
        · exact ⟨i, by omega, q2, q3⟩
theorem attB_bit {n : Nat} {L : List (List Int)} (h : ∀ l ∈ L, atkOk (n : Int) l) (s j : Nat) : (attB n L s).testBit j = true ↔ ∃ i, s.testBit i = true ∧ atk L i j = true := by
  unfold attB
  rw [those_bit]
  simp only [Bool.and_eq_true, decide_eq_true_eq, Bool.not_eq_true', decide_eq_false_iff_not, and_zero]
  constructor
  · rintro ⟨q1, q2⟩
    apply Classical.byContradiction
    intro hn
    refine q2 (fun i hi => ?_)
    rw [byF_bit L n h] at hi
    cases e : s.testBit i with
    | false => rfl
    | true => exact absurd ⟨i, e, hi⟩ hn
  · rintro ⟨i, q1, q2⟩
    refine ⟨(atk_lt h q2).2, fun hq => ?_⟩
    have := hq i (by rw [byF_bit L n h]; exact q2)
    rw [q1] at this
    cases this
theorem hit_att {n : Nat} {L : List (List Int)} (h : ∀ l ∈ L, atkOk (n : Int) l) (s : Nat) : hitS L s n = attB n L s := by
  apply bits_ext
  intro j
  rw [Bool.eq_iff_iff, hitS_bit L n h, attB_bit h]
  exact ⟨fun ⟨i, q1, q2, q3⟩ => ⟨i, q2, q3⟩, fun ⟨i, q2, q3⟩ => ⟨i, (atk_lt h q3).1, q2, q3⟩⟩
theorem attB_lt (n : Nat) (L : List (List Int)) (s : Nat) : attB n L s < 2 ^ n := those_lt _ _
theorem defB_lt (n : Nat) (L : List (List Int)) (s : Nat) : defB n L s < 2 ^ n := those_lt _ _
/-- The set of a list of numbers. -/
def setL (l : List Int) : Nat := l.foldl (fun s x => s ||| 2 ^ x.toNat) 0
theorem setL_snoc (l : List Int) (x : Int) : setL (l ++ [x]) = setL l ||| 2 ^ x.toNat := by simp [setL, List.foldl_append]
theorem setL_lt (l : List Int) (n : Nat) (h : ∀ x ∈ l, 0 ≤ x ∧ x < (n : Int)) : setL l < 2 ^ n := by
  revert h
  induction l using snoc_rec with
  | h0 => intro _; simp [setL]; exact Nat.pow_pos (by omega)
  | h1 l x ih =>
    intro h
    rw [setL_snoc]
    have hx := h x (by simp)
    exact or_lt (ih (fun y hy => h y (by simp [hy]))) (Nat.pow_lt_pow_right (by omega) (by omega))
end Go.Proofs.YtllfopbpchjhpaaDoor
