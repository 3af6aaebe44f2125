/- Several of this claim's texts in one: Rn1, Rn2. -/
import Derived.Test.YtllfopbpchjhpaaDoorGr1
/- Rounds of a frame: pure. What both sides decide, and when it ends. -/
namespace Go.Proofs.YtllfopbpchjhpaaDoor
set_option linter.unusedSimpArgs false
set_option linter.unusedVariables false
/-- What is accepted after k rounds. -/
def accB (n : Nat) (L : List (List Int)) : Nat → Nat
  | 0 => 0
  | k + 1 => defB n L (accB n L k)
/-- Decisions with those of a set that had not been decided. -/
def withD (d : Nat → Int) (s : Nat) (z : Int) : Nat → Int := fun i => if s.testBit i = true ∧ d i = 0 then z else d i
def decD (n : Nat) (L : List (List Int)) : Nat → Nat → Int
  | 0 => fun _ => 0
  | k + 1 => withD (withD (decD n L k) (accB n L (k + 1)) ((k : Int) + 1)) (attB n L (accB n L (k + 1))) (-((k : Int) + 1))
theorem sign_help (P R : Bool) (D : Int) (k : Nat) (pa pb : Prop) (a : 0 < D ↔ pa) (b : D < 0 ↔ pb) (c : pa → P = true) (d : P = true → R = false) (e : pb → R = true) :
    (0 < (if R = true ∧ (if P = true ∧ D = 0 then (k : Int) + 1 else D) = 0 then -((k : Int) + 1) else (if P = true ∧ D = 0 then (k : Int) + 1 else D)) ↔ P = true) ∧
    ((if R = true ∧ (if P = true ∧ D = 0 then (k : Int) + 1 else D) = 0 then -((k : Int) + 1) else (if P = true ∧ D = 0 then (k : Int) + 1 else D)) < 0 ↔ R = true) := by
  have hk : (k : Int) + 1 ≠ 0 := by omega
  rcases Int.lt_trichotomy D 0 with q | q | q
  · have r := e (b.1 q)
    subst r
    have p : P = false := by
      cases hp : P with
      | false => rfl
      | true => have := d hp; cases this
    subst p
    have q0 : ¬ D = 0 := by omega
    simp [q0, q]; omega
  · subst q
    cases P with
    | true =>
      have r := d rfl
      subst r
      simp; omega
    | false =>
      cases R with
      | true => simp; omega
      | false => simp
  · have p := c (a.1 q)
    subst p
    have r := d rfl
    subst r
    have q0 : ¬ D = 0 := by omega
    simp [q0, q]; omega
theorem by_bit {n : Nat} {L : List (List Int)} (h : ∀ l ∈ L, atkOk (n : Int) l) (i j : Nat) : (byF L (j : Int)).testBit i = atk L i j := byF_bit L n h i j
theorem by_lt16 {n : Nat} {L : List (List Int)} (h : ∀ l ∈ L, atkOk (n : Int) l) (hn : n ≤ 10) (j : Nat) : byF L (j : Int) < 65536 := Nat.lt_of_lt_of_le (byF_lt h j) (Nat.le_trans (Nat.pow_le_pow_right (by omega) hn) (by decide))
theorem att_lt16 {n : Nat} {L : List (List Int)} (h : ∀ l ∈ L, atkOk (n : Int) l) (hn : n ≤ 10) (s : Nat) : attB n L s < 65536 := Nat.lt_of_lt_of_le (attB_lt n L s) (Nat.le_trans (Nat.pow_le_pow_right (by omega) hn) (by decide))
/-- Who is defended: all its attackers are attacked. -/
theorem def_bit {n : Nat} {L : List (List Int)} (h : ∀ l ∈ L, atkOk (n : Int) l) (hn : n ≤ 10) (s j : Nat) : (defB n L s).testBit j = true ↔ j < n ∧ ∀ i, atk L i j = true → (attB n L s).testBit i = true := by
  unfold defB
  rw [those_bit]
  simp only [Bool.and_eq_true, decide_eq_true_eq]
  rw [subB_iff (by_lt16 h hn j) (att_lt16 h hn s)]
  simp only [by_bit h]
theorem att_mono {n : Nat} {L : List (List Int)} (h : ∀ l ∈ L, atkOk (n : Int) l) {s t : Nat} (hst : ∀ i, s.testBit i = true → t.testBit i = true) (j : Nat) (hj : (attB n L s).testBit j = true) : (attB n L t).testBit j = true := by
  rw [attB_bit h] at hj ⊢
  obtain ⟨i, a, b⟩ := hj
  exact ⟨i, hst i a, b⟩
theorem def_mono {n : Nat} {L : List (List Int)} (h : ∀ l ∈ L, atkOk (n : Int) l) (hn : n ≤ 10) {s t : Nat} (hst : ∀ i, s.testBit i = true → t.testBit i = true) (j : Nat) (hj : (defB n L s).testBit j = true) : (defB n L t).testBit j = true := by
  rw [def_bit h hn] at hj ⊢
  exact ⟨hj.1, fun i hi => att_mono h hst i (hj.2 i hi)⟩
theorem acc_mono {n : Nat} {L : List (List Int)} (h : ∀ l ∈ L, atkOk (n : Int) l) (hn : n ≤ 10) (k : Nat) : ∀ i, (accB n L k).testBit i = true → (accB n L (k + 1)).testBit i = true := by
  induction k with
  | zero => intro i hi; simp [accB] at hi
  | succ k ih => intro i hi; exact def_mono h hn ih i hi
/-- None that is accepted is attacked by one that is accepted. -/
theorem acc_free {n : Nat} {L : List (List Int)} (h : ∀ l ∈ L, atkOk (n : Int) l) (hn : n ≤ 10) (k : Nat) : ∀ i, (accB n L k).testBit i = true → (attB n L (accB n L k)).testBit i = false := by
  induction k with
  | zero => intro i hi; simp [accB] at hi
  | succ k ih =>
    intro b hb
    cases e : (attB n L (accB n L (k + 1))).testBit b with
    | false => rfl
    | true =>
      obtain ⟨a, ha, hab⟩ := (attB_bit h _ _).1 e
      have hb' := (def_bit h hn _ _).1 hb
      have hx := hb'.2 a hab
      obtain ⟨c, hc, hca⟩ := (attB_bit h _ _).1 hx
      have ha' := (def_bit h hn _ _).1 ha
      have := ih c hc
      rw [ha'.2 c hca] at this
      cases this
theorem acc_lt {n : Nat} {L : List (List Int)} (h : ∀ l ∈ L, atkOk (n : Int) l) (k i : Nat) (hi : (accB n L k).testBit i = true) : i < n := by
  cases k with
  | zero => simp [accB] at hi
  | succ k => exact bits_lt (defB_lt n L _) hi
theorem att_ltn {n : Nat} {L : List (List Int)} (h : ∀ l ∈ L, atkOk (n : Int) l) (s i : Nat) (hi : (attB n L s).testBit i = true) : i < n := bits_lt (attB_lt n L s) hi
/-- Signs tell who is accepted and who is rejected. -/
theorem dec_sign {n : Nat} {L : List (List Int)} (h : ∀ l ∈ L, atkOk (n : Int) l) (hn : n ≤ 10) (k : Nat) : (∀ i, 0 < decD n L k i ↔ (accB n L k).testBit i = true) ∧ (∀ i, decD n L k i < 0 ↔ (attB n L (accB n L k)).testBit i = true) := by
  induction k with
  | zero =>
    refine ⟨fun i => by simp [decD, accB], fun i => ?_⟩
    rw [attB_bit h]
    simp [decD, accB]
  | succ k ih =>
    obtain ⟨ih1, ih2⟩ := ih
    have hm := acc_mono h hn k
    have hf := acc_free h hn (k + 1)
    have hmm := att_mono h hm
    have key := fun i => sign_help ((accB n L (k + 1)).testBit i) ((attB n L (accB n L (k + 1))).testBit i) (decD n L k i) k _ _ (ih1 i) (ih2 i) (hm i) (hf i) (hmm i)
    exact ⟨fun i => (key i).1, fun i => (key i).2⟩
theorem dec_keep {n : Nat} {L : List (List Int)} (h : ∀ l ∈ L, atkOk (n : Int) l) (k i : Nat) (hi : decD n L k i ≠ 0) : decD n L (k + 1) i = decD n L k i := by
  show withD (withD (decD n L k) (accB n L (k + 1)) ((k : Int) + 1)) (attB n L (accB n L (k + 1))) (-((k : Int) + 1)) i = _
  unfold withD
  simp [hi]
theorem dec_out {n : Nat} {L : List (List Int)} (h : ∀ l ∈ L, atkOk (n : Int) l) (k i : Nat) (hi : n ≤ i) : decD n L k i = 0 := by
  induction k with
  | zero => rfl
  | succ k ih =>
    show withD (withD (decD n L k) (accB n L (k + 1)) ((k : Int) + 1)) (attB n L (accB n L (k + 1))) (-((k : Int) + 1)) i = _
    unfold withD
    have e1 : (accB n L (k + 1)).testBit i = false := by
      cases e : (accB n L (k + 1)).testBit i with
      | false => rfl
      | true => have := acc_lt h (k + 1) i e; omega
    have e2 : (attB n L (accB n L (k + 1))).testBit i = false := by
      cases e : (attB n L (accB n L (k + 1))).testBit i with
      | false => rfl
      | true => have := att_ltn h _ i e; omega
    simp [e1, e2, ih]
theorem dec_stable {n : Nat} {L : List (List Int)} (h : ∀ l ∈ L, atkOk (n : Int) l) (hn : n ≤ 10) (k : Nat) (he : decD n L (k + 1) = decD n L k) : decD n L (k + 2) = decD n L (k + 1) := by
  have ea : accB n L (k + 1) = accB n L k := by
    apply bits_ext
    intro i
    rw [Bool.eq_iff_iff, ← (dec_sign h hn (k + 1)).1 i, ← (dec_sign h hn k).1 i, he]
  have eb : accB n L (k + 2) = accB n L (k + 1) := by
    show defB n L (accB n L (k + 1)) = defB n L (accB n L k)
    rw [ea]
  have s := dec_sign h hn (k + 1)
  funext i
  show withD (withD (decD n L (k + 1)) (accB n L (k + 2)) (((k + 1 : Nat) : Int) + 1)) (attB n L (accB n L (k + 2))) (-(((k + 1 : Nat) : Int) + 1)) i = _
  rw [eb]
  unfold withD
  have a := s.1 i; have b := s.2 i
  by_cases q : (accB n L (k + 1)).testBit i = true
  · have := a.2 q
    have z : decD n L (k + 1) i ≠ 0 := by omega
    simp [z]
  · by_cases q2 : (attB n L (accB n L (k + 1))).testBit i = true
    · have := b.2 q2
      have z : decD n L (k + 1) i ≠ 0 := by omega
      simp [z]
    · simp [q, q2]
theorem dec_stay {n : Nat} {L : List (List Int)} (h : ∀ l ∈ L, atkOk (n : Int) l) (hn : n ≤ 10) (k : Nat) (he : decD n L (k + 1) = decD n L k) (m : Nat) : decD n L (k + m) = decD n L k := by
  have key : ∀ m, decD n L (k + m) = decD n L k ∧ decD n L (k + m + 1) = decD n L (k + m) := by
    intro m
    induction m with
    | zero => exact ⟨rfl, he⟩
    | succ m ih => exact ⟨ih.2.trans ih.1, dec_stable h hn (k + m) ih.2⟩
  exact (key m).1
/-- How many are decided. -/
def cntD (n : Nat) (d : Nat → Int) : Nat := ((List.range n).filter (fun i => decide (d i ≠ 0))).length
theorem cnt_le  (n : Nat) (d : Nat → Int) : cntD n d ≤ n := by
  unfold cntD
  exact Nat.le_trans (List.length_filter_le _ _) (by simp)
theorem cnt_mono  : ∀ (l : List Nat) (d e : Nat → Int), (∀ i, d i ≠ 0 → e i ≠ 0) → (l.filter (fun i => decide (d i ≠ 0))).length ≤ (l.filter (fun i => decide (e i ≠ 0))).length
  | [], _, _, _ => Nat.le_refl _
  | x :: l, d, e, hde => by
    have ih := cnt_mono l d e hde
    simp only [List.filter_cons]
    by_cases q : d x ≠ 0
    · have := hde x q
      simp [q, this] at ih ⊢; exact ih
    · by_cases q2 : e x ≠ 0
      · simp [q, q2] at ih ⊢; omega
      · simp [q, q2] at ih ⊢; exact ih
theorem cnt_lt  : ∀ (l : List Nat) (d e : Nat → Int) (x : Nat), x ∈ l → d x = 0 → e x ≠ 0 → (∀ i, d i ≠ 0 → e i ≠ 0) → (l.filter (fun i => decide (d i ≠ 0))).length < (l.filter (fun i => decide (e i ≠ 0))).length
  | [], _, _, _, hx, _, _, _ => by cases hx
  | y :: l, d, e, x, hx, h1, h2, hde => by
    simp only [List.filter_cons]
    by_cases exy : x = y
    · subst exy
      have := cnt_mono l d e hde
      simp [h1, h2] at this ⊢; omega
    · have hx' : x ∈ l := by
        cases hx with
        | head => exact absurd rfl exy
        | tail _ hh => exact hh
      have ih := cnt_lt l d e x hx' h1 h2 hde
      by_cases q : d y ≠ 0
      · have := hde y q
        simp [q, this] at ih ⊢; exact ih
      · by_cases q2 : e y ≠ 0
        · simp [q, q2] at ih ⊢; omega
        · simp [q, q2] at ih ⊢; exact ih
/-- As long as each round decides, it has decided as many as rounds have passed. -/
theorem cnt_ge {n : Nat} {L : List (List Int)} (h : ∀ l ∈ L, atkOk (n : Int) l) (k : Nat) (hk : ∀ j, j < k → decD n L (j + 1) ≠ decD n L j) : k ≤ cntD n (decD n L k) := by
  induction k with
  | zero => exact Nat.zero_le _
  | succ k ih =>
    have ih := ih (fun j hj => hk j (by omega))
    have hne := hk k (by omega)
    have : ∃ x, decD n L (k + 1) x ≠ decD n L k x := Classical.byContradiction fun hn => hne (funext fun x => Classical.byContradiction fun hx => hn ⟨x, hx⟩)
    obtain ⟨x, hx⟩ := this
    have h0 : decD n L k x = 0 := Classical.byContradiction fun hz => hx (dec_keep h k x hz)
    have hxn : x < n := by
      apply Classical.byContradiction
      intro hq
      exact hx (by rw [dec_out h (k + 1) x (by omega), dec_out h k x (by omega)])
    have := cnt_lt (List.range n) (decD n L k) (decD n L (k + 1)) x (by simpa using hxn) h0 (by rw [h0] at hx; exact hx) (fun i hi => by rw [dec_keep h k i hi]; exact hi)
    unfold cntD at ih ⊢
    omega
/-- The first round that decides nothing comes within n rounds, and what is decided then is what n rounds decide. -/
theorem dec_end {n : Nat} {L : List (List Int)} (h : ∀ l ∈ L, atkOk (n : Int) l) (hn : n ≤ 10) (k : Nat) (hk : ∀ j, j < k → decD n L (j + 1) ≠ decD n L j) : k ≤ n ∧ (decD n L (k + 1) = decD n L k → decD n L (k + 1) = decD n L n) := by
  have h1 := cnt_ge h k hk
  have h2 := cnt_le n (decD n L k)
  refine ⟨by omega, fun he => ?_⟩
  have := dec_stay h hn k he (n - k)
  rw [show k + (n - k) = n by omega] at this
  rw [this, he]
end Go.Proofs.YtllfopbpchjhpaaDoor
/- Rounds of a frame, by the specification: pure. -/
namespace Go.Proofs.YtllfopbpchjhpaaDoor
set_option linter.unusedSimpArgs false
set_option linter.unusedVariables false
/-- Accepted in the round behind k, and not before. -/
def newA (n : Nat) (L : List (List Int)) (k : Nat) (j : Nat) : Bool := decide (decD n L k j = 0) && subB (byF L (j : Int)) (attB n L (accB n L k))
/-- Decisions when those who are accepted have been. -/
def midD (n : Nat) (L : List (List Int)) (k : Nat) : Nat → Int := withD (decD n L k) (accB n L (k + 1)) ((k : Int) + 1)
def newR (n : Nat) (L : List (List Int)) (k : Nat) (j : Nat) : Bool := decide (midD n L k j = 0) && (attB n L (accB n L (k + 1))).testBit j
theorem mid_at {n : Nat} {L : List (List Int)} (k j : Nat) (hj : j < n) : midD n L k j = if newA n L k j = true then (k : Int) + 1 else decD n L k j := by
  unfold midD withD newA
  have e : (accB n L (k + 1)).testBit j = subB (byF L (j : Int)) (attB n L (accB n L k)) := by
    show (defB n L (accB n L k)).testBit j = _
    unfold defB
    rw [those_bit]; simp [hj]
  rw [e]
  by_cases q : decD n L k j = 0
  · simp [q]
  · simp [q]
theorem dec_at {n : Nat} {L : List (List Int)} (k j : Nat) (hj : j < n) : decD n L (k + 1) j = if newR n L k j = true then -((k : Int) + 1) else midD n L k j := by
  show withD (midD n L k) (attB n L (accB n L (k + 1))) (-((k : Int) + 1)) j = _
  unfold withD newR
  by_cases q : midD n L k j = 0
  · simp [q]
  · simp [q]
theorem acc_next {n : Nat} {L : List (List Int)} (h : ∀ l ∈ L, atkOk (n : Int) l) (hn : n ≤ 10) (k : Nat) : accB n L k ||| those n (newA n L k) = accB n L (k + 1) := by
  apply bits_ext
  intro j
  rw [Nat.testBit_or, those_bit, Bool.eq_iff_iff]
  have e : (accB n L (k + 1)).testBit j = (decide (j < n) && subB (byF L (j : Int)) (attB n L (accB n L k))) := by
    show (defB n L (accB n L k)).testBit j = _
    unfold defB
    rw [those_bit]
  constructor
  · intro q
    rcases Bool.or_eq_true _ _ ▸ q with q | q
    · exact acc_mono h hn k j q
    · unfold newA at q
      rw [e]
      simp only [Bool.and_eq_true] at q ⊢
      exact ⟨q.1, q.2.2⟩
  · intro q
    have q2 := q
    rw [e, Bool.and_eq_true] at q2
    obtain ⟨s1, s2⟩ := dec_sign h hn k
    rw [Bool.or_eq_true]
    by_cases z : decD n L k j = 0
    · right; unfold newA; simp [q2.2, z]; exact of_decide_eq_true q2.1
    · left
      apply (s1 j).1
      have : ¬ decD n L k j < 0 := fun hz => by
        have a := att_mono h (acc_mono h hn k) j ((s2 j).1 hz)
        have b := acc_free h hn (k + 1) j q
        rw [a] at b; cases b
      omega
theorem gone_next {n : Nat} {L : List (List Int)} (h : ∀ l ∈ L, atkOk (n : Int) l) (hn : n ≤ 10) (k : Nat) : attB n L (accB n L k) ||| those n (newR n L k) = attB n L (accB n L (k + 1)) := by
  apply bits_ext
  intro j
  rw [Nat.testBit_or, those_bit, Bool.eq_iff_iff]
  constructor
  · intro q
    rcases Bool.or_eq_true _ _ ▸ q with q | q
    · exact att_mono h (acc_mono h hn k) j q
    · unfold newR at q
      simp only [Bool.and_eq_true] at q
      exact q.2.2
  · intro q
    obtain ⟨s1, s2⟩ := dec_sign h hn k
    have hj := att_ltn h _ j q
    have na : (accB n L (k + 1)).testBit j = false := by
      cases e : (accB n L (k + 1)).testBit j with
      | false => rfl
      | true => have := acc_free h hn (k + 1) j e; rw [q] at this; cases this
    have em : midD n L k j = decD n L k j := by unfold midD withD; rw [na]; simp
    rw [Bool.or_eq_true]
    by_cases z : decD n L k j = 0
    · right; unfold newR; rw [em]; simp [hj, q, z]
    · left
      apply (s2 j).1
      have : ¬ 0 < decD n L k j := fun hz => by
        have := acc_mono h hn k j ((s1 j).1 hz)
        rw [na] at this; cases this
      omega
theorem dec_bd (n : Nat) (L : List (List Int)) (k i : Nat) : -(k : Int) ≤ decD n L k i ∧ decD n L k i ≤ (k : Int) := by
  induction k with
  | zero => simp [decD]
  | succ k ih =>
    have e : decD n L (k + 1) i = withD (withD (decD n L k) (accB n L (k + 1)) ((k : Int) + 1)) (attB n L (accB n L (k + 1))) (-((k : Int) + 1)) i := rfl
    rw [e]
    unfold withD
    split
    · omega
    · split <;> omega
end Go.Proofs.YtllfopbpchjhpaaDoor
