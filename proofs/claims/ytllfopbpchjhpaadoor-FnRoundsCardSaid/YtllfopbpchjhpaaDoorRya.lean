/- Several of this claim's texts in one: Rr1, Ry1. -/
import Derived.Test.YtllfopbpchjhpaaDoorRna
import Derived.Test.YtllfopbpchjhpaaDoorGa2
import Derived.Test.YtllfopbpchjhpaaDoorRta
/- What the rounds of a frame are, seen from an argument's attackers: no program in sight. -/
namespace Go.Proofs.YtllfopbpchjhpaaDoor
set_option linter.unusedSimpArgs false
set_option linter.unusedVariables false
theorem acc_le {n : Nat} {L : List (List Int)} (h : ∀ l ∈ L, atkOk (n : Int) l) (hn : n ≤ 10) {k m : Nat} (hkm : k ≤ m) (i : Nat) (hi : (accB n L k).testBit i = true) : (accB n L m).testBit i = true := by
  obtain ⟨d, rfl⟩ : ∃ d, m = k + d := ⟨m - k, by omega⟩
  clear hkm
  induction d with
  | zero => exact hi
  | succ d ih => exact acc_mono h hn (k + d) i ih
theorem attacc_le {n : Nat} {L : List (List Int)} (h : ∀ l ∈ L, atkOk (n : Int) l) (hn : n ≤ 10) {k m : Nat} (hkm : k ≤ m) (i : Nat) (hi : (attB n L (accB n L k)).testBit i = true) : (attB n L (accB n L m)).testBit i = true :=
  att_mono h (fun x hx => acc_le h hn hkm x hx) i hi
/-- A decision names the round in which it was taken. -/
theorem dec_round {n : Nat} {L : List (List Int)} (h : ∀ l ∈ L, atkOk (n : Int) l) (hn : n ≤ 10) (k j : Nat) :
    (0 < decD n L k j → ∃ r, r < k ∧ decD n L k j = (r : Int) + 1 ∧ (accB n L (r + 1)).testBit j = true ∧ (accB n L r).testBit j = false) ∧
    (decD n L k j < 0 → ∃ r, r < k ∧ decD n L k j = -((r : Int) + 1) ∧ (attB n L (accB n L (r + 1))).testBit j = true ∧ (attB n L (accB n L r)).testBit j = false) := by
  induction k with
  | zero => exact ⟨fun q => absurd q (by show ¬ (0 : Int) < 0; omega), fun q => absurd q (by show ¬ (0 : Int) < 0; omega)⟩
  | succ k ih =>
    by_cases hz : decD n L k j = 0
    · have s := dec_sign h hn k
      have s' := dec_sign h hn (k + 1)
      have a0 : (accB n L k).testBit j = false := by
        cases e : (accB n L k).testBit j with
        | false => rfl
        | true => have := (s.1 j).2 e; omega
      have b0 : (attB n L (accB n L k)).testBit j = false := by
        cases e : (attB n L (accB n L k)).testBit j with
        | false => rfl
        | true => have := (s.2 j).2 e; omega
      have hd : decD n L (k + 1) j = withD (withD (decD n L k) (accB n L (k + 1)) ((k : Int) + 1)) (attB n L (accB n L (k + 1))) (-((k : Int) + 1)) j := rfl
      unfold withD at hd
      refine ⟨fun q => ⟨k, by omega, ?_, (s'.1 j).1 q, a0⟩, fun q => ⟨k, by omega, ?_, (s'.2 j).1 q, b0⟩⟩
      · have p := (s'.1 j).1 q
        rw [hd]
        simp only [p, hz, and_self, if_true]
        rw [if_neg (by omega)]
      · have p := (s'.2 j).1 q
        have np : ¬ (accB n L (k + 1)).testBit j = true := fun e => by have := (s'.1 j).2 e; omega
        rw [hd]
        simp [p, np, hz]
    · rw [dec_keep h k j hz]
      exact ⟨fun q => by obtain ⟨r, r1, r2⟩ := ih.1 q; exact ⟨r, by omega, r2⟩, fun q => by obtain ⟨r, r1, r2⟩ := ih.2 q; exact ⟨r, by omega, r2⟩⟩
/-- Behind n rounds none is accepted anew. -/
theorem acc_end {n : Nat} {L : List (List Int)} (h : ∀ l ∈ L, atkOk (n : Int) l) (hn : n ≤ 10) (j : Nat) (hj : (accB n L (n + 1)).testBit j = true) : (accB n L n).testBit j = true := by
  have : ∃ k, k ≤ n ∧ decD n L (k + 1) = decD n L k := by
    apply Classical.byContradiction
    intro hno
    have := cnt_ge h (n + 1) (fun k hk e => hno ⟨k, by omega, e⟩)
    have := cnt_le n (decD n L (n + 1))
    omega
  obtain ⟨k, hk, he⟩ := this
  have e1 := dec_stay h hn k he (n - k)
  have e2 := dec_stay h hn k he (n + 1 - k)
  rw [show k + (n - k) = n by omega] at e1
  rw [show k + (n + 1 - k) = n + 1 by omega] at e2
  rw [← (dec_sign h hn n).1 j, e1, ← e2, (dec_sign h hn (n + 1)).1 j]
  exact hj
/-- The last round in which one of the list is rejected. -/
def lastF (l : List Int) : Int := l.foldl (fun z r => if r < 0 ∧ z < -r then -r else z) 0
/-- The first round in which one of the list is accepted, or 0. -/
def firstF (l : List Int) : Int := l.foldl (fun z r => if 0 < r ∧ (z = 0 ∨ r < z) then r else z) 0
def goneF (l : List Int) : Bool := l.all (fun r => decide (r < 0))
def wantF (l : List Int) : Int := if goneF l = true then lastF l + 1 else -firstF l
theorem snoc_ind {P : List Int → Prop} (h0 : P []) (h1 : ∀ l a, P l → P (l ++ [a])) (l : List Int) : P l := by
  have : ∀ r : List Int, P r.reverse := fun r => by
    induction r with
    | nil => exact h0
    | cons a r ih => rw [List.reverse_cons]; exact h1 _ _ ih
  have := this l.reverse
  rwa [List.reverse_reverse] at this
theorem lastF_snoc (l : List Int) (r : Int) : lastF (l ++ [r]) = if r < 0 ∧ lastF l < -r then -r else lastF l := by unfold lastF; rw [List.foldl_append]; rfl
theorem firstF_snoc (l : List Int) (r : Int) : firstF (l ++ [r]) = if 0 < r ∧ (firstF l = 0 ∨ r < firstF l) then r else firstF l := by unfold firstF; rw [List.foldl_append]; rfl
theorem lastF_max (l : List Int) : 0 ≤ lastF l ∧ (∀ r, r ∈ l → r < 0 → -r ≤ lastF l) ∧ (lastF l = 0 ∨ ∃ r, r ∈ l ∧ r < 0 ∧ -r = lastF l) := by
  induction l using snoc_ind with
  | h0 => exact ⟨Int.le_refl _, (fun r hr => by cases hr), .inl rfl⟩
  | h1 l a ih =>
    obtain ⟨i1, i2, i3⟩ := ih
    rw [lastF_snoc]
    split
    · next q =>
      refine ⟨by omega, fun r hr h0 => ?_, .inr ⟨a, by simp, q.1, rfl⟩⟩
      rcases List.mem_append.1 hr with hr | hr
      · have := i2 r hr h0; omega
      · have : r = a := by simpa using hr
        omega
    · next q =>
      refine ⟨i1, fun r hr h0 => ?_, ?_⟩
      · rcases List.mem_append.1 hr with hr | hr
        · exact i2 r hr h0
        · have : r = a := by simpa using hr
          omega
      · rcases i3 with e | ⟨r, hr, e⟩
        · exact .inl e
        · exact .inr ⟨r, List.mem_append.2 (.inl hr), e⟩
theorem firstF_min (l : List Int) : 0 ≤ firstF l ∧ (∀ r, r ∈ l → 0 < r → 0 < firstF l ∧ firstF l ≤ r) ∧ (firstF l = 0 ∨ ∃ r, r ∈ l ∧ 0 < r ∧ r = firstF l) := by
  induction l using snoc_ind with
  | h0 => exact ⟨Int.le_refl _, (fun r hr => by cases hr), .inl rfl⟩
  | h1 l a ih =>
    obtain ⟨i1, i2, i3⟩ := ih
    rw [firstF_snoc]
    split
    · next q =>
      refine ⟨by omega, fun r hr h0 => ?_, .inr ⟨a, by simp, q.1, rfl⟩⟩
      rcases List.mem_append.1 hr with hr | hr
      · have := i2 r hr h0; omega
      · have : r = a := by simpa using hr
        omega
    · next q =>
      refine ⟨i1, fun r hr h0 => ?_, ?_⟩
      · rcases List.mem_append.1 hr with hr | hr
        · exact i2 r hr h0
        · have : r = a := by simpa using hr
          subst this
          omega
      · rcases i3 with e | ⟨r, hr, e⟩
        · exact .inl e
        · exact .inr ⟨r, List.mem_append.2 (.inl hr), e⟩
/-- The law of the rounds: what is decided on an argument follows from what is decided on its attackers. -/
theorem rounds_want {n : Nat} {L : List (List Int)} (h : ∀ l ∈ L, atkOk (n : Int) l) (hn : n ≤ 10) {j : Nat} (hj : j < n) (B : List Nat) (hB : ∀ i, i ∈ B ↔ atk L i j = true) :
    decD n L n j = wantF (B.map (decD n L n)) := by
  have s := dec_sign h hn n
  have mem : ∀ r, r ∈ B.map (decD n L n) ↔ ∃ i, atk L i j = true ∧ decD n L n i = r := fun r => by
    rw [List.mem_map]
    constructor
    · rintro ⟨i, hi, e⟩; exact ⟨i, (hB i).1 hi, e⟩
    · rintro ⟨i, hi, e⟩; exact ⟨i, (hB i).2 hi, e⟩
  have gone : goneF (B.map (decD n L n)) = true ↔ ∀ i, atk L i j = true → decD n L n i < 0 := by
    unfold goneF
    rw [List.all_eq_true]
    constructor
    · intro q i hi
      have := q _ ((mem _).2 ⟨i, hi, rfl⟩)
      simpa using this
    · intro q r hr
      obtain ⟨i, hi, rfl⟩ := (mem r).1 hr
      simpa using q i hi
  obtain ⟨m1, m2, m3⟩ := lastF_max (B.map (decD n L n))
  obtain ⟨f1, f2, f3⟩ := firstF_min (B.map (decD n L n))
  unfold wantF
  rcases Int.lt_trichotomy (decD n L n j) 0 with q | q | q
  · obtain ⟨r, r1, r2, r3, r4⟩ := (dec_round h hn n j).2 q
    obtain ⟨i, hi, hij⟩ := (attB_bit h _ _).1 r3
    have di : 0 < decD n L n i := (s.1 i).2 (acc_le h hn (by omega) i hi)
    rw [if_neg (fun e => by have := gone.1 e i hij; omega)]
    obtain ⟨r', q1, q2, q3, q4⟩ := (dec_round h hn n i).1 di
    have up : r' ≤ r := by
      apply Classical.byContradiction
      intro hc
      have := acc_le h hn (show r + 1 ≤ r' by omega) i hi
      rw [q4] at this; cases this
    have g := f2 _ ((mem _).2 ⟨i, hij, rfl⟩) di
    have lo : (r : Int) + 1 ≤ firstF (B.map (decD n L n)) := by
      rcases f3 with e | ⟨t, ht, ht0, e⟩
      · omega
      · obtain ⟨i', hi', rfl⟩ := (mem t).1 ht
        obtain ⟨r'', p1, p2, p3, p4⟩ := (dec_round h hn n i').1 ht0
        have : r ≤ r'' := by
          apply Classical.byContradiction
          intro hc
          have a1 := acc_le h hn (show r'' + 1 ≤ r by omega) i' p3
          have := (attB_bit h (accB n L r) j).2 ⟨i', a1, hi'⟩
          rw [r4] at this; cases this
        omega
    omega
  · have na : ¬ (accB n L n).testBit j = true := fun e => by have := (s.1 j).2 e; omega
    have nb : ¬ (attB n L (accB n L n)).testBit j = true := fun e => by have := (s.2 j).2 e; omega
    rw [if_neg (fun e => na (acc_end h hn j ((def_bit h hn _ j).2 ⟨hj, fun i hi => (s.2 i).1 (gone.1 e i hi)⟩)))]
    rcases f3 with e | ⟨t, ht, ht0, e⟩
    · omega
    · obtain ⟨i, hi, rfl⟩ := (mem t).1 ht
      exact absurd ((attB_bit h _ j).2 ⟨i, (s.1 i).1 ht0, hi⟩) nb
  · obtain ⟨r, r1, r2, r3, r4⟩ := (dec_round h hn n j).1 q
    have all := ((def_bit h hn (accB n L r) j).1 r3).2
    have neg : ∀ i, atk L i j = true → decD n L n i < 0 := fun i hi => (s.2 i).2 (attacc_le h hn (by omega) i (all i hi))
    rw [if_pos (gone.2 neg)]
    have up : lastF (B.map (decD n L n)) ≤ (r : Int) := by
      rcases m3 with e | ⟨t, ht, ht0, e⟩
      · omega
      · obtain ⟨i, hi, rfl⟩ := (mem t).1 ht
        obtain ⟨r', p1, p2, p3, p4⟩ := (dec_round h hn n i).2 ht0
        have : r' < r := by
          apply Classical.byContradiction
          intro hc
          have := attacc_le h hn (show r ≤ r' by omega) i (all i hi)
          rw [p4] at this; cases this
        omega
    have lo : (r : Int) ≤ lastF (B.map (decD n L n)) := by
      apply Classical.byContradiction
      intro hc
      obtain ⟨m, hm⟩ : ∃ m : Nat, lastF (B.map (decD n L n)) = (m : Int) := ⟨(lastF (B.map (decD n L n))).toNat, by omega⟩
      have hmr : m < r := by omega
      have : (accB n L (m + 1)).testBit j = true := (def_bit h hn _ j).2 ⟨hj, fun i hi => by
        obtain ⟨r', p1, p2, p3, p4⟩ := (dec_round h hn n i).2 (neg i hi)
        have := m2 _ ((mem _).2 ⟨i, hi, rfl⟩) (neg i hi)
        exact attacc_le h hn (show r' + 1 ≤ m by omega) i p3⟩
      have := acc_le h hn (show m + 1 ≤ r by omega) j this
      rw [r4] at this; cases this
    omega
end Go.Proofs.YtllfopbpchjhpaaDoor
/- AttackersOf and RoundsOf for a frame that is read, whatever its room. -/
namespace Go.Proofs.YtllfopbpchjhpaaDoor
open Go.ChangeShapes Go.WideShapes Go.ChangeAt Go.RowKit Go.Deep
set_option linter.unusedSimpArgs false
set_option linter.unusedVariables false
set_option maxHeartbeats 1000000 in
theorem iAtkX (X : Fm) (k b cp : Nat) (w : World) (h : FmX w b X) (ok : fOk X) (a1 : (k : Int) < X.1) (hT : DBT w) :
    Calls Tryd.prog 7 #[.agg #[.int .i64 X.1, .slice (some ⟨b, 0, none⟩) X.2.length cp], .int .i64 (k : Int)] w fun e w' => (∃ v, e = .returned (.tuple #[v, .bool true]) ∧ OwI w' w.heap.size w'.heap.size v (listB (byF X.2 (k : Int)))) ∧ Below w.heap.size w w' := by
  have b0 := ((Below.refl w.heap.size w).alloc (Nat.le_refl _) (.cells #[.int .i64 X.1, .slice (some ⟨b, 0, none⟩) X.2.length cp] 26)).alloc (by simp) (.cells #[.int .i64 (k : Int)] 2)
  have hp := (fm_at w X.1 (.slice (some ⟨b, 0, none⟩) X.2.length cp)).below ((Below.refl _ _).alloc (Nat.le_refl _) (.cells #[.int .i64 (k : Int)] 2))
  have hr : ((w.alloc (.cells #[.int .i64 X.1, .slice (some ⟨b, 0, none⟩) X.2.length cp] 26)).alloc (.cells #[.int .i64 (k : Int)] 2)).cell? ⟨w.heap.size + 1, 0, none⟩ = some (.int .i64 (k : Int)) := by go_simp
  have HV := att_yes_ints 14 (fun _ _ => rfl) #[.pointer (some ⟨w.heap.size, 0, none⟩), .pointer (some ⟨w.heap.size + 1, 0, none⟩)] _ _
    (ak1_okX X b cp w.heap.size (w.heap.size + 1) k _ (h.below b0) hp hr ok a1 (hT.below b0))
  generalize listB (byF X.2 (k : Int)) = z at HV ⊢
  clear h hp hr ok hT
  go_enter Tryd.func7, Tryd.ntmps7
  go_wp2_with fail
  refine HV.mono ?_
  rintro e w1 ⟨⟨v, rfl, ho⟩, hb1⟩
  go_wp2
  go_ret2
  exact ⟨⟨v, rfl, ho.mono b0.size (Nat.le_refl _)⟩, b0.trans (hb1.mono b0.size)⟩
set_option maxHeartbeats 1000000 in
theorem iRndX (X : Fm) (b cp : Nat) (w : World) (h : FmX w b X) (ok : fOk X) (hT : DBT w) :
    Calls Tryd.prog 6 #[.agg #[.int .i64 X.1, .slice (some ⟨b, 0, none⟩) X.2.length cp]] w fun e w' => (∃ v, e = .returned (.tuple #[v, .bool true]) ∧ OwT w' w.heap.size w'.heap.size v (rndL X.1.toNat (decD X.1.toNat X.2 X.1.toNat))) ∧ Below w.heap.size w w' := by
  have b0 := (Below.refl w.heap.size w).alloc (Nat.le_refl _) (.cells #[.int .i64 X.1, .slice (some ⟨b, 0, none⟩) X.2.length cp] 26)
  have hp := fm_at w X.1 (.slice (some ⟨b, 0, none⟩) X.2.length cp)
  have HV := att_yes_intsT 11 (fun _ _ => rfl) #[.pointer (some ⟨w.heap.size, 0, none⟩)] _ _
    (ro1_okX X b cp w.heap.size _ (h.below b0) hp ok (hT.below b0))
  generalize rndL X.1.toNat (decD X.1.toNat X.2 X.1.toNat) = z at HV ⊢
  clear h hp ok hT
  go_enter Tryd.func6, Tryd.ntmps6
  go_wp2_with fail
  refine HV.mono ?_
  rintro e w1 ⟨⟨v, rfl, ho⟩, hb1⟩
  go_wp2
  go_ret2
  exact ⟨⟨v, rfl, ho.mono b0.size (Nat.le_refl _)⟩, b0.trans (hb1.mono b0.size)⟩
end Go.Proofs.YtllfopbpchjhpaaDoor
