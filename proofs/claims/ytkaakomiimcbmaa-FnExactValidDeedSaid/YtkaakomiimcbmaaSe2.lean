/- Sentences: the program's look. -/
import Derived.Test.YtkaakomiimcbmaaSe1
import Derived.Test.YtkaakomiimcbmaaShelfTr
import Derived.Laws.RangeAny
namespace Go.Proofs.Ytkaakomiimcbmaa
open Go.ChangeShapes Go.WideShapes Go.ChangeAt Go.RowKit Go.Deep
set_option linter.unusedSimpArgs false
set_option linter.unusedVariables false
theorem drop_len (c : UInt8) : ∀ l : List UInt8, (l.dropWhile (· == c)).length ≤ l.length := by
  intro l
  induction l with
  | nil => simp
  | cons a t ih =>
    rw [List.dropWhile_cons]
    split
    · simp only [List.length_cons]; omega
    · exact Nat.le_refl _
theorem drop_self (c : UInt8) (l : List UInt8) : l.dropWhile (· == c) = l ↔ l.head? ≠ some c := by
  cases l with
  | nil => simp
  | cons a t =>
    rw [List.dropWhile_cons]
    by_cases e : a = c
    · subst e
      have := drop_len a t
      simp only [BEq.rfl, if_true, List.head?_cons]
      constructor
      · intro h
        have h2 := congrArg List.length h
        simp only [List.length_cons] at h2
        omega
      · intro h; exact absurd rfl h
    · have : (a == c) = false := by simpa using e
      rw [this]
      simp [e]
theorem trimB_self (c : UInt8) (l : List UInt8) : Lib.trimB l c = l ↔ l.head? ≠ some c ∧ l.getLast? ≠ some c := by
  unfold Lib.trimB Lib.trimLeftB Lib.trimRightB
  have hr : (l.reverse.dropWhile (· == c)).reverse = l ↔ l.getLast? ≠ some c := by
    rw [← List.head?_reverse, ← drop_self c l.reverse]
    constructor
    · intro h
      have := congrArg List.reverse h
      rwa [List.reverse_reverse] at this
    · intro h; rw [h, List.reverse_reverse]
  constructor
  · intro h
    have l1 := drop_len c (l.reverse.dropWhile (· == c)).reverse
    rw [h] at l1
    have l2 := drop_len c l.reverse
    rw [List.length_reverse] at l1 l2
    have e : l.reverse.dropWhile (· == c) = l.reverse := by
      have hs : (l.reverse.dropWhile (· == c)).IsSuffix l.reverse := List.dropWhile_suffix _
      exact hs.eq_of_length (by rw [List.length_reverse]; omega)
    have e2 : (l.reverse.dropWhile (· == c)).reverse = l := by rw [e, List.reverse_reverse]
    refine ⟨?_, hr.1 e2⟩
    rw [e2] at h
    exact (drop_self c l).1 h
  · rintro ⟨h1, h2⟩
    rw [hr.2 h2]
    exact (drop_self c l).2 h1
theorem head_ne {s : ByteArray} (h0 : 0 < s.size) : s.data.toList.head? ≠ some 32 ↔ (s[0].toNat : Int) ≠ 32 := by
  have e : s.data.toList.head? = some s[0] := by
    rw [List.head?_eq_getElem?]
    have hl : 0 < s.data.toList.length := by simpa using h0
    rw [List.getElem?_eq_getElem hl]
    rfl
  rw [e]
  constructor
  · intro h k
    apply h
    congr 1
    apply UInt8.toNat_inj.1
    show s[0].toNat = 32
    omega
  · intro h k
    apply h
    rw [Option.some.inj k]; rfl
theorem last_ne {s : ByteArray} {m : Nat} (hm : m < s.size) (hl : m + 1 = s.size) : s.data.toList.getLast? ≠ some 32 ↔ (s[m].toNat : Int) ≠ 32 := by
  have e : s.data.toList.getLast? = some s[m] := by
    rw [List.getLast?_eq_getElem?]
    have hll : s.data.toList.length = s.size := by simp
    rw [hll, show s.size - 1 = m by omega, List.getElem?_eq_getElem (by rw [hll]; exact hm)]
    rfl
  rw [e]
  constructor
  · intro h k
    apply h
    congr 1
    apply UInt8.toNat_inj.1
    show s[m].toNat = 32
    omega
  · intro h k
    apply h
    rw [Option.some.inj k]; rfl
def trm (s : ByteArray) : ByteArray := ⟨(Lib.trimB s.data.toList 32).toArray⟩
theorem trm_self {s : ByteArray} (h0 : 0 < s.size) : trm s = s ↔ ∀ j (h : j < s.size), (j = 0 ∨ j + 1 = s.size) → (s[j].toNat : Int) ≠ 32 := by
  have q : trm s = s ↔ Lib.trimB s.data.toList 32 = s.data.toList := by
    unfold trm
    constructor
    · intro h
      have := congrArg (fun x : ByteArray => x.data.toList) h
      simpa using this
    · intro h
      rw [h]
  obtain ⟨m, hm⟩ : ∃ m, m + 1 = s.size := ⟨s.size - 1, by omega⟩
  rw [q, trimB_self, head_ne h0, last_ne (m := m) (by omega) hm]
  constructor
  · rintro ⟨h1, h2⟩ j hj h
    rcases h with rfl | h
    · exact h1
    · obtain rfl : j = m := by omega
      exact h2
  · intro h
    exact ⟨h 0 h0 (.inl rfl), h m (by omega) (.inr hm)⟩
set_option maxHeartbeats 1000000 in
set_option maxRecDepth 100000 in
theorem isen (s : ByteArray) (w : World) (hs : s.size ≤ 9223372036854775807) :
    Calls Try.prog 67 #[.string s] w fun e w' => e = .returned (.bool (senB s)) ∧ Below w.heap.size w w' := by
  have hb0 : ∀ k, Below w.heap.size w (w.iter s k) := fun k => (Below.refl _ _).alloc (Nat.le_refl _) _
  have HB := Lib.hid hb0
  clear hb0
  have HT := fun w' => Try.strings_Trim_one s 32 (by decide) w' hs
  have HT' : ∀ w', Calls Try.prog 69 #[.string s, .string ⟨#[32]⟩] w' fun e w'' => e = .returned (.string (trm s)) ∧ Below w'.heap.size w' w'' := fun w' => (HT w').mono fun e w'' ⟨h1, h2⟩ => ⟨h1, by rcases h2 with rfl | rfl; exact Below.refl _ _; exact (Below.refl _ _).drew⟩
  clear HT
  go_enter Try.func67, Try.ntmps67
  go_wp2
  go_loopg [4, 5, 6] s.size (fun g _ _ _ wr => ∃ k : Nat, k ≤ s.size ∧ g = s.size - k ∧ wr = w.iter s k ∧ Hid (sgns s k))
  case atStart => exact ⟨0, Nat.zero_le _, rfl, rfl, fun j _ h => absurd h (by omega)⟩
  case round =>
    obtain ⟨k, hk, rfl, rfl, H⟩ := hrel
    by_cases hlt : k < s.size
    · clear HT'
      by_cases ha : s[k].toNat < 128
      · have hnx := fun ty => run_next_ascii (P := Try.prog) w s k ty hlt ha
        by_cases hg : sgn s[k]
        · have H2 : Hid (sgns s (k + 1)) := sgns_succ hlt H.out hg
          unfold sgn at hg
          obtain ⟨y, hy⟩ : ∃ y : Nat, s[k].toNat = y := ⟨_, rfl⟩
          rw [hy] at hg hnx
          rcases hg with ⟨g1, g2⟩ | ⟨g1, g2⟩ | g1
          all_goals
            go_wp2
            go_roundg (s.size - (k + 1))
            case measure => omega
            case rel => exact ⟨k + 1, by omega, rfl, rfl, H2⟩
        · have HN := Lib.hid (senB_no (s := s) (fun h => hg (h.2.2.1 k hlt)))
          unfold sgn at hg
          obtain ⟨y, hy⟩ : ∃ y : Nat, s[k].toNat = y := ⟨_, rfl⟩
          rw [hy] at hg hnx
          have n1 : ((y : Int) == 32) = false := by simp; omega
          by_cases g1 : (97 : Int) ≤ y
          · by_cases g2 : (y : Int) ≤ 122
            · exact absurd (Or.inl ⟨g1, g2⟩) hg
            · clear hg
              have m1 : (122 : Int) < y := by omega
              have m2 : (57 : Int) < y := by omega
              have m3 : (48 : Int) ≤ y := by omega
              go_wp2
              · go_ret
                exact ⟨by rw [HN.out]; rfl, HB.out _⟩
              · rename_i hh
                exfalso
                simp at hh
                omega
          · by_cases g3 : (48 : Int) ≤ y
            · by_cases g4 : (y : Int) ≤ 57
              · exact absurd (Or.inr (Or.inl ⟨g3, g4⟩)) hg
              · clear hg
                go_wp2
                go_ret
                exact ⟨by rw [HN.out]; rfl, HB.out _⟩
            · clear hg
              go_wp2
              go_ret
              exact ⟨by rw [HN.out]; rfl, HB.out _⟩
      · have HN := Lib.hid (senB_no (s := s) (fun h => by have := h.2.2.1 k hlt; unfold sgn at this; omega))
        have hnx := fun ty => run_next_any (P := Try.prog) w s k ty hlt
        have hd := decode_high s k hlt (by omega)
        obtain ⟨⟨r, d⟩, hrd⟩ : ∃ p, Utf8.decode s k = p := ⟨_, rfl⟩
        rw [hrd] at hnx hd
        simp only at hnx hd
        obtain ⟨d1, -⟩ := hd
        have n1 : ((r : Int) == 32) = false := by simp; omega
        have m0 : (97 : Int) ≤ r := by omega
        have m1 : (122 : Int) < r := by omega
        have m2 : (57 : Int) < r := by omega
        have m3 : (48 : Int) ≤ r := by omega
        have m4 : decide ((r : Int) ≤ 122) = false := decide_eq_false (by omega)
        have m5 : decide ((r : Int) ≤ 57) = false := decide_eq_false (by omega)
        go_wp2
        all_goals first
          | (go_ret
             exact ⟨by rw [HN.out]; rfl, HB.out _⟩)
          | (exfalso
             rename_i hh
             simp at hh
             omega)
    · obtain rfl : k = s.size := by omega
      have hnx := fun ty => run_next_end (P := Try.prog) w s s.size ty hlt
      by_cases h0 : s.size < 1
      · have HN := Lib.hid (senB_no (s := s) (fun h => by have := h.1; omega))
        clear HT'
        go_wp2
        go_ret
        exact ⟨by rw [HN.out]; rfl, HB.out _⟩
      by_cases h1 : 24 < s.size
      · have HN := Lib.hid (senB_no (s := s) (fun h => by have := h.2.1; omega))
        clear HT'
        go_wp2
        go_ret
        exact ⟨by rw [HN.out]; rfl, HB.out _⟩
      have c1 : 1 ≤ (s.size : Int) := by omega
      have c2 : (s.size : Int) ≤ 24 := by omega
      by_cases ht : trm s = s
      · have HY := Lib.hid (senB_yes (s := s) ⟨by omega, by omega, fun j hj => H.out j hj hj, (trm_self (by omega)).1 ht⟩)
        rw [ht] at HT'
        go_wp2_with fail
        refine (HT' _).mono ?_
        rintro e w1 ⟨rfl, hb1⟩
        go_wp2
        go_ret
        exact ⟨by rw [HY.out]; simp, (HB.out _).trans (hb1.mono (HB.out _).size)⟩
      · have HN := Lib.hid (senB_no (s := s) (fun h => ht ((trm_self (by omega)).2 h.2.2.2)))
        obtain ⟨t, htt⟩ : ∃ t, trm s = t := ⟨_, rfl⟩
        rw [htt] at HT' ht
        have htb : (t.toList == s.toList) = false := by
          simp only [beq_eq_false_iff_ne, ne_eq]
          intro h
          apply ht
          rw [Lib.toList_data, Lib.toList_data] at h
          exact ByteArray.ext (by simpa using h)
        go_wp2_with fail
        refine (HT' _).mono ?_
        rintro e w1 ⟨rfl, hb1⟩
        go_wp2
        go_ret
        exact ⟨by rw [HN.out]; simp [htb], (HB.out _).trans (hb1.mono (HB.out _).size)⟩
end Go.Proofs.Ytkaakomiimcbmaa
