/- Sentences: the specification's look and the program's. -/
import Derived.Test.YtkaakomiimcbmaaEd2
import Derived.Laws.RangeAny
import Derived.Lib.OthersKept
namespace Go.Proofs.Ytkaakomiimcbmaa
open Go.ChangeShapes Go.WideShapes Go.ChangeAt Go.RowKit Go.Deep
set_option linter.unusedSimpArgs false
set_option linter.unusedVariables false
/-- A byte of a sentence. -/
def sgn (c : UInt8) : Prop := (97 ≤ (c.toNat : Int) ∧ (c.toNat : Int) ≤ 122) ∨ (48 ≤ (c.toNat : Int) ∧ (c.toNat : Int) ≤ 57) ∨ (c.toNat : Int) = 32
def senF (s : ByteArray) : Prop := 1 ≤ s.size ∧ s.size ≤ 24 ∧ (∀ j (h : j < s.size), sgn s[j]) ∧ ∀ j (h : j < s.size), (j = 0 ∨ j + 1 = s.size) → (s[j].toNat : Int) ≠ 32
noncomputable def senB (s : ByteArray) : Bool := @decide (senF s) (Classical.propDecidable _)
theorem senB_iff {s : ByteArray} : senB s = true ↔ senF s := by simp [senB]
theorem senB_yes {s : ByteArray} (h : senF s) : senB s = true := by simp [senB, h]
theorem senB_no {s : ByteArray} (h : ¬ senF s) : senB s = false := by simp [senB, h]
def sgns (s : ByteArray) (k : Nat) : Prop := ∀ j (h : j < s.size), j < k → sgn s[j]
theorem sgns_succ {s : ByteArray} {k : Nat} (hk : k < s.size) (h : sgns s k) (hl : sgn s[k]) : sgns s (k + 1) := by
  intro j hj hjk
  by_cases e : j = k
  · subst e; exact hl
  · exact h j hj (by omega)
set_option maxHeartbeats 1000000 in
set_option maxRecDepth 100000 in
theorem ssen (s : ByteArray) (w : World) (hs : s.size ≤ 9223372036854775807) :
    Calls Try.prog 33 #[.string s] w fun e w' => e = .returned (.bool (senB s)) ∧ w = w' := by
  by_cases h0 : s.size < 1
  · have HN := Lib.hid (senB_no (s := s) (fun h => by have := h.1; omega))
    go_enter Try.func33, Try.ntmps33
    go_wp2
    go_ret
    exact ⟨by rw [HN.out]; rfl, rfl⟩
  by_cases h1 : 24 < s.size
  · have HN := Lib.hid (senB_no (s := s) (fun h => by have := h.2.1; omega))
    go_enter Try.func33, Try.ntmps33
    go_wp2
    go_ret
    exact ⟨by rw [HN.out]; rfl, rfl⟩
  have p0 : 0 < s.size := by omega
  by_cases h2 : (s[0].toNat : Int) = 32
  · have HN := Lib.hid (senB_no (s := s) (fun h => h.2.2.2 0 p0 (.inl rfl) h2))
    go_enter Try.func33, Try.ntmps33
    go_wp2
    go_ret
    exact ⟨by rw [HN.out]; rfl, rfl⟩
  obtain ⟨m, hm⟩ : ∃ m : Nat, (s.size : Int) - 1 = m := ⟨s.size - 1, by omega⟩
  have hml : m < s.size := by omega
  by_cases h3 : (s[m].toNat : Int) = 32
  · have HN := Lib.hid (senB_no (s := s) (fun h => h.2.2.2 m hml (.inr (by omega)) h3))
    go_enter Try.func33, Try.ntmps33
    go_wp2
    go_ret
    exact ⟨by rw [HN.out]; rfl, rfl⟩
  have HE : Hid (∀ j (h : j < s.size), (j = 0 ∨ j + 1 = s.size) → (s[j].toNat : Int) ≠ 32) := by
    intro j hj h
    rcases h with rfl | h
    · exact h2
    · obtain rfl : j = m := by omega
      exact h3
  have c1 : 1 ≤ (s.size : Int) := by omega
  have c2 : (s.size : Int) ≤ 24 := by omega
  have c3 : ((s[0].toNat : Int) == 32) = false := by simpa using h2
  have c4 : ((s[m].toNat : Int) == 32) = false := by simpa using h3
  clear h2 h3 h0 h1
  go_enter Try.func33, Try.ntmps33
  go_wp2
  go_loop [3, 4] (fun i _ => ∃ k : Nat, k ≤ s.size ∧ i = .int .i64 k ∧ Hid (sgns s k)) (fun i _ => s.size - (intOf i).toNat)
  case atStart => exact ⟨0, Nat.zero_le _, rfl, fun j _ h => absurd h (by omega)⟩
  case round =>
    obtain ⟨k, hk, rfl, H⟩ := hrel
    by_cases hlt : k < s.size
    · by_cases hg : sgn s[k]
      · have H2 : Hid (sgns s (k + 1)) := sgns_succ hlt H.out hg
        unfold sgn at hg
        clear c3 c4
        obtain ⟨y, hy⟩ : ∃ y : Nat, s[k].toNat = y := ⟨_, rfl⟩
        rw [hy] at hg
        rcases hg with ⟨g1, g2⟩ | ⟨g1, g2⟩ | g1
        all_goals
          go_wp2
          go_round
          case rel => exact ⟨k + 1, by omega, by go_num, H2⟩
          case measure => simp [intOf]; omega
      · have HN := Lib.hid (senB_no (s := s) (fun h => hg (h.2.2.1 k hlt)))
        unfold sgn at hg
        clear c3 c4
        obtain ⟨y, hy⟩ : ∃ y : Nat, s[k].toNat = y := ⟨_, rfl⟩
        rw [hy] at hg
        have n1 : ((y : Int) == 32) = false := by simp; omega
        by_cases g1 : (97 : Int) ≤ y
        · by_cases g2 : (y : Int) ≤ 122
          · exact absurd (Or.inl ⟨g1, g2⟩) hg
          · clear hg
            have m1 : (122 : Int) < y := by omega
            have m2 : (57 : Int) < y := by omega
            have m3 : (48 : Int) ≤ y := by omega
            go_wp2
            · go_ret
              exact ⟨by rw [HN.out]; rfl, rfl⟩
            · rename_i hh
              exfalso
              simp at hh
              omega
        · by_cases g3 : (48 : Int) ≤ y
          · by_cases g4 : (y : Int) ≤ 57
            · exact absurd (Or.inr (Or.inl ⟨g3, g4⟩)) hg
            · clear hg
              go_wp2
              go_ret
              exact ⟨by rw [HN.out]; rfl, rfl⟩
          · clear hg
            go_wp2
            go_ret
            exact ⟨by rw [HN.out]; rfl, rfl⟩
    · obtain rfl : k = s.size := by omega
      have HY := Lib.hid (senB_yes (s := s) ⟨by omega, by omega, fun j hj => H.out j hj hj, HE.out⟩)
      go_wp2
      go_ret
      exact ⟨by rw [HY.out]; rfl, rfl⟩
end Go.Proofs.Ytkaakomiimcbmaa
