/- The law on IsName, walked. -/
import Derived.Test.YtkaakomiimcbmaaVb
namespace Go.Proofs.Ytkaakomiimcbmaa
open Go.ChangeShapes Go.WideShapes Go.ChangeAt Go.RowKit
def low (c : UInt8) : Prop := 97 ≤ (c.toNat : Int) ∧ (c.toNat : Int) ≤ 122
/-- The bytes of a name. -/
def nameF (l : List UInt8) : Prop := 1 ≤ l.length ∧ l.length ≤ 10 ∧ ∀ c ∈ l, low c
noncomputable def nameB (l : List UInt8) : Bool := @decide (nameF l) (Classical.propDecidable _)
theorem nameB_yes {l : List UInt8} (h : nameF l) : nameB l = true := by simp [nameB, h]
theorem nameB_no {l : List UInt8} (h : ¬ nameF l) : nameB l = false := by simp [nameB, h]
def lows (s : ByteArray) (k : Nat) : Prop := ∀ j (h : j < s.size), j < k → low s[j]
theorem lows_all {s : ByteArray} (h : lows s s.size) : ∀ c ∈ s.data.toList, low c := by
  intro c hc
  obtain ⟨i, hi, rfl⟩ := List.getElem_of_mem hc
  have hi' : i < s.size := by simpa using hi
  exact h i hi' hi'
theorem lows_not {s : ByteArray} {k : Nat} (hk : k < s.size) (h : ¬ low s[k]) : ¬ ∀ c ∈ s.data.toList, low c := by
  intro a
  exact h (a s[k] (by show s.data[k] ∈ _; simp))
theorem lows_succ {s : ByteArray} {k : Nat} (hk : k < s.size) (h : lows s k) (hl : low s[k]) : lows s (k + 1) := by
  intro j hj hjk
  by_cases e : j = k
  · subst e; exact hl
  · exact h j hj (by omega)

theorem name_of {s : ByteArray} (h1 : 1 ≤ s.size) (h2 : s.size ≤ 10) (h : lows s s.size) : nameB s.data.toList = true := nameB_yes ⟨h1, h2, lows_all h⟩
theorem no_name {s : ByteArray} {k : Nat} (hk : k < s.size) (h : ¬ low s[k]) : nameB s.data.toList = false := nameB_no fun a => lows_not hk h a.2.2
theorem no_len {s : ByteArray} (h : ¬ (1 ≤ s.size ∧ s.size ≤ 10)) : nameB s.data.toList = false := nameB_no fun a => h ⟨a.1, a.2.1⟩

theorem sname (s : ByteArray) (w : World) (hs : s.size ≤ maxLen) :
    Calls Try.prog 21 #[.string s] w fun e w' => e = .returned (.bool (nameB s.data.toList)) ∧ w = w' := by
  unfold maxLen at hs
  go_enter Try.func21, Try.ntmps21
  go_wp2
  go_loop [3] (fun i => ∃ k : Nat, k ≤ s.size ∧ i = .int .i64 k ∧ Hid (lows s k)) (fun i => s.size - (intOf i).toNat)
  case atStart => exact ⟨0, Nat.zero_le _, rfl, fun j _ h => absurd h (by omega)⟩
  case round =>
    obtain ⟨k, hk, rfl, H⟩ := hrel
    by_cases hlt : k < s.size
    · by_cases h1 : (s[k].toNat : Int) < 97
      · have H2 := Lib.hid (no_name hlt (fun a => by unfold low at a; omega))
        go_wp2
        go_ret
        exact ⟨by rw [H2.out]; rfl, rfl⟩
      · by_cases h2 : 122 < (s[k].toNat : Int)
        · have H2 := Lib.hid (no_name hlt (fun a => by unfold low at a; omega))
          go_wp2
          go_ret
          exact ⟨by rw [H2.out]; rfl, rfl⟩
        · have H2 : Hid (lows s (k + 1)) := lows_succ hlt H.out ⟨by omega, by omega⟩
          go_wp2
          go_round
          case rel => exact ⟨k + 1, by omega, by go_num, H2⟩
          case measure => simp [intOf]; omega
    · obtain rfl : k = s.size := by omega
      by_cases h1 : 1 ≤ s.size
      · by_cases h2 : s.size ≤ 10
        · have H2 := Lib.hid (name_of h1 h2 H.out)
          go_wp2
          go_ret
          exact ⟨by rw [H2.out]; exact ret_bool (by simp; omega), rfl⟩
        · have H2 := Lib.hid (no_len (s := s) (fun a => by omega))
          go_wp2
          go_ret
          exact ⟨by rw [H2.out]; exact ret_bool (by simp; omega), rfl⟩
      · have H2 := Lib.hid (no_len (s := s) (fun a => by omega))
        go_wp2
        go_ret
        exact ⟨by rw [H2.out]; rfl, rfl⟩

theorem iname (s : ByteArray) (w : World) (hs : s.size ≤ maxLen) :
    Calls Try.prog 57 #[.string s] w fun e w' => e = .returned (.bool (nameB s.data.toList)) ∧ w = w' := by
  unfold maxLen at hs
  by_cases h1 : 1 ≤ s.size
  · by_cases h2 : s.size ≤ 10
    · go_enter Try.func57, Try.ntmps57
      go_wp2
      go_loop [3, 14] (fun _ i => ∃ k : Nat, k ≤ s.size ∧ i = .int .i64 k ∧ Hid (lows s k)) (fun _ i => s.size - (intOf i).toNat)
      case atStart => exact ⟨0, Nat.zero_le _, rfl, fun j _ h => absurd h (by omega)⟩
      case round =>
        obtain ⟨k, hk, rfl, H⟩ := hrel
        by_cases hlt : k < s.size
        · by_cases h1 : (s[k].toNat : Int) < 97
          · have H2 := Lib.hid (no_name hlt (fun a => by unfold low at a; omega))
            go_wp2
            go_ret
            exact ⟨by rw [H2.out]; rfl, rfl⟩
          · by_cases h2 : 122 < (s[k].toNat : Int)
            · have H2 := Lib.hid (no_name hlt (fun a => by unfold low at a; omega))
              go_wp2
              go_ret
              exact ⟨by rw [H2.out]; rfl, rfl⟩
            · have H2 : Hid (lows s (k + 1)) := lows_succ hlt H.out ⟨by omega, by omega⟩
              go_wp2
              go_round
              case rel => exact ⟨k + 1, by omega, by go_num, H2⟩
              case measure => simp [intOf]; omega
        · obtain rfl : k = s.size := by omega
          have H2 := Lib.hid (name_of h1 h2 H.out)
          go_wp2
          go_ret
          exact ⟨by rw [H2.out]; rfl, rfl⟩
    · have H2 := Lib.hid (no_len (s := s) (fun a => by omega))
      go_enter Try.func57, Try.ntmps57
      go_wp2
      go_ret
      exact ⟨by rw [H2.out]; rfl, rfl⟩
  · have H2 := Lib.hid (no_len (s := s) (fun a => by omega))
    go_enter Try.func57, Try.ntmps57
    go_wp2
    go_ret
    exact ⟨by rw [H2.out]; rfl, rfl⟩

end Go.Proofs.Ytkaakomiimcbmaa
