/- Reading a fraction by contracts. -/
import Derived.Test.YtoppbeojmkbmcaaDoorSDig
import Derived.Test.YtoppbeojmkbmcaaDoorFPure
import Derived.Test.YtoppbeojmkbmcaaDoorShelfC
import Derived.Test.YtoppbeojmkbmcaaDoorFText
namespace Go.Proofs.YtoppbeojmkbmcaaDoor
open Go.ChangeShapes Go.WideShapes Go.ChangeAt Go.RowKit
set_option linter.unusedVariables false
/-- A fraction and whether there is one. -/
def fP (b : Bool) (n d : Int) (w : World) (e : Ending) (w' : World) : Prop := e = .returned (.tuple #[.agg #[.int .i64 n, .int .i64 d], .bool b]) ∧ Below w.heap.size w w'
/-- Where a text is divided, from a place on. -/
def sc (s : ByteArray) (k : Nat) : Nat := cutAt s.data.toList k
theorem len_eq (s : ByteArray) : s.data.toList.length = s.size := by show _ = s.data.size; simp
theorem sc_end (s : ByteArray) : sc s s.size = s.size := by have := cutAt_end s.data.toList; rwa [len_eq] at this
theorem sc_hit {s : ByteArray} {k : Nat} (h : k < s.size) (e : (s[k].toNat : Int) = 47) : sc s k = k := by
  refine cutAt_hit (by rw [len_eq]; exact h) ?_
  have : s.data.toList[k]'(by rw [len_eq]; exact h) = s[k] := rfl
  rw [this]
  exact UInt8.toNat_inj.1 (by show _ = 47; omega)
theorem sc_miss {s : ByteArray} {k : Nat} (h : k < s.size) (e : ¬ (s[k].toNat : Int) = 47) : sc s k = sc s (k + 1) := by
  refine cutAt_miss (by rw [len_eq]; exact h) ?_
  have : s.data.toList[k]'(by rw [len_eq]; exact h) = s[k] := rfl
  rw [this]
  intro h'
  exact e (by rw [h']; rfl)
set_option maxHeartbeats 4000000 in
theorem sfU1 (s : ByteArray) (w : World) (hm : s.size ≤ 1048576) (hc : Hid (sc s 0 = s.size)) (n : Int) (HD : Hid (∀ w, Calls Tryd.prog 71 #[.string s] w (rP false n w)))  :
    Calls Tryd.prog 42 #[.string s] w (fP false 0 0 w) := by
  have b0 := ((Below.refl w.heap.size w).alloc (Nat.le_refl _) (.cells #[.int .i64 0, .int .i64 0] 28)).alloc (by simp) (.cells #[.int .i64 0, .int .i64 1] 28)
  go_enter Tryd.func42, Tryd.ntmps42
  go_wp2
  go_loop [4, 5] (fun m i => ∃ (k : Nat) (z : Int), k ≤ s.size ∧ m = .int .i64 (sc s k) ∧ i = .int .i64 z ∧ z = k - 1) (fun _ i => (intOf i + 1).toNat)
  case atStart => exact ⟨s.size, _, Nat.le_refl _, by rw [sc_end], rfl, rfl⟩
  case round =>
    obtain ⟨k, z, hk, rfl, rfl, hz⟩ := hrel
    rcases k with _ | j
    · obtain rfl : z = -1 := by omega
      rw [hc.out]
      clear hz hk
      go_wp2_with fail
      refine (HD.out _).mono ?_
      rintro e w1 ⟨rfl, hb1⟩
      obtain ⟨hc1, hf1⟩ := bcell hb1
      have R01 : w1.cell? ⟨w.heap.size, 0, none⟩ = some (.int .i64 0) := by rw [hc1 _ _ (by first | omega | (simp <;> omega))]; go_simp
      have ZR01 : w1.frozen? ⟨w.heap.size, 0, none⟩ = false := by rw [hf1 _ _ (by first | omega | (simp <;> omega))]; go_simp
      have R11 : w1.cell? ⟨w.heap.size, 1, none⟩ = some (.int .i64 0) := by rw [hc1 _ _ (by first | omega | (simp <;> omega))]; go_simp
      have ZR11 : w1.frozen? ⟨w.heap.size, 1, none⟩ = false := by rw [hf1 _ _ (by first | omega | (simp <;> omega))]; go_simp
      have F01 : w1.cell? ⟨w.heap.size + 1, 0, none⟩ = some (.int .i64 0) := by rw [hc1 _ _ (by first | omega | (simp <;> omega))]; go_simp
      have ZF01 : w1.frozen? ⟨w.heap.size + 1, 0, none⟩ = false := by rw [hf1 _ _ (by first | omega | (simp <;> omega))]; go_simp
      have F11 : w1.cell? ⟨w.heap.size + 1, 1, none⟩ = some (.int .i64 1) := by rw [hc1 _ _ (by first | omega | (simp <;> omega))]; go_simp
      have ZF11 : w1.frozen? ⟨w.heap.size + 1, 1, none⟩ = false := by rw [hf1 _ _ (by first | omega | (simp <;> omega))]; go_simp
      have z1 : w.heap.size + 1 < w1.heap.size := by have := hb1.size; (try simp at this); omega
      have b1 := b0.trans (hb1.mono (by simp <;> omega))
      clear hc1 hf1
      go_wp2
      refine bodyPost_ret (v := .tuple #[.agg #[.int .i64 0, .int .i64 0], .bool false]) (by simp [results, Tryd.results42, go_sem, R01, R11]) rfl ⟨rfl, ?_⟩
      refine Below.setCell (Below.setCell b1 ?_ _) ?_ _
      all_goals exact Nat.le_refl _
    · obtain rfl : z = (j : Int) := by omega
      have hj : j < s.size := by omega
      clear hz hk
      by_cases c1 : (s[j].toNat : Int) = 47
      · have H := sc_hit hj c1
        have h2 : ((s[j].toNat : Int) == 47) = true := by simp [c1]
        clear c1
        go_wp2
        go_round
        case rel => exact ⟨j, _, by omega, by rw [H], rfl, rfl⟩
        case measure => simp [intOf]
      · have H := sc_miss hj c1
        have h2 : ((s[j].toNat : Int) == 47) = false := by simp [c1]
        clear c1
        go_wp2
        go_round
        case rel => exact ⟨j, _, by omega, by rw [H], rfl, rfl⟩
        case measure => simp [intOf]

set_option maxHeartbeats 4000000 in
theorem sfU2 (s : ByteArray) (w : World) (hm : s.size ≤ 1048576) (hc : Hid (sc s 0 = s.size)) (n : Int) (HD : Hid (∀ w, Calls Tryd.prog 71 #[.string s] w (rP true n w))) (HA : Hid (okB n 1 = false))  :
    Calls Tryd.prog 42 #[.string s] w (fP false 0 0 w) := by
  have b0 := ((Below.refl w.heap.size w).alloc (Nat.le_refl _) (.cells #[.int .i64 0, .int .i64 0] 28)).alloc (by simp) (.cells #[.int .i64 0, .int .i64 1] 28)
  go_enter Tryd.func42, Tryd.ntmps42
  go_wp2
  go_loop [4, 5] (fun m i => ∃ (k : Nat) (z : Int), k ≤ s.size ∧ m = .int .i64 (sc s k) ∧ i = .int .i64 z ∧ z = k - 1) (fun _ i => (intOf i + 1).toNat)
  case atStart => exact ⟨s.size, _, Nat.le_refl _, by rw [sc_end], rfl, rfl⟩
  case round =>
    obtain ⟨k, z, hk, rfl, rfl, hz⟩ := hrel
    rcases k with _ | j
    · obtain rfl : z = -1 := by omega
      rw [hc.out]
      clear hz hk
      go_wp2_with fail
      refine (HD.out _).mono ?_
      rintro e w1 ⟨rfl, hb1⟩
      obtain ⟨hc1, hf1⟩ := bcell hb1
      have R01 : w1.cell? ⟨w.heap.size, 0, none⟩ = some (.int .i64 0) := by rw [hc1 _ _ (by first | omega | (simp <;> omega))]; go_simp
      have ZR01 : w1.frozen? ⟨w.heap.size, 0, none⟩ = false := by rw [hf1 _ _ (by first | omega | (simp <;> omega))]; go_simp
      have R11 : w1.cell? ⟨w.heap.size, 1, none⟩ = some (.int .i64 0) := by rw [hc1 _ _ (by first | omega | (simp <;> omega))]; go_simp
      have ZR11 : w1.frozen? ⟨w.heap.size, 1, none⟩ = false := by rw [hf1 _ _ (by first | omega | (simp <;> omega))]; go_simp
      have F01 : w1.cell? ⟨w.heap.size + 1, 0, none⟩ = some (.int .i64 0) := by rw [hc1 _ _ (by first | omega | (simp <;> omega))]; go_simp
      have ZF01 : w1.frozen? ⟨w.heap.size + 1, 0, none⟩ = false := by rw [hf1 _ _ (by first | omega | (simp <;> omega))]; go_simp
      have F11 : w1.cell? ⟨w.heap.size + 1, 1, none⟩ = some (.int .i64 1) := by rw [hc1 _ _ (by first | omega | (simp <;> omega))]; go_simp
      have ZF11 : w1.frozen? ⟨w.heap.size + 1, 1, none⟩ = false := by rw [hf1 _ _ (by first | omega | (simp <;> omega))]; go_simp
      have z1 : w.heap.size + 1 < w1.heap.size := by have := hb1.size; (try simp at this); omega
      have b1 := b0.trans (hb1.mono (by simp <;> omega))
      clear hc1 hf1
      have b1 := b1.setCell (p := ⟨w.heap.size + 1, 0, none⟩) (by show w.heap.size ≤ w.heap.size + 1; omega) (.int .i64 n)
      go_wp2_with fail
      refine (ok_any _ _ _).mono ?_
      rw [HA.out]
      rintro e w2 ⟨rfl, hb2⟩
      obtain ⟨hc2, hf2⟩ := bcell hb2
      have R02 : w2.cell? ⟨w.heap.size, 0, none⟩ = some (.int .i64 0) := by rw [hc2 _ _ (by first | omega | (simp <;> omega))]; go_simp
      have ZR02 : w2.frozen? ⟨w.heap.size, 0, none⟩ = false := by rw [hf2 _ _ (by first | omega | (simp <;> omega))]; go_simp
      have R12 : w2.cell? ⟨w.heap.size, 1, none⟩ = some (.int .i64 0) := by rw [hc2 _ _ (by first | omega | (simp <;> omega))]; go_simp
      have ZR12 : w2.frozen? ⟨w.heap.size, 1, none⟩ = false := by rw [hf2 _ _ (by first | omega | (simp <;> omega))]; go_simp
      have F02 : w2.cell? ⟨w.heap.size + 1, 0, none⟩ = some (.int .i64 n) := by rw [hc2 _ _ (by first | omega | (simp <;> omega))]; go_simp
      have ZF02 : w2.frozen? ⟨w.heap.size + 1, 0, none⟩ = false := by rw [hf2 _ _ (by first | omega | (simp <;> omega))]; go_simp
      have F12 : w2.cell? ⟨w.heap.size + 1, 1, none⟩ = some (.int .i64 1) := by rw [hc2 _ _ (by first | omega | (simp <;> omega))]; go_simp
      have ZF12 : w2.frozen? ⟨w.heap.size + 1, 1, none⟩ = false := by rw [hf2 _ _ (by first | omega | (simp <;> omega))]; go_simp
      have z2 : w.heap.size + 1 < w2.heap.size := by have := hb2.size; (try simp at this); omega
      have b2 := b1.trans (hb2.mono b1.size)
      clear hc2 hf2 R01 R11 ZR01 ZR11 F01 F11 ZF01 ZF11
      go_wp2
      refine bodyPost_ret (v := .tuple #[.agg #[.int .i64 0, .int .i64 0], .bool false]) (by simp [results, Tryd.results42, go_sem, R02, R12]) rfl ⟨rfl, ?_⟩
      refine Below.setCell (Below.setCell b2 ?_ _) ?_ _
      all_goals exact Nat.le_refl _
    · obtain rfl : z = (j : Int) := by omega
      have hj : j < s.size := by omega
      clear hz hk
      by_cases c1 : (s[j].toNat : Int) = 47
      · have H := sc_hit hj c1
        have h2 : ((s[j].toNat : Int) == 47) = true := by simp [c1]
        clear c1
        go_wp2
        go_round
        case rel => exact ⟨j, _, by omega, by rw [H], rfl, rfl⟩
        case measure => simp [intOf]
      · have H := sc_miss hj c1
        have h2 : ((s[j].toNat : Int) == 47) = false := by simp [c1]
        clear c1
        go_wp2
        go_round
        case rel => exact ⟨j, _, by omega, by rw [H], rfl, rfl⟩
        case measure => simp [intOf]

set_option maxHeartbeats 4000000 in
theorem sfU3 (s : ByteArray) (w : World) (hm : s.size ≤ 1048576) (hc : Hid (sc s 0 = s.size)) (n : Int) (HD : Hid (∀ w, Calls Tryd.prog 71 #[.string s] w (rP true n w))) (HA : Hid (okB n 1 = true)) (t : ByteArray) (HN : (t.toList == s.toList) = false) (HT : Hid (∀ w, Calls Tryd.prog 68 #[.agg #[.int .i64 n, .int .i64 1]] w fun e w' => e = .returned (.string t) ∧ Below w.heap.size w w'))  :
    Calls Tryd.prog 42 #[.string s] w (fP false 0 0 w) := by
  have b0 := ((Below.refl w.heap.size w).alloc (Nat.le_refl _) (.cells #[.int .i64 0, .int .i64 0] 28)).alloc (by simp) (.cells #[.int .i64 0, .int .i64 1] 28)
  go_enter Tryd.func42, Tryd.ntmps42
  go_wp2
  go_loop [4, 5] (fun m i => ∃ (k : Nat) (z : Int), k ≤ s.size ∧ m = .int .i64 (sc s k) ∧ i = .int .i64 z ∧ z = k - 1) (fun _ i => (intOf i + 1).toNat)
  case atStart => exact ⟨s.size, _, Nat.le_refl _, by rw [sc_end], rfl, rfl⟩
  case round =>
    obtain ⟨k, z, hk, rfl, rfl, hz⟩ := hrel
    rcases k with _ | j
    · obtain rfl : z = -1 := by omega
      rw [hc.out]
      clear hz hk
      go_wp2_with fail
      refine (HD.out _).mono ?_
      rintro e w1 ⟨rfl, hb1⟩
      obtain ⟨hc1, hf1⟩ := bcell hb1
      have R01 : w1.cell? ⟨w.heap.size, 0, none⟩ = some (.int .i64 0) := by rw [hc1 _ _ (by first | omega | (simp <;> omega))]; go_simp
      have ZR01 : w1.frozen? ⟨w.heap.size, 0, none⟩ = false := by rw [hf1 _ _ (by first | omega | (simp <;> omega))]; go_simp
      have R11 : w1.cell? ⟨w.heap.size, 1, none⟩ = some (.int .i64 0) := by rw [hc1 _ _ (by first | omega | (simp <;> omega))]; go_simp
      have ZR11 : w1.frozen? ⟨w.heap.size, 1, none⟩ = false := by rw [hf1 _ _ (by first | omega | (simp <;> omega))]; go_simp
      have F01 : w1.cell? ⟨w.heap.size + 1, 0, none⟩ = some (.int .i64 0) := by rw [hc1 _ _ (by first | omega | (simp <;> omega))]; go_simp
      have ZF01 : w1.frozen? ⟨w.heap.size + 1, 0, none⟩ = false := by rw [hf1 _ _ (by first | omega | (simp <;> omega))]; go_simp
      have F11 : w1.cell? ⟨w.heap.size + 1, 1, none⟩ = some (.int .i64 1) := by rw [hc1 _ _ (by first | omega | (simp <;> omega))]; go_simp
      have ZF11 : w1.frozen? ⟨w.heap.size + 1, 1, none⟩ = false := by rw [hf1 _ _ (by first | omega | (simp <;> omega))]; go_simp
      have z1 : w.heap.size + 1 < w1.heap.size := by have := hb1.size; (try simp at this); omega
      have b1 := b0.trans (hb1.mono (by simp <;> omega))
      clear hc1 hf1
      have b1 := b1.setCell (p := ⟨w.heap.size + 1, 0, none⟩) (by show w.heap.size ≤ w.heap.size + 1; omega) (.int .i64 n)
      go_wp2_with fail
      refine (ok_any _ _ _).mono ?_
      rw [HA.out]
      rintro e w2 ⟨rfl, hb2⟩
      obtain ⟨hc2, hf2⟩ := bcell hb2
      have R02 : w2.cell? ⟨w.heap.size, 0, none⟩ = some (.int .i64 0) := by rw [hc2 _ _ (by first | omega | (simp <;> omega))]; go_simp
      have ZR02 : w2.frozen? ⟨w.heap.size, 0, none⟩ = false := by rw [hf2 _ _ (by first | omega | (simp <;> omega))]; go_simp
      have R12 : w2.cell? ⟨w.heap.size, 1, none⟩ = some (.int .i64 0) := by rw [hc2 _ _ (by first | omega | (simp <;> omega))]; go_simp
      have ZR12 : w2.frozen? ⟨w.heap.size, 1, none⟩ = false := by rw [hf2 _ _ (by first | omega | (simp <;> omega))]; go_simp
      have F02 : w2.cell? ⟨w.heap.size + 1, 0, none⟩ = some (.int .i64 n) := by rw [hc2 _ _ (by first | omega | (simp <;> omega))]; go_simp
      have ZF02 : w2.frozen? ⟨w.heap.size + 1, 0, none⟩ = false := by rw [hf2 _ _ (by first | omega | (simp <;> omega))]; go_simp
      have F12 : w2.cell? ⟨w.heap.size + 1, 1, none⟩ = some (.int .i64 1) := by rw [hc2 _ _ (by first | omega | (simp <;> omega))]; go_simp
      have ZF12 : w2.frozen? ⟨w.heap.size + 1, 1, none⟩ = false := by rw [hf2 _ _ (by first | omega | (simp <;> omega))]; go_simp
      have z2 : w.heap.size + 1 < w2.heap.size := by have := hb2.size; (try simp at this); omega
      have b2 := b1.trans (hb2.mono b1.size)
      clear hc2 hf2 R01 R11 ZR01 ZR11 F01 F11 ZF01 ZF11
      go_wp2_with fail
      refine (HT.out _).mono ?_
      rintro e w3 ⟨rfl, hb3⟩
      obtain ⟨hc3, hf3⟩ := bcell hb3
      have R03 : w3.cell? ⟨w.heap.size, 0, none⟩ = some (.int .i64 0) := by rw [hc3 _ _ (by first | omega | (simp <;> omega))]; go_simp
      have ZR03 : w3.frozen? ⟨w.heap.size, 0, none⟩ = false := by rw [hf3 _ _ (by first | omega | (simp <;> omega))]; go_simp
      have R13 : w3.cell? ⟨w.heap.size, 1, none⟩ = some (.int .i64 0) := by rw [hc3 _ _ (by first | omega | (simp <;> omega))]; go_simp
      have ZR13 : w3.frozen? ⟨w.heap.size, 1, none⟩ = false := by rw [hf3 _ _ (by first | omega | (simp <;> omega))]; go_simp
      have F03 : w3.cell? ⟨w.heap.size + 1, 0, none⟩ = some (.int .i64 n) := by rw [hc3 _ _ (by first | omega | (simp <;> omega))]; go_simp
      have ZF03 : w3.frozen? ⟨w.heap.size + 1, 0, none⟩ = false := by rw [hf3 _ _ (by first | omega | (simp <;> omega))]; go_simp
      have F13 : w3.cell? ⟨w.heap.size + 1, 1, none⟩ = some (.int .i64 1) := by rw [hc3 _ _ (by first | omega | (simp <;> omega))]; go_simp
      have ZF13 : w3.frozen? ⟨w.heap.size + 1, 1, none⟩ = false := by rw [hf3 _ _ (by first | omega | (simp <;> omega))]; go_simp
      have z3 : w.heap.size + 1 < w3.heap.size := by have := hb3.size; (try simp at this); omega
      have b3 := b2.trans (hb3.mono b2.size)
      clear hc3 hf3 R02 R12 ZR02 ZR12 F02 F12 ZF02 ZF12
      go_wp2
      refine bodyPost_ret (v := .tuple #[.agg #[.int .i64 0, .int .i64 0], .bool false]) (by simp [results, Tryd.results42, go_sem, R03, R13]) rfl ⟨rfl, ?_⟩
      refine Below.setCell (Below.setCell b3 ?_ _) ?_ _
      all_goals exact Nat.le_refl _
    · obtain rfl : z = (j : Int) := by omega
      have hj : j < s.size := by omega
      clear hz hk
      by_cases c1 : (s[j].toNat : Int) = 47
      · have H := sc_hit hj c1
        have h2 : ((s[j].toNat : Int) == 47) = true := by simp [c1]
        clear c1
        go_wp2
        go_round
        case rel => exact ⟨j, _, by omega, by rw [H], rfl, rfl⟩
        case measure => simp [intOf]
      · have H := sc_miss hj c1
        have h2 : ((s[j].toNat : Int) == 47) = false := by simp [c1]
        clear c1
        go_wp2
        go_round
        case rel => exact ⟨j, _, by omega, by rw [H], rfl, rfl⟩
        case measure => simp [intOf]

set_option maxHeartbeats 4000000 in
theorem sfU4 (s : ByteArray) (w : World) (hm : s.size ≤ 1048576) (hc : Hid (sc s 0 = s.size)) (n : Int) (HD : Hid (∀ w, Calls Tryd.prog 71 #[.string s] w (rP true n w))) (HA : Hid (okB n 1 = true)) (HT : Hid (∀ w, Calls Tryd.prog 68 #[.agg #[.int .i64 n, .int .i64 1]] w fun e w' => e = .returned (.string s) ∧ Below w.heap.size w w'))  :
    Calls Tryd.prog 42 #[.string s] w (fP true n 1 w) := by
  have b0 := ((Below.refl w.heap.size w).alloc (Nat.le_refl _) (.cells #[.int .i64 0, .int .i64 0] 28)).alloc (by simp) (.cells #[.int .i64 0, .int .i64 1] 28)
  go_enter Tryd.func42, Tryd.ntmps42
  go_wp2
  go_loop [4, 5] (fun m i => ∃ (k : Nat) (z : Int), k ≤ s.size ∧ m = .int .i64 (sc s k) ∧ i = .int .i64 z ∧ z = k - 1) (fun _ i => (intOf i + 1).toNat)
  case atStart => exact ⟨s.size, _, Nat.le_refl _, by rw [sc_end], rfl, rfl⟩
  case round =>
    obtain ⟨k, z, hk, rfl, rfl, hz⟩ := hrel
    rcases k with _ | j
    · obtain rfl : z = -1 := by omega
      rw [hc.out]
      clear hz hk
      go_wp2_with fail
      refine (HD.out _).mono ?_
      rintro e w1 ⟨rfl, hb1⟩
      obtain ⟨hc1, hf1⟩ := bcell hb1
      have R01 : w1.cell? ⟨w.heap.size, 0, none⟩ = some (.int .i64 0) := by rw [hc1 _ _ (by first | omega | (simp <;> omega))]; go_simp
      have ZR01 : w1.frozen? ⟨w.heap.size, 0, none⟩ = false := by rw [hf1 _ _ (by first | omega | (simp <;> omega))]; go_simp
      have R11 : w1.cell? ⟨w.heap.size, 1, none⟩ = some (.int .i64 0) := by rw [hc1 _ _ (by first | omega | (simp <;> omega))]; go_simp
      have ZR11 : w1.frozen? ⟨w.heap.size, 1, none⟩ = false := by rw [hf1 _ _ (by first | omega | (simp <;> omega))]; go_simp
      have F01 : w1.cell? ⟨w.heap.size + 1, 0, none⟩ = some (.int .i64 0) := by rw [hc1 _ _ (by first | omega | (simp <;> omega))]; go_simp
      have ZF01 : w1.frozen? ⟨w.heap.size + 1, 0, none⟩ = false := by rw [hf1 _ _ (by first | omega | (simp <;> omega))]; go_simp
      have F11 : w1.cell? ⟨w.heap.size + 1, 1, none⟩ = some (.int .i64 1) := by rw [hc1 _ _ (by first | omega | (simp <;> omega))]; go_simp
      have ZF11 : w1.frozen? ⟨w.heap.size + 1, 1, none⟩ = false := by rw [hf1 _ _ (by first | omega | (simp <;> omega))]; go_simp
      have z1 : w.heap.size + 1 < w1.heap.size := by have := hb1.size; (try simp at this); omega
      have b1 := b0.trans (hb1.mono (by simp <;> omega))
      clear hc1 hf1
      have b1 := b1.setCell (p := ⟨w.heap.size + 1, 0, none⟩) (by show w.heap.size ≤ w.heap.size + 1; omega) (.int .i64 n)
      go_wp2_with fail
      refine (ok_any _ _ _).mono ?_
      rw [HA.out]
      rintro e w2 ⟨rfl, hb2⟩
      obtain ⟨hc2, hf2⟩ := bcell hb2
      have R02 : w2.cell? ⟨w.heap.size, 0, none⟩ = some (.int .i64 0) := by rw [hc2 _ _ (by first | omega | (simp <;> omega))]; go_simp
      have ZR02 : w2.frozen? ⟨w.heap.size, 0, none⟩ = false := by rw [hf2 _ _ (by first | omega | (simp <;> omega))]; go_simp
      have R12 : w2.cell? ⟨w.heap.size, 1, none⟩ = some (.int .i64 0) := by rw [hc2 _ _ (by first | omega | (simp <;> omega))]; go_simp
      have ZR12 : w2.frozen? ⟨w.heap.size, 1, none⟩ = false := by rw [hf2 _ _ (by first | omega | (simp <;> omega))]; go_simp
      have F02 : w2.cell? ⟨w.heap.size + 1, 0, none⟩ = some (.int .i64 n) := by rw [hc2 _ _ (by first | omega | (simp <;> omega))]; go_simp
      have ZF02 : w2.frozen? ⟨w.heap.size + 1, 0, none⟩ = false := by rw [hf2 _ _ (by first | omega | (simp <;> omega))]; go_simp
      have F12 : w2.cell? ⟨w.heap.size + 1, 1, none⟩ = some (.int .i64 1) := by rw [hc2 _ _ (by first | omega | (simp <;> omega))]; go_simp
      have ZF12 : w2.frozen? ⟨w.heap.size + 1, 1, none⟩ = false := by rw [hf2 _ _ (by first | omega | (simp <;> omega))]; go_simp
      have z2 : w.heap.size + 1 < w2.heap.size := by have := hb2.size; (try simp at this); omega
      have b2 := b1.trans (hb2.mono b1.size)
      clear hc2 hf2 R01 R11 ZR01 ZR11 F01 F11 ZF01 ZF11
      go_wp2_with fail
      refine (HT.out _).mono ?_
      rintro e w3 ⟨rfl, hb3⟩
      obtain ⟨hc3, hf3⟩ := bcell hb3
      have R03 : w3.cell? ⟨w.heap.size, 0, none⟩ = some (.int .i64 0) := by rw [hc3 _ _ (by first | omega | (simp <;> omega))]; go_simp
      have ZR03 : w3.frozen? ⟨w.heap.size, 0, none⟩ = false := by rw [hf3 _ _ (by first | omega | (simp <;> omega))]; go_simp
      have R13 : w3.cell? ⟨w.heap.size, 1, none⟩ = some (.int .i64 0) := by rw [hc3 _ _ (by first | omega | (simp <;> omega))]; go_simp
      have ZR13 : w3.frozen? ⟨w.heap.size, 1, none⟩ = false := by rw [hf3 _ _ (by first | omega | (simp <;> omega))]; go_simp
      have F03 : w3.cell? ⟨w.heap.size + 1, 0, none⟩ = some (.int .i64 n) := by rw [hc3 _ _ (by first | omega | (simp <;> omega))]; go_simp
      have ZF03 : w3.frozen? ⟨w.heap.size + 1, 0, none⟩ = false := by rw [hf3 _ _ (by first | omega | (simp <;> omega))]; go_simp
      have F13 : w3.cell? ⟨w.heap.size + 1, 1, none⟩ = some (.int .i64 1) := by rw [hc3 _ _ (by first | omega | (simp <;> omega))]; go_simp
      have ZF13 : w3.frozen? ⟨w.heap.size + 1, 1, none⟩ = false := by rw [hf3 _ _ (by first | omega | (simp <;> omega))]; go_simp
      have z3 : w.heap.size + 1 < w3.heap.size := by have := hb3.size; (try simp at this); omega
      have b3 := b2.trans (hb3.mono b2.size)
      clear hc3 hf3 R02 R12 ZR02 ZR12 F02 F12 ZF02 ZF12
      go_wp2
      refine bodyPost_ret (v := .tuple #[.agg #[.int .i64 n, .int .i64 1], .bool true]) (by simp [results, Tryd.results42, go_sem, R03, R13]) rfl ⟨rfl, ?_⟩
      refine Below.setCell (Below.setCell b3 ?_ _) ?_ _
      all_goals exact Nat.le_refl _
    · obtain rfl : z = (j : Int) := by omega
      have hj : j < s.size := by omega
      clear hz hk
      by_cases c1 : (s[j].toNat : Int) = 47
      · have H := sc_hit hj c1
        have h2 : ((s[j].toNat : Int) == 47) = true := by simp [c1]
        clear c1
        go_wp2
        go_round
        case rel => exact ⟨j, _, by omega, by rw [H], rfl, rfl⟩
        case measure => simp [intOf]
      · have H := sc_miss hj c1
        have h2 : ((s[j].toNat : Int) == 47) = false := by simp [c1]
        clear c1
        go_wp2
        go_round
        case rel => exact ⟨j, _, by omega, by rw [H], rfl, rfl⟩
        case measure => simp [intOf]

set_option maxHeartbeats 4000000 in
theorem sfD1 (s : ByteArray) (w : World) (hm : s.size ≤ 1048576) (c : Nat) (hc : Hid (sc s 0 = c)) (hlt : c < s.size) (t1 t2 : ByteArray) (g1 : ∀ W : World, (Instr.slice 9 (.string s) none (some (.int .i64 (c : Int))) none).run Tryd.prog W = .ok (.string t1) W) (g2 : ∀ W : World, (Instr.slice 9 (.string s) (some (.int .i64 ((c : Int) + 1))) none none).run Tryd.prog W = .ok (.string t2) W) (n : Int) (HD : Hid (∀ w, Calls Tryd.prog 71 #[.string t1] w (rP false n w)))  :
    Calls Tryd.prog 42 #[.string s] w (fP false 0 0 w) := by
  have b0 := ((Below.refl w.heap.size w).alloc (Nat.le_refl _) (.cells #[.int .i64 0, .int .i64 0] 28)).alloc (by simp) (.cells #[.int .i64 0, .int .i64 1] 28)
  go_enter Tryd.func42, Tryd.ntmps42
  go_wp2
  go_loop [4, 5] (fun m i => ∃ (k : Nat) (z : Int), k ≤ s.size ∧ m = .int .i64 (sc s k) ∧ i = .int .i64 z ∧ z = k - 1) (fun _ i => (intOf i + 1).toNat)
  case atStart => exact ⟨s.size, _, Nat.le_refl _, by rw [sc_end], rfl, rfl⟩
  case round =>
    obtain ⟨k, z, hk, rfl, rfl, hz⟩ := hrel
    rcases k with _ | j
    · obtain rfl : z = -1 := by omega
      rw [hc.out]
      clear hz hk
      go_wp2_with fail
      refine (HD.out _).mono ?_
      rintro e w1 ⟨rfl, hb1⟩
      obtain ⟨hc1, hf1⟩ := bcell hb1
      have R01 : w1.cell? ⟨w.heap.size, 0, none⟩ = some (.int .i64 0) := by rw [hc1 _ _ (by first | omega | (simp <;> omega))]; go_simp
      have ZR01 : w1.frozen? ⟨w.heap.size, 0, none⟩ = false := by rw [hf1 _ _ (by first | omega | (simp <;> omega))]; go_simp
      have R11 : w1.cell? ⟨w.heap.size, 1, none⟩ = some (.int .i64 0) := by rw [hc1 _ _ (by first | omega | (simp <;> omega))]; go_simp
      have ZR11 : w1.frozen? ⟨w.heap.size, 1, none⟩ = false := by rw [hf1 _ _ (by first | omega | (simp <;> omega))]; go_simp
      have F01 : w1.cell? ⟨w.heap.size + 1, 0, none⟩ = some (.int .i64 0) := by rw [hc1 _ _ (by first | omega | (simp <;> omega))]; go_simp
      have ZF01 : w1.frozen? ⟨w.heap.size + 1, 0, none⟩ = false := by rw [hf1 _ _ (by first | omega | (simp <;> omega))]; go_simp
      have F11 : w1.cell? ⟨w.heap.size + 1, 1, none⟩ = some (.int .i64 1) := by rw [hc1 _ _ (by first | omega | (simp <;> omega))]; go_simp
      have ZF11 : w1.frozen? ⟨w.heap.size + 1, 1, none⟩ = false := by rw [hf1 _ _ (by first | omega | (simp <;> omega))]; go_simp
      have z1 : w.heap.size + 1 < w1.heap.size := by have := hb1.size; (try simp at this); omega
      have b1 := b0.trans (hb1.mono (by simp <;> omega))
      clear hc1 hf1
      go_wp2
      refine bodyPost_ret (v := .tuple #[.agg #[.int .i64 0, .int .i64 0], .bool false]) (by simp [results, Tryd.results42, go_sem, R01, R11]) rfl ⟨rfl, ?_⟩
      refine Below.setCell (Below.setCell b1 ?_ _) ?_ _
      all_goals exact Nat.le_refl _
    · obtain rfl : z = (j : Int) := by omega
      have hj : j < s.size := by omega
      clear hz hk
      by_cases c1 : (s[j].toNat : Int) = 47
      · have H := sc_hit hj c1
        have h2 : ((s[j].toNat : Int) == 47) = true := by simp [c1]
        clear c1
        go_wp2
        go_round
        case rel => exact ⟨j, _, by omega, by rw [H], rfl, rfl⟩
        case measure => simp [intOf]
      · have H := sc_miss hj c1
        have h2 : ((s[j].toNat : Int) == 47) = false := by simp [c1]
        clear c1
        go_wp2
        go_round
        case rel => exact ⟨j, _, by omega, by rw [H], rfl, rfl⟩
        case measure => simp [intOf]

set_option maxHeartbeats 4000000 in
theorem sfD2 (s : ByteArray) (w : World) (hm : s.size ≤ 1048576) (c : Nat) (hc : Hid (sc s 0 = c)) (hlt : c < s.size) (t1 t2 : ByteArray) (g1 : ∀ W : World, (Instr.slice 9 (.string s) none (some (.int .i64 (c : Int))) none).run Tryd.prog W = .ok (.string t1) W) (g2 : ∀ W : World, (Instr.slice 9 (.string s) (some (.int .i64 ((c : Int) + 1))) none none).run Tryd.prog W = .ok (.string t2) W) (n : Int) (HD : Hid (∀ w, Calls Tryd.prog 71 #[.string t1] w (rP true n w))) (d : Int) (HE : Hid (∀ w, Calls Tryd.prog 71 #[.string t2] w (rP false d w)))  :
    Calls Tryd.prog 42 #[.string s] w (fP false 0 0 w) := by
  have b0 := ((Below.refl w.heap.size w).alloc (Nat.le_refl _) (.cells #[.int .i64 0, .int .i64 0] 28)).alloc (by simp) (.cells #[.int .i64 0, .int .i64 1] 28)
  go_enter Tryd.func42, Tryd.ntmps42
  go_wp2
  go_loop [4, 5] (fun m i => ∃ (k : Nat) (z : Int), k ≤ s.size ∧ m = .int .i64 (sc s k) ∧ i = .int .i64 z ∧ z = k - 1) (fun _ i => (intOf i + 1).toNat)
  case atStart => exact ⟨s.size, _, Nat.le_refl _, by rw [sc_end], rfl, rfl⟩
  case round =>
    obtain ⟨k, z, hk, rfl, rfl, hz⟩ := hrel
    rcases k with _ | j
    · obtain rfl : z = -1 := by omega
      rw [hc.out]
      clear hz hk
      go_wp2_with fail
      refine (HD.out _).mono ?_
      rintro e w1 ⟨rfl, hb1⟩
      obtain ⟨hc1, hf1⟩ := bcell hb1
      have R01 : w1.cell? ⟨w.heap.size, 0, none⟩ = some (.int .i64 0) := by rw [hc1 _ _ (by first | omega | (simp <;> omega))]; go_simp
      have ZR01 : w1.frozen? ⟨w.heap.size, 0, none⟩ = false := by rw [hf1 _ _ (by first | omega | (simp <;> omega))]; go_simp
      have R11 : w1.cell? ⟨w.heap.size, 1, none⟩ = some (.int .i64 0) := by rw [hc1 _ _ (by first | omega | (simp <;> omega))]; go_simp
      have ZR11 : w1.frozen? ⟨w.heap.size, 1, none⟩ = false := by rw [hf1 _ _ (by first | omega | (simp <;> omega))]; go_simp
      have F01 : w1.cell? ⟨w.heap.size + 1, 0, none⟩ = some (.int .i64 0) := by rw [hc1 _ _ (by first | omega | (simp <;> omega))]; go_simp
      have ZF01 : w1.frozen? ⟨w.heap.size + 1, 0, none⟩ = false := by rw [hf1 _ _ (by first | omega | (simp <;> omega))]; go_simp
      have F11 : w1.cell? ⟨w.heap.size + 1, 1, none⟩ = some (.int .i64 1) := by rw [hc1 _ _ (by first | omega | (simp <;> omega))]; go_simp
      have ZF11 : w1.frozen? ⟨w.heap.size + 1, 1, none⟩ = false := by rw [hf1 _ _ (by first | omega | (simp <;> omega))]; go_simp
      have z1 : w.heap.size + 1 < w1.heap.size := by have := hb1.size; (try simp at this); omega
      have b1 := b0.trans (hb1.mono (by simp <;> omega))
      clear hc1 hf1
      have b1 := b1.setCell (p := ⟨w.heap.size + 1, 0, none⟩) (by show w.heap.size ≤ w.heap.size + 1; omega) (.int .i64 n)
      go_wp2_with fail
      refine (HE.out _).mono ?_
      rintro e w2 ⟨rfl, hb2⟩
      obtain ⟨hc2, hf2⟩ := bcell hb2
      have R02 : w2.cell? ⟨w.heap.size, 0, none⟩ = some (.int .i64 0) := by rw [hc2 _ _ (by first | omega | (simp <;> omega))]; go_simp
      have ZR02 : w2.frozen? ⟨w.heap.size, 0, none⟩ = false := by rw [hf2 _ _ (by first | omega | (simp <;> omega))]; go_simp
      have R12 : w2.cell? ⟨w.heap.size, 1, none⟩ = some (.int .i64 0) := by rw [hc2 _ _ (by first | omega | (simp <;> omega))]; go_simp
      have ZR12 : w2.frozen? ⟨w.heap.size, 1, none⟩ = false := by rw [hf2 _ _ (by first | omega | (simp <;> omega))]; go_simp
      have F02 : w2.cell? ⟨w.heap.size + 1, 0, none⟩ = some (.int .i64 n) := by rw [hc2 _ _ (by first | omega | (simp <;> omega))]; go_simp
      have ZF02 : w2.frozen? ⟨w.heap.size + 1, 0, none⟩ = false := by rw [hf2 _ _ (by first | omega | (simp <;> omega))]; go_simp
      have F12 : w2.cell? ⟨w.heap.size + 1, 1, none⟩ = some (.int .i64 1) := by rw [hc2 _ _ (by first | omega | (simp <;> omega))]; go_simp
      have ZF12 : w2.frozen? ⟨w.heap.size + 1, 1, none⟩ = false := by rw [hf2 _ _ (by first | omega | (simp <;> omega))]; go_simp
      have z2 : w.heap.size + 1 < w2.heap.size := by have := hb2.size; (try simp at this); omega
      have b2 := b1.trans (hb2.mono b1.size)
      clear hc2 hf2 R01 R11 ZR01 ZR11 F01 F11 ZF01 ZF11
      go_wp2
      refine bodyPost_ret (v := .tuple #[.agg #[.int .i64 0, .int .i64 0], .bool false]) (by simp [results, Tryd.results42, go_sem, R02, R12]) rfl ⟨rfl, ?_⟩
      refine Below.setCell (Below.setCell b2 ?_ _) ?_ _
      all_goals exact Nat.le_refl _
    · obtain rfl : z = (j : Int) := by omega
      have hj : j < s.size := by omega
      clear hz hk
      by_cases c1 : (s[j].toNat : Int) = 47
      · have H := sc_hit hj c1
        have h2 : ((s[j].toNat : Int) == 47) = true := by simp [c1]
        clear c1
        go_wp2
        go_round
        case rel => exact ⟨j, _, by omega, by rw [H], rfl, rfl⟩
        case measure => simp [intOf]
      · have H := sc_miss hj c1
        have h2 : ((s[j].toNat : Int) == 47) = false := by simp [c1]
        clear c1
        go_wp2
        go_round
        case rel => exact ⟨j, _, by omega, by rw [H], rfl, rfl⟩
        case measure => simp [intOf]

set_option maxHeartbeats 4000000 in
theorem sfD3 (s : ByteArray) (w : World) (hm : s.size ≤ 1048576) (c : Nat) (hc : Hid (sc s 0 = c)) (hlt : c < s.size) (t1 t2 : ByteArray) (g1 : ∀ W : World, (Instr.slice 9 (.string s) none (some (.int .i64 (c : Int))) none).run Tryd.prog W = .ok (.string t1) W) (g2 : ∀ W : World, (Instr.slice 9 (.string s) (some (.int .i64 ((c : Int) + 1))) none none).run Tryd.prog W = .ok (.string t2) W) (n : Int) (HD : Hid (∀ w, Calls Tryd.prog 71 #[.string t1] w (rP true n w))) (d : Int) (HE : Hid (∀ w, Calls Tryd.prog 71 #[.string t2] w (rP true d w))) (HA : Hid (okB n d = false))  :
    Calls Tryd.prog 42 #[.string s] w (fP false 0 0 w) := by
  have b0 := ((Below.refl w.heap.size w).alloc (Nat.le_refl _) (.cells #[.int .i64 0, .int .i64 0] 28)).alloc (by simp) (.cells #[.int .i64 0, .int .i64 1] 28)
  go_enter Tryd.func42, Tryd.ntmps42
  go_wp2
  go_loop [4, 5] (fun m i => ∃ (k : Nat) (z : Int), k ≤ s.size ∧ m = .int .i64 (sc s k) ∧ i = .int .i64 z ∧ z = k - 1) (fun _ i => (intOf i + 1).toNat)
  case atStart => exact ⟨s.size, _, Nat.le_refl _, by rw [sc_end], rfl, rfl⟩
  case round =>
    obtain ⟨k, z, hk, rfl, rfl, hz⟩ := hrel
    rcases k with _ | j
    · obtain rfl : z = -1 := by omega
      rw [hc.out]
      clear hz hk
      go_wp2_with fail
      refine (HD.out _).mono ?_
      rintro e w1 ⟨rfl, hb1⟩
      obtain ⟨hc1, hf1⟩ := bcell hb1
      have R01 : w1.cell? ⟨w.heap.size, 0, none⟩ = some (.int .i64 0) := by rw [hc1 _ _ (by first | omega | (simp <;> omega))]; go_simp
      have ZR01 : w1.frozen? ⟨w.heap.size, 0, none⟩ = false := by rw [hf1 _ _ (by first | omega | (simp <;> omega))]; go_simp
      have R11 : w1.cell? ⟨w.heap.size, 1, none⟩ = some (.int .i64 0) := by rw [hc1 _ _ (by first | omega | (simp <;> omega))]; go_simp
      have ZR11 : w1.frozen? ⟨w.heap.size, 1, none⟩ = false := by rw [hf1 _ _ (by first | omega | (simp <;> omega))]; go_simp
      have F01 : w1.cell? ⟨w.heap.size + 1, 0, none⟩ = some (.int .i64 0) := by rw [hc1 _ _ (by first | omega | (simp <;> omega))]; go_simp
      have ZF01 : w1.frozen? ⟨w.heap.size + 1, 0, none⟩ = false := by rw [hf1 _ _ (by first | omega | (simp <;> omega))]; go_simp
      have F11 : w1.cell? ⟨w.heap.size + 1, 1, none⟩ = some (.int .i64 1) := by rw [hc1 _ _ (by first | omega | (simp <;> omega))]; go_simp
      have ZF11 : w1.frozen? ⟨w.heap.size + 1, 1, none⟩ = false := by rw [hf1 _ _ (by first | omega | (simp <;> omega))]; go_simp
      have z1 : w.heap.size + 1 < w1.heap.size := by have := hb1.size; (try simp at this); omega
      have b1 := b0.trans (hb1.mono (by simp <;> omega))
      clear hc1 hf1
      have b1 := b1.setCell (p := ⟨w.heap.size + 1, 0, none⟩) (by show w.heap.size ≤ w.heap.size + 1; omega) (.int .i64 n)
      go_wp2_with fail
      refine (HE.out _).mono ?_
      rintro e w2 ⟨rfl, hb2⟩
      obtain ⟨hc2, hf2⟩ := bcell hb2
      have R02 : w2.cell? ⟨w.heap.size, 0, none⟩ = some (.int .i64 0) := by rw [hc2 _ _ (by first | omega | (simp <;> omega))]; go_simp
      have ZR02 : w2.frozen? ⟨w.heap.size, 0, none⟩ = false := by rw [hf2 _ _ (by first | omega | (simp <;> omega))]; go_simp
      have R12 : w2.cell? ⟨w.heap.size, 1, none⟩ = some (.int .i64 0) := by rw [hc2 _ _ (by first | omega | (simp <;> omega))]; go_simp
      have ZR12 : w2.frozen? ⟨w.heap.size, 1, none⟩ = false := by rw [hf2 _ _ (by first | omega | (simp <;> omega))]; go_simp
      have F02 : w2.cell? ⟨w.heap.size + 1, 0, none⟩ = some (.int .i64 n) := by rw [hc2 _ _ (by first | omega | (simp <;> omega))]; go_simp
      have ZF02 : w2.frozen? ⟨w.heap.size + 1, 0, none⟩ = false := by rw [hf2 _ _ (by first | omega | (simp <;> omega))]; go_simp
      have F12 : w2.cell? ⟨w.heap.size + 1, 1, none⟩ = some (.int .i64 1) := by rw [hc2 _ _ (by first | omega | (simp <;> omega))]; go_simp
      have ZF12 : w2.frozen? ⟨w.heap.size + 1, 1, none⟩ = false := by rw [hf2 _ _ (by first | omega | (simp <;> omega))]; go_simp
      have z2 : w.heap.size + 1 < w2.heap.size := by have := hb2.size; (try simp at this); omega
      have b2 := b1.trans (hb2.mono b1.size)
      clear hc2 hf2 R01 R11 ZR01 ZR11 F01 F11 ZF01 ZF11
      have b2 := b2.setCell (p := ⟨w.heap.size + 1, 1, none⟩) (by show w.heap.size ≤ w.heap.size + 1; omega) (.int .i64 d)
      go_wp2_with fail
      refine (ok_any _ _ _).mono ?_
      rw [HA.out]
      rintro e w3 ⟨rfl, hb3⟩
      obtain ⟨hc3, hf3⟩ := bcell hb3
      have R03 : w3.cell? ⟨w.heap.size, 0, none⟩ = some (.int .i64 0) := by rw [hc3 _ _ (by first | omega | (simp <;> omega))]; go_simp
      have ZR03 : w3.frozen? ⟨w.heap.size, 0, none⟩ = false := by rw [hf3 _ _ (by first | omega | (simp <;> omega))]; go_simp
      have R13 : w3.cell? ⟨w.heap.size, 1, none⟩ = some (.int .i64 0) := by rw [hc3 _ _ (by first | omega | (simp <;> omega))]; go_simp
      have ZR13 : w3.frozen? ⟨w.heap.size, 1, none⟩ = false := by rw [hf3 _ _ (by first | omega | (simp <;> omega))]; go_simp
      have F03 : w3.cell? ⟨w.heap.size + 1, 0, none⟩ = some (.int .i64 n) := by rw [hc3 _ _ (by first | omega | (simp <;> omega))]; go_simp
      have ZF03 : w3.frozen? ⟨w.heap.size + 1, 0, none⟩ = false := by rw [hf3 _ _ (by first | omega | (simp <;> omega))]; go_simp
      have F13 : w3.cell? ⟨w.heap.size + 1, 1, none⟩ = some (.int .i64 d) := by rw [hc3 _ _ (by first | omega | (simp <;> omega))]; go_simp
      have ZF13 : w3.frozen? ⟨w.heap.size + 1, 1, none⟩ = false := by rw [hf3 _ _ (by first | omega | (simp <;> omega))]; go_simp
      have z3 : w.heap.size + 1 < w3.heap.size := by have := hb3.size; (try simp at this); omega
      have b3 := b2.trans (hb3.mono b2.size)
      clear hc3 hf3 R02 R12 ZR02 ZR12 F02 F12 ZF02 ZF12
      go_wp2
      refine bodyPost_ret (v := .tuple #[.agg #[.int .i64 0, .int .i64 0], .bool false]) (by simp [results, Tryd.results42, go_sem, R03, R13]) rfl ⟨rfl, ?_⟩
      refine Below.setCell (Below.setCell b3 ?_ _) ?_ _
      all_goals exact Nat.le_refl _
    · obtain rfl : z = (j : Int) := by omega
      have hj : j < s.size := by omega
      clear hz hk
      by_cases c1 : (s[j].toNat : Int) = 47
      · have H := sc_hit hj c1
        have h2 : ((s[j].toNat : Int) == 47) = true := by simp [c1]
        clear c1
        go_wp2
        go_round
        case rel => exact ⟨j, _, by omega, by rw [H], rfl, rfl⟩
        case measure => simp [intOf]
      · have H := sc_miss hj c1
        have h2 : ((s[j].toNat : Int) == 47) = false := by simp [c1]
        clear c1
        go_wp2
        go_round
        case rel => exact ⟨j, _, by omega, by rw [H], rfl, rfl⟩
        case measure => simp [intOf]

set_option maxHeartbeats 4000000 in
theorem sfD4 (s : ByteArray) (w : World) (hm : s.size ≤ 1048576) (c : Nat) (hc : Hid (sc s 0 = c)) (hlt : c < s.size) (t1 t2 : ByteArray) (g1 : ∀ W : World, (Instr.slice 9 (.string s) none (some (.int .i64 (c : Int))) none).run Tryd.prog W = .ok (.string t1) W) (g2 : ∀ W : World, (Instr.slice 9 (.string s) (some (.int .i64 ((c : Int) + 1))) none none).run Tryd.prog W = .ok (.string t2) W) (n : Int) (HD : Hid (∀ w, Calls Tryd.prog 71 #[.string t1] w (rP true n w))) (d : Int) (HE : Hid (∀ w, Calls Tryd.prog 71 #[.string t2] w (rP true d w))) (HA : Hid (okB n d = true)) (t : ByteArray) (HN : (t.toList == s.toList) = false) (HT : Hid (∀ w, Calls Tryd.prog 68 #[.agg #[.int .i64 n, .int .i64 d]] w fun e w' => e = .returned (.string t) ∧ Below w.heap.size w w'))  :
    Calls Tryd.prog 42 #[.string s] w (fP false 0 0 w) := by
  have b0 := ((Below.refl w.heap.size w).alloc (Nat.le_refl _) (.cells #[.int .i64 0, .int .i64 0] 28)).alloc (by simp) (.cells #[.int .i64 0, .int .i64 1] 28)
  go_enter Tryd.func42, Tryd.ntmps42
  go_wp2
  go_loop [4, 5] (fun m i => ∃ (k : Nat) (z : Int), k ≤ s.size ∧ m = .int .i64 (sc s k) ∧ i = .int .i64 z ∧ z = k - 1) (fun _ i => (intOf i + 1).toNat)
  case atStart => exact ⟨s.size, _, Nat.le_refl _, by rw [sc_end], rfl, rfl⟩
  case round =>
    obtain ⟨k, z, hk, rfl, rfl, hz⟩ := hrel
    rcases k with _ | j
    · obtain rfl : z = -1 := by omega
      rw [hc.out]
      clear hz hk
      go_wp2_with fail
      refine (HD.out _).mono ?_
      rintro e w1 ⟨rfl, hb1⟩
      obtain ⟨hc1, hf1⟩ := bcell hb1
      have R01 : w1.cell? ⟨w.heap.size, 0, none⟩ = some (.int .i64 0) := by rw [hc1 _ _ (by first | omega | (simp <;> omega))]; go_simp
      have ZR01 : w1.frozen? ⟨w.heap.size, 0, none⟩ = false := by rw [hf1 _ _ (by first | omega | (simp <;> omega))]; go_simp
      have R11 : w1.cell? ⟨w.heap.size, 1, none⟩ = some (.int .i64 0) := by rw [hc1 _ _ (by first | omega | (simp <;> omega))]; go_simp
      have ZR11 : w1.frozen? ⟨w.heap.size, 1, none⟩ = false := by rw [hf1 _ _ (by first | omega | (simp <;> omega))]; go_simp
      have F01 : w1.cell? ⟨w.heap.size + 1, 0, none⟩ = some (.int .i64 0) := by rw [hc1 _ _ (by first | omega | (simp <;> omega))]; go_simp
      have ZF01 : w1.frozen? ⟨w.heap.size + 1, 0, none⟩ = false := by rw [hf1 _ _ (by first | omega | (simp <;> omega))]; go_simp
      have F11 : w1.cell? ⟨w.heap.size + 1, 1, none⟩ = some (.int .i64 1) := by rw [hc1 _ _ (by first | omega | (simp <;> omega))]; go_simp
      have ZF11 : w1.frozen? ⟨w.heap.size + 1, 1, none⟩ = false := by rw [hf1 _ _ (by first | omega | (simp <;> omega))]; go_simp
      have z1 : w.heap.size + 1 < w1.heap.size := by have := hb1.size; (try simp at this); omega
      have b1 := b0.trans (hb1.mono (by simp <;> omega))
      clear hc1 hf1
      have b1 := b1.setCell (p := ⟨w.heap.size + 1, 0, none⟩) (by show w.heap.size ≤ w.heap.size + 1; omega) (.int .i64 n)
      go_wp2_with fail
      refine (HE.out _).mono ?_
      rintro e w2 ⟨rfl, hb2⟩
      obtain ⟨hc2, hf2⟩ := bcell hb2
      have R02 : w2.cell? ⟨w.heap.size, 0, none⟩ = some (.int .i64 0) := by rw [hc2 _ _ (by first | omega | (simp <;> omega))]; go_simp
      have ZR02 : w2.frozen? ⟨w.heap.size, 0, none⟩ = false := by rw [hf2 _ _ (by first | omega | (simp <;> omega))]; go_simp
      have R12 : w2.cell? ⟨w.heap.size, 1, none⟩ = some (.int .i64 0) := by rw [hc2 _ _ (by first | omega | (simp <;> omega))]; go_simp
      have ZR12 : w2.frozen? ⟨w.heap.size, 1, none⟩ = false := by rw [hf2 _ _ (by first | omega | (simp <;> omega))]; go_simp
      have F02 : w2.cell? ⟨w.heap.size + 1, 0, none⟩ = some (.int .i64 n) := by rw [hc2 _ _ (by first | omega | (simp <;> omega))]; go_simp
      have ZF02 : w2.frozen? ⟨w.heap.size + 1, 0, none⟩ = false := by rw [hf2 _ _ (by first | omega | (simp <;> omega))]; go_simp
      have F12 : w2.cell? ⟨w.heap.size + 1, 1, none⟩ = some (.int .i64 1) := by rw [hc2 _ _ (by first | omega | (simp <;> omega))]; go_simp
      have ZF12 : w2.frozen? ⟨w.heap.size + 1, 1, none⟩ = false := by rw [hf2 _ _ (by first | omega | (simp <;> omega))]; go_simp
      have z2 : w.heap.size + 1 < w2.heap.size := by have := hb2.size; (try simp at this); omega
      have b2 := b1.trans (hb2.mono b1.size)
      clear hc2 hf2 R01 R11 ZR01 ZR11 F01 F11 ZF01 ZF11
      have b2 := b2.setCell (p := ⟨w.heap.size + 1, 1, none⟩) (by show w.heap.size ≤ w.heap.size + 1; omega) (.int .i64 d)
      go_wp2_with fail
      refine (ok_any _ _ _).mono ?_
      rw [HA.out]
      rintro e w3 ⟨rfl, hb3⟩
      obtain ⟨hc3, hf3⟩ := bcell hb3
      have R03 : w3.cell? ⟨w.heap.size, 0, none⟩ = some (.int .i64 0) := by rw [hc3 _ _ (by first | omega | (simp <;> omega))]; go_simp
      have ZR03 : w3.frozen? ⟨w.heap.size, 0, none⟩ = false := by rw [hf3 _ _ (by first | omega | (simp <;> omega))]; go_simp
      have R13 : w3.cell? ⟨w.heap.size, 1, none⟩ = some (.int .i64 0) := by rw [hc3 _ _ (by first | omega | (simp <;> omega))]; go_simp
      have ZR13 : w3.frozen? ⟨w.heap.size, 1, none⟩ = false := by rw [hf3 _ _ (by first | omega | (simp <;> omega))]; go_simp
      have F03 : w3.cell? ⟨w.heap.size + 1, 0, none⟩ = some (.int .i64 n) := by rw [hc3 _ _ (by first | omega | (simp <;> omega))]; go_simp
      have ZF03 : w3.frozen? ⟨w.heap.size + 1, 0, none⟩ = false := by rw [hf3 _ _ (by first | omega | (simp <;> omega))]; go_simp
      have F13 : w3.cell? ⟨w.heap.size + 1, 1, none⟩ = some (.int .i64 d) := by rw [hc3 _ _ (by first | omega | (simp <;> omega))]; go_simp
      have ZF13 : w3.frozen? ⟨w.heap.size + 1, 1, none⟩ = false := by rw [hf3 _ _ (by first | omega | (simp <;> omega))]; go_simp
      have z3 : w.heap.size + 1 < w3.heap.size := by have := hb3.size; (try simp at this); omega
      have b3 := b2.trans (hb3.mono b2.size)
      clear hc3 hf3 R02 R12 ZR02 ZR12 F02 F12 ZF02 ZF12
      go_wp2_with fail
      refine (HT.out _).mono ?_
      rintro e w4 ⟨rfl, hb4⟩
      obtain ⟨hc4, hf4⟩ := bcell hb4
      have R04 : w4.cell? ⟨w.heap.size, 0, none⟩ = some (.int .i64 0) := by rw [hc4 _ _ (by first | omega | (simp <;> omega))]; go_simp
      have ZR04 : w4.frozen? ⟨w.heap.size, 0, none⟩ = false := by rw [hf4 _ _ (by first | omega | (simp <;> omega))]; go_simp
      have R14 : w4.cell? ⟨w.heap.size, 1, none⟩ = some (.int .i64 0) := by rw [hc4 _ _ (by first | omega | (simp <;> omega))]; go_simp
      have ZR14 : w4.frozen? ⟨w.heap.size, 1, none⟩ = false := by rw [hf4 _ _ (by first | omega | (simp <;> omega))]; go_simp
      have F04 : w4.cell? ⟨w.heap.size + 1, 0, none⟩ = some (.int .i64 n) := by rw [hc4 _ _ (by first | omega | (simp <;> omega))]; go_simp
      have ZF04 : w4.frozen? ⟨w.heap.size + 1, 0, none⟩ = false := by rw [hf4 _ _ (by first | omega | (simp <;> omega))]; go_simp
      have F14 : w4.cell? ⟨w.heap.size + 1, 1, none⟩ = some (.int .i64 d) := by rw [hc4 _ _ (by first | omega | (simp <;> omega))]; go_simp
      have ZF14 : w4.frozen? ⟨w.heap.size + 1, 1, none⟩ = false := by rw [hf4 _ _ (by first | omega | (simp <;> omega))]; go_simp
      have z4 : w.heap.size + 1 < w4.heap.size := by have := hb4.size; (try simp at this); omega
      have b4 := b3.trans (hb4.mono b3.size)
      clear hc4 hf4 R03 R13 ZR03 ZR13 F03 F13 ZF03 ZF13
      go_wp2
      refine bodyPost_ret (v := .tuple #[.agg #[.int .i64 0, .int .i64 0], .bool false]) (by simp [results, Tryd.results42, go_sem, R04, R14]) rfl ⟨rfl, ?_⟩
      refine Below.setCell (Below.setCell b4 ?_ _) ?_ _
      all_goals exact Nat.le_refl _
    · obtain rfl : z = (j : Int) := by omega
      have hj : j < s.size := by omega
      clear hz hk
      by_cases c1 : (s[j].toNat : Int) = 47
      · have H := sc_hit hj c1
        have h2 : ((s[j].toNat : Int) == 47) = true := by simp [c1]
        clear c1
        go_wp2
        go_round
        case rel => exact ⟨j, _, by omega, by rw [H], rfl, rfl⟩
        case measure => simp [intOf]
      · have H := sc_miss hj c1
        have h2 : ((s[j].toNat : Int) == 47) = false := by simp [c1]
        clear c1
        go_wp2
        go_round
        case rel => exact ⟨j, _, by omega, by rw [H], rfl, rfl⟩
        case measure => simp [intOf]

set_option maxHeartbeats 4000000 in
theorem sfD5 (s : ByteArray) (w : World) (hm : s.size ≤ 1048576) (c : Nat) (hc : Hid (sc s 0 = c)) (hlt : c < s.size) (t1 t2 : ByteArray) (g1 : ∀ W : World, (Instr.slice 9 (.string s) none (some (.int .i64 (c : Int))) none).run Tryd.prog W = .ok (.string t1) W) (g2 : ∀ W : World, (Instr.slice 9 (.string s) (some (.int .i64 ((c : Int) + 1))) none none).run Tryd.prog W = .ok (.string t2) W) (n : Int) (HD : Hid (∀ w, Calls Tryd.prog 71 #[.string t1] w (rP true n w))) (d : Int) (HE : Hid (∀ w, Calls Tryd.prog 71 #[.string t2] w (rP true d w))) (HA : Hid (okB n d = true)) (HT : Hid (∀ w, Calls Tryd.prog 68 #[.agg #[.int .i64 n, .int .i64 d]] w fun e w' => e = .returned (.string s) ∧ Below w.heap.size w w'))  :
    Calls Tryd.prog 42 #[.string s] w (fP true n d w) := by
  have b0 := ((Below.refl w.heap.size w).alloc (Nat.le_refl _) (.cells #[.int .i64 0, .int .i64 0] 28)).alloc (by simp) (.cells #[.int .i64 0, .int .i64 1] 28)
  go_enter Tryd.func42, Tryd.ntmps42
  go_wp2
  go_loop [4, 5] (fun m i => ∃ (k : Nat) (z : Int), k ≤ s.size ∧ m = .int .i64 (sc s k) ∧ i = .int .i64 z ∧ z = k - 1) (fun _ i => (intOf i + 1).toNat)
  case atStart => exact ⟨s.size, _, Nat.le_refl _, by rw [sc_end], rfl, rfl⟩
  case round =>
    obtain ⟨k, z, hk, rfl, rfl, hz⟩ := hrel
    rcases k with _ | j
    · obtain rfl : z = -1 := by omega
      rw [hc.out]
      clear hz hk
      go_wp2_with fail
      refine (HD.out _).mono ?_
      rintro e w1 ⟨rfl, hb1⟩
      obtain ⟨hc1, hf1⟩ := bcell hb1
      have R01 : w1.cell? ⟨w.heap.size, 0, none⟩ = some (.int .i64 0) := by rw [hc1 _ _ (by first | omega | (simp <;> omega))]; go_simp
      have ZR01 : w1.frozen? ⟨w.heap.size, 0, none⟩ = false := by rw [hf1 _ _ (by first | omega | (simp <;> omega))]; go_simp
      have R11 : w1.cell? ⟨w.heap.size, 1, none⟩ = some (.int .i64 0) := by rw [hc1 _ _ (by first | omega | (simp <;> omega))]; go_simp
      have ZR11 : w1.frozen? ⟨w.heap.size, 1, none⟩ = false := by rw [hf1 _ _ (by first | omega | (simp <;> omega))]; go_simp
      have F01 : w1.cell? ⟨w.heap.size + 1, 0, none⟩ = some (.int .i64 0) := by rw [hc1 _ _ (by first | omega | (simp <;> omega))]; go_simp
      have ZF01 : w1.frozen? ⟨w.heap.size + 1, 0, none⟩ = false := by rw [hf1 _ _ (by first | omega | (simp <;> omega))]; go_simp
      have F11 : w1.cell? ⟨w.heap.size + 1, 1, none⟩ = some (.int .i64 1) := by rw [hc1 _ _ (by first | omega | (simp <;> omega))]; go_simp
      have ZF11 : w1.frozen? ⟨w.heap.size + 1, 1, none⟩ = false := by rw [hf1 _ _ (by first | omega | (simp <;> omega))]; go_simp
      have z1 : w.heap.size + 1 < w1.heap.size := by have := hb1.size; (try simp at this); omega
      have b1 := b0.trans (hb1.mono (by simp <;> omega))
      clear hc1 hf1
      have b1 := b1.setCell (p := ⟨w.heap.size + 1, 0, none⟩) (by show w.heap.size ≤ w.heap.size + 1; omega) (.int .i64 n)
      go_wp2_with fail
      refine (HE.out _).mono ?_
      rintro e w2 ⟨rfl, hb2⟩
      obtain ⟨hc2, hf2⟩ := bcell hb2
      have R02 : w2.cell? ⟨w.heap.size, 0, none⟩ = some (.int .i64 0) := by rw [hc2 _ _ (by first | omega | (simp <;> omega))]; go_simp
      have ZR02 : w2.frozen? ⟨w.heap.size, 0, none⟩ = false := by rw [hf2 _ _ (by first | omega | (simp <;> omega))]; go_simp
      have R12 : w2.cell? ⟨w.heap.size, 1, none⟩ = some (.int .i64 0) := by rw [hc2 _ _ (by first | omega | (simp <;> omega))]; go_simp
      have ZR12 : w2.frozen? ⟨w.heap.size, 1, none⟩ = false := by rw [hf2 _ _ (by first | omega | (simp <;> omega))]; go_simp
      have F02 : w2.cell? ⟨w.heap.size + 1, 0, none⟩ = some (.int .i64 n) := by rw [hc2 _ _ (by first | omega | (simp <;> omega))]; go_simp
      have ZF02 : w2.frozen? ⟨w.heap.size + 1, 0, none⟩ = false := by rw [hf2 _ _ (by first | omega | (simp <;> omega))]; go_simp
      have F12 : w2.cell? ⟨w.heap.size + 1, 1, none⟩ = some (.int .i64 1) := by rw [hc2 _ _ (by first | omega | (simp <;> omega))]; go_simp
      have ZF12 : w2.frozen? ⟨w.heap.size + 1, 1, none⟩ = false := by rw [hf2 _ _ (by first | omega | (simp <;> omega))]; go_simp
      have z2 : w.heap.size + 1 < w2.heap.size := by have := hb2.size; (try simp at this); omega
      have b2 := b1.trans (hb2.mono b1.size)
      clear hc2 hf2 R01 R11 ZR01 ZR11 F01 F11 ZF01 ZF11
      have b2 := b2.setCell (p := ⟨w.heap.size + 1, 1, none⟩) (by show w.heap.size ≤ w.heap.size + 1; omega) (.int .i64 d)
      go_wp2_with fail
      refine (ok_any _ _ _).mono ?_
      rw [HA.out]
      rintro e w3 ⟨rfl, hb3⟩
      obtain ⟨hc3, hf3⟩ := bcell hb3
      have R03 : w3.cell? ⟨w.heap.size, 0, none⟩ = some (.int .i64 0) := by rw [hc3 _ _ (by first | omega | (simp <;> omega))]; go_simp
      have ZR03 : w3.frozen? ⟨w.heap.size, 0, none⟩ = false := by rw [hf3 _ _ (by first | omega | (simp <;> omega))]; go_simp
      have R13 : w3.cell? ⟨w.heap.size, 1, none⟩ = some (.int .i64 0) := by rw [hc3 _ _ (by first | omega | (simp <;> omega))]; go_simp
      have ZR13 : w3.frozen? ⟨w.heap.size, 1, none⟩ = false := by rw [hf3 _ _ (by first | omega | (simp <;> omega))]; go_simp
      have F03 : w3.cell? ⟨w.heap.size + 1, 0, none⟩ = some (.int .i64 n) := by rw [hc3 _ _ (by first | omega | (simp <;> omega))]; go_simp
      have ZF03 : w3.frozen? ⟨w.heap.size + 1, 0, none⟩ = false := by rw [hf3 _ _ (by first | omega | (simp <;> omega))]; go_simp
      have F13 : w3.cell? ⟨w.heap.size + 1, 1, none⟩ = some (.int .i64 d) := by rw [hc3 _ _ (by first | omega | (simp <;> omega))]; go_simp
      have ZF13 : w3.frozen? ⟨w.heap.size + 1, 1, none⟩ = false := by rw [hf3 _ _ (by first | omega | (simp <;> omega))]; go_simp
      have z3 : w.heap.size + 1 < w3.heap.size := by have := hb3.size; (try simp at this); omega
      have b3 := b2.trans (hb3.mono b2.size)
      clear hc3 hf3 R02 R12 ZR02 ZR12 F02 F12 ZF02 ZF12
      go_wp2_with fail
      refine (HT.out _).mono ?_
      rintro e w4 ⟨rfl, hb4⟩
      obtain ⟨hc4, hf4⟩ := bcell hb4
      have R04 : w4.cell? ⟨w.heap.size, 0, none⟩ = some (.int .i64 0) := by rw [hc4 _ _ (by first | omega | (simp <;> omega))]; go_simp
      have ZR04 : w4.frozen? ⟨w.heap.size, 0, none⟩ = false := by rw [hf4 _ _ (by first | omega | (simp <;> omega))]; go_simp
      have R14 : w4.cell? ⟨w.heap.size, 1, none⟩ = some (.int .i64 0) := by rw [hc4 _ _ (by first | omega | (simp <;> omega))]; go_simp
      have ZR14 : w4.frozen? ⟨w.heap.size, 1, none⟩ = false := by rw [hf4 _ _ (by first | omega | (simp <;> omega))]; go_simp
      have F04 : w4.cell? ⟨w.heap.size + 1, 0, none⟩ = some (.int .i64 n) := by rw [hc4 _ _ (by first | omega | (simp <;> omega))]; go_simp
      have ZF04 : w4.frozen? ⟨w.heap.size + 1, 0, none⟩ = false := by rw [hf4 _ _ (by first | omega | (simp <;> omega))]; go_simp
      have F14 : w4.cell? ⟨w.heap.size + 1, 1, none⟩ = some (.int .i64 d) := by rw [hc4 _ _ (by first | omega | (simp <;> omega))]; go_simp
      have ZF14 : w4.frozen? ⟨w.heap.size + 1, 1, none⟩ = false := by rw [hf4 _ _ (by first | omega | (simp <;> omega))]; go_simp
      have z4 : w.heap.size + 1 < w4.heap.size := by have := hb4.size; (try simp at this); omega
      have b4 := b3.trans (hb4.mono b3.size)
      clear hc4 hf4 R03 R13 ZR03 ZR13 F03 F13 ZF03 ZF13
      go_wp2
      refine bodyPost_ret (v := .tuple #[.agg #[.int .i64 n, .int .i64 d], .bool true]) (by simp [results, Tryd.results42, go_sem, R04, R14]) rfl ⟨rfl, ?_⟩
      refine Below.setCell (Below.setCell b4 ?_ _) ?_ _
      all_goals exact Nat.le_refl _
    · obtain rfl : z = (j : Int) := by omega
      have hj : j < s.size := by omega
      clear hz hk
      by_cases c1 : (s[j].toNat : Int) = 47
      · have H := sc_hit hj c1
        have h2 : ((s[j].toNat : Int) == 47) = true := by simp [c1]
        clear c1
        go_wp2
        go_round
        case rel => exact ⟨j, _, by omega, by rw [H], rfl, rfl⟩
        case measure => simp [intOf]
      · have H := sc_miss hj c1
        have h2 : ((s[j].toNat : Int) == 47) = false := by simp [c1]
        clear c1
        go_wp2
        go_round
        case rel => exact ⟨j, _, by omega, by rw [H], rfl, rfl⟩
        case measure => simp [intOf]
end Go.Proofs.YtoppbeojmkbmcaaDoor
