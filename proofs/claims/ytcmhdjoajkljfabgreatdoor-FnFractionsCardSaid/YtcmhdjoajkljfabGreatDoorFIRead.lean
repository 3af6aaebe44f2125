/- The program's reading of a fraction by contracts, and the law on ReadFraction, walked. -/
import Derived.Test.YtcmhdjoajkljfabGreatDoorFRead
import Derived.Test.YtcmhdjoajkljfabGreatDoorLFrac
import Derived.WalkSmall
namespace Go.Proofs.YtcmhdjoajkljfabGreatDoor
open Go.ChangeShapes Go.WideShapes Go.ChangeAt Go.RowKit
set_option linter.unusedVariables false
/-- The library's variable holds some number. -/
def MaxT (w : World) : Prop := ∃ m, w.cell? ⟨1, 0, none⟩ = some (.int .i64 m)
theorem MaxT.below {w w' : World} (h : MaxT w) (hb : Below w.heap.size w w') : MaxT w' := by
  obtain ⟨m, hm⟩ := h
  have l1 : 1 < w.heap.size := World.block_lt_of_cell? w ⟨_, 0, none⟩ hm
  exact ⟨m, (hb.cell (p := ⟨_, 0, none⟩) l1).trans hm⟩
def L4 (w : World) : Prop := ErrT w ∧ SynT w ∧ PowT w ∧ MaxT w
theorem L4.below {w w' : World} (h : L4 w) (hb : Below w.heap.size w w') : L4 w' := ⟨h.1.below hb, h.2.1.below hb, h.2.2.1.below hb, h.2.2.2.below hb⟩
/-- What strings.Cut answers. -/
def cP (t1 t2 : ByteArray) (b : Bool) (w : World) (e : Ending) (w' : World) : Prop := e = .returned (.tuple #[.string t1, .string t2, .bool b]) ∧ Below w.heap.size w w'
theorem cut_any (s : ByteArray) (hs : s.size ≤ 1048576) (w : World) (h : MaxT w) : Calls Tryz.prog 24 #[.string s, .string ⟨#[47]⟩] w (cP ⟨(Lib.cut s.data.toList [47]).1.toArray⟩ ⟨(Lib.cut s.data.toList [47]).2.1.toArray⟩ (Lib.cut s.data.toList [47]).2.2 w) := by
  obtain ⟨m, hm⟩ := h
  refine (Tryz.strings_Cut s ⟨#[47]⟩ m w (by omega) hm).mono ?_
  rintro e w' ⟨rfl, n, rfl⟩
  exact ⟨rfl, below_drewN (Below.refl _ _) n⟩
set_option maxHeartbeats 4000000 in
theorem ifU1 (s t1 t2 : ByteArray) (w : World) (hg : Hid (L4 w)) (n d : Int) (HC : Hid (∀ w, MaxT w → Calls Tryz.prog 24 #[.string s, .string ⟨#[47]⟩] w (cP t1 t2 false w))) (HR : Hid (∀ w, SynT w → PowT w → Calls Tryz.prog 25 #[.string t1, .int .i64 1000000000] w (rP false n w))) (HQ : Hid (∀ w, SynT w → PowT w → Calls Tryz.prog 25 #[.string (⟨#[49]⟩ : ByteArray), .int .i64 1000000000] w (rP true d w))) :
    Calls Tryz.prog 10 #[.string s] w (fP false 0 0 w) := by
  have b0 := (Below.refl w.heap.size w).alloc (Nat.le_refl _) (.cells #[.int .i64 0, .int .i64 0] 25)
  have g0 := hg.out.below b0
  go_enter Tryz.func10, Tryz.ntmps10
  go_wp2_with fail
  refine (HC.out _ g0.2.2.2).mono ?_
  rintro e w1 ⟨rfl, hb1⟩
  obtain ⟨hc1, hf1⟩ := bcell hb1
  have R01 : w1.cell? ⟨w.heap.size, 0, none⟩ = some (.int .i64 0) := by rw [hc1 _ _ (by first | omega | (simp <;> omega))]; go_simp
  have ZR01 : w1.frozen? ⟨w.heap.size, 0, none⟩ = false := by rw [hf1 _ _ (by first | omega | (simp <;> omega))]; go_simp
  have R11 : w1.cell? ⟨w.heap.size, 1, none⟩ = some (.int .i64 0) := by rw [hc1 _ _ (by first | omega | (simp <;> omega))]; go_simp
  have ZR11 : w1.frozen? ⟨w.heap.size, 1, none⟩ = false := by rw [hf1 _ _ (by first | omega | (simp <;> omega))]; go_simp
  have z1 : w.heap.size < w1.heap.size := by have := hb1.size; (try simp at this); omega
  have b1 := b0.trans (hb1.mono (by have := b0.size; first | omega | (simp <;> omega)))
  clear hc1 hf1 g0
  have g1 := hg.out.below b1
  go_wp2_with fail
  refine (HR.out _ g1.2.1 g1.2.2.1).mono ?_
  rintro e w2 ⟨rfl, hb2⟩
  obtain ⟨hc2, hf2⟩ := bcell hb2
  have R02 : w2.cell? ⟨w.heap.size, 0, none⟩ = some (.int .i64 0) := by rw [hc2 _ _ (by first | omega | (simp <;> omega))]; go_simp
  have ZR02 : w2.frozen? ⟨w.heap.size, 0, none⟩ = false := by rw [hf2 _ _ (by first | omega | (simp <;> omega))]; go_simp
  have R12 : w2.cell? ⟨w.heap.size, 1, none⟩ = some (.int .i64 0) := by rw [hc2 _ _ (by first | omega | (simp <;> omega))]; go_simp
  have ZR12 : w2.frozen? ⟨w.heap.size, 1, none⟩ = false := by rw [hf2 _ _ (by first | omega | (simp <;> omega))]; go_simp
  have z2 : w.heap.size < w2.heap.size := by have := hb2.size; (try simp at this); omega
  have b2 := b1.trans (hb2.mono (by have := b1.size; first | omega | (simp <;> omega)))
  clear hc2 hf2 g1 R01 R11 ZR01 ZR11
  have g2 := hg.out.below b2
  go_wp2_with fail
  refine (HQ.out _ g2.2.1 g2.2.2.1).mono ?_
  rintro e w3 ⟨rfl, hb3⟩
  obtain ⟨hc3, hf3⟩ := bcell hb3
  have R03 : w3.cell? ⟨w.heap.size, 0, none⟩ = some (.int .i64 0) := by rw [hc3 _ _ (by first | omega | (simp <;> omega))]; go_simp
  have ZR03 : w3.frozen? ⟨w.heap.size, 0, none⟩ = false := by rw [hf3 _ _ (by first | omega | (simp <;> omega))]; go_simp
  have R13 : w3.cell? ⟨w.heap.size, 1, none⟩ = some (.int .i64 0) := by rw [hc3 _ _ (by first | omega | (simp <;> omega))]; go_simp
  have ZR13 : w3.frozen? ⟨w.heap.size, 1, none⟩ = false := by rw [hf3 _ _ (by first | omega | (simp <;> omega))]; go_simp
  have z3 : w.heap.size < w3.heap.size := by have := hb3.size; (try simp at this); omega
  have b3 := b2.trans (hb3.mono (by have := b2.size; first | omega | (simp <;> omega)))
  clear hc3 hf3 g2 R02 R12 ZR02 ZR12
  go_wp2
  refine bodyPost_ret (v := .tuple #[.agg #[.int .i64 0, .int .i64 0], .bool false]) (by simp [results, Tryz.results10, go_sem, R03, R13]) rfl ⟨rfl, ?_⟩
  refine Below.setCell (Below.setCell b3 ?_ _) ?_ _
  all_goals exact Nat.le_refl _

set_option maxHeartbeats 4000000 in
theorem ifU3 (s t1 t2 : ByteArray) (w : World) (hg : Hid (L4 w)) (n d : Int) (HC : Hid (∀ w, MaxT w → Calls Tryz.prog 24 #[.string s, .string ⟨#[47]⟩] w (cP t1 t2 false w))) (HR : Hid (∀ w, SynT w → PowT w → Calls Tryz.prog 25 #[.string t1, .int .i64 1000000000] w (rP true n w))) (HQ : Hid (∀ w, SynT w → PowT w → Calls Tryz.prog 25 #[.string (⟨#[49]⟩ : ByteArray), .int .i64 1000000000] w (rP true d w))) (t : ByteArray) (HX : Hid (∀ w, L4 w → Calls Tryz.prog 9 #[.agg #[.int .i64 n, .int .i64 d]] w fun e w' => e = .returned (.tuple #[.string t, .bool false]) ∧ Below w.heap.size w w')) :
    Calls Tryz.prog 10 #[.string s] w (fP false 0 0 w) := by
  have b0 := (Below.refl w.heap.size w).alloc (Nat.le_refl _) (.cells #[.int .i64 0, .int .i64 0] 25)
  have g0 := hg.out.below b0
  go_enter Tryz.func10, Tryz.ntmps10
  go_wp2_with fail
  refine (HC.out _ g0.2.2.2).mono ?_
  rintro e w1 ⟨rfl, hb1⟩
  obtain ⟨hc1, hf1⟩ := bcell hb1
  have R01 : w1.cell? ⟨w.heap.size, 0, none⟩ = some (.int .i64 0) := by rw [hc1 _ _ (by first | omega | (simp <;> omega))]; go_simp
  have ZR01 : w1.frozen? ⟨w.heap.size, 0, none⟩ = false := by rw [hf1 _ _ (by first | omega | (simp <;> omega))]; go_simp
  have R11 : w1.cell? ⟨w.heap.size, 1, none⟩ = some (.int .i64 0) := by rw [hc1 _ _ (by first | omega | (simp <;> omega))]; go_simp
  have ZR11 : w1.frozen? ⟨w.heap.size, 1, none⟩ = false := by rw [hf1 _ _ (by first | omega | (simp <;> omega))]; go_simp
  have z1 : w.heap.size < w1.heap.size := by have := hb1.size; (try simp at this); omega
  have b1 := b0.trans (hb1.mono (by have := b0.size; first | omega | (simp <;> omega)))
  clear hc1 hf1 g0
  have g1 := hg.out.below b1
  go_wp2_with fail
  refine (HR.out _ g1.2.1 g1.2.2.1).mono ?_
  rintro e w2 ⟨rfl, hb2⟩
  obtain ⟨hc2, hf2⟩ := bcell hb2
  have R02 : w2.cell? ⟨w.heap.size, 0, none⟩ = some (.int .i64 0) := by rw [hc2 _ _ (by first | omega | (simp <;> omega))]; go_simp
  have ZR02 : w2.frozen? ⟨w.heap.size, 0, none⟩ = false := by rw [hf2 _ _ (by first | omega | (simp <;> omega))]; go_simp
  have R12 : w2.cell? ⟨w.heap.size, 1, none⟩ = some (.int .i64 0) := by rw [hc2 _ _ (by first | omega | (simp <;> omega))]; go_simp
  have ZR12 : w2.frozen? ⟨w.heap.size, 1, none⟩ = false := by rw [hf2 _ _ (by first | omega | (simp <;> omega))]; go_simp
  have z2 : w.heap.size < w2.heap.size := by have := hb2.size; (try simp at this); omega
  have b2 := b1.trans (hb2.mono (by have := b1.size; first | omega | (simp <;> omega)))
  clear hc2 hf2 g1 R01 R11 ZR01 ZR11
  have g2 := hg.out.below b2
  go_wp2_with fail
  refine (HQ.out _ g2.2.1 g2.2.2.1).mono ?_
  rintro e w3 ⟨rfl, hb3⟩
  obtain ⟨hc3, hf3⟩ := bcell hb3
  have R03 : w3.cell? ⟨w.heap.size, 0, none⟩ = some (.int .i64 0) := by rw [hc3 _ _ (by first | omega | (simp <;> omega))]; go_simp
  have ZR03 : w3.frozen? ⟨w.heap.size, 0, none⟩ = false := by rw [hf3 _ _ (by first | omega | (simp <;> omega))]; go_simp
  have R13 : w3.cell? ⟨w.heap.size, 1, none⟩ = some (.int .i64 0) := by rw [hc3 _ _ (by first | omega | (simp <;> omega))]; go_simp
  have ZR13 : w3.frozen? ⟨w.heap.size, 1, none⟩ = false := by rw [hf3 _ _ (by first | omega | (simp <;> omega))]; go_simp
  have z3 : w.heap.size < w3.heap.size := by have := hb3.size; (try simp at this); omega
  have b3 := b2.trans (hb3.mono (by have := b2.size; first | omega | (simp <;> omega)))
  clear hc3 hf3 g2 R02 R12 ZR02 ZR12
  have c3 := b3.alloc b3.size (.cells #[.int .i64 n, .int .i64 d] 25)
  have g3 := hg.out.below c3
  go_wp2_with fail
  refine (HX.out _ g3).mono ?_
  rintro e w4 ⟨rfl, hb4⟩
  obtain ⟨hc4, hf4⟩ := bcell hb4
  have R04 : w4.cell? ⟨w.heap.size, 0, none⟩ = some (.int .i64 0) := by rw [hc4 _ _ (by first | omega | (simp <;> omega))]; go_simp
  have ZR04 : w4.frozen? ⟨w.heap.size, 0, none⟩ = false := by rw [hf4 _ _ (by first | omega | (simp <;> omega))]; go_simp
  have R14 : w4.cell? ⟨w.heap.size, 1, none⟩ = some (.int .i64 0) := by rw [hc4 _ _ (by first | omega | (simp <;> omega))]; go_simp
  have ZR14 : w4.frozen? ⟨w.heap.size, 1, none⟩ = false := by rw [hf4 _ _ (by first | omega | (simp <;> omega))]; go_simp
  have z4 : w.heap.size < w4.heap.size := by have := hb4.size; (try simp at this); omega
  have F04 : w4.cell? ⟨w3.heap.size, 0, none⟩ = some (.int .i64 n) := by rw [hc4 _ _ (by simp)]; go_simp
  have F14 : w4.cell? ⟨w3.heap.size, 1, none⟩ = some (.int .i64 d) := by rw [hc4 _ _ (by simp)]; go_simp
  have b4 := c3.trans (hb4.mono (by have := c3.size; first | omega | (simp <;> omega)))
  clear hc4 hf4 c3 g3 R03 R13 ZR03 ZR13
  go_wp2
  refine bodyPost_ret (v := .tuple #[.agg #[.int .i64 0, .int .i64 0], .bool false]) (by simp [results, Tryz.results10, go_sem, R04, R14]) rfl ⟨rfl, ?_⟩
  refine Below.setCell (Below.setCell b4 ?_ _) ?_ _
  all_goals exact Nat.le_refl _

set_option maxHeartbeats 4000000 in
theorem ifU4 (s t1 t2 : ByteArray) (w : World) (hg : Hid (L4 w)) (n d : Int) (HC : Hid (∀ w, MaxT w → Calls Tryz.prog 24 #[.string s, .string ⟨#[47]⟩] w (cP t1 t2 false w))) (HR : Hid (∀ w, SynT w → PowT w → Calls Tryz.prog 25 #[.string t1, .int .i64 1000000000] w (rP true n w))) (HQ : Hid (∀ w, SynT w → PowT w → Calls Tryz.prog 25 #[.string (⟨#[49]⟩ : ByteArray), .int .i64 1000000000] w (rP true d w))) (t : ByteArray) (HN : (t.toList == s.toList) = false) (HX : Hid (∀ w, L4 w → Calls Tryz.prog 9 #[.agg #[.int .i64 n, .int .i64 d]] w fun e w' => e = .returned (.tuple #[.string t, .bool true]) ∧ Below w.heap.size w w')) :
    Calls Tryz.prog 10 #[.string s] w (fP false 0 0 w) := by
  have b0 := (Below.refl w.heap.size w).alloc (Nat.le_refl _) (.cells #[.int .i64 0, .int .i64 0] 25)
  have g0 := hg.out.below b0
  go_enter Tryz.func10, Tryz.ntmps10
  go_wp2_with fail
  refine (HC.out _ g0.2.2.2).mono ?_
  rintro e w1 ⟨rfl, hb1⟩
  obtain ⟨hc1, hf1⟩ := bcell hb1
  have R01 : w1.cell? ⟨w.heap.size, 0, none⟩ = some (.int .i64 0) := by rw [hc1 _ _ (by first | omega | (simp <;> omega))]; go_simp
  have ZR01 : w1.frozen? ⟨w.heap.size, 0, none⟩ = false := by rw [hf1 _ _ (by first | omega | (simp <;> omega))]; go_simp
  have R11 : w1.cell? ⟨w.heap.size, 1, none⟩ = some (.int .i64 0) := by rw [hc1 _ _ (by first | omega | (simp <;> omega))]; go_simp
  have ZR11 : w1.frozen? ⟨w.heap.size, 1, none⟩ = false := by rw [hf1 _ _ (by first | omega | (simp <;> omega))]; go_simp
  have z1 : w.heap.size < w1.heap.size := by have := hb1.size; (try simp at this); omega
  have b1 := b0.trans (hb1.mono (by have := b0.size; first | omega | (simp <;> omega)))
  clear hc1 hf1 g0
  have g1 := hg.out.below b1
  go_wp2_with fail
  refine (HR.out _ g1.2.1 g1.2.2.1).mono ?_
  rintro e w2 ⟨rfl, hb2⟩
  obtain ⟨hc2, hf2⟩ := bcell hb2
  have R02 : w2.cell? ⟨w.heap.size, 0, none⟩ = some (.int .i64 0) := by rw [hc2 _ _ (by first | omega | (simp <;> omega))]; go_simp
  have ZR02 : w2.frozen? ⟨w.heap.size, 0, none⟩ = false := by rw [hf2 _ _ (by first | omega | (simp <;> omega))]; go_simp
  have R12 : w2.cell? ⟨w.heap.size, 1, none⟩ = some (.int .i64 0) := by rw [hc2 _ _ (by first | omega | (simp <;> omega))]; go_simp
  have ZR12 : w2.frozen? ⟨w.heap.size, 1, none⟩ = false := by rw [hf2 _ _ (by first | omega | (simp <;> omega))]; go_simp
  have z2 : w.heap.size < w2.heap.size := by have := hb2.size; (try simp at this); omega
  have b2 := b1.trans (hb2.mono (by have := b1.size; first | omega | (simp <;> omega)))
  clear hc2 hf2 g1 R01 R11 ZR01 ZR11
  have g2 := hg.out.below b2
  go_wp2_with fail
  refine (HQ.out _ g2.2.1 g2.2.2.1).mono ?_
  rintro e w3 ⟨rfl, hb3⟩
  obtain ⟨hc3, hf3⟩ := bcell hb3
  have R03 : w3.cell? ⟨w.heap.size, 0, none⟩ = some (.int .i64 0) := by rw [hc3 _ _ (by first | omega | (simp <;> omega))]; go_simp
  have ZR03 : w3.frozen? ⟨w.heap.size, 0, none⟩ = false := by rw [hf3 _ _ (by first | omega | (simp <;> omega))]; go_simp
  have R13 : w3.cell? ⟨w.heap.size, 1, none⟩ = some (.int .i64 0) := by rw [hc3 _ _ (by first | omega | (simp <;> omega))]; go_simp
  have ZR13 : w3.frozen? ⟨w.heap.size, 1, none⟩ = false := by rw [hf3 _ _ (by first | omega | (simp <;> omega))]; go_simp
  have z3 : w.heap.size < w3.heap.size := by have := hb3.size; (try simp at this); omega
  have b3 := b2.trans (hb3.mono (by have := b2.size; first | omega | (simp <;> omega)))
  clear hc3 hf3 g2 R02 R12 ZR02 ZR12
  have c3 := b3.alloc b3.size (.cells #[.int .i64 n, .int .i64 d] 25)
  have g3 := hg.out.below c3
  go_wp2_with fail
  refine (HX.out _ g3).mono ?_
  rintro e w4 ⟨rfl, hb4⟩
  obtain ⟨hc4, hf4⟩ := bcell hb4
  have R04 : w4.cell? ⟨w.heap.size, 0, none⟩ = some (.int .i64 0) := by rw [hc4 _ _ (by first | omega | (simp <;> omega))]; go_simp
  have ZR04 : w4.frozen? ⟨w.heap.size, 0, none⟩ = false := by rw [hf4 _ _ (by first | omega | (simp <;> omega))]; go_simp
  have R14 : w4.cell? ⟨w.heap.size, 1, none⟩ = some (.int .i64 0) := by rw [hc4 _ _ (by first | omega | (simp <;> omega))]; go_simp
  have ZR14 : w4.frozen? ⟨w.heap.size, 1, none⟩ = false := by rw [hf4 _ _ (by first | omega | (simp <;> omega))]; go_simp
  have z4 : w.heap.size < w4.heap.size := by have := hb4.size; (try simp at this); omega
  have F04 : w4.cell? ⟨w3.heap.size, 0, none⟩ = some (.int .i64 n) := by rw [hc4 _ _ (by simp)]; go_simp
  have F14 : w4.cell? ⟨w3.heap.size, 1, none⟩ = some (.int .i64 d) := by rw [hc4 _ _ (by simp)]; go_simp
  have b4 := c3.trans (hb4.mono (by have := c3.size; first | omega | (simp <;> omega)))
  clear hc4 hf4 c3 g3 R03 R13 ZR03 ZR13
  go_wp2
  refine bodyPost_ret (v := .tuple #[.agg #[.int .i64 0, .int .i64 0], .bool false]) (by simp [results, Tryz.results10, go_sem, R04, R14]) rfl ⟨rfl, ?_⟩
  refine Below.setCell (Below.setCell b4 ?_ _) ?_ _
  all_goals exact Nat.le_refl _

set_option maxHeartbeats 4000000 in
theorem ifU5 (s t1 t2 : ByteArray) (w : World) (hg : Hid (L4 w)) (n d : Int) (HC : Hid (∀ w, MaxT w → Calls Tryz.prog 24 #[.string s, .string ⟨#[47]⟩] w (cP t1 t2 false w))) (HR : Hid (∀ w, SynT w → PowT w → Calls Tryz.prog 25 #[.string t1, .int .i64 1000000000] w (rP true n w))) (HQ : Hid (∀ w, SynT w → PowT w → Calls Tryz.prog 25 #[.string (⟨#[49]⟩ : ByteArray), .int .i64 1000000000] w (rP true d w))) (HX : Hid (∀ w, L4 w → Calls Tryz.prog 9 #[.agg #[.int .i64 n, .int .i64 d]] w fun e w' => e = .returned (.tuple #[.string s, .bool true]) ∧ Below w.heap.size w w')) :
    Calls Tryz.prog 10 #[.string s] w (fP true n d w) := by
  have b0 := (Below.refl w.heap.size w).alloc (Nat.le_refl _) (.cells #[.int .i64 0, .int .i64 0] 25)
  have g0 := hg.out.below b0
  go_enter Tryz.func10, Tryz.ntmps10
  go_wp2_with fail
  refine (HC.out _ g0.2.2.2).mono ?_
  rintro e w1 ⟨rfl, hb1⟩
  obtain ⟨hc1, hf1⟩ := bcell hb1
  have R01 : w1.cell? ⟨w.heap.size, 0, none⟩ = some (.int .i64 0) := by rw [hc1 _ _ (by first | omega | (simp <;> omega))]; go_simp
  have ZR01 : w1.frozen? ⟨w.heap.size, 0, none⟩ = false := by rw [hf1 _ _ (by first | omega | (simp <;> omega))]; go_simp
  have R11 : w1.cell? ⟨w.heap.size, 1, none⟩ = some (.int .i64 0) := by rw [hc1 _ _ (by first | omega | (simp <;> omega))]; go_simp
  have ZR11 : w1.frozen? ⟨w.heap.size, 1, none⟩ = false := by rw [hf1 _ _ (by first | omega | (simp <;> omega))]; go_simp
  have z1 : w.heap.size < w1.heap.size := by have := hb1.size; (try simp at this); omega
  have b1 := b0.trans (hb1.mono (by have := b0.size; first | omega | (simp <;> omega)))
  clear hc1 hf1 g0
  have g1 := hg.out.below b1
  go_wp2_with fail
  refine (HR.out _ g1.2.1 g1.2.2.1).mono ?_
  rintro e w2 ⟨rfl, hb2⟩
  obtain ⟨hc2, hf2⟩ := bcell hb2
  have R02 : w2.cell? ⟨w.heap.size, 0, none⟩ = some (.int .i64 0) := by rw [hc2 _ _ (by first | omega | (simp <;> omega))]; go_simp
  have ZR02 : w2.frozen? ⟨w.heap.size, 0, none⟩ = false := by rw [hf2 _ _ (by first | omega | (simp <;> omega))]; go_simp
  have R12 : w2.cell? ⟨w.heap.size, 1, none⟩ = some (.int .i64 0) := by rw [hc2 _ _ (by first | omega | (simp <;> omega))]; go_simp
  have ZR12 : w2.frozen? ⟨w.heap.size, 1, none⟩ = false := by rw [hf2 _ _ (by first | omega | (simp <;> omega))]; go_simp
  have z2 : w.heap.size < w2.heap.size := by have := hb2.size; (try simp at this); omega
  have b2 := b1.trans (hb2.mono (by have := b1.size; first | omega | (simp <;> omega)))
  clear hc2 hf2 g1 R01 R11 ZR01 ZR11
  have g2 := hg.out.below b2
  go_wp2_with fail
  refine (HQ.out _ g2.2.1 g2.2.2.1).mono ?_
  rintro e w3 ⟨rfl, hb3⟩
  obtain ⟨hc3, hf3⟩ := bcell hb3
  have R03 : w3.cell? ⟨w.heap.size, 0, none⟩ = some (.int .i64 0) := by rw [hc3 _ _ (by first | omega | (simp <;> omega))]; go_simp
  have ZR03 : w3.frozen? ⟨w.heap.size, 0, none⟩ = false := by rw [hf3 _ _ (by first | omega | (simp <;> omega))]; go_simp
  have R13 : w3.cell? ⟨w.heap.size, 1, none⟩ = some (.int .i64 0) := by rw [hc3 _ _ (by first | omega | (simp <;> omega))]; go_simp
  have ZR13 : w3.frozen? ⟨w.heap.size, 1, none⟩ = false := by rw [hf3 _ _ (by first | omega | (simp <;> omega))]; go_simp
  have z3 : w.heap.size < w3.heap.size := by have := hb3.size; (try simp at this); omega
  have b3 := b2.trans (hb3.mono (by have := b2.size; first | omega | (simp <;> omega)))
  clear hc3 hf3 g2 R02 R12 ZR02 ZR12
  have c3 := b3.alloc b3.size (.cells #[.int .i64 n, .int .i64 d] 25)
  have g3 := hg.out.below c3
  go_wp2_with fail
  refine (HX.out _ g3).mono ?_
  rintro e w4 ⟨rfl, hb4⟩
  obtain ⟨hc4, hf4⟩ := bcell hb4
  have R04 : w4.cell? ⟨w.heap.size, 0, none⟩ = some (.int .i64 0) := by rw [hc4 _ _ (by first | omega | (simp <;> omega))]; go_simp
  have ZR04 : w4.frozen? ⟨w.heap.size, 0, none⟩ = false := by rw [hf4 _ _ (by first | omega | (simp <;> omega))]; go_simp
  have R14 : w4.cell? ⟨w.heap.size, 1, none⟩ = some (.int .i64 0) := by rw [hc4 _ _ (by first | omega | (simp <;> omega))]; go_simp
  have ZR14 : w4.frozen? ⟨w.heap.size, 1, none⟩ = false := by rw [hf4 _ _ (by first | omega | (simp <;> omega))]; go_simp
  have z4 : w.heap.size < w4.heap.size := by have := hb4.size; (try simp at this); omega
  have F04 : w4.cell? ⟨w3.heap.size, 0, none⟩ = some (.int .i64 n) := by rw [hc4 _ _ (by simp)]; go_simp
  have F14 : w4.cell? ⟨w3.heap.size, 1, none⟩ = some (.int .i64 d) := by rw [hc4 _ _ (by simp)]; go_simp
  have b4 := c3.trans (hb4.mono (by have := c3.size; first | omega | (simp <;> omega)))
  clear hc4 hf4 c3 g3 R03 R13 ZR03 ZR13
  go_wp2
  refine bodyPost_ret (v := .tuple #[.agg #[.int .i64 n, .int .i64 d], .bool true]) (by simp [results, Tryz.results10, go_sem, R04, R14]) rfl ⟨rfl, ?_⟩
  refine Below.setCell (Below.setCell b4 ?_ _) ?_ _
  all_goals exact Nat.le_refl _

set_option maxHeartbeats 4000000 in
theorem ifD1 (s t1 t2 : ByteArray) (w : World) (hg : Hid (L4 w)) (n d : Int) (HC : Hid (∀ w, MaxT w → Calls Tryz.prog 24 #[.string s, .string ⟨#[47]⟩] w (cP t1 t2 true w))) (HR : Hid (∀ w, SynT w → PowT w → Calls Tryz.prog 25 #[.string t1, .int .i64 1000000000] w (rP false n w))) (HQ : Hid (∀ w, SynT w → PowT w → Calls Tryz.prog 25 #[.string t2, .int .i64 1000000000] w (rP true d w))) :
    Calls Tryz.prog 10 #[.string s] w (fP false 0 0 w) := by
  have b0 := (Below.refl w.heap.size w).alloc (Nat.le_refl _) (.cells #[.int .i64 0, .int .i64 0] 25)
  have g0 := hg.out.below b0
  go_enter Tryz.func10, Tryz.ntmps10
  go_wp2_with fail
  refine (HC.out _ g0.2.2.2).mono ?_
  rintro e w1 ⟨rfl, hb1⟩
  obtain ⟨hc1, hf1⟩ := bcell hb1
  have R01 : w1.cell? ⟨w.heap.size, 0, none⟩ = some (.int .i64 0) := by rw [hc1 _ _ (by first | omega | (simp <;> omega))]; go_simp
  have ZR01 : w1.frozen? ⟨w.heap.size, 0, none⟩ = false := by rw [hf1 _ _ (by first | omega | (simp <;> omega))]; go_simp
  have R11 : w1.cell? ⟨w.heap.size, 1, none⟩ = some (.int .i64 0) := by rw [hc1 _ _ (by first | omega | (simp <;> omega))]; go_simp
  have ZR11 : w1.frozen? ⟨w.heap.size, 1, none⟩ = false := by rw [hf1 _ _ (by first | omega | (simp <;> omega))]; go_simp
  have z1 : w.heap.size < w1.heap.size := by have := hb1.size; (try simp at this); omega
  have b1 := b0.trans (hb1.mono (by have := b0.size; first | omega | (simp <;> omega)))
  clear hc1 hf1 g0
  have g1 := hg.out.below b1
  go_wp2_with fail
  refine (HR.out _ g1.2.1 g1.2.2.1).mono ?_
  rintro e w2 ⟨rfl, hb2⟩
  obtain ⟨hc2, hf2⟩ := bcell hb2
  have R02 : w2.cell? ⟨w.heap.size, 0, none⟩ = some (.int .i64 0) := by rw [hc2 _ _ (by first | omega | (simp <;> omega))]; go_simp
  have ZR02 : w2.frozen? ⟨w.heap.size, 0, none⟩ = false := by rw [hf2 _ _ (by first | omega | (simp <;> omega))]; go_simp
  have R12 : w2.cell? ⟨w.heap.size, 1, none⟩ = some (.int .i64 0) := by rw [hc2 _ _ (by first | omega | (simp <;> omega))]; go_simp
  have ZR12 : w2.frozen? ⟨w.heap.size, 1, none⟩ = false := by rw [hf2 _ _ (by first | omega | (simp <;> omega))]; go_simp
  have z2 : w.heap.size < w2.heap.size := by have := hb2.size; (try simp at this); omega
  have b2 := b1.trans (hb2.mono (by have := b1.size; first | omega | (simp <;> omega)))
  clear hc2 hf2 g1 R01 R11 ZR01 ZR11
  have g2 := hg.out.below b2
  go_wp2_with fail
  refine (HQ.out _ g2.2.1 g2.2.2.1).mono ?_
  rintro e w3 ⟨rfl, hb3⟩
  obtain ⟨hc3, hf3⟩ := bcell hb3
  have R03 : w3.cell? ⟨w.heap.size, 0, none⟩ = some (.int .i64 0) := by rw [hc3 _ _ (by first | omega | (simp <;> omega))]; go_simp
  have ZR03 : w3.frozen? ⟨w.heap.size, 0, none⟩ = false := by rw [hf3 _ _ (by first | omega | (simp <;> omega))]; go_simp
  have R13 : w3.cell? ⟨w.heap.size, 1, none⟩ = some (.int .i64 0) := by rw [hc3 _ _ (by first | omega | (simp <;> omega))]; go_simp
  have ZR13 : w3.frozen? ⟨w.heap.size, 1, none⟩ = false := by rw [hf3 _ _ (by first | omega | (simp <;> omega))]; go_simp
  have z3 : w.heap.size < w3.heap.size := by have := hb3.size; (try simp at this); omega
  have b3 := b2.trans (hb3.mono (by have := b2.size; first | omega | (simp <;> omega)))
  clear hc3 hf3 g2 R02 R12 ZR02 ZR12
  go_wp2
  refine bodyPost_ret (v := .tuple #[.agg #[.int .i64 0, .int .i64 0], .bool false]) (by simp [results, Tryz.results10, go_sem, R03, R13]) rfl ⟨rfl, ?_⟩
  refine Below.setCell (Below.setCell b3 ?_ _) ?_ _
  all_goals exact Nat.le_refl _

set_option maxHeartbeats 4000000 in
theorem ifD6 (s t1 t2 : ByteArray) (w : World) (hg : Hid (L4 w)) (n d : Int) (HC : Hid (∀ w, MaxT w → Calls Tryz.prog 24 #[.string s, .string ⟨#[47]⟩] w (cP t1 t2 true w))) (HR : Hid (∀ w, SynT w → PowT w → Calls Tryz.prog 25 #[.string t1, .int .i64 1000000000] w (rP false n w))) (HQ : Hid (∀ w, SynT w → PowT w → Calls Tryz.prog 25 #[.string t2, .int .i64 1000000000] w (rP false d w))) :
    Calls Tryz.prog 10 #[.string s] w (fP false 0 0 w) := by
  have b0 := (Below.refl w.heap.size w).alloc (Nat.le_refl _) (.cells #[.int .i64 0, .int .i64 0] 25)
  have g0 := hg.out.below b0
  go_enter Tryz.func10, Tryz.ntmps10
  go_wp2_with fail
  refine (HC.out _ g0.2.2.2).mono ?_
  rintro e w1 ⟨rfl, hb1⟩
  obtain ⟨hc1, hf1⟩ := bcell hb1
  have R01 : w1.cell? ⟨w.heap.size, 0, none⟩ = some (.int .i64 0) := by rw [hc1 _ _ (by first | omega | (simp <;> omega))]; go_simp
  have ZR01 : w1.frozen? ⟨w.heap.size, 0, none⟩ = false := by rw [hf1 _ _ (by first | omega | (simp <;> omega))]; go_simp
  have R11 : w1.cell? ⟨w.heap.size, 1, none⟩ = some (.int .i64 0) := by rw [hc1 _ _ (by first | omega | (simp <;> omega))]; go_simp
  have ZR11 : w1.frozen? ⟨w.heap.size, 1, none⟩ = false := by rw [hf1 _ _ (by first | omega | (simp <;> omega))]; go_simp
  have z1 : w.heap.size < w1.heap.size := by have := hb1.size; (try simp at this); omega
  have b1 := b0.trans (hb1.mono (by have := b0.size; first | omega | (simp <;> omega)))
  clear hc1 hf1 g0
  have g1 := hg.out.below b1
  go_wp2_with fail
  refine (HR.out _ g1.2.1 g1.2.2.1).mono ?_
  rintro e w2 ⟨rfl, hb2⟩
  obtain ⟨hc2, hf2⟩ := bcell hb2
  have R02 : w2.cell? ⟨w.heap.size, 0, none⟩ = some (.int .i64 0) := by rw [hc2 _ _ (by first | omega | (simp <;> omega))]; go_simp
  have ZR02 : w2.frozen? ⟨w.heap.size, 0, none⟩ = false := by rw [hf2 _ _ (by first | omega | (simp <;> omega))]; go_simp
  have R12 : w2.cell? ⟨w.heap.size, 1, none⟩ = some (.int .i64 0) := by rw [hc2 _ _ (by first | omega | (simp <;> omega))]; go_simp
  have ZR12 : w2.frozen? ⟨w.heap.size, 1, none⟩ = false := by rw [hf2 _ _ (by first | omega | (simp <;> omega))]; go_simp
  have z2 : w.heap.size < w2.heap.size := by have := hb2.size; (try simp at this); omega
  have b2 := b1.trans (hb2.mono (by have := b1.size; first | omega | (simp <;> omega)))
  clear hc2 hf2 g1 R01 R11 ZR01 ZR11
  have g2 := hg.out.below b2
  go_wp2_with fail
  refine (HQ.out _ g2.2.1 g2.2.2.1).mono ?_
  rintro e w3 ⟨rfl, hb3⟩
  obtain ⟨hc3, hf3⟩ := bcell hb3
  have R03 : w3.cell? ⟨w.heap.size, 0, none⟩ = some (.int .i64 0) := by rw [hc3 _ _ (by first | omega | (simp <;> omega))]; go_simp
  have ZR03 : w3.frozen? ⟨w.heap.size, 0, none⟩ = false := by rw [hf3 _ _ (by first | omega | (simp <;> omega))]; go_simp
  have R13 : w3.cell? ⟨w.heap.size, 1, none⟩ = some (.int .i64 0) := by rw [hc3 _ _ (by first | omega | (simp <;> omega))]; go_simp
  have ZR13 : w3.frozen? ⟨w.heap.size, 1, none⟩ = false := by rw [hf3 _ _ (by first | omega | (simp <;> omega))]; go_simp
  have z3 : w.heap.size < w3.heap.size := by have := hb3.size; (try simp at this); omega
  have b3 := b2.trans (hb3.mono (by have := b2.size; first | omega | (simp <;> omega)))
  clear hc3 hf3 g2 R02 R12 ZR02 ZR12
  go_wp2
  refine bodyPost_ret (v := .tuple #[.agg #[.int .i64 0, .int .i64 0], .bool false]) (by simp [results, Tryz.results10, go_sem, R03, R13]) rfl ⟨rfl, ?_⟩
  refine Below.setCell (Below.setCell b3 ?_ _) ?_ _
  all_goals exact Nat.le_refl _

set_option maxHeartbeats 4000000 in
theorem ifD2 (s t1 t2 : ByteArray) (w : World) (hg : Hid (L4 w)) (n d : Int) (HC : Hid (∀ w, MaxT w → Calls Tryz.prog 24 #[.string s, .string ⟨#[47]⟩] w (cP t1 t2 true w))) (HR : Hid (∀ w, SynT w → PowT w → Calls Tryz.prog 25 #[.string t1, .int .i64 1000000000] w (rP true n w))) (HQ : Hid (∀ w, SynT w → PowT w → Calls Tryz.prog 25 #[.string t2, .int .i64 1000000000] w (rP false d w))) :
    Calls Tryz.prog 10 #[.string s] w (fP false 0 0 w) := by
  have b0 := (Below.refl w.heap.size w).alloc (Nat.le_refl _) (.cells #[.int .i64 0, .int .i64 0] 25)
  have g0 := hg.out.below b0
  go_enter Tryz.func10, Tryz.ntmps10
  go_wp2_with fail
  refine (HC.out _ g0.2.2.2).mono ?_
  rintro e w1 ⟨rfl, hb1⟩
  obtain ⟨hc1, hf1⟩ := bcell hb1
  have R01 : w1.cell? ⟨w.heap.size, 0, none⟩ = some (.int .i64 0) := by rw [hc1 _ _ (by first | omega | (simp <;> omega))]; go_simp
  have ZR01 : w1.frozen? ⟨w.heap.size, 0, none⟩ = false := by rw [hf1 _ _ (by first | omega | (simp <;> omega))]; go_simp
  have R11 : w1.cell? ⟨w.heap.size, 1, none⟩ = some (.int .i64 0) := by rw [hc1 _ _ (by first | omega | (simp <;> omega))]; go_simp
  have ZR11 : w1.frozen? ⟨w.heap.size, 1, none⟩ = false := by rw [hf1 _ _ (by first | omega | (simp <;> omega))]; go_simp
  have z1 : w.heap.size < w1.heap.size := by have := hb1.size; (try simp at this); omega
  have b1 := b0.trans (hb1.mono (by have := b0.size; first | omega | (simp <;> omega)))
  clear hc1 hf1 g0
  have g1 := hg.out.below b1
  go_wp2_with fail
  refine (HR.out _ g1.2.1 g1.2.2.1).mono ?_
  rintro e w2 ⟨rfl, hb2⟩
  obtain ⟨hc2, hf2⟩ := bcell hb2
  have R02 : w2.cell? ⟨w.heap.size, 0, none⟩ = some (.int .i64 0) := by rw [hc2 _ _ (by first | omega | (simp <;> omega))]; go_simp
  have ZR02 : w2.frozen? ⟨w.heap.size, 0, none⟩ = false := by rw [hf2 _ _ (by first | omega | (simp <;> omega))]; go_simp
  have R12 : w2.cell? ⟨w.heap.size, 1, none⟩ = some (.int .i64 0) := by rw [hc2 _ _ (by first | omega | (simp <;> omega))]; go_simp
  have ZR12 : w2.frozen? ⟨w.heap.size, 1, none⟩ = false := by rw [hf2 _ _ (by first | omega | (simp <;> omega))]; go_simp
  have z2 : w.heap.size < w2.heap.size := by have := hb2.size; (try simp at this); omega
  have b2 := b1.trans (hb2.mono (by have := b1.size; first | omega | (simp <;> omega)))
  clear hc2 hf2 g1 R01 R11 ZR01 ZR11
  have g2 := hg.out.below b2
  go_wp2_with fail
  refine (HQ.out _ g2.2.1 g2.2.2.1).mono ?_
  rintro e w3 ⟨rfl, hb3⟩
  obtain ⟨hc3, hf3⟩ := bcell hb3
  have R03 : w3.cell? ⟨w.heap.size, 0, none⟩ = some (.int .i64 0) := by rw [hc3 _ _ (by first | omega | (simp <;> omega))]; go_simp
  have ZR03 : w3.frozen? ⟨w.heap.size, 0, none⟩ = false := by rw [hf3 _ _ (by first | omega | (simp <;> omega))]; go_simp
  have R13 : w3.cell? ⟨w.heap.size, 1, none⟩ = some (.int .i64 0) := by rw [hc3 _ _ (by first | omega | (simp <;> omega))]; go_simp
  have ZR13 : w3.frozen? ⟨w.heap.size, 1, none⟩ = false := by rw [hf3 _ _ (by first | omega | (simp <;> omega))]; go_simp
  have z3 : w.heap.size < w3.heap.size := by have := hb3.size; (try simp at this); omega
  have b3 := b2.trans (hb3.mono (by have := b2.size; first | omega | (simp <;> omega)))
  clear hc3 hf3 g2 R02 R12 ZR02 ZR12
  go_wp2
  refine bodyPost_ret (v := .tuple #[.agg #[.int .i64 0, .int .i64 0], .bool false]) (by simp [results, Tryz.results10, go_sem, R03, R13]) rfl ⟨rfl, ?_⟩
  refine Below.setCell (Below.setCell b3 ?_ _) ?_ _
  all_goals exact Nat.le_refl _

set_option maxHeartbeats 4000000 in
theorem ifD3 (s t1 t2 : ByteArray) (w : World) (hg : Hid (L4 w)) (n d : Int) (HC : Hid (∀ w, MaxT w → Calls Tryz.prog 24 #[.string s, .string ⟨#[47]⟩] w (cP t1 t2 true w))) (HR : Hid (∀ w, SynT w → PowT w → Calls Tryz.prog 25 #[.string t1, .int .i64 1000000000] w (rP true n w))) (HQ : Hid (∀ w, SynT w → PowT w → Calls Tryz.prog 25 #[.string t2, .int .i64 1000000000] w (rP true d w))) (t : ByteArray) (HX : Hid (∀ w, L4 w → Calls Tryz.prog 9 #[.agg #[.int .i64 n, .int .i64 d]] w fun e w' => e = .returned (.tuple #[.string t, .bool false]) ∧ Below w.heap.size w w')) :
    Calls Tryz.prog 10 #[.string s] w (fP false 0 0 w) := by
  have b0 := (Below.refl w.heap.size w).alloc (Nat.le_refl _) (.cells #[.int .i64 0, .int .i64 0] 25)
  have g0 := hg.out.below b0
  go_enter Tryz.func10, Tryz.ntmps10
  go_wp2_with fail
  refine (HC.out _ g0.2.2.2).mono ?_
  rintro e w1 ⟨rfl, hb1⟩
  obtain ⟨hc1, hf1⟩ := bcell hb1
  have R01 : w1.cell? ⟨w.heap.size, 0, none⟩ = some (.int .i64 0) := by rw [hc1 _ _ (by first | omega | (simp <;> omega))]; go_simp
  have ZR01 : w1.frozen? ⟨w.heap.size, 0, none⟩ = false := by rw [hf1 _ _ (by first | omega | (simp <;> omega))]; go_simp
  have R11 : w1.cell? ⟨w.heap.size, 1, none⟩ = some (.int .i64 0) := by rw [hc1 _ _ (by first | omega | (simp <;> omega))]; go_simp
  have ZR11 : w1.frozen? ⟨w.heap.size, 1, none⟩ = false := by rw [hf1 _ _ (by first | omega | (simp <;> omega))]; go_simp
  have z1 : w.heap.size < w1.heap.size := by have := hb1.size; (try simp at this); omega
  have b1 := b0.trans (hb1.mono (by have := b0.size; first | omega | (simp <;> omega)))
  clear hc1 hf1 g0
  have g1 := hg.out.below b1
  go_wp2_with fail
  refine (HR.out _ g1.2.1 g1.2.2.1).mono ?_
  rintro e w2 ⟨rfl, hb2⟩
  obtain ⟨hc2, hf2⟩ := bcell hb2
  have R02 : w2.cell? ⟨w.heap.size, 0, none⟩ = some (.int .i64 0) := by rw [hc2 _ _ (by first | omega | (simp <;> omega))]; go_simp
  have ZR02 : w2.frozen? ⟨w.heap.size, 0, none⟩ = false := by rw [hf2 _ _ (by first | omega | (simp <;> omega))]; go_simp
  have R12 : w2.cell? ⟨w.heap.size, 1, none⟩ = some (.int .i64 0) := by rw [hc2 _ _ (by first | omega | (simp <;> omega))]; go_simp
  have ZR12 : w2.frozen? ⟨w.heap.size, 1, none⟩ = false := by rw [hf2 _ _ (by first | omega | (simp <;> omega))]; go_simp
  have z2 : w.heap.size < w2.heap.size := by have := hb2.size; (try simp at this); omega
  have b2 := b1.trans (hb2.mono (by have := b1.size; first | omega | (simp <;> omega)))
  clear hc2 hf2 g1 R01 R11 ZR01 ZR11
  have g2 := hg.out.below b2
  go_wp2_with fail
  refine (HQ.out _ g2.2.1 g2.2.2.1).mono ?_
  rintro e w3 ⟨rfl, hb3⟩
  obtain ⟨hc3, hf3⟩ := bcell hb3
  have R03 : w3.cell? ⟨w.heap.size, 0, none⟩ = some (.int .i64 0) := by rw [hc3 _ _ (by first | omega | (simp <;> omega))]; go_simp
  have ZR03 : w3.frozen? ⟨w.heap.size, 0, none⟩ = false := by rw [hf3 _ _ (by first | omega | (simp <;> omega))]; go_simp
  have R13 : w3.cell? ⟨w.heap.size, 1, none⟩ = some (.int .i64 0) := by rw [hc3 _ _ (by first | omega | (simp <;> omega))]; go_simp
  have ZR13 : w3.frozen? ⟨w.heap.size, 1, none⟩ = false := by rw [hf3 _ _ (by first | omega | (simp <;> omega))]; go_simp
  have z3 : w.heap.size < w3.heap.size := by have := hb3.size; (try simp at this); omega
  have b3 := b2.trans (hb3.mono (by have := b2.size; first | omega | (simp <;> omega)))
  clear hc3 hf3 g2 R02 R12 ZR02 ZR12
  have c3 := b3.alloc b3.size (.cells #[.int .i64 n, .int .i64 d] 25)
  have g3 := hg.out.below c3
  go_wp2_with fail
  refine (HX.out _ g3).mono ?_
  rintro e w4 ⟨rfl, hb4⟩
  obtain ⟨hc4, hf4⟩ := bcell hb4
  have R04 : w4.cell? ⟨w.heap.size, 0, none⟩ = some (.int .i64 0) := by rw [hc4 _ _ (by first | omega | (simp <;> omega))]; go_simp
  have ZR04 : w4.frozen? ⟨w.heap.size, 0, none⟩ = false := by rw [hf4 _ _ (by first | omega | (simp <;> omega))]; go_simp
  have R14 : w4.cell? ⟨w.heap.size, 1, none⟩ = some (.int .i64 0) := by rw [hc4 _ _ (by first | omega | (simp <;> omega))]; go_simp
  have ZR14 : w4.frozen? ⟨w.heap.size, 1, none⟩ = false := by rw [hf4 _ _ (by first | omega | (simp <;> omega))]; go_simp
  have z4 : w.heap.size < w4.heap.size := by have := hb4.size; (try simp at this); omega
  have F04 : w4.cell? ⟨w3.heap.size, 0, none⟩ = some (.int .i64 n) := by rw [hc4 _ _ (by simp)]; go_simp
  have F14 : w4.cell? ⟨w3.heap.size, 1, none⟩ = some (.int .i64 d) := by rw [hc4 _ _ (by simp)]; go_simp
  have b4 := c3.trans (hb4.mono (by have := c3.size; first | omega | (simp <;> omega)))
  clear hc4 hf4 c3 g3 R03 R13 ZR03 ZR13
  go_wp2
  refine bodyPost_ret (v := .tuple #[.agg #[.int .i64 0, .int .i64 0], .bool false]) (by simp [results, Tryz.results10, go_sem, R04, R14]) rfl ⟨rfl, ?_⟩
  refine Below.setCell (Below.setCell b4 ?_ _) ?_ _
  all_goals exact Nat.le_refl _

set_option maxHeartbeats 4000000 in
theorem ifD4 (s t1 t2 : ByteArray) (w : World) (hg : Hid (L4 w)) (n d : Int) (HC : Hid (∀ w, MaxT w → Calls Tryz.prog 24 #[.string s, .string ⟨#[47]⟩] w (cP t1 t2 true w))) (HR : Hid (∀ w, SynT w → PowT w → Calls Tryz.prog 25 #[.string t1, .int .i64 1000000000] w (rP true n w))) (HQ : Hid (∀ w, SynT w → PowT w → Calls Tryz.prog 25 #[.string t2, .int .i64 1000000000] w (rP true d w))) (t : ByteArray) (HN : (t.toList == s.toList) = false) (HX : Hid (∀ w, L4 w → Calls Tryz.prog 9 #[.agg #[.int .i64 n, .int .i64 d]] w fun e w' => e = .returned (.tuple #[.string t, .bool true]) ∧ Below w.heap.size w w')) :
    Calls Tryz.prog 10 #[.string s] w (fP false 0 0 w) := by
  have b0 := (Below.refl w.heap.size w).alloc (Nat.le_refl _) (.cells #[.int .i64 0, .int .i64 0] 25)
  have g0 := hg.out.below b0
  go_enter Tryz.func10, Tryz.ntmps10
  go_wp2_with fail
  refine (HC.out _ g0.2.2.2).mono ?_
  rintro e w1 ⟨rfl, hb1⟩
  obtain ⟨hc1, hf1⟩ := bcell hb1
  have R01 : w1.cell? ⟨w.heap.size, 0, none⟩ = some (.int .i64 0) := by rw [hc1 _ _ (by first | omega | (simp <;> omega))]; go_simp
  have ZR01 : w1.frozen? ⟨w.heap.size, 0, none⟩ = false := by rw [hf1 _ _ (by first | omega | (simp <;> omega))]; go_simp
  have R11 : w1.cell? ⟨w.heap.size, 1, none⟩ = some (.int .i64 0) := by rw [hc1 _ _ (by first | omega | (simp <;> omega))]; go_simp
  have ZR11 : w1.frozen? ⟨w.heap.size, 1, none⟩ = false := by rw [hf1 _ _ (by first | omega | (simp <;> omega))]; go_simp
  have z1 : w.heap.size < w1.heap.size := by have := hb1.size; (try simp at this); omega
  have b1 := b0.trans (hb1.mono (by have := b0.size; first | omega | (simp <;> omega)))
  clear hc1 hf1 g0
  have g1 := hg.out.below b1
  go_wp2_with fail
  refine (HR.out _ g1.2.1 g1.2.2.1).mono ?_
  rintro e w2 ⟨rfl, hb2⟩
  obtain ⟨hc2, hf2⟩ := bcell hb2
  have R02 : w2.cell? ⟨w.heap.size, 0, none⟩ = some (.int .i64 0) := by rw [hc2 _ _ (by first | omega | (simp <;> omega))]; go_simp
  have ZR02 : w2.frozen? ⟨w.heap.size, 0, none⟩ = false := by rw [hf2 _ _ (by first | omega | (simp <;> omega))]; go_simp
  have R12 : w2.cell? ⟨w.heap.size, 1, none⟩ = some (.int .i64 0) := by rw [hc2 _ _ (by first | omega | (simp <;> omega))]; go_simp
  have ZR12 : w2.frozen? ⟨w.heap.size, 1, none⟩ = false := by rw [hf2 _ _ (by first | omega | (simp <;> omega))]; go_simp
  have z2 : w.heap.size < w2.heap.size := by have := hb2.size; (try simp at this); omega
  have b2 := b1.trans (hb2.mono (by have := b1.size; first | omega | (simp <;> omega)))
  clear hc2 hf2 g1 R01 R11 ZR01 ZR11
  have g2 := hg.out.below b2
  go_wp2_with fail
  refine (HQ.out _ g2.2.1 g2.2.2.1).mono ?_
  rintro e w3 ⟨rfl, hb3⟩
  obtain ⟨hc3, hf3⟩ := bcell hb3
  have R03 : w3.cell? ⟨w.heap.size, 0, none⟩ = some (.int .i64 0) := by rw [hc3 _ _ (by first | omega | (simp <;> omega))]; go_simp
  have ZR03 : w3.frozen? ⟨w.heap.size, 0, none⟩ = false := by rw [hf3 _ _ (by first | omega | (simp <;> omega))]; go_simp
  have R13 : w3.cell? ⟨w.heap.size, 1, none⟩ = some (.int .i64 0) := by rw [hc3 _ _ (by first | omega | (simp <;> omega))]; go_simp
  have ZR13 : w3.frozen? ⟨w.heap.size, 1, none⟩ = false := by rw [hf3 _ _ (by first | omega | (simp <;> omega))]; go_simp
  have z3 : w.heap.size < w3.heap.size := by have := hb3.size; (try simp at this); omega
  have b3 := b2.trans (hb3.mono (by have := b2.size; first | omega | (simp <;> omega)))
  clear hc3 hf3 g2 R02 R12 ZR02 ZR12
  have c3 := b3.alloc b3.size (.cells #[.int .i64 n, .int .i64 d] 25)
  have g3 := hg.out.below c3
  go_wp2_with fail
  refine (HX.out _ g3).mono ?_
  rintro e w4 ⟨rfl, hb4⟩
  obtain ⟨hc4, hf4⟩ := bcell hb4
  have R04 : w4.cell? ⟨w.heap.size, 0, none⟩ = some (.int .i64 0) := by rw [hc4 _ _ (by first | omega | (simp <;> omega))]; go_simp
  have ZR04 : w4.frozen? ⟨w.heap.size, 0, none⟩ = false := by rw [hf4 _ _ (by first | omega | (simp <;> omega))]; go_simp
  have R14 : w4.cell? ⟨w.heap.size, 1, none⟩ = some (.int .i64 0) := by rw [hc4 _ _ (by first | omega | (simp <;> omega))]; go_simp
  have ZR14 : w4.frozen? ⟨w.heap.size, 1, none⟩ = false := by rw [hf4 _ _ (by first | omega | (simp <;> omega))]; go_simp
  have z4 : w.heap.size < w4.heap.size := by have := hb4.size; (try simp at this); omega
  have F04 : w4.cell? ⟨w3.heap.size, 0, none⟩ = some (.int .i64 n) := by rw [hc4 _ _ (by simp)]; go_simp
  have F14 : w4.cell? ⟨w3.heap.size, 1, none⟩ = some (.int .i64 d) := by rw [hc4 _ _ (by simp)]; go_simp
  have b4 := c3.trans (hb4.mono (by have := c3.size; first | omega | (simp <;> omega)))
  clear hc4 hf4 c3 g3 R03 R13 ZR03 ZR13
  go_wp2
  refine bodyPost_ret (v := .tuple #[.agg #[.int .i64 0, .int .i64 0], .bool false]) (by simp [results, Tryz.results10, go_sem, R04, R14]) rfl ⟨rfl, ?_⟩
  refine Below.setCell (Below.setCell b4 ?_ _) ?_ _
  all_goals exact Nat.le_refl _

set_option maxHeartbeats 4000000 in
theorem ifD5 (s t1 t2 : ByteArray) (w : World) (hg : Hid (L4 w)) (n d : Int) (HC : Hid (∀ w, MaxT w → Calls Tryz.prog 24 #[.string s, .string ⟨#[47]⟩] w (cP t1 t2 true w))) (HR : Hid (∀ w, SynT w → PowT w → Calls Tryz.prog 25 #[.string t1, .int .i64 1000000000] w (rP true n w))) (HQ : Hid (∀ w, SynT w → PowT w → Calls Tryz.prog 25 #[.string t2, .int .i64 1000000000] w (rP true d w))) (HX : Hid (∀ w, L4 w → Calls Tryz.prog 9 #[.agg #[.int .i64 n, .int .i64 d]] w fun e w' => e = .returned (.tuple #[.string s, .bool true]) ∧ Below w.heap.size w w')) :
    Calls Tryz.prog 10 #[.string s] w (fP true n d w) := by
  have b0 := (Below.refl w.heap.size w).alloc (Nat.le_refl _) (.cells #[.int .i64 0, .int .i64 0] 25)
  have g0 := hg.out.below b0
  go_enter Tryz.func10, Tryz.ntmps10
  go_wp2_with fail
  refine (HC.out _ g0.2.2.2).mono ?_
  rintro e w1 ⟨rfl, hb1⟩
  obtain ⟨hc1, hf1⟩ := bcell hb1
  have R01 : w1.cell? ⟨w.heap.size, 0, none⟩ = some (.int .i64 0) := by rw [hc1 _ _ (by first | omega | (simp <;> omega))]; go_simp
  have ZR01 : w1.frozen? ⟨w.heap.size, 0, none⟩ = false := by rw [hf1 _ _ (by first | omega | (simp <;> omega))]; go_simp
  have R11 : w1.cell? ⟨w.heap.size, 1, none⟩ = some (.int .i64 0) := by rw [hc1 _ _ (by first | omega | (simp <;> omega))]; go_simp
  have ZR11 : w1.frozen? ⟨w.heap.size, 1, none⟩ = false := by rw [hf1 _ _ (by first | omega | (simp <;> omega))]; go_simp
  have z1 : w.heap.size < w1.heap.size := by have := hb1.size; (try simp at this); omega
  have b1 := b0.trans (hb1.mono (by have := b0.size; first | omega | (simp <;> omega)))
  clear hc1 hf1 g0
  have g1 := hg.out.below b1
  go_wp2_with fail
  refine (HR.out _ g1.2.1 g1.2.2.1).mono ?_
  rintro e w2 ⟨rfl, hb2⟩
  obtain ⟨hc2, hf2⟩ := bcell hb2
  have R02 : w2.cell? ⟨w.heap.size, 0, none⟩ = some (.int .i64 0) := by rw [hc2 _ _ (by first | omega | (simp <;> omega))]; go_simp
  have ZR02 : w2.frozen? ⟨w.heap.size, 0, none⟩ = false := by rw [hf2 _ _ (by first | omega | (simp <;> omega))]; go_simp
  have R12 : w2.cell? ⟨w.heap.size, 1, none⟩ = some (.int .i64 0) := by rw [hc2 _ _ (by first | omega | (simp <;> omega))]; go_simp
  have ZR12 : w2.frozen? ⟨w.heap.size, 1, none⟩ = false := by rw [hf2 _ _ (by first | omega | (simp <;> omega))]; go_simp
  have z2 : w.heap.size < w2.heap.size := by have := hb2.size; (try simp at this); omega
  have b2 := b1.trans (hb2.mono (by have := b1.size; first | omega | (simp <;> omega)))
  clear hc2 hf2 g1 R01 R11 ZR01 ZR11
  have g2 := hg.out.below b2
  go_wp2_with fail
  refine (HQ.out _ g2.2.1 g2.2.2.1).mono ?_
  rintro e w3 ⟨rfl, hb3⟩
  obtain ⟨hc3, hf3⟩ := bcell hb3
  have R03 : w3.cell? ⟨w.heap.size, 0, none⟩ = some (.int .i64 0) := by rw [hc3 _ _ (by first | omega | (simp <;> omega))]; go_simp
  have ZR03 : w3.frozen? ⟨w.heap.size, 0, none⟩ = false := by rw [hf3 _ _ (by first | omega | (simp <;> omega))]; go_simp
  have R13 : w3.cell? ⟨w.heap.size, 1, none⟩ = some (.int .i64 0) := by rw [hc3 _ _ (by first | omega | (simp <;> omega))]; go_simp
  have ZR13 : w3.frozen? ⟨w.heap.size, 1, none⟩ = false := by rw [hf3 _ _ (by first | omega | (simp <;> omega))]; go_simp
  have z3 : w.heap.size < w3.heap.size := by have := hb3.size; (try simp at this); omega
  have b3 := b2.trans (hb3.mono (by have := b2.size; first | omega | (simp <;> omega)))
  clear hc3 hf3 g2 R02 R12 ZR02 ZR12
  have c3 := b3.alloc b3.size (.cells #[.int .i64 n, .int .i64 d] 25)
  have g3 := hg.out.below c3
  go_wp2_with fail
  refine (HX.out _ g3).mono ?_
  rintro e w4 ⟨rfl, hb4⟩
  obtain ⟨hc4, hf4⟩ := bcell hb4
  have R04 : w4.cell? ⟨w.heap.size, 0, none⟩ = some (.int .i64 0) := by rw [hc4 _ _ (by first | omega | (simp <;> omega))]; go_simp
  have ZR04 : w4.frozen? ⟨w.heap.size, 0, none⟩ = false := by rw [hf4 _ _ (by first | omega | (simp <;> omega))]; go_simp
  have R14 : w4.cell? ⟨w.heap.size, 1, none⟩ = some (.int .i64 0) := by rw [hc4 _ _ (by first | omega | (simp <;> omega))]; go_simp
  have ZR14 : w4.frozen? ⟨w.heap.size, 1, none⟩ = false := by rw [hf4 _ _ (by first | omega | (simp <;> omega))]; go_simp
  have z4 : w.heap.size < w4.heap.size := by have := hb4.size; (try simp at this); omega
  have F04 : w4.cell? ⟨w3.heap.size, 0, none⟩ = some (.int .i64 n) := by rw [hc4 _ _ (by simp)]; go_simp
  have F14 : w4.cell? ⟨w3.heap.size, 1, none⟩ = some (.int .i64 d) := by rw [hc4 _ _ (by simp)]; go_simp
  have b4 := c3.trans (hb4.mono (by have := c3.size; first | omega | (simp <;> omega)))
  clear hc4 hf4 c3 g3 R03 R13 ZR03 ZR13
  go_wp2
  refine bodyPost_ret (v := .tuple #[.agg #[.int .i64 n, .int .i64 d], .bool true]) (by simp [results, Tryz.results10, go_sem, R04, R14]) rfl ⟨rfl, ?_⟩
  refine Below.setCell (Below.setCell b4 ?_ _) ?_ _
  all_goals exact Nat.le_refl _
theorem take_extract (s : ByteArray) (c : Nat) : (⟨(s.data.toList.take c).toArray⟩ : ByteArray) = s.extract 0 c := by
  apply ByteArray.ext
  rw [ByteArray.data_extract]
  apply Array.toList_inj.1
  simp
theorem drop_extract (s : ByteArray) (c : Nat) : (⟨(s.data.toList.drop c).toArray⟩ : ByteArray) = s.extract c s.size := by
  apply ByteArray.ext
  rw [ByteArray.data_extract]
  apply Array.toList_inj.1
  rw [Array.toList_extract]
  show List.drop c s.data.toList = (List.drop c s.data.toList).take (s.size - c)
  rw [List.take_of_length_le (by rw [List.length_drop, len_eq]; omega)]
theorem one_digit : Lib.itoa 1 = [49] := by
  unfold Lib.itoa
  rw [if_neg (by omega), Lib.decDigits, dif_pos (by decide)]
  rfl
theorem one_read : rdB 1000000000 (⟨#[49]⟩ : ByteArray).data.toList = true ∧ rdN 1000000000 (⟨#[49]⟩ : ByteArray).data.toList = 1 :=
  rd_yes (by omega) ⟨by omega, by omega, one_digit⟩
theorem itext_is {n d : Int} {s : ByteArray} (k : okF n d) (h : ftext n d = s.data.toList) : ∀ w, L4 w → Calls Tryz.prog 9 #[.agg #[.int .i64 n, .int .i64 d]] w fun e w' => e = .returned (.tuple #[.string s, .bool true]) ∧ Below w.heap.size w w' := fun w g => by
  have := IText_any n d w g.1 g.2.2.1
  unfold tP strOf at this
  rw [okB_yes k, gT_yes k, h, bytes_eta] at this
  exact this
theorem itext_other {n d : Int} (k : okF n d) : ∀ w, L4 w → Calls Tryz.prog 9 #[.agg #[.int .i64 n, .int .i64 d]] w fun e w' => e = .returned (.tuple #[.string ⟨(ftext n d).toArray⟩, .bool true]) ∧ Below w.heap.size w w' := fun w g => by
  have := IText_any n d w g.1 g.2.2.1
  unfold tP strOf at this
  rw [okB_yes k, gT_yes k] at this
  exact this
theorem itext_none {n d : Int} (k : ¬ okF n d) : ∀ w, L4 w → Calls Tryz.prog 9 #[.agg #[.int .i64 n, .int .i64 d]] w fun e w' => e = .returned (.tuple #[.string ⟨#[]⟩, .bool false]) ∧ Below w.heap.size w w' := fun w g => by
  have := IText_any n d w g.1 g.2.2.1
  unfold tP strOf at this
  rw [okB_no k, gT_no k] at this
  exact this
theorem text_ne {n d : Int} {s : ByteArray} (h : ¬ ftext n d = s.data.toList) : ((⟨(ftext n d).toArray⟩ : ByteArray).toList == s.toList) = false := by
  rw [beq_eq_false_iff_ne, ByteArray.toList_eq, ByteArray.toList_eq]
  exact fun e => h (by simpa using e)
theorem sc_le (s : ByteArray) : sc s 0 ≤ s.size := by have := cutAt_le (l := s.data.toList) (k := 0) (Nat.zero_le _); rwa [len_eq] at this
end Go.Proofs.YtcmhdjoajkljfabGreatDoor
