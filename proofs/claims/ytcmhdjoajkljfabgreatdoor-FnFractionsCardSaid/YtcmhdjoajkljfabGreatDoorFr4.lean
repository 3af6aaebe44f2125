/- The law on adding back, comparing, reading and the floor, walked. -/
import Derived.Test.YtcmhdjoajkljfabGreatDoorFr3
namespace Go.Proofs.YtcmhdjoajkljfabGreatDoor
open Go.ChangeShapes Go.WideShapes Go.ChangeAt Go.RowKit
set_option linter.unusedSimpArgs false
set_option linter.unusedVariables false
theorem long_any (a c : Option Addr) (l1 l2 c1 c2 : Nat) (w : World) :
    Calls Tryz.prog 4 #[.slice a l1 c1, .slice c l2 c2] w fun e w' => e = .returned (.bool (decide (1048576 < l1 ∨ 1048576 < l2))) ∧ w = w' := by
  by_cases h1 : 1048576 < l1
  · rw [decide_eq_true (show 1048576 < l1 ∨ 1048576 < l2 from .inl h1)]
    go_enter Tryz.func4, Tryz.ntmps4
    go_wp2
    go_ret
    first | exact ⟨rfl, rfl⟩ | (simp; omega)
  · by_cases h2 : 1048576 < l2
    · rw [decide_eq_true (show 1048576 < l1 ∨ 1048576 < l2 from .inr h2)]
      go_enter Tryz.func4, Tryz.ntmps4
      go_wp2
      go_ret
      first | exact ⟨rfl, rfl⟩ | (simp; omega)
    · rw [decide_eq_false (show ¬ (1048576 < l1 ∨ 1048576 < l2) by omega)]
      go_enter Tryz.func4, Tryz.ntmps4
      go_wp2
      go_ret
      first | exact ⟨rfl, rfl⟩ | (simp; omega)
/-- What the calls of the law answer for two drawn fractions. -/
structure Ans (an ad bn bd sn sd dn dd pn pd c fl : Int) (t : ByteArray) : Prop where
  add : ∀ w, ErrT w → Calls Tryz.prog 6 #[.agg #[.int .i64 an, .int .i64 ad], .agg #[.int .i64 bn, .int .i64 bd]] w (frP true sn sd w)
  back : ∀ w, ErrT w → Calls Tryz.prog 7 #[.agg #[.int .i64 sn, .int .i64 sd], .agg #[.int .i64 bn, .int .i64 bd]] w (frP true an ad w)
  dif : ∀ w, ErrT w → Calls Tryz.prog 7 #[.agg #[.int .i64 an, .int .i64 ad], .agg #[.int .i64 bn, .int .i64 bd]] w (frP true dn dd w)
  cmp : ∀ w, ErrT w → Calls Tryz.prog 8 #[.agg #[.int .i64 an, .int .i64 ad], .agg #[.int .i64 bn, .int .i64 bd]] w (iP true c w)
  text : ∀ w, L4 w → Calls Tryz.prog 9 #[.agg #[.int .i64 an, .int .i64 ad]] w fun e w' => e = .returned (.tuple #[.string t, .bool true]) ∧ Below w.heap.size w w'
  read : ∀ w, L4 w → Calls Tryz.prog 10 #[.string t] w (fP true an ad w)
  mul : ∀ w, ErrT w → Calls Tryz.prog 11 #[.agg #[.int .i64 an, .int .i64 ad], .agg #[.int .i64 bn, .int .i64 bd]] w (frP true pn pd w)
  div : bn ≠ 0 → ∀ w, ErrT w → Calls Tryz.prog 12 #[.agg #[.int .i64 pn, .int .i64 pd], .agg #[.int .i64 bn, .int .i64 bd]] w (frP true an ad w)
  floor : ∀ w, ErrT w → Calls Tryz.prog 13 #[.agg #[.int .i64 an, .int .i64 ad]] w (iP true fl w)
  sign : (c < 0 ∧ dn < 0) ∨ (c = 0 ∧ dn = 0) ∨ (0 < c ∧ 0 < dn)
  low : fl * ad ≤ an
  high : an < (fl + 1) * ad
  small : -1000 ≤ fl ∧ fl ≤ 1000 ∧ 1 ≤ ad ∧ ad ≤ 300

set_option maxHeartbeats 8000000 in
set_option maxRecDepth 100000 in
theorem lawFr_core (u v : Value) (len1 len2 : Nat) (w : World) (hg : L4 w) (hu : ByteV w.heap.size w u len1) (hv : ByteV w.heap.size w v len2) (hl1 : len1 ≤ 1048576) (hl2 : len2 ≤ 1048576)
    (HA : ∀ an ad bn bd, small an ad → small bn bd → ∃ sn sd dn dd pn pd c fl t, Ans an ad bn bd sn sd dn dd pn pd c fl t) :
    Calls Tryz.prog 3 #[u, v] w fun e w' => e = .returned (.bool true) ∧ Below w.heap.size w w' := by
  have HL : ∀ w, Calls Tryz.prog 4 #[u, v] w fun e w' => e = .returned (.bool false) ∧ w = w' := fun w => by
    obtain ⟨a1, c1, rfl⟩ := hu.shape
    obtain ⟨a2, c2, rfl⟩ := hv.shape
    have := long_any a1 a2 len1 len2 c1 c2 w
    rwa [decide_eq_false (by omega)] at this
  have HG := Lib.hid hg
  have HU := Lib.hid hu
  have HV := Lib.hid hv
  have HANS := Lib.hid HA
  have HLL := Lib.hid HL
  clear hg hu hv HA HL
  go_enter Tryz.func3, Tryz.ntmps3
  go_wp2_with fail
  refine (HLL.out _).mono ?_
  rintro e w0 ⟨rfl, rfl⟩
  go_wp2_with fail
  refine (b10_any u len1 _ HU.out hl1).mono ?_
  rintro e w1 ⟨⟨an, ad, rfl, hsa⟩, b1⟩
  have HSA := Lib.hid hsa
  have HV1 := Lib.hid (HV.out.below (b1.alloc b1.size (.cells #[.int .i64 an, .int .i64 ad] 25)))
  clear hsa
  have z1 := b1.size
  go_wp2_with fail
  have hvB : ByteV (w1.alloc (.cells #[.int .i64 an, .int .i64 ad] 25)).heap.size (w1.alloc (.cells #[.int .i64 an, .int .i64 ad] 25)) v len2 := by
    rcases HV1.out with h | ⟨x, c, h, hx, hc⟩
    · exact .inl h
    · exact .inr ⟨x, c, h, fun q => by have := hx q; simp; omega, hc⟩
  refine (b10_any v len2 _ hvB hl2).mono ?_
  rintro e w2 ⟨⟨bn, bd, rfl, hsb⟩, hb2⟩
  obtain ⟨sn, sd, dn, dd, pn, pd, c, fl, t, HQ⟩ := HANS.out an ad bn bd HSA.out hsb
  replace HQ := Lib.hid HQ
  clear hsb hvB
  obtain ⟨hc2, hf2⟩ := bcell hb2
  have A2 : w2.cell? ⟨w1.heap.size, 0, none⟩ = some (.int .i64 an) := by rw [hc2 _ _ (by simp)]; go_simp
  have A2' : w2.cell? ⟨w1.heap.size, 1, none⟩ = some (.int .i64 ad) := by rw [hc2 _ _ (by simp)]; go_simp
  have z2 : w1.heap.size < w2.heap.size := by have := hb2.size; simp at this; omega
  have b2 : Below w.heap.size w w2 := (b1.alloc b1.size _).trans (hb2.mono (by simp; omega))
  have qA2 := z2
  clear hc2 hf2 hb2

  have c2 : Below w.heap.size w (w2.alloc (.cells #[.int .i64 bn, .int .i64 bd] 25)) := b2.alloc b2.size _
  go_wp2_with fail
  refine (HQ.out.add _ (HG.out.below c2).1).mono ?_
  rintro e w3 ⟨rfl, hb3⟩
  obtain ⟨hc3, hf3⟩ := bcell hb3
  have A3 : w3.cell? ⟨w1.heap.size, 0, none⟩ = some (.int .i64 an) := by rw [hc3 _ _ (by first | omega | (simp <;> omega))]; go_simp
  have A3' : w3.cell? ⟨w1.heap.size, 1, none⟩ = some (.int .i64 ad) := by rw [hc3 _ _ (by first | omega | (simp <;> omega))]; go_simp
  have B3 : w3.cell? ⟨w2.heap.size, 0, none⟩ = some (.int .i64 bn) := by rw [hc3 _ _ (by first | omega | (simp <;> omega))]; go_simp
  have B3' : w3.cell? ⟨w2.heap.size, 1, none⟩ = some (.int .i64 bd) := by rw [hc3 _ _ (by first | omega | (simp <;> omega))]; go_simp
  have z3 : w2.heap.size < w3.heap.size := by have := hb3.size; simp at this; omega
  have qA3 : w1.heap.size < w3.heap.size := by have := hb3.size; (try simp at this); omega
  have qB3 : w2.heap.size < w3.heap.size := by have := hb3.size; (try simp at this); omega
  have b3 : Below w.heap.size w w3 := c2.trans (hb3.mono c2.size)
  clear hc3 hf3 hb3 c2 A2 A2' qA2
  have c3 : Below w.heap.size w (w3.alloc (.cells #[.int .i64 sn, .int .i64 sd] 25)) := b3.alloc b3.size _
  go_wp2_with fail
  refine (HQ.out.back _ (HG.out.below c3).1).mono ?_
  rintro e w4 ⟨rfl, hb4⟩
  obtain ⟨hc4, hf4⟩ := bcell hb4
  have A4 : w4.cell? ⟨w1.heap.size, 0, none⟩ = some (.int .i64 an) := by rw [hc4 _ _ (by first | omega | (simp <;> omega))]; go_simp
  have A4' : w4.cell? ⟨w1.heap.size, 1, none⟩ = some (.int .i64 ad) := by rw [hc4 _ _ (by first | omega | (simp <;> omega))]; go_simp
  have B4 : w4.cell? ⟨w2.heap.size, 0, none⟩ = some (.int .i64 bn) := by rw [hc4 _ _ (by first | omega | (simp <;> omega))]; go_simp
  have B4' : w4.cell? ⟨w2.heap.size, 1, none⟩ = some (.int .i64 bd) := by rw [hc4 _ _ (by first | omega | (simp <;> omega))]; go_simp
  have S4 : w4.cell? ⟨w3.heap.size, 0, none⟩ = some (.int .i64 sn) := by rw [hc4 _ _ (by first | omega | (simp <;> omega))]; go_simp
  have S4' : w4.cell? ⟨w3.heap.size, 1, none⟩ = some (.int .i64 sd) := by rw [hc4 _ _ (by first | omega | (simp <;> omega))]; go_simp
  have z4 : w3.heap.size < w4.heap.size := by have := hb4.size; simp at this; omega
  have qA4 : w1.heap.size < w4.heap.size := by have := hb4.size; (try simp at this); omega
  have qB4 : w2.heap.size < w4.heap.size := by have := hb4.size; (try simp at this); omega
  have qS4 : w3.heap.size < w4.heap.size := by have := hb4.size; (try simp at this); omega
  have b4 : Below w.heap.size w w4 := c3.trans (hb4.mono c3.size)
  clear hc4 hf4 hb4 c3 A3 A3' qA3 B3 B3' qB3
  have c4 : Below w.heap.size w (w4.alloc (.cells #[.int .i64 an, .int .i64 ad] 25)) := b4.alloc b4.size _
  go_wp2_with fail
  refine (HQ.out.dif _ (HG.out.below c4).1).mono ?_
  rintro e w5 ⟨rfl, hb5⟩
  obtain ⟨hc5, hf5⟩ := bcell hb5
  have A5 : w5.cell? ⟨w1.heap.size, 0, none⟩ = some (.int .i64 an) := by rw [hc5 _ _ (by first | omega | (simp <;> omega))]; go_simp
  have A5' : w5.cell? ⟨w1.heap.size, 1, none⟩ = some (.int .i64 ad) := by rw [hc5 _ _ (by first | omega | (simp <;> omega))]; go_simp
  have B5 : w5.cell? ⟨w2.heap.size, 0, none⟩ = some (.int .i64 bn) := by rw [hc5 _ _ (by first | omega | (simp <;> omega))]; go_simp
  have B5' : w5.cell? ⟨w2.heap.size, 1, none⟩ = some (.int .i64 bd) := by rw [hc5 _ _ (by first | omega | (simp <;> omega))]; go_simp
  have S5 : w5.cell? ⟨w3.heap.size, 0, none⟩ = some (.int .i64 sn) := by rw [hc5 _ _ (by first | omega | (simp <;> omega))]; go_simp
  have S5' : w5.cell? ⟨w3.heap.size, 1, none⟩ = some (.int .i64 sd) := by rw [hc5 _ _ (by first | omega | (simp <;> omega))]; go_simp
  have K5 : w5.cell? ⟨w4.heap.size, 0, none⟩ = some (.int .i64 an) := by rw [hc5 _ _ (by first | omega | (simp <;> omega))]; go_simp
  have K5' : w5.cell? ⟨w4.heap.size, 1, none⟩ = some (.int .i64 ad) := by rw [hc5 _ _ (by first | omega | (simp <;> omega))]; go_simp
  have z5 : w4.heap.size < w5.heap.size := by have := hb5.size; simp at this; omega
  have qA5 : w1.heap.size < w5.heap.size := by have := hb5.size; (try simp at this); omega
  have qB5 : w2.heap.size < w5.heap.size := by have := hb5.size; (try simp at this); omega
  have qS5 : w3.heap.size < w5.heap.size := by have := hb5.size; (try simp at this); omega
  have qK5 : w4.heap.size < w5.heap.size := by have := hb5.size; (try simp at this); omega
  have b5 : Below w.heap.size w w5 := c4.trans (hb5.mono c4.size)
  clear hc5 hf5 hb5 c4 A4 A4' qA4 B4 B4' qB4 S4 S4' qS4
  have c5 : Below w.heap.size w (w5.alloc (.cells #[.int .i64 dn, .int .i64 dd] 25)) := b5.alloc b5.size _
  go_wp2_with fail
  refine (HQ.out.cmp _ (HG.out.below c5).1).mono ?_
  rintro e w6 ⟨rfl, hb6⟩
  obtain ⟨hc6, hf6⟩ := bcell hb6
  have A6 : w6.cell? ⟨w1.heap.size, 0, none⟩ = some (.int .i64 an) := by rw [hc6 _ _ (by first | omega | (simp <;> omega))]; go_simp
  have A6' : w6.cell? ⟨w1.heap.size, 1, none⟩ = some (.int .i64 ad) := by rw [hc6 _ _ (by first | omega | (simp <;> omega))]; go_simp
  have B6 : w6.cell? ⟨w2.heap.size, 0, none⟩ = some (.int .i64 bn) := by rw [hc6 _ _ (by first | omega | (simp <;> omega))]; go_simp
  have B6' : w6.cell? ⟨w2.heap.size, 1, none⟩ = some (.int .i64 bd) := by rw [hc6 _ _ (by first | omega | (simp <;> omega))]; go_simp
  have S6 : w6.cell? ⟨w3.heap.size, 0, none⟩ = some (.int .i64 sn) := by rw [hc6 _ _ (by first | omega | (simp <;> omega))]; go_simp
  have S6' : w6.cell? ⟨w3.heap.size, 1, none⟩ = some (.int .i64 sd) := by rw [hc6 _ _ (by first | omega | (simp <;> omega))]; go_simp
  have K6 : w6.cell? ⟨w4.heap.size, 0, none⟩ = some (.int .i64 an) := by rw [hc6 _ _ (by first | omega | (simp <;> omega))]; go_simp
  have K6' : w6.cell? ⟨w4.heap.size, 1, none⟩ = some (.int .i64 ad) := by rw [hc6 _ _ (by first | omega | (simp <;> omega))]; go_simp
  have D6 : w6.cell? ⟨w5.heap.size, 0, none⟩ = some (.int .i64 dn) := by rw [hc6 _ _ (by first | omega | (simp <;> omega))]; go_simp
  have D6' : w6.cell? ⟨w5.heap.size, 1, none⟩ = some (.int .i64 dd) := by rw [hc6 _ _ (by first | omega | (simp <;> omega))]; go_simp
  have z6 : w5.heap.size < w6.heap.size := by have := hb6.size; simp at this; omega
  have qA6 : w1.heap.size < w6.heap.size := by have := hb6.size; (try simp at this); omega
  have qB6 : w2.heap.size < w6.heap.size := by have := hb6.size; (try simp at this); omega
  have qS6 : w3.heap.size < w6.heap.size := by have := hb6.size; (try simp at this); omega
  have qK6 : w4.heap.size < w6.heap.size := by have := hb6.size; (try simp at this); omega
  have qD6 : w5.heap.size < w6.heap.size := by have := hb6.size; (try simp at this); omega
  have b6 : Below w.heap.size w w6 := c5.trans (hb6.mono c5.size)
  clear hc6 hf6 hb6 c5 A5 A5' qA5 B5 B5' qB5 S5 S5' qS5 K5 K5' qK5
  have c6 : Below w.heap.size w w6 := b6
  go_wp2_with fail
  refine (HQ.out.text _ (HG.out.below c6)).mono ?_
  rintro e w7 ⟨rfl, hb7⟩
  obtain ⟨hc7, hf7⟩ := bcell hb7
  have A7 : w7.cell? ⟨w1.heap.size, 0, none⟩ = some (.int .i64 an) := by rw [hc7 _ _ (by first | omega | (simp <;> omega))]; go_simp
  have A7' : w7.cell? ⟨w1.heap.size, 1, none⟩ = some (.int .i64 ad) := by rw [hc7 _ _ (by first | omega | (simp <;> omega))]; go_simp
  have B7 : w7.cell? ⟨w2.heap.size, 0, none⟩ = some (.int .i64 bn) := by rw [hc7 _ _ (by first | omega | (simp <;> omega))]; go_simp
  have B7' : w7.cell? ⟨w2.heap.size, 1, none⟩ = some (.int .i64 bd) := by rw [hc7 _ _ (by first | omega | (simp <;> omega))]; go_simp
  have S7 : w7.cell? ⟨w3.heap.size, 0, none⟩ = some (.int .i64 sn) := by rw [hc7 _ _ (by first | omega | (simp <;> omega))]; go_simp
  have S7' : w7.cell? ⟨w3.heap.size, 1, none⟩ = some (.int .i64 sd) := by rw [hc7 _ _ (by first | omega | (simp <;> omega))]; go_simp
  have K7 : w7.cell? ⟨w4.heap.size, 0, none⟩ = some (.int .i64 an) := by rw [hc7 _ _ (by first | omega | (simp <;> omega))]; go_simp
  have K7' : w7.cell? ⟨w4.heap.size, 1, none⟩ = some (.int .i64 ad) := by rw [hc7 _ _ (by first | omega | (simp <;> omega))]; go_simp
  have D7 : w7.cell? ⟨w5.heap.size, 0, none⟩ = some (.int .i64 dn) := by rw [hc7 _ _ (by first | omega | (simp <;> omega))]; go_simp
  have D7' : w7.cell? ⟨w5.heap.size, 1, none⟩ = some (.int .i64 dd) := by rw [hc7 _ _ (by first | omega | (simp <;> omega))]; go_simp
  have z7 : w6.heap.size ≤ w7.heap.size := hb7.size
  have qA7 : w1.heap.size < w7.heap.size := by have := hb7.size; (try simp at this); omega
  have qB7 : w2.heap.size < w7.heap.size := by have := hb7.size; (try simp at this); omega
  have qS7 : w3.heap.size < w7.heap.size := by have := hb7.size; (try simp at this); omega
  have qK7 : w4.heap.size < w7.heap.size := by have := hb7.size; (try simp at this); omega
  have qD7 : w5.heap.size < w7.heap.size := by have := hb7.size; (try simp at this); omega
  have b7 : Below w.heap.size w w7 := c6.trans (hb7.mono c6.size)
  clear hc7 hf7 hb7 c6 A6 A6' qA6 B6 B6' qB6 S6 S6' qS6 K6 K6' qK6 D6 D6' qD6
  have c7 : Below w.heap.size w w7 := b7
  go_wp2_with fail
  refine (HQ.out.read _ (HG.out.below c7)).mono ?_
  rintro e w8 ⟨rfl, hb8⟩
  obtain ⟨hc8, hf8⟩ := bcell hb8
  have A8 : w8.cell? ⟨w1.heap.size, 0, none⟩ = some (.int .i64 an) := by rw [hc8 _ _ (by first | omega | (simp <;> omega))]; go_simp
  have A8' : w8.cell? ⟨w1.heap.size, 1, none⟩ = some (.int .i64 ad) := by rw [hc8 _ _ (by first | omega | (simp <;> omega))]; go_simp
  have B8 : w8.cell? ⟨w2.heap.size, 0, none⟩ = some (.int .i64 bn) := by rw [hc8 _ _ (by first | omega | (simp <;> omega))]; go_simp
  have B8' : w8.cell? ⟨w2.heap.size, 1, none⟩ = some (.int .i64 bd) := by rw [hc8 _ _ (by first | omega | (simp <;> omega))]; go_simp
  have S8 : w8.cell? ⟨w3.heap.size, 0, none⟩ = some (.int .i64 sn) := by rw [hc8 _ _ (by first | omega | (simp <;> omega))]; go_simp
  have S8' : w8.cell? ⟨w3.heap.size, 1, none⟩ = some (.int .i64 sd) := by rw [hc8 _ _ (by first | omega | (simp <;> omega))]; go_simp
  have K8 : w8.cell? ⟨w4.heap.size, 0, none⟩ = some (.int .i64 an) := by rw [hc8 _ _ (by first | omega | (simp <;> omega))]; go_simp
  have K8' : w8.cell? ⟨w4.heap.size, 1, none⟩ = some (.int .i64 ad) := by rw [hc8 _ _ (by first | omega | (simp <;> omega))]; go_simp
  have D8 : w8.cell? ⟨w5.heap.size, 0, none⟩ = some (.int .i64 dn) := by rw [hc8 _ _ (by first | omega | (simp <;> omega))]; go_simp
  have D8' : w8.cell? ⟨w5.heap.size, 1, none⟩ = some (.int .i64 dd) := by rw [hc8 _ _ (by first | omega | (simp <;> omega))]; go_simp
  have z8 : w7.heap.size ≤ w8.heap.size := hb8.size
  have qA8 : w1.heap.size < w8.heap.size := by have := hb8.size; (try simp at this); omega
  have qB8 : w2.heap.size < w8.heap.size := by have := hb8.size; (try simp at this); omega
  have qS8 : w3.heap.size < w8.heap.size := by have := hb8.size; (try simp at this); omega
  have qK8 : w4.heap.size < w8.heap.size := by have := hb8.size; (try simp at this); omega
  have qD8 : w5.heap.size < w8.heap.size := by have := hb8.size; (try simp at this); omega
  have b8 : Below w.heap.size w w8 := c7.trans (hb8.mono c7.size)
  clear hc8 hf8 hb8 c7 A7 A7' qA7 B7 B7' qB7 S7 S7' qS7 K7 K7' qK7 D7 D7' qD7
  have hfs := HQ.out.small
  obtain ⟨f1, f2, f3, f4⟩ := hfs
  have mb1 := mulB (a := fl) (b := ad) (A := 1000) (B := 300) (by omega) (by omega) (by omega) (by omega)
  have mb2 := mulB (a := fl + 1) (b := ad) (A := 1001) (B := 300) (by omega) (by omega) (by omega) (by omega)
  have wf1 : IntKind.i64.wrap (fl * ad) = fl * ad := by rw [IntKind.wrap_i64]; omega
  have wf2 : IntKind.i64.wrap (fl + 1) = fl + 1 := by rw [IntKind.wrap_i64]; omega
  have wf3 : IntKind.i64.wrap ((fl + 1) * ad) = (fl + 1) * ad := by rw [IntKind.wrap_i64]; omega
  have low := HQ.out.low
  have high := HQ.out.high
  have hsign := HQ.out.sign
  clear mb1 mb2 f1 f2 f3 f4
  by_cases hbn : bn = 0
  · have hbz : (bn != 0) = false := by simp [hbn]
    clear hbn
    rcases hsign with ⟨g1, g2⟩ | ⟨g1, g2⟩ | ⟨g1, g2⟩
    · have c8 : Below w.heap.size w (w8.alloc (.cells #[.int .i64 an, .int .i64 ad] 25)) := b8.alloc b8.size _
      go_wp2_with fail
      refine (HQ.out.floor _ (HG.out.below c8).1).mono ?_
      rintro e w9 ⟨rfl, hb9⟩
      obtain ⟨hc9, hf9⟩ := bcell hb9
      have A9 : w9.cell? ⟨w1.heap.size, 0, none⟩ = some (.int .i64 an) := by rw [hc9 _ _ (by first | omega | (simp <;> omega))]; go_simp
      have A9' : w9.cell? ⟨w1.heap.size, 1, none⟩ = some (.int .i64 ad) := by rw [hc9 _ _ (by first | omega | (simp <;> omega))]; go_simp
      have B9 : w9.cell? ⟨w2.heap.size, 0, none⟩ = some (.int .i64 bn) := by rw [hc9 _ _ (by first | omega | (simp <;> omega))]; go_simp
      have B9' : w9.cell? ⟨w2.heap.size, 1, none⟩ = some (.int .i64 bd) := by rw [hc9 _ _ (by first | omega | (simp <;> omega))]; go_simp
      have S9 : w9.cell? ⟨w3.heap.size, 0, none⟩ = some (.int .i64 sn) := by rw [hc9 _ _ (by first | omega | (simp <;> omega))]; go_simp
      have S9' : w9.cell? ⟨w3.heap.size, 1, none⟩ = some (.int .i64 sd) := by rw [hc9 _ _ (by first | omega | (simp <;> omega))]; go_simp
      have K9 : w9.cell? ⟨w4.heap.size, 0, none⟩ = some (.int .i64 an) := by rw [hc9 _ _ (by first | omega | (simp <;> omega))]; go_simp
      have K9' : w9.cell? ⟨w4.heap.size, 1, none⟩ = some (.int .i64 ad) := by rw [hc9 _ _ (by first | omega | (simp <;> omega))]; go_simp
      have D9 : w9.cell? ⟨w5.heap.size, 0, none⟩ = some (.int .i64 dn) := by rw [hc9 _ _ (by first | omega | (simp <;> omega))]; go_simp
      have D9' : w9.cell? ⟨w5.heap.size, 1, none⟩ = some (.int .i64 dd) := by rw [hc9 _ _ (by first | omega | (simp <;> omega))]; go_simp
      have R9 : w9.cell? ⟨w8.heap.size, 0, none⟩ = some (.int .i64 an) := by rw [hc9 _ _ (by first | omega | (simp <;> omega))]; go_simp
      have R9' : w9.cell? ⟨w8.heap.size, 1, none⟩ = some (.int .i64 ad) := by rw [hc9 _ _ (by first | omega | (simp <;> omega))]; go_simp
      have z9 : w8.heap.size < w9.heap.size := by have := hb9.size; simp at this; omega
      have qA9 : w1.heap.size < w9.heap.size := by have := hb9.size; (try simp at this); omega
      have qB9 : w2.heap.size < w9.heap.size := by have := hb9.size; (try simp at this); omega
      have qS9 : w3.heap.size < w9.heap.size := by have := hb9.size; (try simp at this); omega
      have qK9 : w4.heap.size < w9.heap.size := by have := hb9.size; (try simp at this); omega
      have qD9 : w5.heap.size < w9.heap.size := by have := hb9.size; (try simp at this); omega
      have qR9 : w8.heap.size < w9.heap.size := by have := hb9.size; (try simp at this); omega
      have b9 : Below w.heap.size w w9 := c8.trans (hb9.mono c8.size)
      clear hc9 hf9 hb9 c8 A8 A8' qA8 B8 B8' qB8 S8 S8' qS8 K8 K8' qK8 D8 D8' qD8
      go_wp2
      go_ret
      exact ⟨rfl, b9⟩
    · have c8 : Below w.heap.size w (w8.alloc (.cells #[.int .i64 an, .int .i64 ad] 25)) := b8.alloc b8.size _
      go_wp2_with fail
      refine (HQ.out.floor _ (HG.out.below c8).1).mono ?_
      rintro e w9 ⟨rfl, hb9⟩
      obtain ⟨hc9, hf9⟩ := bcell hb9
      have A9 : w9.cell? ⟨w1.heap.size, 0, none⟩ = some (.int .i64 an) := by rw [hc9 _ _ (by first | omega | (simp <;> omega))]; go_simp
      have A9' : w9.cell? ⟨w1.heap.size, 1, none⟩ = some (.int .i64 ad) := by rw [hc9 _ _ (by first | omega | (simp <;> omega))]; go_simp
      have B9 : w9.cell? ⟨w2.heap.size, 0, none⟩ = some (.int .i64 bn) := by rw [hc9 _ _ (by first | omega | (simp <;> omega))]; go_simp
      have B9' : w9.cell? ⟨w2.heap.size, 1, none⟩ = some (.int .i64 bd) := by rw [hc9 _ _ (by first | omega | (simp <;> omega))]; go_simp
      have S9 : w9.cell? ⟨w3.heap.size, 0, none⟩ = some (.int .i64 sn) := by rw [hc9 _ _ (by first | omega | (simp <;> omega))]; go_simp
      have S9' : w9.cell? ⟨w3.heap.size, 1, none⟩ = some (.int .i64 sd) := by rw [hc9 _ _ (by first | omega | (simp <;> omega))]; go_simp
      have K9 : w9.cell? ⟨w4.heap.size, 0, none⟩ = some (.int .i64 an) := by rw [hc9 _ _ (by first | omega | (simp <;> omega))]; go_simp
      have K9' : w9.cell? ⟨w4.heap.size, 1, none⟩ = some (.int .i64 ad) := by rw [hc9 _ _ (by first | omega | (simp <;> omega))]; go_simp
      have D9 : w9.cell? ⟨w5.heap.size, 0, none⟩ = some (.int .i64 dn) := by rw [hc9 _ _ (by first | omega | (simp <;> omega))]; go_simp
      have D9' : w9.cell? ⟨w5.heap.size, 1, none⟩ = some (.int .i64 dd) := by rw [hc9 _ _ (by first | omega | (simp <;> omega))]; go_simp
      have R9 : w9.cell? ⟨w8.heap.size, 0, none⟩ = some (.int .i64 an) := by rw [hc9 _ _ (by first | omega | (simp <;> omega))]; go_simp
      have R9' : w9.cell? ⟨w8.heap.size, 1, none⟩ = some (.int .i64 ad) := by rw [hc9 _ _ (by first | omega | (simp <;> omega))]; go_simp
      have z9 : w8.heap.size < w9.heap.size := by have := hb9.size; simp at this; omega
      have qA9 : w1.heap.size < w9.heap.size := by have := hb9.size; (try simp at this); omega
      have qB9 : w2.heap.size < w9.heap.size := by have := hb9.size; (try simp at this); omega
      have qS9 : w3.heap.size < w9.heap.size := by have := hb9.size; (try simp at this); omega
      have qK9 : w4.heap.size < w9.heap.size := by have := hb9.size; (try simp at this); omega
      have qD9 : w5.heap.size < w9.heap.size := by have := hb9.size; (try simp at this); omega
      have qR9 : w8.heap.size < w9.heap.size := by have := hb9.size; (try simp at this); omega
      have b9 : Below w.heap.size w w9 := c8.trans (hb9.mono c8.size)
      clear hc9 hf9 hb9 c8 A8 A8' qA8 B8 B8' qB8 S8 S8' qS8 K8 K8' qK8 D8 D8' qD8
      go_wp2
      go_ret
      exact ⟨rfl, b9⟩
    · have c8 : Below w.heap.size w (w8.alloc (.cells #[.int .i64 an, .int .i64 ad] 25)) := b8.alloc b8.size _
      go_wp2_with fail
      refine (HQ.out.floor _ (HG.out.below c8).1).mono ?_
      rintro e w9 ⟨rfl, hb9⟩
      obtain ⟨hc9, hf9⟩ := bcell hb9
      have A9 : w9.cell? ⟨w1.heap.size, 0, none⟩ = some (.int .i64 an) := by rw [hc9 _ _ (by first | omega | (simp <;> omega))]; go_simp
      have A9' : w9.cell? ⟨w1.heap.size, 1, none⟩ = some (.int .i64 ad) := by rw [hc9 _ _ (by first | omega | (simp <;> omega))]; go_simp
      have B9 : w9.cell? ⟨w2.heap.size, 0, none⟩ = some (.int .i64 bn) := by rw [hc9 _ _ (by first | omega | (simp <;> omega))]; go_simp
      have B9' : w9.cell? ⟨w2.heap.size, 1, none⟩ = some (.int .i64 bd) := by rw [hc9 _ _ (by first | omega | (simp <;> omega))]; go_simp
      have S9 : w9.cell? ⟨w3.heap.size, 0, none⟩ = some (.int .i64 sn) := by rw [hc9 _ _ (by first | omega | (simp <;> omega))]; go_simp
      have S9' : w9.cell? ⟨w3.heap.size, 1, none⟩ = some (.int .i64 sd) := by rw [hc9 _ _ (by first | omega | (simp <;> omega))]; go_simp
      have K9 : w9.cell? ⟨w4.heap.size, 0, none⟩ = some (.int .i64 an) := by rw [hc9 _ _ (by first | omega | (simp <;> omega))]; go_simp
      have K9' : w9.cell? ⟨w4.heap.size, 1, none⟩ = some (.int .i64 ad) := by rw [hc9 _ _ (by first | omega | (simp <;> omega))]; go_simp
      have D9 : w9.cell? ⟨w5.heap.size, 0, none⟩ = some (.int .i64 dn) := by rw [hc9 _ _ (by first | omega | (simp <;> omega))]; go_simp
      have D9' : w9.cell? ⟨w5.heap.size, 1, none⟩ = some (.int .i64 dd) := by rw [hc9 _ _ (by first | omega | (simp <;> omega))]; go_simp
      have R9 : w9.cell? ⟨w8.heap.size, 0, none⟩ = some (.int .i64 an) := by rw [hc9 _ _ (by first | omega | (simp <;> omega))]; go_simp
      have R9' : w9.cell? ⟨w8.heap.size, 1, none⟩ = some (.int .i64 ad) := by rw [hc9 _ _ (by first | omega | (simp <;> omega))]; go_simp
      have z9 : w8.heap.size < w9.heap.size := by have := hb9.size; simp at this; omega
      have qA9 : w1.heap.size < w9.heap.size := by have := hb9.size; (try simp at this); omega
      have qB9 : w2.heap.size < w9.heap.size := by have := hb9.size; (try simp at this); omega
      have qS9 : w3.heap.size < w9.heap.size := by have := hb9.size; (try simp at this); omega
      have qK9 : w4.heap.size < w9.heap.size := by have := hb9.size; (try simp at this); omega
      have qD9 : w5.heap.size < w9.heap.size := by have := hb9.size; (try simp at this); omega
      have qR9 : w8.heap.size < w9.heap.size := by have := hb9.size; (try simp at this); omega
      have b9 : Below w.heap.size w w9 := c8.trans (hb9.mono c8.size)
      clear hc9 hf9 hb9 c8 A8 A8' qA8 B8 B8' qB8 S8 S8' qS8 K8 K8' qK8 D8 D8' qD8
      go_wp2
      go_ret
      exact ⟨rfl, b9⟩
  · have hbz : (bn != 0) = true := by simp [hbn]
    have HBN := Lib.hid hbn
    clear hbn
    rcases hsign with ⟨g1, g2⟩ | ⟨g1, g2⟩ | ⟨g1, g2⟩
    · have c8 : Below w.heap.size w (w8.alloc (.cells #[.int .i64 an, .int .i64 ad] 25)) := b8.alloc b8.size _
      go_wp2_with fail
      refine (HQ.out.mul _ (HG.out.below c8).1).mono ?_
      rintro e w9 ⟨rfl, hb9⟩
      obtain ⟨hc9, hf9⟩ := bcell hb9
      have A9 : w9.cell? ⟨w1.heap.size, 0, none⟩ = some (.int .i64 an) := by rw [hc9 _ _ (by first | omega | (simp <;> omega))]; go_simp
      have A9' : w9.cell? ⟨w1.heap.size, 1, none⟩ = some (.int .i64 ad) := by rw [hc9 _ _ (by first | omega | (simp <;> omega))]; go_simp
      have B9 : w9.cell? ⟨w2.heap.size, 0, none⟩ = some (.int .i64 bn) := by rw [hc9 _ _ (by first | omega | (simp <;> omega))]; go_simp
      have B9' : w9.cell? ⟨w2.heap.size, 1, none⟩ = some (.int .i64 bd) := by rw [hc9 _ _ (by first | omega | (simp <;> omega))]; go_simp
      have S9 : w9.cell? ⟨w3.heap.size, 0, none⟩ = some (.int .i64 sn) := by rw [hc9 _ _ (by first | omega | (simp <;> omega))]; go_simp
      have S9' : w9.cell? ⟨w3.heap.size, 1, none⟩ = some (.int .i64 sd) := by rw [hc9 _ _ (by first | omega | (simp <;> omega))]; go_simp
      have K9 : w9.cell? ⟨w4.heap.size, 0, none⟩ = some (.int .i64 an) := by rw [hc9 _ _ (by first | omega | (simp <;> omega))]; go_simp
      have K9' : w9.cell? ⟨w4.heap.size, 1, none⟩ = some (.int .i64 ad) := by rw [hc9 _ _ (by first | omega | (simp <;> omega))]; go_simp
      have D9 : w9.cell? ⟨w5.heap.size, 0, none⟩ = some (.int .i64 dn) := by rw [hc9 _ _ (by first | omega | (simp <;> omega))]; go_simp
      have D9' : w9.cell? ⟨w5.heap.size, 1, none⟩ = some (.int .i64 dd) := by rw [hc9 _ _ (by first | omega | (simp <;> omega))]; go_simp
      have R9 : w9.cell? ⟨w8.heap.size, 0, none⟩ = some (.int .i64 an) := by rw [hc9 _ _ (by first | omega | (simp <;> omega))]; go_simp
      have R9' : w9.cell? ⟨w8.heap.size, 1, none⟩ = some (.int .i64 ad) := by rw [hc9 _ _ (by first | omega | (simp <;> omega))]; go_simp
      have z9 : w8.heap.size < w9.heap.size := by have := hb9.size; simp at this; omega
      have qA9 : w1.heap.size < w9.heap.size := by have := hb9.size; (try simp at this); omega
      have qB9 : w2.heap.size < w9.heap.size := by have := hb9.size; (try simp at this); omega
      have qS9 : w3.heap.size < w9.heap.size := by have := hb9.size; (try simp at this); omega
      have qK9 : w4.heap.size < w9.heap.size := by have := hb9.size; (try simp at this); omega
      have qD9 : w5.heap.size < w9.heap.size := by have := hb9.size; (try simp at this); omega
      have qR9 : w8.heap.size < w9.heap.size := by have := hb9.size; (try simp at this); omega
      have b9 : Below w.heap.size w w9 := c8.trans (hb9.mono c8.size)
      clear hc9 hf9 hb9 c8 A8 A8' qA8 B8 B8' qB8 S8 S8' qS8 K8 K8' qK8 D8 D8' qD8
      have c9 : Below w.heap.size w (w9.alloc (.cells #[.int .i64 pn, .int .i64 pd] 25)) := b9.alloc b9.size _
      go_wp2_with fail
      refine (HQ.out.div HBN.out _ (HG.out.below c9).1).mono ?_
      rintro e w10 ⟨rfl, hb10⟩
      obtain ⟨hc10, hf10⟩ := bcell hb10
      have A10 : w10.cell? ⟨w1.heap.size, 0, none⟩ = some (.int .i64 an) := by rw [hc10 _ _ (by first | omega | (simp <;> omega))]; go_simp
      have A10' : w10.cell? ⟨w1.heap.size, 1, none⟩ = some (.int .i64 ad) := by rw [hc10 _ _ (by first | omega | (simp <;> omega))]; go_simp
      have B10 : w10.cell? ⟨w2.heap.size, 0, none⟩ = some (.int .i64 bn) := by rw [hc10 _ _ (by first | omega | (simp <;> omega))]; go_simp
      have B10' : w10.cell? ⟨w2.heap.size, 1, none⟩ = some (.int .i64 bd) := by rw [hc10 _ _ (by first | omega | (simp <;> omega))]; go_simp
      have S10 : w10.cell? ⟨w3.heap.size, 0, none⟩ = some (.int .i64 sn) := by rw [hc10 _ _ (by first | omega | (simp <;> omega))]; go_simp
      have S10' : w10.cell? ⟨w3.heap.size, 1, none⟩ = some (.int .i64 sd) := by rw [hc10 _ _ (by first | omega | (simp <;> omega))]; go_simp
      have K10 : w10.cell? ⟨w4.heap.size, 0, none⟩ = some (.int .i64 an) := by rw [hc10 _ _ (by first | omega | (simp <;> omega))]; go_simp
      have K10' : w10.cell? ⟨w4.heap.size, 1, none⟩ = some (.int .i64 ad) := by rw [hc10 _ _ (by first | omega | (simp <;> omega))]; go_simp
      have D10 : w10.cell? ⟨w5.heap.size, 0, none⟩ = some (.int .i64 dn) := by rw [hc10 _ _ (by first | omega | (simp <;> omega))]; go_simp
      have D10' : w10.cell? ⟨w5.heap.size, 1, none⟩ = some (.int .i64 dd) := by rw [hc10 _ _ (by first | omega | (simp <;> omega))]; go_simp
      have R10 : w10.cell? ⟨w8.heap.size, 0, none⟩ = some (.int .i64 an) := by rw [hc10 _ _ (by first | omega | (simp <;> omega))]; go_simp
      have R10' : w10.cell? ⟨w8.heap.size, 1, none⟩ = some (.int .i64 ad) := by rw [hc10 _ _ (by first | omega | (simp <;> omega))]; go_simp
      have P10 : w10.cell? ⟨w9.heap.size, 0, none⟩ = some (.int .i64 pn) := by rw [hc10 _ _ (by first | omega | (simp <;> omega))]; go_simp
      have P10' : w10.cell? ⟨w9.heap.size, 1, none⟩ = some (.int .i64 pd) := by rw [hc10 _ _ (by first | omega | (simp <;> omega))]; go_simp
      have z10 : w9.heap.size < w10.heap.size := by have := hb10.size; simp at this; omega
      have qA10 : w1.heap.size < w10.heap.size := by have := hb10.size; (try simp at this); omega
      have qB10 : w2.heap.size < w10.heap.size := by have := hb10.size; (try simp at this); omega
      have qS10 : w3.heap.size < w10.heap.size := by have := hb10.size; (try simp at this); omega
      have qK10 : w4.heap.size < w10.heap.size := by have := hb10.size; (try simp at this); omega
      have qD10 : w5.heap.size < w10.heap.size := by have := hb10.size; (try simp at this); omega
      have qR10 : w8.heap.size < w10.heap.size := by have := hb10.size; (try simp at this); omega
      have qP10 : w9.heap.size < w10.heap.size := by have := hb10.size; (try simp at this); omega
      have b10 : Below w.heap.size w w10 := c9.trans (hb10.mono c9.size)
      clear hc10 hf10 hb10 c9 A9 A9' qA9 B9 B9' qB9 S9 S9' qS9 K9 K9' qK9 D9 D9' qD9 R9 R9' qR9
      have c10 : Below w.heap.size w (w10.alloc (.cells #[.int .i64 an, .int .i64 ad] 25)) := b10.alloc b10.size _
      go_wp2_with fail
      refine (HQ.out.floor _ (HG.out.below c10).1).mono ?_
      rintro e w11 ⟨rfl, hb11⟩
      obtain ⟨hc11, hf11⟩ := bcell hb11
      have A11 : w11.cell? ⟨w1.heap.size, 0, none⟩ = some (.int .i64 an) := by rw [hc11 _ _ (by first | omega | (simp <;> omega))]; go_simp
      have A11' : w11.cell? ⟨w1.heap.size, 1, none⟩ = some (.int .i64 ad) := by rw [hc11 _ _ (by first | omega | (simp <;> omega))]; go_simp
      have B11 : w11.cell? ⟨w2.heap.size, 0, none⟩ = some (.int .i64 bn) := by rw [hc11 _ _ (by first | omega | (simp <;> omega))]; go_simp
      have B11' : w11.cell? ⟨w2.heap.size, 1, none⟩ = some (.int .i64 bd) := by rw [hc11 _ _ (by first | omega | (simp <;> omega))]; go_simp
      have S11 : w11.cell? ⟨w3.heap.size, 0, none⟩ = some (.int .i64 sn) := by rw [hc11 _ _ (by first | omega | (simp <;> omega))]; go_simp
      have S11' : w11.cell? ⟨w3.heap.size, 1, none⟩ = some (.int .i64 sd) := by rw [hc11 _ _ (by first | omega | (simp <;> omega))]; go_simp
      have K11 : w11.cell? ⟨w4.heap.size, 0, none⟩ = some (.int .i64 an) := by rw [hc11 _ _ (by first | omega | (simp <;> omega))]; go_simp
      have K11' : w11.cell? ⟨w4.heap.size, 1, none⟩ = some (.int .i64 ad) := by rw [hc11 _ _ (by first | omega | (simp <;> omega))]; go_simp
      have D11 : w11.cell? ⟨w5.heap.size, 0, none⟩ = some (.int .i64 dn) := by rw [hc11 _ _ (by first | omega | (simp <;> omega))]; go_simp
      have D11' : w11.cell? ⟨w5.heap.size, 1, none⟩ = some (.int .i64 dd) := by rw [hc11 _ _ (by first | omega | (simp <;> omega))]; go_simp
      have R11 : w11.cell? ⟨w8.heap.size, 0, none⟩ = some (.int .i64 an) := by rw [hc11 _ _ (by first | omega | (simp <;> omega))]; go_simp
      have R11' : w11.cell? ⟨w8.heap.size, 1, none⟩ = some (.int .i64 ad) := by rw [hc11 _ _ (by first | omega | (simp <;> omega))]; go_simp
      have P11 : w11.cell? ⟨w9.heap.size, 0, none⟩ = some (.int .i64 pn) := by rw [hc11 _ _ (by first | omega | (simp <;> omega))]; go_simp
      have P11' : w11.cell? ⟨w9.heap.size, 1, none⟩ = some (.int .i64 pd) := by rw [hc11 _ _ (by first | omega | (simp <;> omega))]; go_simp
      have Q11 : w11.cell? ⟨w10.heap.size, 0, none⟩ = some (.int .i64 an) := by rw [hc11 _ _ (by first | omega | (simp <;> omega))]; go_simp
      have Q11' : w11.cell? ⟨w10.heap.size, 1, none⟩ = some (.int .i64 ad) := by rw [hc11 _ _ (by first | omega | (simp <;> omega))]; go_simp
      have z11 : w10.heap.size < w11.heap.size := by have := hb11.size; simp at this; omega
      have qA11 : w1.heap.size < w11.heap.size := by have := hb11.size; (try simp at this); omega
      have qB11 : w2.heap.size < w11.heap.size := by have := hb11.size; (try simp at this); omega
      have qS11 : w3.heap.size < w11.heap.size := by have := hb11.size; (try simp at this); omega
      have qK11 : w4.heap.size < w11.heap.size := by have := hb11.size; (try simp at this); omega
      have qD11 : w5.heap.size < w11.heap.size := by have := hb11.size; (try simp at this); omega
      have qR11 : w8.heap.size < w11.heap.size := by have := hb11.size; (try simp at this); omega
      have qP11 : w9.heap.size < w11.heap.size := by have := hb11.size; (try simp at this); omega
      have qQ11 : w10.heap.size < w11.heap.size := by have := hb11.size; (try simp at this); omega
      have b11 : Below w.heap.size w w11 := c10.trans (hb11.mono c10.size)
      clear hc11 hf11 hb11 c10 A10 A10' qA10 B10 B10' qB10 S10 S10' qS10 K10 K10' qK10 D10 D10' qD10 R10 R10' qR10 P10 P10' qP10
      go_wp2
      go_ret
      exact ⟨rfl, b11⟩
    · have c8 : Below w.heap.size w (w8.alloc (.cells #[.int .i64 an, .int .i64 ad] 25)) := b8.alloc b8.size _
      go_wp2_with fail
      refine (HQ.out.mul _ (HG.out.below c8).1).mono ?_
      rintro e w9 ⟨rfl, hb9⟩
      obtain ⟨hc9, hf9⟩ := bcell hb9
      have A9 : w9.cell? ⟨w1.heap.size, 0, none⟩ = some (.int .i64 an) := by rw [hc9 _ _ (by first | omega | (simp <;> omega))]; go_simp
      have A9' : w9.cell? ⟨w1.heap.size, 1, none⟩ = some (.int .i64 ad) := by rw [hc9 _ _ (by first | omega | (simp <;> omega))]; go_simp
      have B9 : w9.cell? ⟨w2.heap.size, 0, none⟩ = some (.int .i64 bn) := by rw [hc9 _ _ (by first | omega | (simp <;> omega))]; go_simp
      have B9' : w9.cell? ⟨w2.heap.size, 1, none⟩ = some (.int .i64 bd) := by rw [hc9 _ _ (by first | omega | (simp <;> omega))]; go_simp
      have S9 : w9.cell? ⟨w3.heap.size, 0, none⟩ = some (.int .i64 sn) := by rw [hc9 _ _ (by first | omega | (simp <;> omega))]; go_simp
      have S9' : w9.cell? ⟨w3.heap.size, 1, none⟩ = some (.int .i64 sd) := by rw [hc9 _ _ (by first | omega | (simp <;> omega))]; go_simp
      have K9 : w9.cell? ⟨w4.heap.size, 0, none⟩ = some (.int .i64 an) := by rw [hc9 _ _ (by first | omega | (simp <;> omega))]; go_simp
      have K9' : w9.cell? ⟨w4.heap.size, 1, none⟩ = some (.int .i64 ad) := by rw [hc9 _ _ (by first | omega | (simp <;> omega))]; go_simp
      have D9 : w9.cell? ⟨w5.heap.size, 0, none⟩ = some (.int .i64 dn) := by rw [hc9 _ _ (by first | omega | (simp <;> omega))]; go_simp
      have D9' : w9.cell? ⟨w5.heap.size, 1, none⟩ = some (.int .i64 dd) := by rw [hc9 _ _ (by first | omega | (simp <;> omega))]; go_simp
      have R9 : w9.cell? ⟨w8.heap.size, 0, none⟩ = some (.int .i64 an) := by rw [hc9 _ _ (by first | omega | (simp <;> omega))]; go_simp
      have R9' : w9.cell? ⟨w8.heap.size, 1, none⟩ = some (.int .i64 ad) := by rw [hc9 _ _ (by first | omega | (simp <;> omega))]; go_simp
      have z9 : w8.heap.size < w9.heap.size := by have := hb9.size; simp at this; omega
      have qA9 : w1.heap.size < w9.heap.size := by have := hb9.size; (try simp at this); omega
      have qB9 : w2.heap.size < w9.heap.size := by have := hb9.size; (try simp at this); omega
      have qS9 : w3.heap.size < w9.heap.size := by have := hb9.size; (try simp at this); omega
      have qK9 : w4.heap.size < w9.heap.size := by have := hb9.size; (try simp at this); omega
      have qD9 : w5.heap.size < w9.heap.size := by have := hb9.size; (try simp at this); omega
      have qR9 : w8.heap.size < w9.heap.size := by have := hb9.size; (try simp at this); omega
      have b9 : Below w.heap.size w w9 := c8.trans (hb9.mono c8.size)
      clear hc9 hf9 hb9 c8 A8 A8' qA8 B8 B8' qB8 S8 S8' qS8 K8 K8' qK8 D8 D8' qD8
      have c9 : Below w.heap.size w (w9.alloc (.cells #[.int .i64 pn, .int .i64 pd] 25)) := b9.alloc b9.size _
      go_wp2_with fail
      refine (HQ.out.div HBN.out _ (HG.out.below c9).1).mono ?_
      rintro e w10 ⟨rfl, hb10⟩
      obtain ⟨hc10, hf10⟩ := bcell hb10
      have A10 : w10.cell? ⟨w1.heap.size, 0, none⟩ = some (.int .i64 an) := by rw [hc10 _ _ (by first | omega | (simp <;> omega))]; go_simp
      have A10' : w10.cell? ⟨w1.heap.size, 1, none⟩ = some (.int .i64 ad) := by rw [hc10 _ _ (by first | omega | (simp <;> omega))]; go_simp
      have B10 : w10.cell? ⟨w2.heap.size, 0, none⟩ = some (.int .i64 bn) := by rw [hc10 _ _ (by first | omega | (simp <;> omega))]; go_simp
      have B10' : w10.cell? ⟨w2.heap.size, 1, none⟩ = some (.int .i64 bd) := by rw [hc10 _ _ (by first | omega | (simp <;> omega))]; go_simp
      have S10 : w10.cell? ⟨w3.heap.size, 0, none⟩ = some (.int .i64 sn) := by rw [hc10 _ _ (by first | omega | (simp <;> omega))]; go_simp
      have S10' : w10.cell? ⟨w3.heap.size, 1, none⟩ = some (.int .i64 sd) := by rw [hc10 _ _ (by first | omega | (simp <;> omega))]; go_simp
      have K10 : w10.cell? ⟨w4.heap.size, 0, none⟩ = some (.int .i64 an) := by rw [hc10 _ _ (by first | omega | (simp <;> omega))]; go_simp
      have K10' : w10.cell? ⟨w4.heap.size, 1, none⟩ = some (.int .i64 ad) := by rw [hc10 _ _ (by first | omega | (simp <;> omega))]; go_simp
      have D10 : w10.cell? ⟨w5.heap.size, 0, none⟩ = some (.int .i64 dn) := by rw [hc10 _ _ (by first | omega | (simp <;> omega))]; go_simp
      have D10' : w10.cell? ⟨w5.heap.size, 1, none⟩ = some (.int .i64 dd) := by rw [hc10 _ _ (by first | omega | (simp <;> omega))]; go_simp
      have R10 : w10.cell? ⟨w8.heap.size, 0, none⟩ = some (.int .i64 an) := by rw [hc10 _ _ (by first | omega | (simp <;> omega))]; go_simp
      have R10' : w10.cell? ⟨w8.heap.size, 1, none⟩ = some (.int .i64 ad) := by rw [hc10 _ _ (by first | omega | (simp <;> omega))]; go_simp
      have P10 : w10.cell? ⟨w9.heap.size, 0, none⟩ = some (.int .i64 pn) := by rw [hc10 _ _ (by first | omega | (simp <;> omega))]; go_simp
      have P10' : w10.cell? ⟨w9.heap.size, 1, none⟩ = some (.int .i64 pd) := by rw [hc10 _ _ (by first | omega | (simp <;> omega))]; go_simp
      have z10 : w9.heap.size < w10.heap.size := by have := hb10.size; simp at this; omega
      have qA10 : w1.heap.size < w10.heap.size := by have := hb10.size; (try simp at this); omega
      have qB10 : w2.heap.size < w10.heap.size := by have := hb10.size; (try simp at this); omega
      have qS10 : w3.heap.size < w10.heap.size := by have := hb10.size; (try simp at this); omega
      have qK10 : w4.heap.size < w10.heap.size := by have := hb10.size; (try simp at this); omega
      have qD10 : w5.heap.size < w10.heap.size := by have := hb10.size; (try simp at this); omega
      have qR10 : w8.heap.size < w10.heap.size := by have := hb10.size; (try simp at this); omega
      have qP10 : w9.heap.size < w10.heap.size := by have := hb10.size; (try simp at this); omega
      have b10 : Below w.heap.size w w10 := c9.trans (hb10.mono c9.size)
      clear hc10 hf10 hb10 c9 A9 A9' qA9 B9 B9' qB9 S9 S9' qS9 K9 K9' qK9 D9 D9' qD9 R9 R9' qR9
      have c10 : Below w.heap.size w (w10.alloc (.cells #[.int .i64 an, .int .i64 ad] 25)) := b10.alloc b10.size _
      go_wp2_with fail
      refine (HQ.out.floor _ (HG.out.below c10).1).mono ?_
      rintro e w11 ⟨rfl, hb11⟩
      obtain ⟨hc11, hf11⟩ := bcell hb11
      have A11 : w11.cell? ⟨w1.heap.size, 0, none⟩ = some (.int .i64 an) := by rw [hc11 _ _ (by first | omega | (simp <;> omega))]; go_simp
      have A11' : w11.cell? ⟨w1.heap.size, 1, none⟩ = some (.int .i64 ad) := by rw [hc11 _ _ (by first | omega | (simp <;> omega))]; go_simp
      have B11 : w11.cell? ⟨w2.heap.size, 0, none⟩ = some (.int .i64 bn) := by rw [hc11 _ _ (by first | omega | (simp <;> omega))]; go_simp
      have B11' : w11.cell? ⟨w2.heap.size, 1, none⟩ = some (.int .i64 bd) := by rw [hc11 _ _ (by first | omega | (simp <;> omega))]; go_simp
      have S11 : w11.cell? ⟨w3.heap.size, 0, none⟩ = some (.int .i64 sn) := by rw [hc11 _ _ (by first | omega | (simp <;> omega))]; go_simp
      have S11' : w11.cell? ⟨w3.heap.size, 1, none⟩ = some (.int .i64 sd) := by rw [hc11 _ _ (by first | omega | (simp <;> omega))]; go_simp
      have K11 : w11.cell? ⟨w4.heap.size, 0, none⟩ = some (.int .i64 an) := by rw [hc11 _ _ (by first | omega | (simp <;> omega))]; go_simp
      have K11' : w11.cell? ⟨w4.heap.size, 1, none⟩ = some (.int .i64 ad) := by rw [hc11 _ _ (by first | omega | (simp <;> omega))]; go_simp
      have D11 : w11.cell? ⟨w5.heap.size, 0, none⟩ = some (.int .i64 dn) := by rw [hc11 _ _ (by first | omega | (simp <;> omega))]; go_simp
      have D11' : w11.cell? ⟨w5.heap.size, 1, none⟩ = some (.int .i64 dd) := by rw [hc11 _ _ (by first | omega | (simp <;> omega))]; go_simp
      have R11 : w11.cell? ⟨w8.heap.size, 0, none⟩ = some (.int .i64 an) := by rw [hc11 _ _ (by first | omega | (simp <;> omega))]; go_simp
      have R11' : w11.cell? ⟨w8.heap.size, 1, none⟩ = some (.int .i64 ad) := by rw [hc11 _ _ (by first | omega | (simp <;> omega))]; go_simp
      have P11 : w11.cell? ⟨w9.heap.size, 0, none⟩ = some (.int .i64 pn) := by rw [hc11 _ _ (by first | omega | (simp <;> omega))]; go_simp
      have P11' : w11.cell? ⟨w9.heap.size, 1, none⟩ = some (.int .i64 pd) := by rw [hc11 _ _ (by first | omega | (simp <;> omega))]; go_simp
      have Q11 : w11.cell? ⟨w10.heap.size, 0, none⟩ = some (.int .i64 an) := by rw [hc11 _ _ (by first | omega | (simp <;> omega))]; go_simp
      have Q11' : w11.cell? ⟨w10.heap.size, 1, none⟩ = some (.int .i64 ad) := by rw [hc11 _ _ (by first | omega | (simp <;> omega))]; go_simp
      have z11 : w10.heap.size < w11.heap.size := by have := hb11.size; simp at this; omega
      have qA11 : w1.heap.size < w11.heap.size := by have := hb11.size; (try simp at this); omega
      have qB11 : w2.heap.size < w11.heap.size := by have := hb11.size; (try simp at this); omega
      have qS11 : w3.heap.size < w11.heap.size := by have := hb11.size; (try simp at this); omega
      have qK11 : w4.heap.size < w11.heap.size := by have := hb11.size; (try simp at this); omega
      have qD11 : w5.heap.size < w11.heap.size := by have := hb11.size; (try simp at this); omega
      have qR11 : w8.heap.size < w11.heap.size := by have := hb11.size; (try simp at this); omega
      have qP11 : w9.heap.size < w11.heap.size := by have := hb11.size; (try simp at this); omega
      have qQ11 : w10.heap.size < w11.heap.size := by have := hb11.size; (try simp at this); omega
      have b11 : Below w.heap.size w w11 := c10.trans (hb11.mono c10.size)
      clear hc11 hf11 hb11 c10 A10 A10' qA10 B10 B10' qB10 S10 S10' qS10 K10 K10' qK10 D10 D10' qD10 R10 R10' qR10 P10 P10' qP10
      go_wp2
      go_ret
      exact ⟨rfl, b11⟩
    · have c8 : Below w.heap.size w (w8.alloc (.cells #[.int .i64 an, .int .i64 ad] 25)) := b8.alloc b8.size _
      go_wp2_with fail
      refine (HQ.out.mul _ (HG.out.below c8).1).mono ?_
      rintro e w9 ⟨rfl, hb9⟩
      obtain ⟨hc9, hf9⟩ := bcell hb9
      have A9 : w9.cell? ⟨w1.heap.size, 0, none⟩ = some (.int .i64 an) := by rw [hc9 _ _ (by first | omega | (simp <;> omega))]; go_simp
      have A9' : w9.cell? ⟨w1.heap.size, 1, none⟩ = some (.int .i64 ad) := by rw [hc9 _ _ (by first | omega | (simp <;> omega))]; go_simp
      have B9 : w9.cell? ⟨w2.heap.size, 0, none⟩ = some (.int .i64 bn) := by rw [hc9 _ _ (by first | omega | (simp <;> omega))]; go_simp
      have B9' : w9.cell? ⟨w2.heap.size, 1, none⟩ = some (.int .i64 bd) := by rw [hc9 _ _ (by first | omega | (simp <;> omega))]; go_simp
      have S9 : w9.cell? ⟨w3.heap.size, 0, none⟩ = some (.int .i64 sn) := by rw [hc9 _ _ (by first | omega | (simp <;> omega))]; go_simp
      have S9' : w9.cell? ⟨w3.heap.size, 1, none⟩ = some (.int .i64 sd) := by rw [hc9 _ _ (by first | omega | (simp <;> omega))]; go_simp
      have K9 : w9.cell? ⟨w4.heap.size, 0, none⟩ = some (.int .i64 an) := by rw [hc9 _ _ (by first | omega | (simp <;> omega))]; go_simp
      have K9' : w9.cell? ⟨w4.heap.size, 1, none⟩ = some (.int .i64 ad) := by rw [hc9 _ _ (by first | omega | (simp <;> omega))]; go_simp
      have D9 : w9.cell? ⟨w5.heap.size, 0, none⟩ = some (.int .i64 dn) := by rw [hc9 _ _ (by first | omega | (simp <;> omega))]; go_simp
      have D9' : w9.cell? ⟨w5.heap.size, 1, none⟩ = some (.int .i64 dd) := by rw [hc9 _ _ (by first | omega | (simp <;> omega))]; go_simp
      have R9 : w9.cell? ⟨w8.heap.size, 0, none⟩ = some (.int .i64 an) := by rw [hc9 _ _ (by first | omega | (simp <;> omega))]; go_simp
      have R9' : w9.cell? ⟨w8.heap.size, 1, none⟩ = some (.int .i64 ad) := by rw [hc9 _ _ (by first | omega | (simp <;> omega))]; go_simp
      have z9 : w8.heap.size < w9.heap.size := by have := hb9.size; simp at this; omega
      have qA9 : w1.heap.size < w9.heap.size := by have := hb9.size; (try simp at this); omega
      have qB9 : w2.heap.size < w9.heap.size := by have := hb9.size; (try simp at this); omega
      have qS9 : w3.heap.size < w9.heap.size := by have := hb9.size; (try simp at this); omega
      have qK9 : w4.heap.size < w9.heap.size := by have := hb9.size; (try simp at this); omega
      have qD9 : w5.heap.size < w9.heap.size := by have := hb9.size; (try simp at this); omega
      have qR9 : w8.heap.size < w9.heap.size := by have := hb9.size; (try simp at this); omega
      have b9 : Below w.heap.size w w9 := c8.trans (hb9.mono c8.size)
      clear hc9 hf9 hb9 c8 A8 A8' qA8 B8 B8' qB8 S8 S8' qS8 K8 K8' qK8 D8 D8' qD8
      have c9 : Below w.heap.size w (w9.alloc (.cells #[.int .i64 pn, .int .i64 pd] 25)) := b9.alloc b9.size _
      go_wp2_with fail
      refine (HQ.out.div HBN.out _ (HG.out.below c9).1).mono ?_
      rintro e w10 ⟨rfl, hb10⟩
      obtain ⟨hc10, hf10⟩ := bcell hb10
      have A10 : w10.cell? ⟨w1.heap.size, 0, none⟩ = some (.int .i64 an) := by rw [hc10 _ _ (by first | omega | (simp <;> omega))]; go_simp
      have A10' : w10.cell? ⟨w1.heap.size, 1, none⟩ = some (.int .i64 ad) := by rw [hc10 _ _ (by first | omega | (simp <;> omega))]; go_simp
      have B10 : w10.cell? ⟨w2.heap.size, 0, none⟩ = some (.int .i64 bn) := by rw [hc10 _ _ (by first | omega | (simp <;> omega))]; go_simp
      have B10' : w10.cell? ⟨w2.heap.size, 1, none⟩ = some (.int .i64 bd) := by rw [hc10 _ _ (by first | omega | (simp <;> omega))]; go_simp
      have S10 : w10.cell? ⟨w3.heap.size, 0, none⟩ = some (.int .i64 sn) := by rw [hc10 _ _ (by first | omega | (simp <;> omega))]; go_simp
      have S10' : w10.cell? ⟨w3.heap.size, 1, none⟩ = some (.int .i64 sd) := by rw [hc10 _ _ (by first | omega | (simp <;> omega))]; go_simp
      have K10 : w10.cell? ⟨w4.heap.size, 0, none⟩ = some (.int .i64 an) := by rw [hc10 _ _ (by first | omega | (simp <;> omega))]; go_simp
      have K10' : w10.cell? ⟨w4.heap.size, 1, none⟩ = some (.int .i64 ad) := by rw [hc10 _ _ (by first | omega | (simp <;> omega))]; go_simp
      have D10 : w10.cell? ⟨w5.heap.size, 0, none⟩ = some (.int .i64 dn) := by rw [hc10 _ _ (by first | omega | (simp <;> omega))]; go_simp
      have D10' : w10.cell? ⟨w5.heap.size, 1, none⟩ = some (.int .i64 dd) := by rw [hc10 _ _ (by first | omega | (simp <;> omega))]; go_simp
      have R10 : w10.cell? ⟨w8.heap.size, 0, none⟩ = some (.int .i64 an) := by rw [hc10 _ _ (by first | omega | (simp <;> omega))]; go_simp
      have R10' : w10.cell? ⟨w8.heap.size, 1, none⟩ = some (.int .i64 ad) := by rw [hc10 _ _ (by first | omega | (simp <;> omega))]; go_simp
      have P10 : w10.cell? ⟨w9.heap.size, 0, none⟩ = some (.int .i64 pn) := by rw [hc10 _ _ (by first | omega | (simp <;> omega))]; go_simp
      have P10' : w10.cell? ⟨w9.heap.size, 1, none⟩ = some (.int .i64 pd) := by rw [hc10 _ _ (by first | omega | (simp <;> omega))]; go_simp
      have z10 : w9.heap.size < w10.heap.size := by have := hb10.size; simp at this; omega
      have qA10 : w1.heap.size < w10.heap.size := by have := hb10.size; (try simp at this); omega
      have qB10 : w2.heap.size < w10.heap.size := by have := hb10.size; (try simp at this); omega
      have qS10 : w3.heap.size < w10.heap.size := by have := hb10.size; (try simp at this); omega
      have qK10 : w4.heap.size < w10.heap.size := by have := hb10.size; (try simp at this); omega
      have qD10 : w5.heap.size < w10.heap.size := by have := hb10.size; (try simp at this); omega
      have qR10 : w8.heap.size < w10.heap.size := by have := hb10.size; (try simp at this); omega
      have qP10 : w9.heap.size < w10.heap.size := by have := hb10.size; (try simp at this); omega
      have b10 : Below w.heap.size w w10 := c9.trans (hb10.mono c9.size)
      clear hc10 hf10 hb10 c9 A9 A9' qA9 B9 B9' qB9 S9 S9' qS9 K9 K9' qK9 D9 D9' qD9 R9 R9' qR9
      have c10 : Below w.heap.size w (w10.alloc (.cells #[.int .i64 an, .int .i64 ad] 25)) := b10.alloc b10.size _
      go_wp2_with fail
      refine (HQ.out.floor _ (HG.out.below c10).1).mono ?_
      rintro e w11 ⟨rfl, hb11⟩
      obtain ⟨hc11, hf11⟩ := bcell hb11
      have A11 : w11.cell? ⟨w1.heap.size, 0, none⟩ = some (.int .i64 an) := by rw [hc11 _ _ (by first | omega | (simp <;> omega))]; go_simp
      have A11' : w11.cell? ⟨w1.heap.size, 1, none⟩ = some (.int .i64 ad) := by rw [hc11 _ _ (by first | omega | (simp <;> omega))]; go_simp
      have B11 : w11.cell? ⟨w2.heap.size, 0, none⟩ = some (.int .i64 bn) := by rw [hc11 _ _ (by first | omega | (simp <;> omega))]; go_simp
      have B11' : w11.cell? ⟨w2.heap.size, 1, none⟩ = some (.int .i64 bd) := by rw [hc11 _ _ (by first | omega | (simp <;> omega))]; go_simp
      have S11 : w11.cell? ⟨w3.heap.size, 0, none⟩ = some (.int .i64 sn) := by rw [hc11 _ _ (by first | omega | (simp <;> omega))]; go_simp
      have S11' : w11.cell? ⟨w3.heap.size, 1, none⟩ = some (.int .i64 sd) := by rw [hc11 _ _ (by first | omega | (simp <;> omega))]; go_simp
      have K11 : w11.cell? ⟨w4.heap.size, 0, none⟩ = some (.int .i64 an) := by rw [hc11 _ _ (by first | omega | (simp <;> omega))]; go_simp
      have K11' : w11.cell? ⟨w4.heap.size, 1, none⟩ = some (.int .i64 ad) := by rw [hc11 _ _ (by first | omega | (simp <;> omega))]; go_simp
      have D11 : w11.cell? ⟨w5.heap.size, 0, none⟩ = some (.int .i64 dn) := by rw [hc11 _ _ (by first | omega | (simp <;> omega))]; go_simp
      have D11' : w11.cell? ⟨w5.heap.size, 1, none⟩ = some (.int .i64 dd) := by rw [hc11 _ _ (by first | omega | (simp <;> omega))]; go_simp
      have R11 : w11.cell? ⟨w8.heap.size, 0, none⟩ = some (.int .i64 an) := by rw [hc11 _ _ (by first | omega | (simp <;> omega))]; go_simp
      have R11' : w11.cell? ⟨w8.heap.size, 1, none⟩ = some (.int .i64 ad) := by rw [hc11 _ _ (by first | omega | (simp <;> omega))]; go_simp
      have P11 : w11.cell? ⟨w9.heap.size, 0, none⟩ = some (.int .i64 pn) := by rw [hc11 _ _ (by first | omega | (simp <;> omega))]; go_simp
      have P11' : w11.cell? ⟨w9.heap.size, 1, none⟩ = some (.int .i64 pd) := by rw [hc11 _ _ (by first | omega | (simp <;> omega))]; go_simp
      have Q11 : w11.cell? ⟨w10.heap.size, 0, none⟩ = some (.int .i64 an) := by rw [hc11 _ _ (by first | omega | (simp <;> omega))]; go_simp
      have Q11' : w11.cell? ⟨w10.heap.size, 1, none⟩ = some (.int .i64 ad) := by rw [hc11 _ _ (by first | omega | (simp <;> omega))]; go_simp
      have z11 : w10.heap.size < w11.heap.size := by have := hb11.size; simp at this; omega
      have qA11 : w1.heap.size < w11.heap.size := by have := hb11.size; (try simp at this); omega
      have qB11 : w2.heap.size < w11.heap.size := by have := hb11.size; (try simp at this); omega
      have qS11 : w3.heap.size < w11.heap.size := by have := hb11.size; (try simp at this); omega
      have qK11 : w4.heap.size < w11.heap.size := by have := hb11.size; (try simp at this); omega
      have qD11 : w5.heap.size < w11.heap.size := by have := hb11.size; (try simp at this); omega
      have qR11 : w8.heap.size < w11.heap.size := by have := hb11.size; (try simp at this); omega
      have qP11 : w9.heap.size < w11.heap.size := by have := hb11.size; (try simp at this); omega
      have qQ11 : w10.heap.size < w11.heap.size := by have := hb11.size; (try simp at this); omega
      have b11 : Below w.heap.size w w11 := c10.trans (hb11.mono c10.size)
      clear hc11 hf11 hb11 c10 A10 A10' qA10 B10 B10' qB10 S10 S10' qS10 K10 K10' qK10 D10 D10' qD10 R10 R10' qR10 P10 P10' qP10
      go_wp2
      go_ret
      exact ⟨rfl, b11⟩
end Go.Proofs.YtcmhdjoajkljfabGreatDoor
