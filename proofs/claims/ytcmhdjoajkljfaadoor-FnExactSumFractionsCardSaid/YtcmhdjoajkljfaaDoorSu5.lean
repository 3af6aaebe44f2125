/- The law on SumFractions, walked; lists of fractions opened. -/
import Derived.Test.YtcmhdjoajkljfaaDoorSu4
import Derived.ProofKit
import Derived.OpenShut
import Derived.ChangeOld
import Derived.Deep.Slices
import Derived.Deep.Fields
import Derived.ChangeSame
import Derived.Lib.SmallJoins
namespace Go.Proofs.YtcmhdjoajkljfaaDoor
open Go.ChangeShapes Go.WideShapes Go.ChangeAt Go.RowKit Go.Joins Go.Deep
set_option linter.unusedVariables false
set_option linter.unusedSimpArgs false
set_option maxRecDepth 100000
set_option maxHeartbeats 2000000 in
theorem lawSumFractions (v : Value) (L : List Fq) (w : World) (h : ListF w v L) (hr : L.length ≤ 9223372036854775807) (hg : ErrT w) :
    Calls Tryd.prog 5 #[v] w fun e w' => e = .returned (.bool true) ∧ Below w.heap.size w w' := by
  have HZ := szF v L w h hr
  have HG := Lib.hid hg
  clear hg
  obtain ⟨r0, hr0⟩ : ∃ r, sumR L = r := ⟨_, rfl⟩
  obtain ⟨x, y, z, HP⟩ : ∃ (x y : Int) (z : Bool), ∀ w e w', suP r0 w e w' → e = .returned (.tuple #[.agg #[.int .i64 x, .int .i64 y], .bool z]) ∧ Below w.heap.size w w' := by
    cases r0 with
    | none => exact ⟨0, 0, false, fun w e w' q => by unfold suP at q; exact q⟩
    | some s => exact ⟨s.1, s.2, true, fun w e w' q => by unfold suP at q; exact q⟩
  have HPP := Lib.hid HP
  have HS : ∀ b cap w, Fs w b L → L.length ≤ 1048576 → Calls Tryd.prog 16 #[.slice (some ⟨b, 0, none⟩) L.length cap] w (suP r0 w) := fun b cap w q hn => by
    have := sSumF L b cap w q hn
    rw [hr0] at this
    exact this
  have HI : ∀ b cap w, Fs w b L → L.length ≤ 1048576 → ErrT w → Calls Tryd.prog 18 #[.slice (some ⟨b, 0, none⟩) L.length cap] w (suP r0 w) := fun b cap w q hn g => by
    have := iSumF L b cap w q hn g
    rw [hr0] at this
    exact this
  clear HP hr0
  go_enter Tryd.func5, Tryd.ntmps5
  go_wp2_with fail
  refine HZ.mono ?_
  rintro e w1 ⟨⟨r, rfl, r1, r2, r3⟩, rfl⟩
  have R3 := Lib.hid r3
  clear r3
  by_cases hneg : r < 0
  · go_wp2
    go_ret
    exact ⟨rfl, Below.refl _ _⟩
  have hn := R3.out (by omega)
  go_wp2_with fail
  refine (toFS v L _ h hn).mono ?_
  rintro e w2 ⟨rfl, hV2, b2⟩
  go_wp2_with fail
  refine (HS _ _ _ hV2 hn).mono ?_
  rintro e w3 q3
  obtain ⟨rfl, hb3⟩ := HPP.out _ _ _ q3
  have b3 := b2.trans (hb3.mono b2.size)
  have c3 := b3.alloc b3.size (.cells #[.int .i64 x, .int .i64 y] 37)
  clear q3 hV2
  go_wp2_with fail
  refine (toFS v L _ (h.below c3) hn).mono ?_
  rintro e w4 ⟨rfl, hV4, hb4⟩
  have e4 : (w3.alloc (.cells #[.int .i64 x, .int .i64 y] 37)).heap.size = w3.heap.size + 1 := by simp
  rw [e4] at hV4
  obtain ⟨hc4, hf4⟩ := bcell hb4
  have A4 : w4.cell? ⟨w3.heap.size, 0, none⟩ = some (.int .i64 x) := by rw [hc4 _ _ (by simp)]; go_simp
  have A4' : w4.cell? ⟨w3.heap.size, 1, none⟩ = some (.int .i64 y) := by rw [hc4 _ _ (by simp)]; go_simp
  have z4 : w3.heap.size < w4.heap.size := by have := hb4.size; (try simp at this); omega
  have b4 := c3.trans (hb4.mono c3.size)
  have g4 := HG.out.below b4
  clear hc4 hf4 hb4 c3
  go_wp2_with fail
  refine (HI _ _ _ hV4 hn g4).mono ?_
  rintro e w5 q5
  obtain ⟨rfl, hb5⟩ := HPP.out _ _ _ q5
  have hV5 := hV4.below hb5
  obtain ⟨hc5, hf5⟩ := bcell hb5
  have A5 : w5.cell? ⟨w3.heap.size, 0, none⟩ = some (.int .i64 x) := by rw [hc5 _ _ z4]; exact A4
  have A5' : w5.cell? ⟨w3.heap.size, 1, none⟩ = some (.int .i64 y) := by rw [hc5 _ _ z4]; exact A4'
  have z5 : w3.heap.size < w5.heap.size := Nat.lt_of_lt_of_le z4 hb5.size
  have b5 := b4.trans (hb5.mono b4.size)
  have c5 := b5.alloc b5.size (.cells #[.int .i64 x, .int .i64 y] 37)
  have hV5' := hV5.below ((Below.refl w5.heap.size w5).alloc (Nat.le_refl _) (.cells #[.int .i64 x, .int .i64 y] 37))
  clear q5 hV4 A4 A4' g4 hc5 hf5 hb5
  go_wp2_with fail
  refine (eqF x y _).mono ?_
  rintro e w6 ⟨rfl, hb6⟩
  have b6 := c5.trans (hb6.mono c5.size)
  have hV6 := hV5'.below hb6
  clear hV5'
  go_wp2_with fail
  refine (toFS v L _ (h.below b6) hn).mono ?_
  rintro e w7 ⟨rfl, hV7, hb7⟩
  have b7 := b6.trans (hb7.mono b6.size)
  go_wp2_with fail
  refine (eqFS L _ _ _ _ _ (hV6.below hb7) hV7 hn).mono ?_
  rintro e w8 ⟨rfl, hb8⟩
  go_wp2
  go_ret
  exact ⟨rfl, b7.trans (hb8.mono b7.size)⟩
theorem cellsIn : Tryd.prog.cellsOf 2 = 1 := by kernel_rfl
theorem cellsFl : Tryd.prog.cellsOf 65 = 2 := by kernel_rfl
section
variable {H : Type} {enc : TypeId × Value → H} {w : World} {base : Nat} {spare : Nat → Bool} {held : Bool}
theorem at_spot {x : Addr} {v : Value} (h : w.cell? x = some v) : x.spot = none := by
  unfold World.cell? at h
  split at h
  · split at h
    · cases h
    · rename_i q; simpa using q
  · cases h
/-- A slice of fractions reads as a list of fractions. -/
theorem fracs_of {b0 : Nat} {v : Value} {d : DataW H} {p : List MemPlace}
    (hv : Value.okWide Tryd.prog w .any b0 34 v) (h : DataW.Trod enc Tryd.prog w base spare held 34 v d p) : ∃ L, ListF w v L ∧ L.length ≤ 9223372036854775807 := by
  obtain ⟨a0, len0, cap0, rfl⟩ := okWide_slice Tryd.underlying34 hv
  obtain ⟨fuel, hf⟩ := h
  rcases open_slice Tryd.underlying34 hf with ⟨hcs, _⟩ | ⟨a, len, cap, m, n, D, Pl, hcs, _, hl, hm, hmm, _, hi⟩
  · simp [Value.cells] at hcs
    obtain ⟨rfl, rfl, rfl⟩ := hcs
    exact ⟨[], .inl ⟨rfl, rfl⟩, by simp⟩
  · simp [Value.cells] at hcs
    obtain ⟨rfl, rfl, rfl⟩ := hcs
    have hlm : len0 ≤ m := by rw [hmm]; split <;> omega
    unfold maxLen at hm
    have key : ∀ i, ∃ q : Fq, i < len0 → w.cell? (a.add (i * 2)) = some (.int .i64 q.1) ∧ w.cell? ⟨(a.add (i * 2)).block, (a.add (i * 2)).off + 1, none⟩ = some (.int .i64 q.2) := by
      intro i
      by_cases hlt : i < len0
      · obtain ⟨cs, hc, ht⟩ := hi i (by omega)
        rw [cellsFl] at hc
        obtain ⟨ys, n', _, _, hlen, hyl, hfd⟩ := DataW.trod_struct Tryd.underlying65 ht
        rw [cellsFl] at hlen
        obtain ⟨_, _, hat⟩ := World.cells?_some hc
        match cs, hlen with
        | [c0, c1], _ =>
          have q0 := hfd 0 _ rfl
          have q1 := hfd 1 _ rfl
          have e0 := hat 0 (by omega)
          have e1 := hat 1 (by omega)
          simp [cellsIn] at q0 q1 e0 e1
          have hy2 : ys.length = 2 := hyl
          have z0 : ys[0]? = some (ys[0]'(by omega)) := List.getElem?_eq_getElem _
          have z1 : ys[1]? = some (ys[1]'(by omega)) := List.getElem?_eq_getElem _
          obtain ⟨x, hx, _⟩ := DataW.trod_int Tryd.underlying2 (q0.trans z0)
          obtain ⟨y, hy, _⟩ := DataW.trod_int Tryd.underlying2 (q1.trans z1)
          simp only [List.cons.injEq, and_true] at hx hy
          subst hx hy
          have e0' : w.cell? (a.add (i * 2)) = some (.int .i64 x) := by
            have hz : (a.add (i * 2)).add 0 = a.add (i * 2) := by simp [Addr.add]
            rwa [hz] at e0
          have hsp := at_spot e0'
          have e1' : w.cell? ⟨(a.add (i * 2)).block, (a.add (i * 2)).off + 1, none⟩ = some (.int .i64 y) := by
            revert e1 hsp
            generalize a.add (i * 2) = x
            obtain ⟨xb, xo, xs⟩ := x
            intro e1 hsp
            simp only at hsp
            subst hsp
            rwa [Addr.add_lit] at e1
          exact ⟨(x, y), fun _ => ⟨e0', e1'⟩⟩
      · exact ⟨(0, 0), fun q => absurd q hlt⟩
    obtain ⟨f, hf⟩ := Classical.axiomOfChoice key
    have hlenL : ((List.range len0).map f).length = len0 := by simp
    have hget : ∀ k, k < len0 → ((List.range len0).map f).getD k (0, 0) = f k := fun k hk => by simp [List.getD, hk]
    refine ⟨(List.range len0).map f, .inr ⟨a, cap0, by rw [hlenL], fun q => ?_, fun k hk => ?_⟩, by rw [hlenL]; omega⟩
    · have := World.block_lt_of_cell? _ _ (hf 0 (by omega)).1
      rwa [block_add] at this
    · rw [hlenL] at hk
      obtain ⟨h1, h2⟩ := hf k hk
      rw [hget k hk]
      exact ⟨h1, h2⟩
end
end Go.Proofs.YtcmhdjoajkljfaaDoor
