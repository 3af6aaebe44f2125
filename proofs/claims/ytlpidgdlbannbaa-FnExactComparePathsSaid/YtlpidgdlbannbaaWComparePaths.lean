/- The law on ComparePaths, walked from the contracts of its two calls. -/
import Derived.Test.YtlpidgdlbannbaaWb5
namespace Go.Proofs.Ytlpidgdlbannbaa
open Go.ChangeShapes Go.WideShapes Go.ChangeAt Go.RowKit Go.Deep
set_option linter.unusedSimpArgs false
set_option linter.unusedVariables false
set_option maxHeartbeats 2000000 in
set_option maxRecDepth 100000 in
theorem lawComparePaths (v0 : Value) (X0 : List Vc) (n1 : Int) (v2 : Value) (X2 : List Int) (v3 : Value) (X3 : List Int) (w : World) (h0 : ListV w v0 X0) (rm0 : Room X0) (wf1 : (Lit.int .i64 n1).wf = true) (h2 : RowV w v2 X2) (ln2 : X2.length ≤ 9223372036854775807) (wf2 : ∀ n ∈ X2, (Lit.int .i64 n).wf = true) (h3 : RowV w v3 X3) (ln3 : X3.length ≤ 9223372036854775807) (wf3 : ∀ n ∈ X3, (Lit.int .i64 n).wf = true) :
    Calls Try.prog 6 #[v0, .int .i64 n1, v2, v3] w fun e w' => e = .returned (.bool true) ∧ Below w.heap.size w w' := by
  obtain ⟨va2, vc2, hv2⟩ := h2.shape
  obtain ⟨va3, vc3, hv3⟩ := h3.shape
  by_cases hlong2 : 1048576 < X2.length
  · subst hv2
    subst hv3
    clear h0 h2 h3
    go_enter Try.func6, Try.ntmps6
    go_wp2
    go_ret
    exact ⟨rfl, Below.refl _ _⟩
  have fit2 : X2.length ≤ 1048576 := by omega
  have HT2 := fun w' (hw : Below w.heap.size w w') => toCpI v2 X2 w' (h2.below hw) fit2
  by_cases hlong3 : 1048576 < X3.length
  · subst hv2
    subst hv3
    clear h0 h2 h3
    go_enter Try.func6, Try.ntmps6
    go_wp2
    go_ret
    exact ⟨rfl, Below.refl _ _⟩
  have fit3 : X3.length ≤ 1048576 := by omega
  have HT3 := fun w' (hw : Below w.heap.size w w') => toCpI v3 X3 w' (h3.below hw) fit3
  subst hv2
  clear h2
  subst hv3
  clear h3
  obtain ⟨⟨r0, r1⟩, hm⟩ : ∃ p, mCmp X0 n1 X2 X3 = p := ⟨_, rfl⟩
  have HS : ∀ w' lo0 hi0 u0 (c0 : CpV w' lo0 hi0 u0 X0) lo2 hi2 u2 (c2 : CpI w' lo2 hi2 u2 X2) lo3 hi3 u3 (c3 : CpI w' lo3 hi3 u3 X3), Calls Try.prog 27 #[u0, .int .i64 n1, u2, u3] w' (Pnb (r0, r1) w') := fun w' lo0 hi0 u0 c0 lo2 hi2 u2 c2 lo3 hi3 u3 c3 => by have q := sCmp X0 n1 X2 X3 w' lo0 hi0 u0 c0 wf1 lo2 hi2 u2 c2 lo3 hi3 u3 c3; rw [hm] at q; exact q
  have HI : ∀ w' lo0 hi0 u0 (c0 : CpV w' lo0 hi0 u0 X0) lo2 hi2 u2 (c2 : CpI w' lo2 hi2 u2 X2) lo3 hi3 u3 (c3 : CpI w' lo3 hi3 u3 X3), Calls Try.prog 28 #[u0, .int .i64 n1, u2, u3] w' (Qnb (r0, r1) w') := fun w' lo0 hi0 u0 c0 lo2 hi2 u2 c2 lo3 hi3 u3 c3 => by have q := iCmp X0 n1 X2 X3 w' lo0 hi0 u0 c0 wf1 lo2 hi2 u2 c2 lo3 hi3 u3 c3; rw [hm] at q; exact q
  clear hm
  have HZ := szVS v0 X0 w h0 rm0
  go_enter Try.func6, Try.ntmps6
  go_wp2_with fail
  refine HZ.mono ?_
  rintro e w1 ⟨⟨r, rfl, z1, z2, z3⟩, hb1⟩
  have Z3 := Lib.hid z3
  clear z3
  by_cases hneg : r < 0
  · go_wp2
    go_ret
    exact ⟨rfl, hb1⟩
  have hf := Z3.out (by omega)
  clear HZ Z3
  have HT0 := fun w' (hw : Below w.heap.size w w') => toCpV v0 X0 w' (h0.below hw) hf
  have s1 := hb1.size
  have b1 := hb1
  have t1 := b1.size
  go_wp2_with fail
  refine (HT0 _ b1).mono ?_
  rintro e w2 ⟨x1, rfl, hx1, hb2⟩
  have s2 := hb2.size
  have b2 := b1.trans (hb2.mono b1.size)
  have t2 := b2.size
  go_wp2_with fail
  refine (HT2 _ b2).mono ?_
  rintro e w3 ⟨x2, rfl, hx2, hb3⟩
  have s3 := hb3.size
  have b3 := b2.trans (hb3.mono b2.size)
  have t3 := b3.size
  go_wp2_with fail
  refine (HT3 _ b3).mono ?_
  rintro e w4 ⟨x3, rfl, hx3, hb4⟩
  have s4 := hb4.size
  have b4 := b3.trans (hb4.mono b3.size)
  have t4 := b4.size
  go_wp2_with fail
  refine (HS _ _ _ _ ((hx1.below hb3).below hb4) _ _ _ (hx2.below hb4) _ _ _ hx3).mono ?_
  intro e w5 hp
  obtain ⟨rfl, hb5⟩ := hp.out
  have s5 := hb5.size
  have b5 := b4.trans (hb5.mono b4.size)
  have t5 := b5.size
  go_wp2_with fail
  refine (HT0 _ b5).mono ?_
  rintro e w6 ⟨x4, rfl, hx4, hb6⟩
  have s6 := hb6.size
  have b6 := b5.trans (hb6.mono b5.size)
  have t6 := b6.size
  go_wp2_with fail
  refine (HT2 _ b6).mono ?_
  rintro e w7 ⟨x5, rfl, hx5, hb7⟩
  have s7 := hb7.size
  have b7 := b6.trans (hb7.mono b6.size)
  have t7 := b7.size
  go_wp2_with fail
  refine (HT3 _ b7).mono ?_
  rintro e w8 ⟨x6, rfl, hx6, hb8⟩
  have s8 := hb8.size
  have b8 := b7.trans (hb8.mono b7.size)
  have t8 := b8.size
  go_wp2_with fail
  refine (HI _ _ _ _ ((hx4.below hb7).below hb8) _ _ _ (hx5.below hb8) _ _ _ hx6).mono ?_
  intro e w9 hp
  obtain ⟨rfl, hb9⟩ := hp.out
  have s9 := hb9.size
  have b9 := b8.trans (hb9.mono b8.size)
  have t9 := b9.size
  go_wp2_with fail
  refine (HT0 _ b9).mono ?_
  rintro e w10 ⟨x7, rfl, hx7, hb10⟩
  have s10 := hb10.size
  have b10 := b9.trans (hb10.mono b9.size)
  have t10 := b10.size
  go_wp2_with fail
  refine (eqCpV ((((hx4.below hb7).below hb8).below hb9).below hb10) hx7).mono ?_
  rintro e w11 ⟨rfl, hb11⟩
  have s11 := hb11.size
  have b11 := b10.trans (hb11.mono b10.size)
  have t11 := b11.size
  go_wp2_with fail
  refine (HT2 _ b11).mono ?_
  rintro e w12 ⟨x8, rfl, hx8, hb12⟩
  have s12 := hb12.size
  have b12 := b11.trans (hb12.mono b11.size)
  have t12 := b12.size
  go_wp2_with fail
  refine (eqCpI (((((hx5.below hb8).below hb9).below hb10).below hb11).below hb12) hx8).mono ?_
  rintro e w13 ⟨rfl, hb13⟩
  have s13 := hb13.size
  have b13 := b12.trans (hb13.mono b12.size)
  have t13 := b13.size
  go_wp2_with fail
  refine (HT3 _ b13).mono ?_
  rintro e w14 ⟨x9, rfl, hx9, hb14⟩
  have s14 := hb14.size
  have b14 := b13.trans (hb14.mono b13.size)
  have t14 := b14.size
  go_wp2_with fail
  refine (eqCpI ((((((hx6.below hb9).below hb10).below hb11).below hb12).below hb13).below hb14) hx9).mono ?_
  rintro e w15 ⟨rfl, hb15⟩
  have s15 := hb15.size
  have b15 := b14.trans (hb15.mono b14.size)
  have t15 := b15.size
  go_wp2
  go_ret
  exact ⟨rfl, b15⟩
end Go.Proofs.Ytlpidgdlbannbaa
