/- The law on DisagreementOf, walked from the contracts of its two calls. -/
import Derived.Test.YtnpolmanebmmcaaDi3
namespace Go.Proofs.Ytnpolmanebmmcaa
open Go.ChangeShapes Go.WideShapes Go.ChangeAt Go.RowKit Go.Deep
set_option linter.unusedSimpArgs false
set_option linter.unusedVariables false
set_option maxHeartbeats 2000000 in
set_option maxRecDepth 100000 in
theorem lawDisagreementOf (v0 : Value) (X0 : Pr) (v1 : Value) (X1 : List Int) (w : World) (h0 : ListR w v0 X0) (rm0 : RoomR X0) (h1 : RowV w v1 X1) (ln1 : X1.length ≤ 9223372036854775807) (wf1 : ∀ n ∈ X1, (Lit.int .i64 n).wf = true) :
    Calls Try.prog 9 #[v0, v1] w fun e w' => e = .returned (.bool true) ∧ Below w.heap.size w w' := by
  obtain ⟨qa0, qc0, rfl, hqa0, hqc0⟩ := h0
  have h0 : ListR w (.agg #[qa0, qc0]) X0 := ⟨_, _, rfl, hqa0, hqc0⟩
  clear hqa0 hqc0
  obtain ⟨va1, vc1, hv1⟩ := h1.shape
  by_cases hlong1 : 1048576 < X1.length
  · subst hv1
    clear h0 h1
    go_enter Try.func9, Try.ntmps9
    go_wp2
    go_ret
    first | exact ⟨rfl, Below.refl _ _⟩ | exact ⟨rfl, (Below.refl _ _).alloc (Nat.le_refl _) _⟩
  have fit1 : X1.length ≤ 1048576 := by omega
  have HT1 := fun w' (hw : Below w.heap.size w w') => toCpI v1 X1 w' (h1.below hw) fit1
  subst hv1
  clear h1
  obtain ⟨⟨r0, r1⟩, hm⟩ : ∃ p, mDi X0 X1 = p := ⟨_, rfl⟩
  have HS : ∀ w' lo0 hi0 u0 (c0 : CpR w' lo0 hi0 u0 X0) lo1 hi1 u1 (c1 : CpI w' lo1 hi1 u1 X1), Calls Try.prog 33 #[u0, u1] w' (Pnb (r0, r1) w') := fun w' lo0 hi0 u0 c0 lo1 hi1 u1 c1 => by have q := sDi X0 X1 w' lo0 hi0 u0 c0 lo1 hi1 u1 c1; rw [hm] at q; exact q
  have HI : ∀ w' lo0 hi0 u0 (c0 : CpR w' lo0 hi0 u0 X0) lo1 hi1 u1 (c1 : CpI w' lo1 hi1 u1 X1), Calls Try.prog 35 #[u0, u1] w' (Qnb (r0, r1) w') := fun w' lo0 hi0 u0 c0 lo1 hi1 u1 c1 => by have q := iDi X0 X1 w' lo0 hi0 u0 c0 lo1 hi1 u1 c1; rw [hm] at q; exact q
  clear hm
  have ba := (Below.refl w.heap.size w).alloc (Nat.le_refl _) (.cells #[qa0, qc0] 25)
  have HZ := szPr _ X0 _ (h0.below ba) rm0
  have hpa : PrAt _ w.heap.size qa0 qc0 := pr_atL w qa0 qc0
  go_enter Try.func9, Try.ntmps9
  have s1 := ba.size
  have b1 := ba
  have t1 := b1.size
  go_wp2_with fail
  refine HZ.mono ?_
  rintro e w2 ⟨⟨r, rfl, z1, z2, z3⟩, hb2⟩
  have Z3 := Lib.hid z3
  clear z3
  have s2 := hb2.size
  have b2 := b1.trans (hb2.mono b1.size)
  have t2 := b2.size
  by_cases hneg : r < 0
  · go_wp2
    go_ret
    exact ⟨rfl, b2⟩
  have hf := Z3.out (by omega)
  clear HZ Z3
  have HT0 := fun w' (hw : Below w.heap.size w w') => toCpR _ X0 w' (h0.below hw) hf
  have hz := (hpa.below hb2)
  obtain ⟨pc1, pd1, pl1⟩ := hz
  go_wp2_with fail
  refine (HT0 _ b2).mono ?_
  rintro e w3 ⟨x1, rfl, hx1, hb3⟩
  have s3 := hb3.size
  have b3 := b2.trans (hb3.mono b2.size)
  have t3 := b3.size
  go_wp2_with fail
  refine (HT1 _ b3).mono ?_
  rintro e w4 ⟨x2, rfl, hx2, hb4⟩
  have s4 := hb4.size
  have b4 := b3.trans (hb4.mono b3.size)
  have t4 := b4.size
  go_wp2_with fail
  refine (HS _ _ _ _ (hx1.below hb4) _ _ _ hx2).mono ?_
  intro e w5 hp
  obtain ⟨rfl, hb5⟩ := hp.out
  have s5 := hb5.size
  have b5 := b4.trans (hb5.mono b4.size)
  have t5 := b5.size
  have hz := ((((hpa.below hb2).below hb3).below hb4).below hb5)
  obtain ⟨pc2, pd2, pl2⟩ := hz
  go_wp2_with fail
  refine (HT0 _ b5).mono ?_
  rintro e w6 ⟨x3, rfl, hx3, hb6⟩
  have s6 := hb6.size
  have b6 := b5.trans (hb6.mono b5.size)
  have t6 := b6.size
  obtain ⟨bx, cx, rfl, u1, u2⟩ := hx3
  have hx3 : CpR w6 _ _ (.agg #[.slice (some ⟨bx, 0, none⟩) X0.1.length X0.1.length, .slice (some ⟨cx, 0, none⟩) X0.2.length X0.2.length]) X0 := ⟨bx, cx, rfl, u1, u2⟩
  have hxr := u2
  have bal := (Below.refl w6.heap.size w6).alloc (Nat.le_refl _) (.cells #[.slice (some ⟨bx, 0, none⟩) X0.1.length X0.1.length, .slice (some ⟨cx, 0, none⟩) X0.2.length X0.2.length] 28)
  have hpx : PrAt _ w6.heap.size (.slice (some ⟨bx, 0, none⟩) X0.1.length X0.1.length) (.slice (some ⟨cx, 0, none⟩) X0.2.length X0.2.length) := pr_at _ _ _
  clear u1 u2
  have s7 := bal.size
  have b7 := b6.trans (bal.mono b6.size)
  have t7 := b7.size
  go_wp2_with fail
  refine (HT1 _ b7).mono ?_
  rintro e w8 ⟨x4, rfl, hx4, hb8⟩
  have s8 := hb8.size
  have b8 := b7.trans (hb8.mono b7.size)
  have t8 := b8.size
  have hz := (hpx.below hb8)
  obtain ⟨pc3, pd3, pl3⟩ := hz
  go_wp2_with fail
  refine (HI _ _ _ _ ((hx3.below bal).below hb8) _ _ _ hx4).mono ?_
  intro e w9 hp
  obtain ⟨rfl, hb9⟩ := hp.out
  have s9 := hb9.size
  have b9 := b8.trans (hb9.mono b8.size)
  have t9 := b9.size
  have hz := ((((((((hpa.below hb2).below hb3).below hb4).below hb5).below hb6).below bal).below hb8).below hb9)
  have hpa9 := hz
  obtain ⟨ya0, ya1, ya3⟩ := hz
  have hz := ((hpx.below hb8).below hb9)
  have hpx9 := hz
  obtain ⟨yx0, yx1, yx3⟩ := hz
  have hxc := (((hxr.below bal).below hb8).below hb9)
  have bs9 : Hid (Br w9 w.heap.size w6.heap.size qa0 qc0 (.slice (some ⟨bx, 0, none⟩) X0.1.length X0.1.length) (.slice (some ⟨cx, 0, none⟩) X0.2.length X0.2.length) w9) := Lib.hid (Br.start hpa9 hpx9)
  go_wp2_with fail
  go_region_held3 (fun w' => w'.cell? ⟨w.heap.size, 0, none⟩ = some qa0 ∧ w'.cell? ⟨w.heap.size, 1, none⟩ = some qc0 ∧ w'.cell? ⟨w6.heap.size, 0, none⟩ = some (.slice (some ⟨bx, 0, none⟩) X0.1.length X0.1.length) ∧ w'.cell? ⟨w6.heap.size, 1, none⟩ = some (.slice (some ⟨cx, 0, none⟩) X0.2.length X0.2.length) ∧ Hid (Below w9.heap.size w9 w'))
    (first | exact (Hid.out bs9).drew | exact Hid.out (by assumption))
    (first
      | (go_at_call 12; have hcur : Br w9 w.heap.size w6.heap.size qa0 qc0 (.slice (some ⟨bx, 0, none⟩) X0.1.length X0.1.length) (.slice (some ⟨cx, 0, none⟩) X0.2.length X0.2.length) _ := (by assumption); refine (HT0 _ (b9.trans (hcur.bel.mono b9.size))).mono ?_; rintro e wt ⟨x3, rfl, hx3, hbt⟩; obtain ⟨b3, c3, rfl, y1, y2⟩ := hx3; have hB : Hid (Br w9 w.heap.size w6.heap.size qa0 qc0 (.slice (some ⟨bx, 0, none⟩) X0.1.length X0.1.length) (.slice (some ⟨cx, 0, none⟩) X0.2.length X0.2.length) wt) := Lib.hid (hcur.below hbt))
      | (go_at_call 14; have hcur : Br w9 w.heap.size w6.heap.size qa0 qc0 (.slice (some ⟨bx, 0, none⟩) X0.1.length X0.1.length) (.slice (some ⟨cx, 0, none⟩) X0.2.length X0.2.length) _ := (by assumption); refine (eqR X0 _ _ _ _ _ _ _ (RfR.below hxc hcur.bel) (by assumption)).mono ?_; rintro e w10 ⟨rfl, hbt2⟩; have hB2 : Hid (Br w9 w.heap.size w6.heap.size qa0 qc0 (.slice (some ⟨bx, 0, none⟩) X0.1.length X0.1.length) (.slice (some ⟨cx, 0, none⟩) X0.2.length X0.2.length) w10) := Lib.hid (hcur.below hbt2); have hb10 := (Hid.out hB2).bel))
  all_goals
    have s10 := hb10.size
    have b10 := b9.trans (hb10.mono b9.size)
    have t10 := b10.size
    go_wp2_with fail
    refine (HT1 _ b10).mono ?_
    rintro e w11 ⟨x5, rfl, hx5, hb11⟩
    have s11 := hb11.size
    have b11 := b10.trans (hb11.mono b10.size)
    have t11 := b11.size
    go_wp2_with fail
    refine (eqCpI (((hx4.below hb9).below hb10).below hb11) hx5).mono ?_
    rintro e w12 ⟨rfl, hb12⟩
    have s12 := hb12.size
    have b12 := b11.trans (hb12.mono b11.size)
    have t12 := b12.size
    go_wp2
    go_ret
    exact ⟨rfl, b12⟩
end Go.Proofs.Ytnpolmanebmmcaa
