/- The law on ShareOf, walked from the contracts of its two calls. -/
import Derived.Test.YtcoelccmfljlhaaDoorSx2
namespace Go.Proofs.YtcoelccmfljlhaaDoor
open Go.ChangeShapes Go.WideShapes Go.ChangeAt Go.RowKit Go.Deep
set_option linter.unusedSimpArgs false
set_option linter.unusedVariables false
set_option maxHeartbeats 2000000 in
set_option maxRecDepth 100000 in
theorem lawShareOf (v0 : Value) (X0 : El) (w : World) (h0 : ListE w v0 X0) (rm0 : RoomE X0) (hg : ErrT w) :
    Calls Tryd.prog 3 #[v0] w fun e w' => e = .returned (.bool true) ∧ Below w.heap.size w w' := by
  obtain ⟨qc0, qa0, rfl, hqc0, hqa0⟩ := h0
  have h0 : ListE w (.agg #[.int .i64 X0.1, qc0, qa0]) X0 := ⟨_, _, rfl, hqc0, hqa0⟩
  clear hqc0 hqa0
  obtain ⟨⟨⟨r0n, r0d⟩, r1⟩, hm⟩ : ∃ p, mShr X0 = p := ⟨_, rfl⟩
  have HS : ∀ w' lo0 hi0 u0 (c0 : CpE w' lo0 hi0 u0 X0), Calls Tryd.prog 5 #[u0] w' (Pfb ((r0n, r0d), r1) w') := fun w' lo0 hi0 u0 c0 => by have q := sShr X0 w' lo0 hi0 u0 c0; rw [hm] at q; exact q
  have HI : ∀ w' lo0 hi0 u0 (c0 : CpE w' lo0 hi0 u0 X0) (hgx : ErrT w'), Calls Tryd.prog 7 #[u0] w' (Qfb ((r0n, r0d), r1) w') := fun w' lo0 hi0 u0 c0 hgx => by have q := iShr X0 w' lo0 hi0 u0 c0 hgx; rw [hm] at q; exact q
  clear hm
  have ba := (Below.refl w.heap.size w).alloc (Nat.le_refl _) (.cells #[.int .i64 X0.1, qc0, qa0] 25)
  have HZ := szEl _ X0 _ (h0.below ba) rm0
  have hpa : ElAt _ w.heap.size X0.1 qc0 qa0 := el_atL w X0.1 qc0 qa0
  go_enter Tryd.func3, Tryd.ntmps3
  have s1 := ba.size
  have b1 := ba
  have t1 := b1.size
  go_wp2_with fail
  refine HZ.mono ?_
  rintro e w2 ⟨⟨r, rfl, z1, z2, z3⟩, hb2⟩
  have Z3 := Lib.hid z3
  clear z3
  have s2 := hb2.size
  have b2 := b1.trans (hb2.mono b1.size)
  have t2 := b2.size
  by_cases hneg : r < 0
  · go_wp2
    go_ret
    exact ⟨rfl, b2⟩
  have hf := Z3.out (by omega)
  clear HZ Z3
  have HT0 := fun w' (hw : Below w.heap.size w w') => toCpE _ X0 w' (h0.below hw) hf
  have hz := (hpa.below hb2)
  obtain ⟨pc1, pd1, pe1, pl1⟩ := hz
  go_wp2_with fail
  refine (HT0 _ b2).mono ?_
  rintro e w3 ⟨x1, rfl, hx1, hb3⟩
  have s3 := hb3.size
  have b3 := b2.trans (hb3.mono b2.size)
  have t3 := b3.size
  go_wp2_with fail
  refine (HS _ _ _ _ hx1).mono ?_
  intro e w4 hp
  obtain ⟨rfl, hb4⟩ := hp.out
  have s4 := hb4.size
  have b4 := b3.trans (hb4.mono b3.size)
  have t4 := b4.size
  have bfws0 := (Below.refl w4.heap.size w4).alloc (Nat.le_refl _) (.cells #[.int .i64 r0n, .int .i64 r0d] 28)
  have hfws0 : FrAt _ w4.heap.size r0n r0d := fr_at w4 _ _
  have s5 := bfws0.size
  have b5 := b4.trans (bfws0.mono b4.size)
  have t5 := b5.size
  have hz := ((((hpa.below hb2).below hb3).below hb4).below bfws0)
  obtain ⟨pc2, pd2, pe2, pl2⟩ := hz
  go_wp2_with fail
  refine (HT0 _ b5).mono ?_
  rintro e w6 ⟨x2, rfl, hx2, hb6⟩
  have s6 := hb6.size
  have b6 := b5.trans (hb6.mono b5.size)
  have t6 := b6.size
  obtain ⟨cx, bx, rfl, u1, u2⟩ := hx2
  have hx2 : CpE w6 _ _ (.agg #[.int .i64 X0.1, .slice (some ⟨cx, 0, none⟩) X0.2.1.length X0.2.1.length, .slice (some ⟨bx, 0, none⟩) X0.2.2.length X0.2.2.length]) X0 := ⟨cx, bx, rfl, u1, u2⟩
  have hxr := u2
  have bal := (Below.refl w6.heap.size w6).alloc (Nat.le_refl _) (.cells #[.int .i64 X0.1, .slice (some ⟨cx, 0, none⟩) X0.2.1.length X0.2.1.length, .slice (some ⟨bx, 0, none⟩) X0.2.2.length X0.2.2.length] 31)
  have hpx : ElAt _ w6.heap.size X0.1 (.slice (some ⟨cx, 0, none⟩) X0.2.1.length X0.2.1.length) (.slice (some ⟨bx, 0, none⟩) X0.2.2.length X0.2.2.length) := el_at _ _ _ _
  clear u1 u2
  have s7 := bal.size
  have b7 := b6.trans (bal.mono b6.size)
  have t7 := b7.size
  have hz := hpx
  obtain ⟨pc3, pd3, pe3, pl3⟩ := hz
  go_wp2_with fail
  refine (HI _ _ _ _ (hx2.below bal) (hg.below b7)).mono ?_
  intro e w8 hp
  obtain ⟨rfl, hb8⟩ := hp.out
  have s8 := hb8.size
  have b8 := b7.trans (hb8.mono b7.size)
  have t8 := b8.size
  have bfgi0 := (Below.refl w8.heap.size w8).alloc (Nat.le_refl _) (.cells #[.int .i64 r0n, .int .i64 r0d] 28)
  have hfgi0 : FrAt _ w8.heap.size r0n r0d := fr_at w8 _ _
  have s9 := bfgi0.size
  have b9 := b8.trans (bfgi0.mono b8.size)
  have t9 := b9.size
  have hz := hfgi0
  obtain ⟨pc4, pd4, pl4⟩ := hz
  have hz := ((((hfws0.below hb6).below bal).below hb8).below bfgi0)
  obtain ⟨pc5, pd5, pl5⟩ := hz
  go_wp2_with fail
  refine (eqf _ _ _).mono ?_
  rintro e w10 ⟨rfl, hb10⟩
  have s10 := hb10.size
  have b10 := b9.trans (hb10.mono b9.size)
  have t10 := b10.size
  have hz := (((((((((hpa.below hb2).below hb3).below hb4).below bfws0).below hb6).below bal).below hb8).below bfgi0).below hb10)
  have hpa10 := hz
  obtain ⟨ya0, ya1, ya2, ya3⟩ := hz
  have hz := (((hpx.below hb8).below bfgi0).below hb10)
  have hpx10 := hz
  obtain ⟨yx0, yx1, yx2, yx3⟩ := hz
  have hxc := ((((hxr.below bal).below hb8).below bfgi0).below hb10)
  have bs10 : Hid (Be w10 w.heap.size w6.heap.size X0.1 qc0 qa0 (.slice (some ⟨cx, 0, none⟩) X0.2.1.length X0.2.1.length) (.slice (some ⟨bx, 0, none⟩) X0.2.2.length X0.2.2.length) w10) := Lib.hid (Be.start hpa10 hpx10)
  go_wp2_with fail
  go_region_held3 (fun w' => w'.cell? ⟨w.heap.size, 0, none⟩ = some (.int .i64 X0.1) ∧ w'.cell? ⟨w.heap.size, 1, none⟩ = some qc0 ∧ w'.cell? ⟨w.heap.size, 2, none⟩ = some qa0 ∧ w'.cell? ⟨w6.heap.size, 0, none⟩ = some (.int .i64 X0.1) ∧ w'.cell? ⟨w6.heap.size, 1, none⟩ = some (.slice (some ⟨cx, 0, none⟩) X0.2.1.length X0.2.1.length) ∧ w'.cell? ⟨w6.heap.size, 2, none⟩ = some (.slice (some ⟨bx, 0, none⟩) X0.2.2.length X0.2.2.length) ∧ Hid (Below w10.heap.size w10 w'))
    (first | exact (Hid.out bs10).drew | exact Hid.out (by assumption))
    (first
      | (go_at_call 6; have hcur : Be w10 w.heap.size w6.heap.size X0.1 qc0 qa0 (.slice (some ⟨cx, 0, none⟩) X0.2.1.length X0.2.1.length) (.slice (some ⟨bx, 0, none⟩) X0.2.2.length X0.2.2.length) _ := (by assumption); refine (HT0 _ (b10.trans (hcur.bel.mono b10.size))).mono ?_; rintro e wt ⟨x3, rfl, hx3, hbt⟩; obtain ⟨c3, b3, rfl, y1, y2⟩ := hx3; have hB : Hid (Be w10 w.heap.size w6.heap.size X0.1 qc0 qa0 (.slice (some ⟨cx, 0, none⟩) X0.2.1.length X0.2.1.length) (.slice (some ⟨bx, 0, none⟩) X0.2.2.length X0.2.2.length) wt) := Lib.hid (hcur.below hbt))
      | (go_at_call 9; have hcur : Be w10 w.heap.size w6.heap.size X0.1 qc0 qa0 (.slice (some ⟨cx, 0, none⟩) X0.2.1.length X0.2.1.length) (.slice (some ⟨bx, 0, none⟩) X0.2.2.length X0.2.2.length) _ := (by assumption); refine (eqE X0 _ _ _ _ _ _ _ (ElR.below hxc hcur.bel) (by assumption)).mono ?_; rintro e w11 ⟨rfl, hbt2⟩; have hB2 : Hid (Be w10 w.heap.size w6.heap.size X0.1 qc0 qa0 (.slice (some ⟨cx, 0, none⟩) X0.2.1.length X0.2.1.length) (.slice (some ⟨bx, 0, none⟩) X0.2.2.length X0.2.2.length) w11) := Lib.hid (hcur.below hbt2); have hb11 := (Hid.out hB2).bel))
  all_goals
    have s11 := hb11.size
    have b11 := b10.trans (hb11.mono b10.size)
    have t11 := b11.size
    go_wp2
    go_ret
    exact ⟨rfl, b11⟩
end Go.Proofs.YtcoelccmfljlhaaDoor
