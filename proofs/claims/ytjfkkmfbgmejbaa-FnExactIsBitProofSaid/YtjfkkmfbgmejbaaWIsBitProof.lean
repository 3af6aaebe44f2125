/- The law on IsBitProof, walked from the contracts of its two calls. -/
import Derived.Test.YtjfkkmfbgmejbaaBi3x
namespace Go.Proofs.Ytjfkkmfbgmejbaa
open Go.ChangeShapes Go.WideShapes Go.ChangeAt Go.RowKit Go.Deep
set_option linter.unusedSimpArgs false
set_option linter.unusedVariables false
set_option maxHeartbeats 2000000 in
set_option maxRecDepth 100000 in
theorem lawIsBitProof (n0 : Int) (v1 : Value) (X1 : Bq) (w : World) (wf0 : (Lit.int .i64 n0).wf = true) (h1 : ListB w v1 X1) (rm1 : RoomB X1) :
    Calls Try.prog 4 #[.int .i64 n0, v1] w fun e w' => e = .returned (.bool true) ∧ Below w.heap.size w w' := by
  obtain ⟨qa, qb, qc, rfl, hqa, hqb, hqc⟩ := h1
  have h1 : ListB w (.agg #[qa, qb, qc]) X1 := ⟨_, _, _, rfl, hqa, hqb, hqc⟩
  clear hqa hqb hqc
  obtain ⟨r0, hm⟩ : ∃ p, bpB n0 X1 = p := ⟨_, rfl⟩
  have HS : ∀ w' a b c (h : BfR w' a b c X1), Calls Try.prog 20 #[.int .i64 n0, bpV a b c X1] w' (Pb r0 w') := fun w' a b c h => by have q := sIsB n0 X1 a b c w' h; rw [hm] at q; exact q
  have HI : ∀ w' a b c (h : BfR w' a b c X1), Calls Try.prog 22 #[.int .i64 n0, bpV a b c X1] w' (Pb r0 w') := fun w' a b c h => by have q := iIsB n0 X1 a b c w' h; rw [hm] at q; exact q
  clear hm
  have ba := (Below.refl w.heap.size w).alloc (Nat.le_refl _) (.cells #[qa, qb, qc] 33)
  have HZ := szBp _ X1 _ (h1.below ba) rm1
  have hpa : BpAt _ w.heap.size qa qb qc := bp_at w 33 qa qb qc
  go_enter Try.func4, Try.ntmps4
  have b1 := ba
  have t1 := b1.size
  go_wp2_with fail
  refine HZ.mono ?_
  rintro e w2 ⟨⟨r, rfl, z1, z2, z3⟩, hb2⟩
  have Z3 := Lib.hid z3
  clear z3
  have b2 := b1.trans (hb2.mono b1.size)
  have t2 := b2.size
  by_cases hneg : r < 0
  · go_wp2
    go_ret
    exact ⟨rfl, b2⟩
  have hf := Z3.out (by omega)
  clear HZ Z3
  have HT0 := fun w' (hw : Below w.heap.size w w') => toBp _ X1 w' (h1.below hw) hf
  have hz := (hpa.below hb2)
  obtain ⟨pc1, pd1, pe1, pl1⟩ := hz
  go_wp2_with fail
  refine (HT0 _ b2).mono ?_
  rintro e w3 ⟨⟨a1, c1, d1, rfl, u1, hx1⟩, hb3⟩
  have b3 := b2.trans (hb3.mono b2.size)
  have t3 := b3.size
  go_wp2_with fail
  refine (HS _ _ _ _ hx1).mono ?_
  intro e w4 hp
  obtain ⟨rfl, hb4⟩ := hp.out
  have b4 := b3.trans (hb4.mono b3.size)
  have t4 := b4.size
  have hz := (((hpa.below hb2).below hb3).below hb4)
  obtain ⟨pc2, pd2, pe2, pl2⟩ := hz
  go_wp2_with fail
  refine (HT0 _ b4).mono ?_
  rintro e w5 ⟨⟨a2, c2, d2, rfl, u2, hx2⟩, hb5⟩
  have b5 := b4.trans (hb5.mono b4.size)
  have t5 := b5.size
  have bal := (Below.refl w5.heap.size w5).alloc (Nat.le_refl _) (.cells #[.slice (some ⟨a2, 0, none⟩) X1.1.length X1.1.length, .slice (some ⟨c2, 0, none⟩) X1.2.1.length X1.2.1.length, .slice (some ⟨d2, 0, none⟩) X1.2.2.length X1.2.2.length] 24)
  have hpx : BpAt _ w5.heap.size (.slice (some ⟨a2, 0, none⟩) X1.1.length X1.1.length) (.slice (some ⟨c2, 0, none⟩) X1.2.1.length X1.2.1.length) (.slice (some ⟨d2, 0, none⟩) X1.2.2.length X1.2.2.length) := bp_at w5 24 _ _ _
  have b6 := b5.trans (bal.mono b5.size)
  have t6 := b6.size
  have hz := hpx
  obtain ⟨pc3, pd3, pe3, pl3⟩ := hz
  go_wp2_with fail
  refine (HI _ _ _ _ (hx2.below bal)).mono ?_
  intro e w7 hp
  obtain ⟨rfl, hb7⟩ := hp.out
  have b7 := b6.trans (hb7.mono b6.size)
  have t7 := b7.size
  have hz := ((((((hpa.below hb2).below hb3).below hb4).below hb5).below bal).below hb7)
  have hpa7 := hz
  obtain ⟨ya0, ya1, ya2, ya3⟩ := hz
  have hz := (hpx.below hb7)
  have hpx7 := hz
  obtain ⟨yx0, yx1, yx2, yx3⟩ := hz
  have hxc := ((hx2.below bal).below hb7)
  have bs7 : Hid (Bb w7 w.heap.size w5.heap.size qa qb qc (.slice (some ⟨a2, 0, none⟩) X1.1.length X1.1.length) (.slice (some ⟨c2, 0, none⟩) X1.2.1.length X1.2.1.length) (.slice (some ⟨d2, 0, none⟩) X1.2.2.length X1.2.2.length) w7) := Lib.hid (Bb.start hpa7 hpx7)
  go_wp2_with fail
  go_region_held3 (fun w' => w'.cell? ⟨w.heap.size, 0, none⟩ = some qa ∧ w'.cell? ⟨w.heap.size, 1, none⟩ = some qb ∧ w'.cell? ⟨w.heap.size, 2, none⟩ = some qc ∧ w'.cell? ⟨w5.heap.size, 0, none⟩ = some (.slice (some ⟨a2, 0, none⟩) X1.1.length X1.1.length) ∧ w'.cell? ⟨w5.heap.size, 1, none⟩ = some (.slice (some ⟨c2, 0, none⟩) X1.2.1.length X1.2.1.length) ∧ w'.cell? ⟨w5.heap.size, 2, none⟩ = some (.slice (some ⟨d2, 0, none⟩) X1.2.2.length X1.2.2.length) ∧ Hid (Below w7.heap.size w7 w'))
    (first | exact (Hid.out bs7).drew | exact Hid.out (by assumption))
    (first
      | (go_at_call 21; have hcur : Bb w7 w.heap.size w5.heap.size qa qb qc (.slice (some ⟨a2, 0, none⟩) X1.1.length X1.1.length) (.slice (some ⟨c2, 0, none⟩) X1.2.1.length X1.2.1.length) (.slice (some ⟨d2, 0, none⟩) X1.2.2.length X1.2.2.length) _ := (by assumption); refine (HT0 _ (b7.trans (hcur.bel.mono b7.size))).mono ?_; rintro e wt ⟨⟨a3, c3, d3, rfl, u3, hx3⟩, hbt⟩; have hB : Hid (Bb w7 w.heap.size w5.heap.size qa qb qc (.slice (some ⟨a2, 0, none⟩) X1.1.length X1.1.length) (.slice (some ⟨c2, 0, none⟩) X1.2.1.length X1.2.1.length) (.slice (some ⟨d2, 0, none⟩) X1.2.2.length X1.2.2.length) wt) := Lib.hid (hcur.below hbt))
      | (go_at_call 14; have hcur : Bb w7 w.heap.size w5.heap.size qa qb qc (.slice (some ⟨a2, 0, none⟩) X1.1.length X1.1.length) (.slice (some ⟨c2, 0, none⟩) X1.2.1.length X1.2.1.length) (.slice (some ⟨d2, 0, none⟩) X1.2.2.length X1.2.2.length) _ := (by assumption); refine (eqB X1 _ _ _ _ _ _ _ (BfR.below hxc hcur.bel) (by assumption)).mono ?_; rintro e w8 ⟨rfl, hbt2⟩; have hB2 : Hid (Bb w7 w.heap.size w5.heap.size qa qb qc (.slice (some ⟨a2, 0, none⟩) X1.1.length X1.1.length) (.slice (some ⟨c2, 0, none⟩) X1.2.1.length X1.2.1.length) (.slice (some ⟨d2, 0, none⟩) X1.2.2.length X1.2.2.length) w8) := Lib.hid (hcur.below hbt2); have hb8 := (Hid.out hB2).bel))
  all_goals
    have b8 := b7.trans (hb8.mono b7.size)
    go_wp2
    go_ret
    exact ⟨rfl, b8⟩
end Go.Proofs.Ytjfkkmfbgmejbaa
