/- The law on ProfileText, walked from the contracts of its two calls. -/
import Derived.Test.YtnpolmanebmmcaaDoorPf3
namespace Go.Proofs.YtnpolmanebmmcaaDoor
open Go.ChangeShapes Go.WideShapes Go.ChangeAt Go.RowKit Go.Deep
set_option linter.unusedSimpArgs false
set_option linter.unusedVariables false
set_option maxHeartbeats 2000000 in
set_option maxRecDepth 100000 in
theorem lawProfileText (v0 : Value) (X0 : Pr) (w : World) (h0 : ListR w v0 X0) (rm0 : RoomR X0) (hg : PowT w) :
    Calls Tryd.prog 3 #[v0] w fun e w' => e = .returned (.bool true) ∧ Below w.heap.size w w' := by
  obtain ⟨qa0, qc0, rfl, hqa0, hqc0⟩ := h0
  have h0 : ListR w (.agg #[qa0, qc0]) X0 := ⟨_, _, rfl, hqa0, hqc0⟩
  clear hqa0 hqc0
  obtain ⟨⟨r0, r1⟩, hm⟩ : ∃ p, mPrText X0 = p := ⟨_, rfl⟩
  have HS : ∀ w' lo0 hi0 u0 (c0 : CpR w' lo0 hi0 u0 X0), Calls Tryd.prog 5 #[u0] w' (Psb (r0, r1) w') := fun w' lo0 hi0 u0 c0 => by have q := sPrText X0 w' lo0 hi0 u0 c0; rw [hm] at q; exact q
  have HI : ∀ w' lo0 hi0 u0 (c0 : CpR w' lo0 hi0 u0 X0) (hgx : PowT w'), Calls Tryd.prog 7 #[u0] w' (Qsb (r0, r1) w') := fun w' lo0 hi0 u0 c0 hgx => by have q := iPrText X0 w' lo0 hi0 u0 c0 hgx; rw [hm] at q; exact q
  clear hm
  have ba := (Below.refl w.heap.size w).alloc (Nat.le_refl _) (.cells #[qa0, qc0] 25)
  have HZ := szPr _ X0 _ (h0.below ba) rm0
  have hpa : PrAt _ w.heap.size qa0 qc0 := pr_atL w qa0 qc0
  go_enter Tryd.func3, Tryd.ntmps3
  have s1 := ba.size
  have b1 := ba
  have t1 := b1.size
  go_wp2_with fail
  refine HZ.mono ?_
  rintro e w2 ⟨⟨r, rfl, z1, z2, z3⟩, hb2⟩
  have Z3 := Lib.hid z3
  clear z3
  have s2 := hb2.size
  have b2 := b1.trans (hb2.mono b1.size)
  have t2 := b2.size
  by_cases hneg : r < 0
  · go_wp2
    go_ret
    exact ⟨rfl, b2⟩
  have hf := Z3.out (by omega)
  clear HZ Z3
  have HT0 := fun w' (hw : Below w.heap.size w w') => toCpR _ X0 w' (h0.below hw) hf
  have hz := (hpa.below hb2)
  obtain ⟨pc1, pd1, pl1⟩ := hz
  go_wp2_with fail
  refine (HT0 _ b2).mono ?_
  rintro e w3 ⟨x1, rfl, hx1, hb3⟩
  have s3 := hb3.size
  have b3 := b2.trans (hb3.mono b2.size)
  have t3 := b3.size
  go_wp2_with fail
  refine (HS _ _ _ _ hx1).mono ?_
  intro e w4 hp
  obtain ⟨rfl, hb4⟩ := hp.out
  have s4 := hb4.size
  have b4 := b3.trans (hb4.mono b3.size)
  have t4 := b4.size
  have hz := (((hpa.below hb2).below hb3).below hb4)
  obtain ⟨pc2, pd2, pl2⟩ := hz
  go_wp2_with fail
  refine (HT0 _ b4).mono ?_
  rintro e w5 ⟨x2, rfl, hx2, hb5⟩
  have s5 := hb5.size
  have b5 := b4.trans (hb5.mono b4.size)
  have t5 := b5.size
  obtain ⟨bx, cx, rfl, u1, u2⟩ := hx2
  have hx2 : CpR w5 _ _ (.agg #[.slice (some ⟨bx, 0, none⟩) X0.1.length X0.1.length, .slice (some ⟨cx, 0, none⟩) X0.2.length X0.2.length]) X0 := ⟨bx, cx, rfl, u1, u2⟩
  have hxr := u2
  have bal := (Below.refl w5.heap.size w5).alloc (Nat.le_refl _) (.cells #[.slice (some ⟨bx, 0, none⟩) X0.1.length X0.1.length, .slice (some ⟨cx, 0, none⟩) X0.2.length X0.2.length] 29)
  have hpx : PrAt _ w5.heap.size (.slice (some ⟨bx, 0, none⟩) X0.1.length X0.1.length) (.slice (some ⟨cx, 0, none⟩) X0.2.length X0.2.length) := pr_at _ _ _
  clear u1 u2
  have espx := World.size_alloc w5 (.cells #[.slice (some ⟨bx, 0, none⟩) X0.1.length X0.1.length, .slice (some ⟨cx, 0, none⟩) X0.2.length X0.2.length] 29)
  have s6 := bal.size
  have b6 := b5.trans (bal.mono b5.size)
  have t6 := b6.size
  have hz := hpx
  obtain ⟨pc3, pd3, pl3⟩ := hz
  go_wp2_with fail
  refine (HI _ _ _ _ (hx2.below bal) (hg.below b6)).mono ?_
  intro e w7 hp
  obtain ⟨rfl, hb7⟩ := hp.out
  have s7 := hb7.size
  have b7 := b6.trans (hb7.mono b6.size)
  have t7 := b7.size
  have hz := ((((((hpa.below hb2).below hb3).below hb4).below hb5).below bal).below hb7)
  have hpa7 := hz
  obtain ⟨ya0, ya1, ya3⟩ := hz
  have hz := (hpx.below hb7)
  have hpx7 := hz
  obtain ⟨yx0, yx1, yx3⟩ := hz
  have hxc := ((hxr.below bal).below hb7)
  have bs7 : Hid (Br w7 w.heap.size w5.heap.size qa0 qc0 (.slice (some ⟨bx, 0, none⟩) X0.1.length X0.1.length) (.slice (some ⟨cx, 0, none⟩) X0.2.length X0.2.length) w7) := Lib.hid (Br.start hpa7 hpx7)
  go_wp2_with fail
  go_region_held3 (fun w' => w'.cell? ⟨w.heap.size, 0, none⟩ = some qa0 ∧ w'.cell? ⟨w.heap.size, 1, none⟩ = some qc0 ∧ w'.cell? ⟨w5.heap.size, 0, none⟩ = some (.slice (some ⟨bx, 0, none⟩) X0.1.length X0.1.length) ∧ w'.cell? ⟨w5.heap.size, 1, none⟩ = some (.slice (some ⟨cx, 0, none⟩) X0.2.length X0.2.length) ∧ Hid (Below w7.heap.size w7 w'))
    (first | exact (Hid.out bs7).drew | exact Hid.out (by assumption))
    (first
      | (go_at_call 6; have hcur : Br w7 w.heap.size w5.heap.size qa0 qc0 (.slice (some ⟨bx, 0, none⟩) X0.1.length X0.1.length) (.slice (some ⟨cx, 0, none⟩) X0.2.length X0.2.length) _ := (by assumption); refine (HT0 _ (b7.trans (hcur.bel.mono b7.size))).mono ?_; rintro e wt ⟨x3, rfl, hx3, hbt⟩; obtain ⟨b3, c3, rfl, y1, y2⟩ := hx3; have hB : Hid (Br w7 w.heap.size w5.heap.size qa0 qc0 (.slice (some ⟨bx, 0, none⟩) X0.1.length X0.1.length) (.slice (some ⟨cx, 0, none⟩) X0.2.length X0.2.length) wt) := Lib.hid (hcur.below hbt))
      | (go_at_call 8; have hcur : Br w7 w.heap.size w5.heap.size qa0 qc0 (.slice (some ⟨bx, 0, none⟩) X0.1.length X0.1.length) (.slice (some ⟨cx, 0, none⟩) X0.2.length X0.2.length) _ := (by assumption); refine (eqR X0 _ _ _ _ _ _ _ (RfR.below hxc hcur.bel) (by assumption)).mono ?_; rintro e w8 ⟨rfl, hbt2⟩; have hB2 : Hid (Br w7 w.heap.size w5.heap.size qa0 qc0 (.slice (some ⟨bx, 0, none⟩) X0.1.length X0.1.length) (.slice (some ⟨cx, 0, none⟩) X0.2.length X0.2.length) w8) := Lib.hid (hcur.below hbt2); have hb8 := (Hid.out hB2).bel))
  all_goals
    have s8 := hb8.size
    have b8 := b7.trans (hb8.mono b7.size)
    have t8 := b8.size
    go_wp2
    go_ret
    exact ⟨rfl, b8⟩
end Go.Proofs.YtnpolmanebmmcaaDoor
