/- The law on BordaScores, walked from the contracts of its two calls. -/
import Derived.Test.YtnpolmanebmmcaaBo2
namespace Go.Proofs.Ytnpolmanebmmcaa
open Go.ChangeShapes Go.WideShapes Go.ChangeAt Go.RowKit Go.Deep
set_option linter.unusedSimpArgs false
set_option linter.unusedVariables false
set_option maxHeartbeats 2000000 in
set_option maxRecDepth 100000 in
theorem lawBordaScores (v0 : Value) (X0 : Pr) (w : World) (h0 : ListR w v0 X0) (rm0 : RoomR X0) :
    Calls Try.prog 5 #[v0] w fun e w' => e = .returned (.bool true) ∧ Below w.heap.size w w' := by
  obtain ⟨qa0, qc0, rfl, hqa0, hqc0⟩ := h0
  have h0 : ListR w (.agg #[qa0, qc0]) X0 := ⟨_, _, rfl, hqa0, hqc0⟩
  clear hqa0 hqc0
  obtain ⟨⟨r0, r1⟩, hm⟩ : ∃ p, mBo X0 = p := ⟨_, rfl⟩
  have HS : ∀ w' lo0 hi0 u0 (c0 : CpR w' lo0 hi0 u0 X0), Calls Try.prog 21 #[u0] w' (PIb (r0, r1) w') := fun w' lo0 hi0 u0 c0 => by have q := sBo X0 w' lo0 hi0 u0 c0; rw [hm] at q; exact q
  have HI : ∀ w' lo0 hi0 u0 (c0 : CpR w' lo0 hi0 u0 X0), Calls Try.prog 22 #[u0] w' (QIb (r0, r1) w') := fun w' lo0 hi0 u0 c0 => by have q := iBo X0 w' lo0 hi0 u0 c0; rw [hm] at q; exact q
  clear hm
  have ba := (Below.refl w.heap.size w).alloc (Nat.le_refl _) (.cells #[qa0, qc0] 25)
  have HZ := szPr _ X0 _ (h0.below ba) rm0
  have hpa : PrAt _ w.heap.size qa0 qc0 := pr_atL w qa0 qc0
  go_enter Try.func5, Try.ntmps5
  have s1 := ba.size
  have b1 := ba
  have t1 := b1.size
  go_wp2_with fail
  refine HZ.mono ?_
  rintro e w2 ⟨⟨r, rfl, z1, z2, z3⟩, hb2⟩
  have Z3 := Lib.hid z3
  clear z3
  have s2 := hb2.size
  have b2 := b1.trans (hb2.mono b1.size)
  have t2 := b2.size
  by_cases hneg : r < 0
  · go_wp2
    go_ret
    exact ⟨rfl, b2⟩
  have hf := Z3.out (by omega)
  clear HZ Z3
  have HT0 := fun w' (hw : Below w.heap.size w w') => toCpR _ X0 w' (h0.below hw) hf
  have hz := (hpa.below hb2)
  obtain ⟨pc1, pd1, pl1⟩ := hz
  go_wp2_with fail
  refine (HT0 _ b2).mono ?_
  rintro e w3 ⟨x1, rfl, hx1, hb3⟩
  have s3 := hb3.size
  have b3 := b2.trans (hb3.mono b2.size)
  have t3 := b3.size
  go_wp2_with fail
  refine (HS _ _ _ _ hx1).mono ?_
  intro e w4 hp
  obtain ⟨ws0, rfl, hws0, hb4⟩ := hp.out
  have s4 := hb4.size
  have b4 := b3.trans (hb4.mono b3.size)
  have t4 := b4.size
  have hz := (((hpa.below hb2).below hb3).below hb4)
  obtain ⟨pc2, pd2, pl2⟩ := hz
  go_wp2_with fail
  refine (HT0 _ b4).mono ?_
  rintro e w5 ⟨x2, rfl, hx2, hb5⟩
  have s5 := hb5.size
  have b5 := b4.trans (hb5.mono b4.size)
  have t5 := b5.size
  obtain ⟨bx, cx, rfl, u1, u2⟩ := hx2
  have hx2 : CpR w5 _ _ (.agg #[.slice (some ⟨bx, 0, none⟩) X0.1.length X0.1.length, .slice (some ⟨cx, 0, none⟩) X0.2.length X0.2.length]) X0 := ⟨bx, cx, rfl, u1, u2⟩
  have hxr := u2
  have bal := (Below.refl w5.heap.size w5).alloc (Nat.le_refl _) (.cells #[.slice (some ⟨bx, 0, none⟩) X0.1.length X0.1.length, .slice (some ⟨cx, 0, none⟩) X0.2.length X0.2.length] 28)
  have hpx : PrAt _ w5.heap.size (.slice (some ⟨bx, 0, none⟩) X0.1.length X0.1.length) (.slice (some ⟨cx, 0, none⟩) X0.2.length X0.2.length) := pr_at _ _ _
  clear u1 u2
  have s6 := bal.size
  have b6 := b5.trans (bal.mono b5.size)
  have t6 := b6.size
  have hz := hpx
  obtain ⟨pc3, pd3, pl3⟩ := hz
  go_wp2_with fail
  refine (HI _ _ _ _ (hx2.below bal)).mono ?_
  intro e w7 hp
  obtain ⟨gi0, rfl, hgi0, hb7⟩ := hp.out
  have s7 := hb7.size
  have b7 := b6.trans (hb7.mono b6.size)
  have t7 := b7.size
  go_wp2_with fail
  refine (eqRdI hgi0.rd (((hws0.below hb5).below bal).below hb7)).mono ?_
  rintro e w8 ⟨rfl, hb8⟩
  have s8 := hb8.size
  have b8 := b7.trans (hb8.mono b7.size)
  have t8 := b8.size
  have hz := (((((((hpa.below hb2).below hb3).below hb4).below hb5).below bal).below hb7).below hb8)
  have hpa8 := hz
  obtain ⟨ya0, ya1, ya3⟩ := hz
  have hz := ((hpx.below hb7).below hb8)
  have hpx8 := hz
  obtain ⟨yx0, yx1, yx3⟩ := hz
  have hxc := (((hxr.below bal).below hb7).below hb8)
  have bs8 : Hid (Br w8 w.heap.size w5.heap.size qa0 qc0 (.slice (some ⟨bx, 0, none⟩) X0.1.length X0.1.length) (.slice (some ⟨cx, 0, none⟩) X0.2.length X0.2.length) w8) := Lib.hid (Br.start hpa8 hpx8)
  go_wp2_with fail
  go_region_held3 (fun w' => w'.cell? ⟨w.heap.size, 0, none⟩ = some qa0 ∧ w'.cell? ⟨w.heap.size, 1, none⟩ = some qc0 ∧ w'.cell? ⟨w5.heap.size, 0, none⟩ = some (.slice (some ⟨bx, 0, none⟩) X0.1.length X0.1.length) ∧ w'.cell? ⟨w5.heap.size, 1, none⟩ = some (.slice (some ⟨cx, 0, none⟩) X0.2.length X0.2.length) ∧ Hid (Below w8.heap.size w8 w'))
    (first | exact (Hid.out bs8).drew | exact Hid.out (by assumption))
    (first
      | (go_at_call 12; have hcur : Br w8 w.heap.size w5.heap.size qa0 qc0 (.slice (some ⟨bx, 0, none⟩) X0.1.length X0.1.length) (.slice (some ⟨cx, 0, none⟩) X0.2.length X0.2.length) _ := (by assumption); refine (HT0 _ (b8.trans (hcur.bel.mono b8.size))).mono ?_; rintro e wt ⟨x3, rfl, hx3, hbt⟩; obtain ⟨b3, c3, rfl, y1, y2⟩ := hx3; have hB : Hid (Br w8 w.heap.size w5.heap.size qa0 qc0 (.slice (some ⟨bx, 0, none⟩) X0.1.length X0.1.length) (.slice (some ⟨cx, 0, none⟩) X0.2.length X0.2.length) wt) := Lib.hid (hcur.below hbt))
      | (go_at_call 14; have hcur : Br w8 w.heap.size w5.heap.size qa0 qc0 (.slice (some ⟨bx, 0, none⟩) X0.1.length X0.1.length) (.slice (some ⟨cx, 0, none⟩) X0.2.length X0.2.length) _ := (by assumption); refine (eqR X0 _ _ _ _ _ _ _ (RfR.below hxc hcur.bel) (by assumption)).mono ?_; rintro e w9 ⟨rfl, hbt2⟩; have hB2 : Hid (Br w8 w.heap.size w5.heap.size qa0 qc0 (.slice (some ⟨bx, 0, none⟩) X0.1.length X0.1.length) (.slice (some ⟨cx, 0, none⟩) X0.2.length X0.2.length) w9) := Lib.hid (hcur.below hbt2); have hb9 := (Hid.out hB2).bel))
  all_goals
    have s9 := hb9.size
    have b9 := b8.trans (hb9.mono b8.size)
    have t9 := b9.size
    have hz := (((hpx.below hb7).below hb8).below hb9)
    obtain ⟨pc4, pd4, pl4⟩ := hz
    go_wp2_with fail
    refine (markCpR ((((hx2.below bal).below hb7).below hb8).below hb9)).mono ?_
    rintro e w10 ⟨⟨k0, rfl, kq0, kp0⟩, hk10⟩
    have s10 := hk10.size
    have b10 := b9.trans (hk10.below t9 (fun x hx => by omega))
    have t10 := b10.size
    go_wp2_with fail
    refine (eqRdI (((hgi0.below hb8).below hb9).kept hk10 (fun b h1 h2 h3 => by omega)).rd ((((((hws0.below hb5).below bal).below hb7).below hb8).below hb9).kept hk10 (fun b h1 h2 h3 => by omega))).mono ?_
    rintro e w11 ⟨rfl, hb11⟩
    have s11 := hb11.size
    have b11 := b10.trans (hb11.mono b10.size)
    have t11 := b11.size
    go_wp2_with fail
    refine (markOwI 1 ((((hgi0.below hb8).below hb9).kept hk10 (fun b h1 h2 h3 => by omega)).below hb11) (by omega) (by omega)).mono ?_
    rintro e w12 ⟨⟨m0, rfl, mq0, mp0, hmk0⟩, hk12⟩
    have s12 := hk12.size
    have b12 := b11.trans (hk12.below t11 (fun x hx => by omega))
    have t12 := b12.size
    go_wp2_with fail
    refine (heldMkI hmk0 (by omega) (by omega)).mono ?_
    rintro e wq ⟨rfl, rfl⟩
    have hz := (((((((((((hpa.below hb2).below hb3).below hb4).below hb5).below bal).below hb7).below hb8).below hb9).kept hk10 (fun b h1 h2 h3 => by omega)).below hb11).kept hk12 (fun b h1 h2 h3 => by omega))
    obtain ⟨pc5, pd5, pl5⟩ := hz
    go_wp2_with fail
    refine (HT0 _ b12).mono ?_
    rintro e w13 ⟨x3, rfl, hx3, hb13⟩
    have s13 := hb13.size
    have b13 := b12.trans (hb13.mono b12.size)
    have t13 := b13.size
    go_wp2_with fail
    refine (HI _ _ _ _ hx3).mono ?_
    intro e w14 hp
    obtain ⟨hi0, rfl, hhi0, hb14⟩ := hp.out
    have s14 := hb14.size
    have b14 := b13.trans (hb14.mono b13.size)
    have t14 := b14.size
    go_wp2_with fail
    refine (eqRdI hhi0.rd ((((((((((hws0.below hb5).below bal).below hb7).below hb8).below hb9).kept hk10 (fun b h1 h2 h3 => by omega)).below hb11).kept hk12 (fun b h1 h2 h3 => by omega)).below hb13).below hb14)).mono ?_
    rintro e w15 ⟨rfl, hb15⟩
    have s15 := hb15.size
    have b15 := b14.trans (hb15.mono b14.size)
    have t15 := b15.size
    go_wp2_with fail
    refine (heldMkI (((hmk0.below hb13).below hb14).below hb15) (by omega) (by omega)).mono ?_
    rintro e wq ⟨rfl, rfl⟩
    go_wp2
    go_ret
    exact ⟨rfl, b15⟩
end Go.Proofs.Ytnpolmanebmmcaa
