/- The law on RaiseOption, walked from the contracts of its two calls. -/
import Derived.Test.YtnpolmanebmmcaaRa3
namespace Go.Proofs.Ytnpolmanebmmcaa
open Go.ChangeShapes Go.WideShapes Go.ChangeAt Go.RowKit Go.Deep
set_option linter.unusedSimpArgs false
set_option linter.unusedVariables false
set_option maxHeartbeats 2000000 in
set_option maxRecDepth 100000 in
theorem lawRaiseOption (v0 : Value) (X0 : Pr) (n1 : Int) (n2 : Int) (w : World) (h0 : ListR w v0 X0) (rm0 : RoomR X0) (wf1 : (Lit.int .i64 n1).wf = true) (wf2 : (Lit.int .i64 n2).wf = true) :
    Calls Try.prog 6 #[v0, .int .i64 n1, .int .i64 n2] w fun e w' => e = .returned (.bool true) ∧ Below w.heap.size w w' := by
  obtain ⟨qa0, qc0, rfl, hqa0, hqc0⟩ := h0
  have h0 : ListR w (.agg #[qa0, qc0]) X0 := ⟨_, _, rfl, hqa0, hqc0⟩
  clear hqa0 hqc0
  obtain ⟨⟨r0, r1⟩, hm⟩ : ∃ p, mRa X0 n1 n2 = p := ⟨_, rfl⟩
  have HS : ∀ w' lo0 hi0 u0 (c0 : CpR w' lo0 hi0 u0 X0), Calls Try.prog 26 #[u0, .int .i64 n1, .int .i64 n2] w' (PRb (r0, r1) w') := fun w' lo0 hi0 u0 c0 => by have q := sRa X0 n1 n2 w' lo0 hi0 u0 c0 wf1 wf2; rw [hm] at q; exact q
  have HI : ∀ w' lo0 hi0 u0 (c0 : CpR w' lo0 hi0 u0 X0), Calls Try.prog 27 #[u0, .int .i64 n1, .int .i64 n2] w' (QRb (r0, r1) w') := fun w' lo0 hi0 u0 c0 => by have q := iRa X0 n1 n2 w' lo0 hi0 u0 c0 wf1 wf2; rw [hm] at q; exact q
  clear hm
  have ba := (Below.refl w.heap.size w).alloc (Nat.le_refl _) (.cells #[qa0, qc0] 25)
  have HZ := szPr _ X0 _ (h0.below ba) rm0
  have hpa : PrAt _ w.heap.size qa0 qc0 := pr_atL w qa0 qc0
  go_enter Try.func6, Try.ntmps6
  have s1 := ba.size
  have b1 := ba
  have t1 := b1.size
  go_wp2_with fail
  refine HZ.mono ?_
  rintro e w2 ⟨⟨r, rfl, z1, z2, z3⟩, hb2⟩
  have Z3 := Lib.hid z3
  clear z3
  have s2 := hb2.size
  have b2 := b1.trans (hb2.mono b1.size)
  have t2 := b2.size
  by_cases hneg : r < 0
  · go_wp2
    go_ret
    exact ⟨rfl, b2⟩
  have hf := Z3.out (by omega)
  clear HZ Z3
  have HT0 := fun w' (hw : Below w.heap.size w w') => toCpR _ X0 w' (h0.below hw) hf
  have hz := (hpa.below hb2)
  obtain ⟨pc1, pd1, pl1⟩ := hz
  go_wp2_with fail
  refine (HT0 _ b2).mono ?_
  rintro e w3 ⟨x1, rfl, hx1, hb3⟩
  have s3 := hb3.size
  have b3 := b2.trans (hb3.mono b2.size)
  have t3 := b3.size
  go_wp2_with fail
  refine (HS _ _ _ _ hx1).mono ?_
  intro e w4 hp
  obtain ⟨ws0a, ws0c, rfl, hws0, hb4⟩ := hp.out
  have s4 := hb4.size
  have b4 := b3.trans (hb4.mono b3.size)
  have t4 := b4.size
  obtain ⟨ws0aa, ws0ac, ws0ca, ws0cc, rfl, rfl⟩ := hws0.shape
  have bfws0 := (Below.refl w4.heap.size w4).alloc (Nat.le_refl _) (.cells #[.slice ws0aa r0.1.length ws0ac, .slice ws0ca r0.2.length ws0cc] 28)
  have hfws0 : PrAt _ w4.heap.size (.slice ws0aa r0.1.length ws0ac) (.slice ws0ca r0.2.length ws0cc) := pr_at w4 _ _
  have esws0 := World.size_alloc w4 (.cells #[.slice ws0aa r0.1.length ws0ac, .slice ws0ca r0.2.length ws0cc] 28)
  have s5 := bfws0.size
  have b5 := b4.trans (bfws0.mono b4.size)
  have t5 := b5.size
  have hz := ((((hpa.below hb2).below hb3).below hb4).below bfws0)
  obtain ⟨pc2, pd2, pl2⟩ := hz
  go_wp2_with fail
  refine (HT0 _ b5).mono ?_
  rintro e w6 ⟨x2, rfl, hx2, hb6⟩
  have s6 := hb6.size
  have b6 := b5.trans (hb6.mono b5.size)
  have t6 := b6.size
  obtain ⟨bx, cx, rfl, u1, u2⟩ := hx2
  have hx2 : CpR w6 _ _ (.agg #[.slice (some ⟨bx, 0, none⟩) X0.1.length X0.1.length, .slice (some ⟨cx, 0, none⟩) X0.2.length X0.2.length]) X0 := ⟨bx, cx, rfl, u1, u2⟩
  have hxr := u2
  have bal := (Below.refl w6.heap.size w6).alloc (Nat.le_refl _) (.cells #[.slice (some ⟨bx, 0, none⟩) X0.1.length X0.1.length, .slice (some ⟨cx, 0, none⟩) X0.2.length X0.2.length] 28)
  have hpx : PrAt _ w6.heap.size (.slice (some ⟨bx, 0, none⟩) X0.1.length X0.1.length) (.slice (some ⟨cx, 0, none⟩) X0.2.length X0.2.length) := pr_at _ _ _
  clear u1 u2
  have espx := World.size_alloc w6 (.cells #[.slice (some ⟨bx, 0, none⟩) X0.1.length X0.1.length, .slice (some ⟨cx, 0, none⟩) X0.2.length X0.2.length] 28)
  have s7 := bal.size
  have b7 := b6.trans (bal.mono b6.size)
  have t7 := b7.size
  have hz := hpx
  obtain ⟨pc3, pd3, pl3⟩ := hz
  go_wp2_with fail
  refine (HI _ _ _ _ (hx2.below bal)).mono ?_
  intro e w8 hp
  obtain ⟨gi0a, gi0c, rfl, hgi0, hb8⟩ := hp.out
  have s8 := hb8.size
  have b8 := b7.trans (hb8.mono b7.size)
  have t8 := b8.size
  obtain ⟨gi0aa, gi0ac, gi0ca, gi0cc, rfl, rfl⟩ := hgi0.shape
  have bfgi0 := (Below.refl w8.heap.size w8).alloc (Nat.le_refl _) (.cells #[.slice gi0aa r0.1.length gi0ac, .slice gi0ca r0.2.length gi0cc] 28)
  have hfgi0 : PrAt _ w8.heap.size (.slice gi0aa r0.1.length gi0ac) (.slice gi0ca r0.2.length gi0cc) := pr_at w8 _ _
  have esgi0 := World.size_alloc w8 (.cells #[.slice gi0aa r0.1.length gi0ac, .slice gi0ca r0.2.length gi0cc] 28)
  have s9 := bfgi0.size
  have b9 := b8.trans (bfgi0.mono b8.size)
  have t9 := b9.size
  have hz := hfgi0
  obtain ⟨pc4, pd4, pl4⟩ := hz
  have hz := ((((hfws0.below hb6).below bal).below hb8).below bfgi0)
  obtain ⟨pc5, pd5, pl5⟩ := hz
  go_wp2_with fail
  refine (eqRdR (hgi0.below bfgi0).rd (((((hws0.below bfws0).below hb6).below bal).below hb8).below bfgi0)).mono ?_
  rintro e w10 ⟨rfl, hb10⟩
  have s10 := hb10.size
  have b10 := b9.trans (hb10.mono b9.size)
  have t10 := b10.size
  have hz := (((((((((hpa.below hb2).below hb3).below hb4).below bfws0).below hb6).below bal).below hb8).below bfgi0).below hb10)
  have hpa10 := hz
  obtain ⟨ya0, ya1, ya3⟩ := hz
  have hz := (((hpx.below hb8).below bfgi0).below hb10)
  have hpx10 := hz
  obtain ⟨yx0, yx1, yx3⟩ := hz
  have hxc := ((((hxr.below bal).below hb8).below bfgi0).below hb10)
  have bs10 : Hid (Br w10 w.heap.size w6.heap.size qa0 qc0 (.slice (some ⟨bx, 0, none⟩) X0.1.length X0.1.length) (.slice (some ⟨cx, 0, none⟩) X0.2.length X0.2.length) w10) := Lib.hid (Br.start hpa10 hpx10)
  go_wp2_with fail
  go_region_held3 (fun w' => w'.cell? ⟨w.heap.size, 0, none⟩ = some qa0 ∧ w'.cell? ⟨w.heap.size, 1, none⟩ = some qc0 ∧ w'.cell? ⟨w6.heap.size, 0, none⟩ = some (.slice (some ⟨bx, 0, none⟩) X0.1.length X0.1.length) ∧ w'.cell? ⟨w6.heap.size, 1, none⟩ = some (.slice (some ⟨cx, 0, none⟩) X0.2.length X0.2.length) ∧ Hid (Below w10.heap.size w10 w'))
    (first | exact (Hid.out bs10).drew | exact Hid.out (by assumption))
    (first
      | (go_at_call 12; have hcur : Br w10 w.heap.size w6.heap.size qa0 qc0 (.slice (some ⟨bx, 0, none⟩) X0.1.length X0.1.length) (.slice (some ⟨cx, 0, none⟩) X0.2.length X0.2.length) _ := (by assumption); refine (HT0 _ (b10.trans (hcur.bel.mono b10.size))).mono ?_; rintro e wt ⟨x3, rfl, hx3, hbt⟩; obtain ⟨b3, c3, rfl, y1, y2⟩ := hx3; have hB : Hid (Br w10 w.heap.size w6.heap.size qa0 qc0 (.slice (some ⟨bx, 0, none⟩) X0.1.length X0.1.length) (.slice (some ⟨cx, 0, none⟩) X0.2.length X0.2.length) wt) := Lib.hid (hcur.below hbt))
      | (go_at_call 14; have hcur : Br w10 w.heap.size w6.heap.size qa0 qc0 (.slice (some ⟨bx, 0, none⟩) X0.1.length X0.1.length) (.slice (some ⟨cx, 0, none⟩) X0.2.length X0.2.length) _ := (by assumption); refine (eqR X0 _ _ _ _ _ _ _ (RfR.below hxc hcur.bel) (by assumption)).mono ?_; rintro e w11 ⟨rfl, hbt2⟩; have hB2 : Hid (Br w10 w.heap.size w6.heap.size qa0 qc0 (.slice (some ⟨bx, 0, none⟩) X0.1.length X0.1.length) (.slice (some ⟨cx, 0, none⟩) X0.2.length X0.2.length) w11) := Lib.hid (hcur.below hbt2); have hb11 := (Hid.out hB2).bel))
  all_goals
    have s11 := hb11.size
    have b11 := b10.trans (hb11.mono b10.size)
    have t11 := b11.size
    have hz := ((((hpx.below hb8).below bfgi0).below hb10).below hb11)
    obtain ⟨pc6, pd6, pl6⟩ := hz
    go_wp2_with fail
    refine (markCpR (((((hx2.below bal).below hb8).below bfgi0).below hb10).below hb11)).mono ?_
    rintro e w12 ⟨⟨k0, rfl, kq0, kp0⟩, hk12⟩
    have s12 := hk12.size
    have b12 := b11.trans (hk12.below t11 (fun x hx => by omega))
    have t12 := b12.size
    have hz := (((hfgi0.below hb10).below hb11).kept hk12 (fun b h1 h2 h3 => by omega))
    obtain ⟨pc7, pd7, pl7⟩ := hz
    have hz := (((((((hfws0.below hb6).below bal).below hb8).below bfgi0).below hb10).below hb11).kept hk12 (fun b h1 h2 h3 => by omega))
    obtain ⟨pc8, pd8, pl8⟩ := hz
    go_wp2_with fail
    refine (eqRdR ((((hgi0.below bfgi0).below hb10).below hb11).kept hk12 (fun b h1 h2 h3 => by omega)).rd ((((((((hws0.below bfws0).below hb6).below bal).below hb8).below bfgi0).below hb10).below hb11).kept hk12 (fun b h1 h2 h3 => by omega))).mono ?_
    rintro e w13 ⟨rfl, hb13⟩
    have s13 := hb13.size
    have b13 := b12.trans (hb13.mono b12.size)
    have t13 := b13.size
    have hz := ((((hfgi0.below hb10).below hb11).kept hk12 (fun b h1 h2 h3 => by omega)).below hb13)
    obtain ⟨pc9, pd9, pl9⟩ := hz
    go_wp2_with fail
    refine (markOwR 1 (((((hgi0.below bfgi0).below hb10).below hb11).kept hk12 (fun b h1 h2 h3 => by omega)).below hb13) (by omega) (by omega) (by omega)).mono ?_
    rintro e w14 ⟨⟨m0, rfl, mq0, mp0, hmk0⟩, hk14⟩
    have s14 := hk14.size
    have b14 := b13.trans (hk14.below t13 (fun x hx => by omega))
    have t14 := b14.size
    have hz := (((((hfgi0.below hb10).below hb11).kept hk12 (fun b h1 h2 h3 => by omega)).below hb13).kept hk14 (fun b h1 h2 h3 => by omega))
    obtain ⟨pc10, pd10, pl10⟩ := hz
    go_wp2_with fail
    refine (heldMkR hmk0 (by omega) (by omega)).mono ?_
    rintro e w15 ⟨rfl, hb15⟩
    have s15 := hb15.size
    have b15 := b14.trans (hb15.mono b14.size)
    have t15 := b15.size
    have hz := ((((((((((((((hpa.below hb2).below hb3).below hb4).below bfws0).below hb6).below bal).below hb8).below bfgi0).below hb10).below hb11).kept hk12 (fun b h1 h2 h3 => by omega)).below hb13).kept hk14 (fun b h1 h2 h3 => by omega)).below hb15)
    obtain ⟨pc11, pd11, pl11⟩ := hz
    go_wp2_with fail
    refine (HT0 _ b15).mono ?_
    rintro e w16 ⟨x3, rfl, hx3, hb16⟩
    have s16 := hb16.size
    have b16 := b15.trans (hb16.mono b15.size)
    have t16 := b16.size
    go_wp2_with fail
    refine (HI _ _ _ _ hx3).mono ?_
    intro e w17 hp
    obtain ⟨hi0a, hi0c, rfl, hhi0, hb17⟩ := hp.out
    have s17 := hb17.size
    have b17 := b16.trans (hb17.mono b16.size)
    have t17 := b17.size
    obtain ⟨hi0aa, hi0ac, hi0ca, hi0cc, rfl, rfl⟩ := hhi0.shape
    have bfhi0 := (Below.refl w17.heap.size w17).alloc (Nat.le_refl _) (.cells #[.slice hi0aa r0.1.length hi0ac, .slice hi0ca r0.2.length hi0cc] 28)
    have hfhi0 : PrAt _ w17.heap.size (.slice hi0aa r0.1.length hi0ac) (.slice hi0ca r0.2.length hi0cc) := pr_at w17 _ _
    have eshi0 := World.size_alloc w17 (.cells #[.slice hi0aa r0.1.length hi0ac, .slice hi0ca r0.2.length hi0cc] 28)
    have s18 := bfhi0.size
    have b18 := b17.trans (bfhi0.mono b17.size)
    have t18 := b18.size
    have hz := hfhi0
    obtain ⟨pc12, pd12, pl12⟩ := hz
    have hz := (((((((((((((hfws0.below hb6).below bal).below hb8).below bfgi0).below hb10).below hb11).kept hk12 (fun b h1 h2 h3 => by omega)).below hb13).kept hk14 (fun b h1 h2 h3 => by omega)).below hb15).below hb16).below hb17).below bfhi0)
    obtain ⟨pc13, pd13, pl13⟩ := hz
    go_wp2_with fail
    refine (eqRdR (hhi0.below bfhi0).rd ((((((((((((((hws0.below bfws0).below hb6).below bal).below hb8).below bfgi0).below hb10).below hb11).kept hk12 (fun b h1 h2 h3 => by omega)).below hb13).kept hk14 (fun b h1 h2 h3 => by omega)).below hb15).below hb16).below hb17).below bfhi0)).mono ?_
    rintro e w19 ⟨rfl, hb19⟩
    have s19 := hb19.size
    have b19 := b18.trans (hb19.mono b18.size)
    have t19 := b19.size
    have hz := ((((((((((hfgi0.below hb10).below hb11).kept hk12 (fun b h1 h2 h3 => by omega)).below hb13).kept hk14 (fun b h1 h2 h3 => by omega)).below hb15).below hb16).below hb17).below bfhi0).below hb19)
    obtain ⟨pc14, pd14, pl14⟩ := hz
    go_wp2_with fail
    refine (heldMkR (((((hmk0.below hb15).below hb16).below hb17).below bfhi0).below hb19) (by omega) (by omega)).mono ?_
    rintro e w20 ⟨rfl, hb20⟩
    have s20 := hb20.size
    have b20 := b19.trans (hb20.mono b19.size)
    have t20 := b20.size
    go_wp2
    go_ret
    exact ⟨rfl, b20⟩
end Go.Proofs.Ytnpolmanebmmcaa
