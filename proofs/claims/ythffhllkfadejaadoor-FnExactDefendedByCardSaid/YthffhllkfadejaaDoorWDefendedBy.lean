/- The law on DefendedBy, walked from the contracts of its two calls. -/
import Derived.Test.YthffhllkfadejaaDoorGa4
namespace Go.Proofs.YthffhllkfadejaaDoor
open Go.ChangeShapes Go.WideShapes Go.ChangeAt Go.RowKit Go.Deep
set_option linter.unusedSimpArgs false
set_option linter.unusedVariables false
set_option maxHeartbeats 2000000 in
set_option maxRecDepth 100000 in
theorem lawDefendedBy (v0 : Value) (X0 : Fm) (v1 : Value) (X1 : List Int) (w : World) (h0 : ListG w v0 X0) (rm0 : RoomG X0) (h1 : RowV w v1 X1) (ln1 : X1.length ≤ 9223372036854775807) (wf1 : ∀ n ∈ X1, (Lit.int .i64 n).wf = true) (hg : DBT w) :
    Calls Tryd.prog 4 #[v0, v1] w fun e w' => e = .returned (.bool true) ∧ Below w.heap.size w w' := by
  obtain ⟨qa0, rfl, hqa0⟩ := h0
  have h0 : ListG w (.agg #[.int .i64 X0.1, qa0]) X0 := ⟨_, rfl, hqa0⟩
  clear hqa0
  obtain ⟨va1, vc1, hv1⟩ := h1.shape
  by_cases hlong1 : 1048576 < X1.length
  · subst hv1
    clear h0 h1
    go_enter Tryd.func4, Tryd.ntmps4
    go_wp2
    go_ret
    first | exact ⟨rfl, Below.refl _ _⟩ | exact ⟨rfl, (Below.refl _ _).alloc (Nat.le_refl _) _⟩
  have fit1 : X1.length ≤ 1048576 := by omega
  have HT1 := fun w' (hw : Below w.heap.size w w') => toCpI v1 X1 w' (h1.below hw) fit1
  subst hv1
  clear h1
  obtain ⟨⟨r0, r1⟩, hm⟩ : ∃ p, mDef X0 X1 = p := ⟨_, rfl⟩
  have HS : ∀ w' lo0 hi0 u0 (c0 : CpG w' lo0 hi0 u0 X0) lo1 hi1 u1 (c1 : CpI w' lo1 hi1 u1 X1), Calls Tryd.prog 17 #[u0, u1] w' (PIb (r0, r1) w') := fun w' lo0 hi0 u0 c0 lo1 hi1 u1 c1 => by have q := sDef X0 X1 w' lo0 hi0 u0 c0 lo1 hi1 u1 c1; rw [hm] at q; exact q
  have HI : ∀ w' lo0 hi0 u0 (c0 : CpG w' lo0 hi0 u0 X0) lo1 hi1 u1 (c1 : CpI w' lo1 hi1 u1 X1) (hgx : DBT w'), Calls Tryd.prog 19 #[u0, u1] w' (QIb (r0, r1) w') := fun w' lo0 hi0 u0 c0 lo1 hi1 u1 c1 hgx => by have q := iDef X0 X1 w' lo0 hi0 u0 c0 lo1 hi1 u1 c1 hgx; rw [hm] at q; exact q
  clear hm
  have ba := (Below.refl w.heap.size w).alloc (Nat.le_refl _) (.cells #[.int .i64 X0.1, qa0] 24)
  have HZ := szFr _ X0 _ (h0.below ba) rm0
  have hpa : FmAt _ w.heap.size X0.1 qa0 := fm_atL w X0.1 qa0
  go_enter Tryd.func4, Tryd.ntmps4
  have s1 := ba.size
  have b1 := ba
  have t1 := b1.size
  go_wp2_with fail
  refine HZ.mono ?_
  rintro e w2 ⟨⟨r, rfl, z1, z2, z3⟩, hb2⟩
  have Z3 := Lib.hid z3
  clear z3
  have s2 := hb2.size
  have b2 := b1.trans (hb2.mono b1.size)
  have t2 := b2.size
  by_cases hneg : r < 0
  · go_wp2
    go_ret
    exact ⟨rfl, b2⟩
  have hf := Z3.out (by omega)
  clear HZ Z3
  have HT0 := fun w' (hw : Below w.heap.size w w') => toCpG _ X0 w' (h0.below hw) hf
  have hz := (hpa.below hb2)
  obtain ⟨pc1, pd1, pl1⟩ := hz
  go_wp2_with fail
  refine (HT0 _ b2).mono ?_
  rintro e w3 ⟨x1, rfl, hx1, hb3⟩
  have s3 := hb3.size
  have b3 := b2.trans (hb3.mono b2.size)
  have t3 := b3.size
  go_wp2_with fail
  refine (HT1 _ b3).mono ?_
  rintro e w4 ⟨x2, rfl, hx2, hb4⟩
  have s4 := hb4.size
  have b4 := b3.trans (hb4.mono b3.size)
  have t4 := b4.size
  go_wp2_with fail
  refine (HS _ _ _ _ (hx1.below hb4) _ _ _ hx2).mono ?_
  intro e w5 hp
  obtain ⟨ws0, rfl, hws0, hb5⟩ := hp.out
  have s5 := hb5.size
  have b5 := b4.trans (hb5.mono b4.size)
  have t5 := b5.size
  have hz := ((((hpa.below hb2).below hb3).below hb4).below hb5)
  obtain ⟨pc2, pd2, pl2⟩ := hz
  go_wp2_with fail
  refine (HT0 _ b5).mono ?_
  rintro e w6 ⟨x3, rfl, hx3, hb6⟩
  have s6 := hb6.size
  have b6 := b5.trans (hb6.mono b5.size)
  have t6 := b6.size
  obtain ⟨bx, rfl, u1, u2⟩ := hx3
  have hx3 : CpG w6 _ _ (.agg #[.int .i64 X0.1, .slice (some ⟨bx, 0, none⟩) X0.2.length X0.2.length]) X0 := ⟨bx, rfl, u1, u2⟩
  have hxr := u2
  have bal := (Below.refl w6.heap.size w6).alloc (Nat.le_refl _) (.cells #[.int .i64 X0.1, .slice (some ⟨bx, 0, none⟩) X0.2.length X0.2.length] 29)
  have hpx : FmAt _ w6.heap.size X0.1 (.slice (some ⟨bx, 0, none⟩) X0.2.length X0.2.length) := fm_at _ _ _
  clear u1 u2
  have espx := World.size_alloc w6 (.cells #[.int .i64 X0.1, .slice (some ⟨bx, 0, none⟩) X0.2.length X0.2.length] 29)
  have s7 := bal.size
  have b7 := b6.trans (bal.mono b6.size)
  have t7 := b7.size
  go_wp2_with fail
  refine (HT1 _ b7).mono ?_
  rintro e w8 ⟨x4, rfl, hx4, hb8⟩
  have s8 := hb8.size
  have b8 := b7.trans (hb8.mono b7.size)
  have t8 := b8.size
  have hz := (hpx.below hb8)
  obtain ⟨pc3, pd3, pl3⟩ := hz
  go_wp2_with fail
  refine (HI _ _ _ _ ((hx3.below bal).below hb8) _ _ _ hx4 (hg.below b8)).mono ?_
  intro e w9 hp
  obtain ⟨gi0, rfl, hgi0, hb9⟩ := hp.out
  have s9 := hb9.size
  have b9 := b8.trans (hb9.mono b8.size)
  have t9 := b9.size
  go_wp2_with fail
  refine (eqRdI hgi0.rd ((((hws0.below hb6).below bal).below hb8).below hb9)).mono ?_
  rintro e w10 ⟨rfl, hb10⟩
  have s10 := hb10.size
  have b10 := b9.trans (hb10.mono b9.size)
  have t10 := b10.size
  have hz := (((((((((hpa.below hb2).below hb3).below hb4).below hb5).below hb6).below bal).below hb8).below hb9).below hb10)
  have hpa10 := hz
  obtain ⟨ya0, ya1, ya3⟩ := hz
  have hz := (((hpx.below hb8).below hb9).below hb10)
  have hpx10 := hz
  obtain ⟨yx0, yx1, yx3⟩ := hz
  have hxc := ((((hxr.below bal).below hb8).below hb9).below hb10)
  have bs10 : Hid (Bg w10 w.heap.size w6.heap.size X0.1 qa0 (.slice (some ⟨bx, 0, none⟩) X0.2.length X0.2.length) w10) := Lib.hid (Bg.start hpa10 hpx10)
  go_wp2_with fail
  go_region_held3 (fun w' => w'.cell? ⟨w.heap.size, 0, none⟩ = some (.int .i64 X0.1) ∧ w'.cell? ⟨w.heap.size, 1, none⟩ = some qa0 ∧ w'.cell? ⟨w6.heap.size, 0, none⟩ = some (.int .i64 X0.1) ∧ w'.cell? ⟨w6.heap.size, 1, none⟩ = some (.slice (some ⟨bx, 0, none⟩) X0.2.length X0.2.length) ∧ Hid (Below w10.heap.size w10 w'))
    (first | exact (Hid.out bs10).drew | exact Hid.out (by assumption))
    (first
      | (go_at_call 10; have hcur : Bg w10 w.heap.size w6.heap.size X0.1 qa0 (.slice (some ⟨bx, 0, none⟩) X0.2.length X0.2.length) _ := (by assumption); refine (HT0 _ (b10.trans (hcur.bel.mono b10.size))).mono ?_; rintro e wt ⟨x3, rfl, hx3, hbt⟩; obtain ⟨b3, rfl, y1, y2⟩ := hx3; have hB : Hid (Bg w10 w.heap.size w6.heap.size X0.1 qa0 (.slice (some ⟨bx, 0, none⟩) X0.2.length X0.2.length) wt) := Lib.hid (hcur.below hbt))
      | (go_at_call 13; have hcur : Bg w10 w.heap.size w6.heap.size X0.1 qa0 (.slice (some ⟨bx, 0, none⟩) X0.2.length X0.2.length) _ := (by assumption); refine (eqG X0 _ _ _ _ _ (FmR.below hxc hcur.bel) (by assumption)).mono ?_; rintro e w11 ⟨rfl, hbt2⟩; have hB2 : Hid (Bg w10 w.heap.size w6.heap.size X0.1 qa0 (.slice (some ⟨bx, 0, none⟩) X0.2.length X0.2.length) w11) := Lib.hid (hcur.below hbt2); have hb11 := (Hid.out hB2).bel))
  all_goals
    have s11 := hb11.size
    have b11 := b10.trans (hb11.mono b10.size)
    have t11 := b11.size
    go_wp2_with fail
    refine (HT1 _ b11).mono ?_
    rintro e w12 ⟨x5, rfl, hx5, hb12⟩
    have s12 := hb12.size
    have b12 := b11.trans (hb12.mono b11.size)
    have t12 := b12.size
    go_wp2_with fail
    refine (eqCpI ((((hx4.below hb9).below hb10).below hb11).below hb12) hx5).mono ?_
    rintro e w13 ⟨rfl, hb13⟩
    have s13 := hb13.size
    have b13 := b12.trans (hb13.mono b12.size)
    have t13 := b13.size
    have hz := ((((((hpx.below hb8).below hb9).below hb10).below hb11).below hb12).below hb13)
    obtain ⟨pc4, pd4, pl4⟩ := hz
    go_wp2_with fail
    refine (markCpG (((((((hx3.below bal).below hb8).below hb9).below hb10).below hb11).below hb12).below hb13)).mono ?_
    rintro e w14 ⟨⟨k0, rfl, kq0, kp0⟩, hk14⟩
    have s14 := hk14.size
    have b14 := b13.trans (hk14.below t13 (fun x hx => by omega))
    have t14 := b14.size
    go_wp2_with fail
    refine (markCpI k0 ((((((hx4.below hb9).below hb10).below hb11).below hb12).below hb13).kept hk14 (fun b h1 h2 h3 => by omega)) (by omega) (by omega)).mono ?_
    rintro e w15 ⟨⟨k1, rfl, kq1, kp1⟩, hk15⟩
    have s15 := hk15.size
    have b15 := b14.trans (hk15.below t14 (fun x hx => by omega))
    have t15 := b15.size
    go_wp2_with fail
    refine (eqRdI ((((((hgi0.below hb10).below hb11).below hb12).below hb13).kept hk14 (fun b h1 h2 h3 => by omega)).kept hk15 (fun b h1 h2 h3 => by omega)).rd ((((((((((hws0.below hb6).below bal).below hb8).below hb9).below hb10).below hb11).below hb12).below hb13).kept hk14 (fun b h1 h2 h3 => by omega)).kept hk15 (fun b h1 h2 h3 => by omega))).mono ?_
    rintro e w16 ⟨rfl, hb16⟩
    have s16 := hb16.size
    have b16 := b15.trans (hb16.mono b15.size)
    have t16 := b16.size
    go_wp2_with fail
    refine (markOwI 1 (((((((hgi0.below hb10).below hb11).below hb12).below hb13).kept hk14 (fun b h1 h2 h3 => by omega)).kept hk15 (fun b h1 h2 h3 => by omega)).below hb16) (by omega) (by omega)).mono ?_
    rintro e w17 ⟨⟨m0, rfl, mq0, mp0, hmk0⟩, hk17⟩
    have s17 := hk17.size
    have b17 := b16.trans (hk17.below t16 (fun x hx => by omega))
    have t17 := b17.size
    go_wp2_with fail
    refine (heldMkI hmk0 (by omega) (by omega)).mono ?_
    rintro e wq ⟨rfl, rfl⟩
    have hz := ((((((((((((((((hpa.below hb2).below hb3).below hb4).below hb5).below hb6).below bal).below hb8).below hb9).below hb10).below hb11).below hb12).below hb13).kept hk14 (fun b h1 h2 h3 => by omega)).kept hk15 (fun b h1 h2 h3 => by omega)).below hb16).kept hk17 (fun b h1 h2 h3 => by omega))
    obtain ⟨pc5, pd5, pl5⟩ := hz
    go_wp2_with fail
    refine (HT0 _ b17).mono ?_
    rintro e w18 ⟨x6, rfl, hx6, hb18⟩
    have s18 := hb18.size
    have b18 := b17.trans (hb18.mono b17.size)
    have t18 := b18.size
    go_wp2_with fail
    refine (HT1 _ b18).mono ?_
    rintro e w19 ⟨x7, rfl, hx7, hb19⟩
    have s19 := hb19.size
    have b19 := b18.trans (hb19.mono b18.size)
    have t19 := b19.size
    go_wp2_with fail
    refine (HI _ _ _ _ (hx6.below hb19) _ _ _ hx7 (hg.below b19)).mono ?_
    intro e w20 hp
    obtain ⟨hi0, rfl, hhi0, hb20⟩ := hp.out
    have s20 := hb20.size
    have b20 := b19.trans (hb20.mono b19.size)
    have t20 := b20.size
    go_wp2_with fail
    refine (eqRdI hhi0.rd (((((((((((((((hws0.below hb6).below bal).below hb8).below hb9).below hb10).below hb11).below hb12).below hb13).kept hk14 (fun b h1 h2 h3 => by omega)).kept hk15 (fun b h1 h2 h3 => by omega)).below hb16).kept hk17 (fun b h1 h2 h3 => by omega)).below hb18).below hb19).below hb20)).mono ?_
    rintro e w21 ⟨rfl, hb21⟩
    have s21 := hb21.size
    have b21 := b20.trans (hb21.mono b20.size)
    have t21 := b21.size
    go_wp2_with fail
    refine (heldMkI ((((hmk0.below hb18).below hb19).below hb20).below hb21) (by omega) (by omega)).mono ?_
    rintro e wq ⟨rfl, rfl⟩
    go_wp2
    go_ret
    exact ⟨rfl, b21⟩
end Go.Proofs.YthffhllkfadejaaDoor
