/- ProfileText: the specification's call by its contract. -/
import Derived.Test.YtnpolmanebmmcaaDoorPf2
import Derived.Test.YtnpolmanebmmcaaDoorRp2
namespace Go.Proofs.YtnpolmanebmmcaaDoor
open Go.ChangeShapes Go.WideShapes Go.ChangeAt Go.RowKit Go.Deep
set_option linter.unusedSimpArgs false
set_option linter.unusedVariables false
theorem convL (W : World) (x : Int) (h0 : 0 ≤ x) (h1 : x ≤ 5) : Sem.run Tryd.prog (Go.convert 48 9 (.slice (some ⟨W.heap.size, 0, none⟩) 1 1)) (W.alloc (.cells #[.int .u8 (97 + x)] 5)) = .ok (.string (bytesOf (lt1 x))) (W.alloc (.cells #[.int .u8 (97 + x)] 5)) := by
  have e : (97 + x : Int) = ((ltr x).toNat : Int) := by
    unfold ltr
    rw [UInt8.toNat_ofNat']
    omega
  rw [e]
  refine run_convert_bytes_back (P := Tryd.prog) _ _ _ 5 _ _ (lt1 x) Tryd.underlying48 Tryd.underlying5 Tryd.underlying9 ?_
  intro j hj
  obtain rfl : j = 0 := by simpa [lt1] using hj
  show (World.alloc W _).cell? ⟨W.heap.size, 0, none⟩ = _
  simp [lt1]
theorem rtx_take (l : List Int) (j : Nat) (h : j < l.length) : rtx (l.take (j + 1)) = rtx (l.take j) ++ lt1 (l.getD j 0) := by
  unfold rtx lt1
  rw [List.take_succ_eq_append_getElem h, List.map_append]
  simp [List.getD, h]
set_option maxHeartbeats 4000000 in
set_option maxRecDepth 100000 in
theorem sptext (X : Pr) (p b c : Nat) (w : World) (h : PrX w p b c X) (hok : pOk X) :
    Calls Tryd.prog 12 #[.pointer (some ⟨p, 0, none⟩)] w fun e w' => e = .returned (.string (bytesOf (pftext X))) ∧ Below w.heap.size w w' := by
  have hl := hok.2.1
  have hcl := hok.2.2.1
  have hfl := pfl_len hok
  have HA := Lib.hid (fun k hk => pmem hok k hk)
  have HB := Lib.hid (fun k hk => (hok.2.2.2.2.2 k hk).2)
  have hqs : ∀ k, pfl X (k + 1) = pfl X k ++ pln (X.2.getD k 0) (X.1.getD k []) := fun k => rfl
  have hq0 : pfl X 0 = [] := rfl
  rw [show pftext X = pfl X X.1.length from rfl]
  generalize pfl X = P at hfl hqs hq0 ⊢
  obtain ⟨⟨pc0, pc1, pl⟩, hrows, hwts⟩ := h
  obtain ⟨L, C⟩ := X
  simp only at *
  have H3 := Lib.hid hrows
  have HW := Lib.hid hwts
  have HFL := Lib.hid hfl
  have HCL := Lib.hid hcl
  have HQ := Lib.hid hqs
  have HQ0 := Lib.hid hq0
  clear hok hfl hcl hqs hq0 hrows hwts
  go_enter Tryd.func12, Tryd.ntmps12
  go_wp2
  go_loopg [3, 4] L.length (fun g o i wr => ∃ k : Nat, k ≤ L.length ∧ g = L.length - k ∧ o = .string (bytesOf (P k)) ∧ i = .int .i64 (k : Int) ∧ Below w.heap.size w wr)
  case atStart => exact ⟨0, Nat.zero_le _, rfl, by rw [HQ0.out]; rfl, rfl, Below.refl _ _⟩
  case round =>
    obtain ⟨k, hk, rfl, rfl, rfl, hb⟩ := hrel
    have z0 := (hb.cell (p := ⟨p, 0, none⟩) pl).trans pc0
    have z1 := (hb.cell (p := ⟨p, 1, none⟩) pl).trans pc1
    by_cases hlt : k < L.length
    · obtain ⟨d, a1, a2⟩ := (H3.out.below hb).at hlt
      have hkc : k < C.length := by have := HCL.out; omega
      have c1 : wr.cell? ⟨c, k, none⟩ = some (.int .i64 (C.getD k 0)) := (HW.out.below hb).cell (i := k) hkc
      obtain ⟨hll, hmem⟩ := HA.out k hlt
      obtain ⟨x1, x2⟩ := HB.out k hlt
      have hql := HFL.out k hk
      have hqs := HQ.out k
      obtain ⟨l, hl⟩ : ∃ l, L.getD k [] = l := ⟨_, rfl⟩
      obtain ⟨x, hx⟩ : ∃ x, C.getD k 0 = x := ⟨_, rfl⟩
      rw [hl] at a1 a2 hll hmem hqs
      rw [hx] at c1 x1 x2 hqs
      have HD := sdecb7 x wr (by omega) (by omega)
      have hdl := itoa_len9 (n := x) (by omega) (by omega)
      unfold pln at hqs
      obtain ⟨D, hD⟩ : ∃ D, Lib.itoa x = D := ⟨_, rfl⟩
      rw [hD] at HD hqs hdl
      obtain ⟨N, hN⟩ : ∃ N, P (k + 1) = N := ⟨_, rfl⟩
      obtain ⟨O, hO⟩ : ∃ O, P k = O := ⟨_, rfl⟩
      rw [hN, hO] at hqs
      rw [hO] at hql
      obtain ⟨E1, hE1⟩ : ∃ T, D ++ [42] = T := ⟨_, rfl⟩
      obtain ⟨O1, hO1⟩ : ∃ T, O ++ E1 = T := ⟨_, rfl⟩
      have g1 : E1.length = D.length + 1 := by rw [← hE1]; simp
      have g2 : O1.length = O.length + E1.length := by rw [← hO1]; simp
      have hfin : O1 ++ rtx l ++ [10] = N := by rw [hqs, ← hO1, ← hE1]; simp
      have A1 := add_d D [42] E1 (bytesOf D) ⟨#[42]⟩ rfl rfl hE1 (by simp; omega)
      have A2 := add_d O E1 O1 (bytesOf O) (bytesOf E1) rfl rfl hO1 (by omega)
      have A3 := add_d (O1 ++ rtx l) [10] N (bytesOf (O1 ++ rtx l)) ⟨#[10]⟩ rfl rfl hfin (by simp [rtx]; omega)
      rw [hO]
      have HNN := Lib.hid hN
      have HM := Lib.hid hmem
      have HA2 := Lib.hid a2
      have hbl := World.block_lt_of_cell? _ _ a1
      clear hl hx hqs hD hN hO hE1 hO1 hfin hmem a2
      obtain ⟨w2, hw2⟩ : ∃ w2, w2 = wr := ⟨_, rfl⟩
      go_wp2_with fail
      refine HD.mono ?_
      rintro e w5 ⟨rfl, hb5⟩
      have plr : p < wr.heap.size := Nat.lt_of_lt_of_le pl hb.size
      have y0 := (hb5.cell (p := ⟨p, 0, none⟩) plr).trans z0
      have y1 := (hb5.cell (p := ⟨b, k, none⟩) hbl).trans a1
      have HA5 := Lib.hid (HA2.out.below hb5)
      have HB5 := Lib.hid (hb.trans (hb5.mono hb.size))
      have plr5 : p < w5.heap.size := Nat.lt_of_lt_of_le plr hb5.size
      have bl5 : b < w5.heap.size := Nat.lt_of_lt_of_le hbl hb5.size
      clear HD z0 z1 a1 c1 hw2
      go_wp2
      go_loopg [3, 5] l.length (fun g o i wi => ∃ j : Nat, j ≤ l.length ∧ g = l.length - j ∧ o = .string (bytesOf (O1 ++ rtx (l.take j))) ∧ i = .int .i64 (j : Int) ∧ Below w5.heap.size w5 wi)
      case atStart => exact ⟨0, Nat.zero_le _, rfl, by simp [rtx], rfl, Below.refl _ _⟩
      case round =>
        obtain ⟨j, hj, rfl, rfl, rfl, hbi⟩ := hrel
        have v0 := (hbi.cell (p := ⟨p, 0, none⟩) plr5).trans y0
        have v1 := (hbi.cell (p := ⟨b, k, none⟩) bl5).trans y1
        by_cases hml : j < l.length
        · have v2 : wr.cell? ⟨d, j, none⟩ = some (.int .i64 (l.getD j 0)) := (HA5.out.below hbi).cell (i := j) hml
          have hss := rtx_take l j hml
          obtain ⟨y, hy⟩ : ∃ y, l.getD j 0 = y := ⟨_, rfl⟩
          have hym : y ∈ l := by rw [← hy]; simp [List.getD, hml]
          obtain ⟨q1, q2⟩ := HM.out y hym
          rw [hy] at v2 hss
          have wk : IntKind.i64.wrap (97 + y) = 97 + y := by rw [IntKind.wrap_i64]; omega
          have wr8 : IntKind.u8.wrap (97 + y) = 97 + y := by rw [IntKind.wrap_u8]; omega
          have hcv := convL wr y q1 q2
          have lr : (rtx (l.take j)).length ≤ 6 := by unfold rtx; simp only [List.length_map, List.length_take]; omega
          have ly : (lt1 y).length = 1 := rfl
          obtain ⟨O2, hO2⟩ : ∃ T, O1 ++ rtx (l.take j) = T := ⟨_, rfl⟩
          obtain ⟨O3, hO3⟩ : ∃ T, O1 ++ rtx (l.take (j + 1)) = T := ⟨_, rfl⟩
          have g5 : O2.length ≤ O1.length + 6 := by rw [← hO2]; simp only [List.length_append]; omega
          obtain ⟨Y, hY⟩ : ∃ Y, lt1 y = Y := ⟨_, rfl⟩
          rw [hY] at hcv hss ly
          have D1 := add_d O2 Y O3 (bytesOf O2) (bytesOf Y) rfl rfl (by rw [← hO3, hss, ← hO2]; simp) (by omega)
          have H3' := Lib.hid hO3
          rw [hO2]
          clear hy hym hss hO2 hO3 hY A3
          go_wp2
          go_roundg (l.length - (j + 1))
          case measure => omega
          case rel => exact ⟨j + 1, by omega, rfl, by rw [H3'.out], by simp, hbi.alloc hbi.size _⟩
        · obtain rfl : j = l.length := by omega
          rw [List.take_length]
          go_wp2
          go_roundg (L.length - (k + 1))
          case measure => omega
          case rel => exact ⟨k + 1, by omega, rfl, by rw [HNN.out], by simp, HB5.out.trans (hbi.mono HB5.out.size)⟩
    · obtain rfl : k = L.length := by omega
      go_wp2
      go_ret
      exact ⟨rfl, hb⟩
theorem sPrText (X : Pr) (w : World) (lo hi : Nat) (u : Value) (c : CpR w lo hi u X) : Calls Tryd.prog 5 #[u] w (Psb (mPrText X) w) := by
  obtain ⟨b, c, rfl, -, h⟩ := c
  have b1 := (Below.refl w.heap.size w).alloc (Nat.le_refl _) (.cells #[.slice (some ⟨b, 0, none⟩) X.1.length X.1.length, .slice (some ⟨c, 0, none⟩) X.2.length X.2.length] 29)
  have hp := (h.below b1).prx (pr_at w _ _)
  have HS := sIs X w.heap.size b c _ hp h.fits
  have HT := fun w1 (hw : Below _ _ w1) ok => sptext X w.heap.size b c w1 (hp.below hw) ok
  unfold Psb mPrText
  obtain ⟨z, hz⟩ : ∃ z, pOkB X = z := ⟨_, rfl⟩
  rw [hz] at HS ⊢
  clear h hp
  cases z with
  | false =>
    rw [if_neg (by simp)]
    clear HT
    go_enter Tryd.func5, Tryd.ntmps5
    go_wp2_with fail
    refine HS.mono ?_
    rintro e w1 ⟨rfl, hb1⟩
    go_wp2
    go_ret2
    exact ⟨rfl, b1.trans (hb1.mono b1.size)⟩
  | true =>
    have hok := pOkB_iff.1 hz
    rw [if_pos rfl]
    have HT1 := fun w1 hw => HT w1 hw hok
    generalize pftext X = T at HT1 ⊢
    clear HT hz hok
    go_enter Tryd.func5, Tryd.ntmps5
    go_wp2_with fail
    refine HS.mono ?_
    rintro e w1 ⟨rfl, hbb⟩
    have HT2 := HT1 _ hbb
    clear HT1
    go_wp2_with fail
    refine HT2.mono ?_
    rintro e w2 ⟨rfl, hb2⟩
    have hb3 := b1.trans (hbb.mono b1.size)
    go_wp2
    go_ret2
    exact ⟨rfl, hb3.trans (hb2.mono hb3.size)⟩
end Go.Proofs.YtnpolmanebmmcaaDoor
