/- The law FnRounds, walked. -/
import Derived.Test.YtllfopbpchjhpaaDoorRya
import Derived.Test.YtllfopbpchjhpaaDoorRda
import Derived.Test.YtllfopbpchjhpaaDoorDr8
namespace Go.Proofs.YtllfopbpchjhpaaDoor
open Go.ChangeShapes Go.WideShapes Go.ChangeAt Go.RowKit Go.Deep
set_option linter.unusedSimpArgs false
set_option linter.unusedVariables false
theorem fok_all {n : Nat} {L : List (List Int)} (h : fOk ((n : Int), L)) : ∀ l ∈ L, atkOk (n : Int) l := fun l hl => by
  obtain ⟨k, hk, rfl⟩ := List.mem_iff_getElem.1 hl
  have := (h.2.2 k hk).1
  simpa [List.getD, hk] using this
theorem rounds_at {n : Nat} {L : List (List Int)} (h : fOk ((n : Int), L)) {k : Nat} (hk : k < n) :
    (listB (byF L (k : Int))).length ≤ 10 ∧ (∀ j, j < (listB (byF L (k : Int))).length → ∃ i : Nat, (listB (byF L (k : Int))).getD j 0 = (i : Int) ∧ i < n) ∧
    decD n L n k = wantF ((listB (byF L (k : Int))).map fun z => decD n L n z.toNat) := by
  have ha := fok_all h
  have hn : n ≤ 10 := by have : (n : Int) ≤ 10 := h.2.1; omega
  have bits := fun i => by_bit ha i k
  have lt : ∀ i, (byF L (k : Int)).testBit i = true → i < n := fun i hi => bits_lt (byF_lt ha k) hi
  refine ⟨selB_len _ _, fun j hj => ?_, ?_⟩
  · have hm : (listB (byF L (k : Int))).getD j 0 ∈ listB (byF L (k : Int)) := by simp [List.getD, hj]
    obtain ⟨i, e, _, hi⟩ := selB_mem hm
    exact ⟨i, e, lt i hi⟩
  · have := rounds_want ha hn hk ((listB (byF L (k : Int))).map Int.toNat) (fun i => by
      rw [← bits i, List.mem_map]
      constructor
      · rintro ⟨x, hx, rfl⟩
        obtain ⟨i, rfl, _, hi⟩ := selB_mem hx
        simpa using hi
      · intro hi
        exact ⟨(i : Int), selB_has (by have := lt i hi; omega) hi, by simp⟩)
    rw [this, List.map_map]
    rfl
theorem goneF_snoc (l : List Int) (r : Int) : goneF (l ++ [r]) = (goneF l && decide (r < 0)) := by simp [goneF, List.all_append]
theorem take_snoc (l : List Int) (j : Nat) (h : j < l.length) : l.take (j + 1) = l.take j ++ [l.getD j 0] := by
  rw [List.take_add_one]; simp [List.getD, h]
set_option maxHeartbeats 4000000 in
set_option maxRecDepth 100000 in
theorem lawRounds (v0 : Value) (len0 : Nat) (v1 : Value) (len1 : Nat) (w : World) (h0 : ByteV w.heap.size w v0 len0) (h1 : ByteV w.heap.size w v1 len1) (hT : DBT w) :
    Calls Tryd.prog 3 #[v0, v1] w fun e w' => e = .returned (.bool true) ∧ Below w.heap.size w w' := by
  obtain ⟨a0, cap0, rfl⟩ := h0.shape
  obtain ⟨a1, cap1, rfl⟩ := h1.shape
  have HL := r8long a0 a1 len0 cap0 len1 cap1 w
  by_cases hlong : 48 < len0 ∨ 48 < len1
  · rw [show (decide (48 < len0) || decide (48 < len1)) = true by simpa using hlong] at HL
    clear h0 h1 hT
    go_enter Tryd.func3, Tryd.ntmps3
    go_wp2_with fail
    refine HL.mono ?_
    rintro e w1 ⟨rfl, rfl⟩
    go_wp2
    go_ret
    exact ⟨rfl, Below.refl _ _⟩
  have hl0 : len0 ≤ 48 := by omega
  rw [show (decide (48 < len0) || decide (48 < len1)) = false by simpa using hlong] at HL
  have HFR := rframe _ len0 w h0 (by omega)
  have HT := Lib.hid hT
  clear h0 h1 hlong hT
  go_enter Tryd.func3, Tryd.ntmps3
  go_wp2_with fail
  refine HL.mono ?_
  rintro e w1 ⟨rfl, rfl⟩
  go_wp2_with fail
  refine HFR.mono ?_
  rintro e w1 ⟨n, bb, cp, L, rfl, hF, hJ, hL, hb1⟩
  have hX : FmX w1 bb ((n : Int), L) := ⟨hJ, ⟨⟨by show L.length ≤ _; omega, fun k hk => by have := (hF.2.2 k hk).1.1; show (L.getD k []).length ≤ _; rw [this]; omega⟩, Go.WalkArith.wf_i64 ⟨by show _ ≤ (n : Int); omega, by have := hF.2.1; show (n : Int) ≤ _; have : (n : Int) ≤ 10 := hF.2.1; omega⟩⟩⟩
  have hn : n ≤ 10 := by have : (n : Int) ≤ 10 := hF.2.1; omega
  have bA := (Below.refl w1.heap.size w1).alloc (Nat.le_refl _) (.cells #[.int .i64 (n : Int), .slice (some ⟨bb, 0, none⟩) L.length cp] 26)
  have hbA := hb1.trans (bA.mono hb1.size)
  have hat := fm_at w1 (n : Int) (.slice (some ⟨bb, 0, none⟩) L.length cp)
  have HRN := iRndX ((n : Int), L) bb cp _ (hX.below bA) hF (HT.out.below hbA)
  simp only [Int.toNat_natCast] at HRN
  have HXX := Lib.hid (hX.below bA)
  have HFF := Lib.hid hF
  have HBA := Lib.hid hbA
  have HAT := Lib.hid hat
  have HRA := Lib.hid (fun (k : Nat) (hk : k < n) => rounds_at hF hk)
  obtain ⟨f, hf⟩ : ∃ f, w1.heap.size = f := ⟨_, rfl⟩
  have sA : (w1.alloc (.cells #[.int .i64 (n : Int), .slice (some ⟨bb, 0, none⟩) L.length cp] 26)).heap.size = f + 1 := by simp [hf]
  have HBD := Lib.hid (show ∀ i, -10 ≤ decD n L n i ∧ decD n L n i ≤ 10 from fun i => by
    have h9 := dec_round (fok_all hF) hn n i
    rcases Int.lt_trichotomy (decD n L n i) 0 with q | q | q
    · obtain ⟨r, r1, r2, _⟩ := h9.2 q; omega
    · omega
    · obtain ⟨r, r1, r2, _⟩ := h9.1 q; omega)
  generalize hd : decD n L n = d at HRN HRA HBD
  clear hJ hX bA hbA hat HFR HL hF hL hb1 hd
  generalize hW : w1.alloc (.cells #[.int .i64 (n : Int), .slice (some ⟨bb, 0, none⟩) L.length cp] 26) = W at *
  have HW := Lib.hid hW
  rw [hf] at HAT
  obtain ⟨p0, p1, pl⟩ := HAT.out
  clear hW
  go_wp2_with fail
  (try rw [hf])
  (try rw [HW.out])
  refine HRN.mono ?_
  rintro e w3 ⟨⟨v, rfl, ho⟩, hb3⟩
  have hrv := ho.rd.1
  obtain ⟨va, vc, hvs⟩ := hrv.shape
  rw [rndL_len] at hvs
  subst hvs
  have HRV := Lib.hid hrv
  have q0 := (hb3.cell (p := ⟨f, 0, none⟩) pl).trans p0
  have q1 := (hb3.cell (p := ⟨f, 1, none⟩) pl).trans p1
  have s3 := hb3.size
  have ql : f < w3.heap.size := by omega
  have HB3 := Lib.hid hb3
  have hwW : w.heap.size ≤ W.heap.size := HBA.out.size
  clear HRN ho hrv p0 p1 hb3
  go_wp2
  go_loopg [8] n (fun g i wr => ∃ k : Nat, k ≤ n ∧ g = n - k ∧ i = .int .i64 (k : Int) ∧ Below w3.heap.size w3 wr)
  case atStart => exact ⟨0, Nat.zero_le _, rfl, rfl, Below.refl _ _⟩
  case round =>
    obtain ⟨k, hk, rfl, rfl, hbr⟩ := hrel
    have r0 := (hbr.cell (p := ⟨f, 0, none⟩) ql).trans q0
    have r1 := (hbr.cell (p := ⟨f, 1, none⟩) ql).trans q1
    have sr := hbr.size
    have rl : f < wr.heap.size := by omega
    have hbWr : Below W.heap.size W wr := HB3.out.trans (hbr.mono s3)
    have HBR := Lib.hid hbr
    by_cases hlt : (k : Int) < (n : Int)
    · have HAK := iAtkX ((n : Int), L) k bb cp wr (HXX.out.below hbWr) HFF.out hlt (HT.out.below (HBA.out.trans (hbWr.mono hwW)))
      obtain ⟨b1, b2, b3⟩ := HRA.out k (by omega)
      generalize listB (byF L (k : Int)) = B at HAK b1 b2 b3
      have HB2 := Lib.hid b2
      have HB3' := Lib.hid b3
      obtain ⟨ds, hds⟩ : ∃ ds, ds = B.map (fun z => d z.toNat) := ⟨_, rfl⟩
      have dl : ds.length = B.length := by rw [hds, List.length_map]
      have DAT : Hid (∀ j, j < B.length → ∃ i : Nat, B.getD j 0 = (i : Int) ∧ i < n ∧ ds.getD j 0 = d i) := fun j hj => by
        obtain ⟨i, e, hi⟩ := b2 j hj
        refine ⟨i, e, hi, ?_⟩
        rw [hds]
        have e2 : (B.map (fun z => d z.toNat)).getD j 0 = d (B.getD j 0).toNat := by simp [List.getD, hj]
        rw [e2, e, Int.toNat_natCast]
      have MB : ∀ r, r ∈ ds → -10 ≤ r ∧ r ≤ 10 := fun r hr => by
        rw [hds, List.mem_map] at hr
        obtain ⟨z, _, rfl⟩ := hr
        exact HBD.out _
      have LB : Hid (∀ j, 0 ≤ lastF (ds.take j) ∧ lastF (ds.take j) ≤ 10 ∧ 0 ≤ firstF (ds.take j) ∧ firstF (ds.take j) ≤ 10) := Lib.hid (fun j => by
        obtain ⟨a1, _, a3⟩ := lastF_max (ds.take j)
        obtain ⟨c1, _, c3⟩ := firstF_min (ds.take j)
        refine ⟨a1, ?_, c1, ?_⟩
        · rcases a3 with e | ⟨r, hr, _, e⟩
          · omega
          · have := MB r (List.mem_of_mem_take hr); omega
        · rcases c3 with e | ⟨r, hr, _, e⟩
          · omega
          · have := MB r (List.mem_of_mem_take hr); omega)
      have HWT : Hid (d k = wantF ds) := Lib.hid (by rw [hds]; exact b3)
      have HDL := Lib.hid dl
      clear b2 b3 hds dl hbr hbWr MB
      go_wp2_with fail
      refine HAK.mono ?_
      rintro e w5 ⟨⟨u, rfl, hu⟩, hb5⟩
      have hru := hu.rd.1
      obtain ⟨ua, uc, hus⟩ := hru.shape
      subst hus
      have HRU := Lib.hid hru
      have HB5 := Lib.hid hb5
      have t0 := (hb5.cell (p := ⟨f, 0, none⟩) rl).trans r0
      have t1 := (hb5.cell (p := ⟨f, 1, none⟩) rl).trans r1
      have s5 := hb5.size
      have tl : f < w5.heap.size := by omega
      have b1' : ¬ (10 : Int) < (B.length : Int) := by omega
      clear HAK hu hru hb5 r0 r1
      go_wp2
      go_loopg [11, 12, 13, 14] B.length (fun g lv gv fv i wi => ∃ (j : Nat) (la fi : Int) (go : Bool), j ≤ B.length ∧ g = B.length - j ∧ lv = .int .i64 la ∧ gv = .bool go ∧ fv = .int .i64 fi ∧ i = .int .i64 (j : Int) ∧ Drw w5 wi ∧ Hid (la = lastF (ds.take j) ∧ go = goneF (ds.take j) ∧ fi = firstF (ds.take j)))
      case atStart => exact ⟨0, 0, 0, true, Nat.zero_le _, rfl, rfl, rfl, rfl, rfl, Drw.refl _, Lib.hid ⟨rfl, rfl, rfl⟩⟩
      case round =>
        obtain ⟨j, la, fi, go, hj, rfl, rfl, rfl, rfl, rfl, hdr, HE⟩ := hrel
        have hbi := hdr.below
        have u0 := (hbi.cell (p := ⟨f, 0, none⟩) tl).trans t0
        have u1 := (hbi.cell (p := ⟨f, 1, none⟩) tl).trans t1
        have lb := LB.out j
        rw [← HE.out.1, ← HE.out.2.2] at lb
        obtain ⟨lb1, lb2, lb3, lb4⟩ := lb
        by_cases hjl : (j : Int) < (B.length : Int)
        · obtain ⟨i, eB, hi, eD⟩ := DAT.out j (by omega)
          obtain ⟨x, xc, ex, hx, hc⟩ := HRU.out.cons (by rintro rfl; simp at hjl; omega)
          simp at ex
          obtain ⟨rfl, rfl⟩ := ex
          obtain ⟨y, yc, ey, hy, hc2⟩ := HRV.out.cons (by intro e; have := rndL_len n d; rw [e] at this; simp at this; omega)
          rw [rndL_len] at hc2
          simp [rndL_len] at ey
          obtain ⟨rfl, rfl⟩ := ey
          have c1 := (hbi.cell (p := x.add j) (by rw [block_add]; exact hx)).trans (hc j (by omega))
          rw [eB] at c1
          have c2 := ((HBR.out.trans (HB5.out.mono sr)).trans (hbi.mono (by omega))).cell (p := y.add i) (by rw [block_add]; exact hy)
          have c2' := c2.trans (hc2 i hi)
          rw [rndL_at n d i hi] at c2'
          have bd := HBD.out i
          have SL : lastF (ds.take (j + 1)) = if d i < 0 ∧ la < -d i then -d i else la := by rw [take_snoc _ _ (by rw [HDL.out]; omega), lastF_snoc, ← HE.out.1, eD]
          have SF : firstF (ds.take (j + 1)) = if 0 < d i ∧ (fi = 0 ∨ d i < fi) then d i else fi := by rw [take_snoc _ _ (by rw [HDL.out]; omega), firstF_snoc, ← HE.out.2.2, eD]
          have SG : goneF (ds.take (j + 1)) = (go && decide (d i < 0)) := by rw [take_snoc _ _ (by rw [HDL.out]; omega), goneF_snoc, ← HE.out.2.1, eD]
          generalize d i = rr at c2' bd SL SF SG
          have HSL := Lib.hid SL
          have HSF := Lib.hid SF
          have HSG := Lib.hid SG
          have hin : (i : Int) < (n : Int) := by omega
          have wrr : IntKind.i64.wrap (-rr) = -rr := by rw [IntKind.wrap_i64]; omega
          have hs : (rr < 0 ∧ la < -rr) ∨ (rr < 0 ∧ ¬ la < -rr) ∨ rr = 0 ∨ (0 < rr ∧ fi = 0) ∨ (0 < rr ∧ fi ≠ 0 ∧ rr < fi) ∨ (0 < rr ∧ fi ≠ 0 ∧ ¬ rr < fi) := by omega
          clear c2 SL SF SG eD eB hc hc2 HE
          rcases hs with ⟨g1, g2⟩ | ⟨g1, g2⟩ | rfl | ⟨g1, rfl⟩ | ⟨g1, g2, g3⟩ | ⟨g1, g2, g3⟩
          all_goals
            (try (have g4 : (fi == 0) = false := by simp; omega))
            (try (have g5 : ¬ rr < 0 := by omega))
            (try (have g6 : ¬ 0 < rr := by omega))
            cases go
            all_goals
              go_wp2_with fail
              go_quiet (fail)
              go_wp2
              go_roundg (B.length - (j + 1))
              case measure => omega
              case rel => exact ⟨j + 1, _, _, _, by omega, rfl, rfl, rfl, rfl, by first | rfl | simp, hdr.drewN _, Lib.hid ⟨by rw [HSL.out]; (first | rw [if_pos ⟨by omega, by omega⟩] | rw [if_neg (by omega)]); (try first | exact wrr | omega), by rw [HSG.out]; simp [*], by rw [HSF.out]; (first | rw [if_pos (And.intro g1 (Or.inl trivial))] | rw [if_pos ⟨by omega, by omega⟩] | rw [if_neg (by omega)]); (try omega)⟩⟩
        · have ej : j = B.length := by omega
          have tk : ds.take j = ds := by rw [ej, ← HDL.out]; exact List.take_length
          rw [tk] at HE
          obtain ⟨y, yc, ey, hy, hc2⟩ := HRV.out.cons (by intro e; have := rndL_len n d; rw [e] at this; simp at this; omega)
          rw [rndL_len] at hc2
          simp [rndL_len] at ey
          obtain ⟨rfl, rfl⟩ := ey
          have c2 := ((HBR.out.trans (HB5.out.mono sr)).trans (hbi.mono (by omega))).cell (p := y.add k) (by rw [block_add]; exact hy)
          have c2' := c2.trans (hc2 k (by omega))
          rw [rndL_at n d k (by omega)] at c2'
          have hw := HWT.out
          unfold wantF at hw
          rw [← HE.out.1, ← HE.out.2.1, ← HE.out.2.2] at hw
          have BEND := Lib.hid ((HBR.out.trans (HB5.out.mono sr)).trans (hbi.mono (by omega)))
          generalize d k = rr at c2' hw
          have wf : IntKind.i64.wrap (-fi) = -fi := by rw [IntKind.wrap_i64]; omega
          have wl : IntKind.i64.wrap (la + 1) = la + 1 := by rw [IntKind.wrap_i64]; omega
          have jc : ¬ (j : Int) < (B.length : Int) := hjl
          clear c2 hc2 HE
          cases go with
          | true =>
            simp only [if_true] at hw
            subst hw
            go_wp2
            go_roundg (n - (k + 1))
            case measure => omega
            case rel => exact ⟨k + 1, by omega, rfl, by first | rfl | simp, BEND.out⟩
          | false =>
            have hw' : rr = -fi := by simpa using hw
            clear hw
            subst hw'
            go_wp2
            go_roundg (n - (k + 1))
            case measure => omega
            case rel => exact ⟨k + 1, by omega, rfl, by first | rfl | simp, BEND.out⟩
    · have e0 : k = n := by omega
      subst e0
      go_wp2
      go_ret
      exact ⟨rfl, (HBA.out.trans (HB3.out.mono hwW)).trans (HBR.out.mono (by omega))⟩
end Go.Proofs.YtllfopbpchjhpaaDoor
