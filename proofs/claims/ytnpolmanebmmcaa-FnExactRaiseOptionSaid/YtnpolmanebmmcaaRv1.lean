/- ReverseProfile: the specification's. -/
import Derived.Test.YtnpolmanebmmcaaCh1
namespace Go.Proofs.Ytnpolmanebmmcaa
open Go.ChangeShapes Go.WideShapes Go.ChangeAt Go.RowKit Go.Deep
set_option linter.unusedSimpArgs false
set_option linter.unusedVariables false
def revs (A : List (List Int)) (k : Nat) : List (List Int) := (List.range k).map fun i => (A.getD i []).reverse
theorem revs_len (A : List (List Int)) (k : Nat) : (revs A k).length = k := by simp [revs]
theorem revs_succ (A : List (List Int)) (k : Nat) : revs A (k + 1) = revs A k ++ [(A.getD k []).reverse] := by simp [revs, List.range_succ]
theorem revs_at (A : List (List Int)) {k i : Nat} (h : i < k) : (revs A k).getD i [] = (A.getD i []).reverse := by simp [revs, List.getD, h]
theorem revs_fits {A : List (List Int)} (h : FitsJ A) : FitsJ (revs A A.length) := ⟨by rw [revs_len]; exact h.1, fun k hk => by
  rw [revs_len] at hk
  rw [revs_at A hk, List.length_reverse]
  exact h.2 k hk⟩
theorem rev_take (l : List Int) (j : Nat) (h : j < l.length) : l.reverse.take (j + 1) = l.reverse.take j ++ [l.getD (l.length - 1 - j) 0] := by
  rw [List.take_add_one]
  congr 1
  have h1 : l.length - 1 - j < l.length := by omega
  rw [List.getElem?_reverse h]
  simp [List.getD, h1]
/-- A profile's cell block. -/
def PBox (w : World) (o : Nat) (a c : Value) : Prop := w.heap[o]? = some (.cells #[a, c] 28 (0, 0))
theorem PBox.lt {w : World} {o : Nat} {a c : Value} (h : PBox w o a c) : o < w.heap.size := (Array.getElem?_eq_some_iff.1 h).1
theorem PBox.c0 {w : World} {o : Nat} {a c : Value} (h : PBox w o a c) : w.cell? ⟨o, 0, none⟩ = some a := by simp [World.cell?, show w.heap[o]? = _ from h]
theorem PBox.c1 {w : World} {o : Nat} {a c : Value} (h : PBox w o a c) : w.cell? ⟨o, 1, none⟩ = some c := by simp [World.cell?, show w.heap[o]? = _ from h]
theorem PBox.f0 {w : World} {o : Nat} {a c : Value} (h : PBox w o a c) : w.frozen? ⟨o, 0, none⟩ = false := by simp [World.frozen?, show w.heap[o]? = _ from h]
theorem PBox.f1 {w : World} {o : Nat} {a c : Value} (h : PBox w o a c) : w.frozen? ⟨o, 1, none⟩ = false := by simp [World.frozen?, show w.heap[o]? = _ from h]
theorem PBox.set0 {w : World} {o : Nat} {a c : Value} (u : Value) (h : PBox w o a c) : PBox (w.setCell ⟨o, 0, none⟩ u) o u c := by
  unfold PBox
  rw [heap_setCell_same w o 0 #[a, c] _ u h]
  rfl
theorem PBox.below {w w' : World} {o : Nat} {a c : Value} (h : PBox w o a c) (hb : Below w.heap.size w w') : PBox w' o a c := (hb.block o h.lt).trans h
theorem PBox.apart {w : World} {o : Nat} {a c v : Value} {base n : Nat} {xs : List Value} (h : PBox w o a c) (hr : w.ownsRow base 23 1 v n xs) : some o ≠ v.ownBlock := by
  obtain ⟨_, ⟨rfl, -⟩ | ⟨g, cap', cur, rfl, _, hg, _⟩⟩ := hr
  · simp [Value.ownBlock]
  · simp only [Value.ownBlock, ne_eq, Option.some.injEq]
    intro e
    subst e
    rw [show w.heap[o]? = _ from h] at hg
    injection hg with hg
    injection hg with _ hg
    exact absurd hg (by decide)
theorem PBox.off {w : World} {o lo hi : Nat} {a c u : Value} {t : List Int} (h : PBox w o a c) (hu : OwI w lo hi u t) (d : Nat) (hd : u.ownBlock = some d) : d ≠ o := by
  intro e
  subst e
  obtain ⟨⟨rfl, -⟩ | ⟨d', cp, N, f, rfl, -, -, -, hr, -⟩, -⟩ := hu
  · cases hd
  · cases hd
    obtain ⟨cs, q, -⟩ := hr
    rw [show w.heap[_]? = _ from h] at q
    injection q with q
    injection q with _ q
    exact absurd q (by decide)
theorem PBox.bld {w : World} {o base : Nat} {a c v u : Value} {l : List (List Int)} {f : Nat → Value} (h : PBox w o a c) (hB : BldJ w base v l f) : BldJ (w.setCell ⟨o, 0, none⟩ u) base v l f := by
  refine ⟨own_blockJ hB.own fun g e hg => heap_setCell_other _ _ _ _ (show g ≠ o from fun q => h.apart hB.own (by rw [e, q])), fun i hi => ?_, hB.inj⟩
  refine OwI.mono (lo := base) (hi := w.heap.size) ?_ (Nat.le_refl _) (by simp [World.setCell])
  exact (hB.rows i hi).block fun d e _ => heap_setCell_other _ _ _ _ (show d ≠ o from h.off (hB.rows i hi) d e)
noncomputable def mRv (X : Pr) : Pr × Bool := if pOkB X then ((revs X.1 X.1.length, X.2), true) else (([], []), false)
theorem mRv_yes {X : Pr} (h : pOkB X = true) : mRv X = ((revs X.1 X.1.length, X.2), true) := by simp [mRv, h]
theorem mRv_no {X : Pr} (h : pOkB X = false) : mRv X = (([], []), false) := by simp [mRv, h]
set_option maxHeartbeats 4000000 in
set_option maxRecDepth 100000 in
theorem sRv (X : Pr) (w : World) (lo hi : Nat) (u : Value) (h : CpR w lo hi u X) : Calls Try.prog 31 #[u] w (PRb (mRv X) w) := by
  obtain ⟨i0, hinf, hz0, hz1, hz2⟩ := info_parts infoI
  obtain ⟨j0, hjS, hy0, hy1, hy2⟩ := info_parts infoIS
  obtain ⟨b, c, rfl, -, h⟩ := h
  have b1 := ((Below.refl w.heap.size w).alloc (Nat.le_refl _) (.cells #[.slice (some ⟨b, 0, none⟩) X.1.length X.1.length, .slice (some ⟨c, 0, none⟩) X.2.length X.2.length] 28)).alloc (by simp) (.cells #[.slice none 0 0, .slice none 0 0] 28)
  have hX : ∀ w', Below w.heap.size w w' → PrAt w' w.heap.size (.slice (some ⟨b, 0, none⟩) X.1.length X.1.length) (.slice (some ⟨c, 0, none⟩) X.2.length X.2.length) → PrX w' w.heap.size b c X := fun w' hb hp => (h.below hb).prx hp
  have hpa := (pr_at w (.slice (some ⟨b, 0, none⟩) X.1.length X.1.length) (.slice (some ⟨c, 0, none⟩) X.2.length X.2.length)).below ((Below.refl _ _).alloc (Nat.le_refl _) (.cells #[.slice none 0 0, .slice none 0 0] 28))
  have hres : PBox ((w.alloc (.cells #[.slice (some ⟨b, 0, none⟩) X.1.length X.1.length, .slice (some ⟨c, 0, none⟩) X.2.length X.2.length] 28)).alloc (.cells #[.slice none 0 0, .slice none 0 0] 28)) (w.heap.size + 1) (.slice none 0 0) (.slice none 0 0) := by
    have := heap_alloc_new (w.alloc (.cells #[.slice (some ⟨b, 0, none⟩) X.1.length X.1.length, .slice (some ⟨c, 0, none⟩) X.2.length X.2.length] 28)) (.cells #[.slice none 0 0, .slice none 0 0] 28)
    rw [World.size_alloc] at this
    exact this
  have HI := sIs X w.heap.size b c _ (hX _ b1 hpa) h.fits
  have HF := Lib.hid h.fits
  have HX := Lib.hid hX
  have HR := Lib.hid h.rows
  have hbl : b < w.heap.size := h.rows.lt
  obtain ⟨z, hz⟩ : ∃ z, pOkB X = z := ⟨_, rfl⟩
  rw [hz] at HI
  clear h hX
  cases z with
  | false =>
    rw [mRv_no hz]
    clear hz
    go_enter Try.func31, Try.ntmps31
    go_wp2_with fail
    refine HI.mono ?_
    rintro e w1 ⟨rfl, hb⟩
    have r1 := hres.below hb
    have c0 := r1.c0
    have c1 := r1.c1
    have f0 := r1.f0
    have f1 := r1.f1
    have bb := b1.trans (hb.mono b1.size)
    clear hb HI hpa hres r1
    go_wp2
    refine bodyPost_ret (v := .tuple #[.agg #[.slice none 0 0, .slice none 0 0], .bool false]) (by simp [results, Try.results31, go_sem, c0, c1]) rfl ⟨_, _, rfl, RdR.nil _ _ _, ?_⟩
    iterate 2 refine Below.setCell ?_ (by show _ ≤ _ + _; omega) _
    exact bb
  | true =>
    rw [mRv_yes hz]
    have hok := pOkB_iff.1 hz
    have hA12 : X.1.length ≤ 12 := hok.2.1
    have hA1 : 1 ≤ X.1.length := hok.1
    have hl6 : ∀ k, k < X.1.length → (X.1.getD k []).length ≤ 6 := fun k hk => by
      have h1 := (hok.2.2.2.2.2 k hk).1.1
      have h2 := hok.2.2.2.2.1
      omega
    have HL6 := Lib.hid hl6
    have HBR := fun w' (hb : Below w.heap.size w w') hp => own_any ⟨c, 0, none⟩ X.2.length X.2 w' ((HX.out w' hb hp).wts.row X.2.length) HF.out.2.1
    clear hz hok hl6
    go_enter Try.func31, Try.ntmps31
    go_wp2_with fail
    refine HI.mono ?_
    rintro e w1 ⟨rfl, hb⟩
    have r1 := hres.below hb
    have p1 := hpa.below hb
    have bb := b1.trans (hb.mono b1.size)
    have s1 := bb.size
    have bl := (Below.refl w1.heap.size w1).alloc (Nat.le_refl _) (.cells #[] 23)
    have bb2 := bb.trans (bl.mono s1)
    have p2 := p1.below bl
    have r2 := r1.below bl
    have HOW := HBR _ bb2 p2
    have y1 := p1.c1
    have y2 := p2.c1
    have hs0 : w.heap.size + 2 ≤ w1.heap.size := by have := hb.size; simpa using this
    clear hb HI hpa hres HBR b1
    go_wp2_with fail
    refine HOW.mono ?_
    rintro e w3 ⟨⟨g, cp, rfl, g1, g2, hcw⟩, hb3⟩
    have hu := ow_of_copyR g1 g2 hcw HF.out.2.1
    have bb3 := bb2.trans (hb3.mono bb2.size)
    have p3 := p2.below hb3
    have r3 := r2.below hb3
    have B0 := (BldJ.start_lit w1 (base := w1.heap.size) (Nat.le_refl _) (fun _ => .slice none 0 0)).below hb3
    rw [World.size_alloc] at g1 hu
    have s3 : w1.heap.size + 1 ≤ w3.heap.size := by have := hb3.size; simpa using this
    obtain ⟨o, ho⟩ : ∃ o, w3.heap.size = o := ⟨_, rfl⟩
    rw [ho] at hu s3
    have bo := (Below.refl w3.heap.size w3).alloc (Nat.le_refl _) (.cells #[.slice (some ⟨w1.heap.size, 0, none⟩) 0 0, .slice (some ⟨g, 0, none⟩) X.2.length cp] 28)
    have hbx : PBox (w3.alloc (.cells #[.slice (some ⟨w1.heap.size, 0, none⟩) 0 0, .slice (some ⟨g, 0, none⟩) X.2.length cp] 28)) o (.slice (some ⟨w1.heap.size, 0, none⟩) 0 0) (.slice (some ⟨g, 0, none⟩) X.2.length cp) := by rw [← ho]; exact heap_alloc_new _ _
    have HST := Lib.hid (And.intro (bb3.trans (bo.mono bb3.size)) (And.intro hbx (And.intro (B0.below bo) (And.intro (hu.below bo) (And.intro (p3.below bo) (r3.below bo))))))
    have hso : o < (w3.alloc (.cells #[.slice (some ⟨w1.heap.size, 0, none⟩) 0 0, .slice (some ⟨g, 0, none⟩) X.2.length cp] 28)).heap.size := by rw [← ho]; simp
    obtain ⟨W4, hW4⟩ : ∃ W4, (w3.alloc (.cells #[.slice (some ⟨w1.heap.size, 0, none⟩) 0 0, .slice (some ⟨g, 0, none⟩) X.2.length cp] 28)) = W4 := ⟨_, rfl⟩
    rw [hW4] at HST hso
    have HW4 := Lib.hid hW4
    clear p1 p2 p3 r1 r2 r3 B0 hu bb bb2 bb3 bl bo hbx hcw hb3 HOW y1 y2 hW4 g1 g2
    go_wp2
    try simp only [ho]
    rw [HW4.out]
    obtain ⟨b1, q1, q2, q3, q4, q5⟩ := HST.out
    have HP1 := Lib.hid (And.intro b1 (And.intro q4 q5))
    have hOw1 : w1.heap.size ≤ W4.heap.size := by omega
    go_loopg [5] X.1.length (fun gg i wr => ∃ (k : Nat) (l : List (List Int)) (f : Nat → Value) (v : Value), k ≤ X.1.length ∧ gg = X.1.length - k ∧ i = .int .i64 k ∧ l.length ≤ k ∧ Hid (l = revs X.1 k) ∧ Below w1.heap.size W4 wr ∧ PBox wr o v (.slice (some ⟨g, 0, none⟩) X.2.length cp) ∧ BldJ wr w1.heap.size v l f ∧ OwI wr (w1.heap.size + 1) o (.slice (some ⟨g, 0, none⟩) X.2.length cp) X.2)
    case atStart => exact ⟨0, [], _, _, Nat.zero_le _, rfl, rfl, Nat.le_refl _, rfl, Below.refl _ _, q1, q2, q3⟩
    case round =>
      clear q1 q2 q3 q4 q5 b1 HW4
      obtain ⟨k, l, f, v, hk, rfl, rfl, hlk, HL, hbB, hbx, hB, hO⟩ := hrel
      obtain ⟨b1, p4, p5⟩ := HP1.out
      have hbw := b1.trans (hbB.mono (by omega))
      have z0 := (hbB.cell (p := ⟨w.heap.size, 0, none⟩) (by show w.heap.size < w1.heap.size; omega)).trans p4.c0
      by_cases hlt : k < X.1.length
      · obtain ⟨wo, rfl⟩ : ∃ wo : World, wo = wr := ⟨_, rfl⟩
        have hsB : w1.heap.size ≤ wo.heap.size := by have := hbB.size; omega
        obtain ⟨c', a1, a2⟩ := HR.out.at (k := k) (by omega)
        have hl6 := HL6.out k (by omega)
        have hrs := revs_succ X.1 k
        obtain ⟨t, ht⟩ : ∃ t, X.1.getD k [] = t := ⟨_, rfl⟩
        rw [ht] at a1 a2 hl6 hrs
        have hcl : c' < w.heap.size := World.rowIs.lt a2
        have g1 := (hbw.cell (p := ⟨b, k, none⟩) hbl).trans a1
        have HA2 := Lib.hid a2
        have HRS := Lib.hid hrs
        have hown0 : (wo.alloc (.cells #[] 2)).ownsRow wo.heap.size 2 1 (.slice (some ⟨wo.heap.size, 0, none⟩) 0 0) 0 (([] : List Int).map (Value.int .i64)) := World.ownsRow_lit wo #[] 0 (Nat.le_refl _) (by unfold maxLen; omega) rfl
        have hb0 := (Below.refl wo.heap.size wo).alloc (Nat.le_refl _) (.cells #[] 2)
        have wq1 : IntKind.i64.wrap ((t.length : Int) - 1) = (t.length : Int) - 1 := by rw [IntKind.wrap_i64]; omega
        have HS0 := Lib.hid (And.intro hb0 hown0)
        have hlw0 : w.heap.size < wo.heap.size := by omega
        have hlb0 : b < wo.heap.size := by omega
        clear a1 a2 ht hrs hown0 hb0
        go_wp2
        go_loopg [6, 7] t.length (fun gg lv kk wi => ∃ (j : Nat) (s : List Int), j ≤ t.length ∧ gg = t.length - j ∧ kk = .int .i64 ((t.length : Int) - 1 - j) ∧ s.length = j ∧ Hid (s = t.reverse.take j) ∧ Below wo.heap.size wo wi ∧ wi.ownsRow wo.heap.size 2 1 lv s.length (s.map (Value.int .i64)))
        case atStart => exact ⟨0, [], Nat.zero_le _, rfl, by first | rfl | (congr 1; omega) | simp, rfl, Lib.hid (by simp), HS0.out.1, HS0.out.2⟩
        case round =>
          obtain ⟨j, s, hj, rfl, rfl, hsl, HS, hbi, hown⟩ := hrel
          have HSL := Lib.hid hsl
          have hs6 : s.length ≤ 6 := by omega
          have hbz := hbw.trans (hbi.mono hbw.size)
          have z1 := (hbi.cell (p := ⟨w.heap.size, 0, none⟩) (by show w.heap.size < wo.heap.size; omega)).trans z0
          have g2 := (hbi.cell (p := ⟨b, k, none⟩) hlb0).trans g1
          by_cases hjl : j < t.length
          · have hix : t.length - 1 - j < t.length := by omega
            have c5 := (hbz.cell (p := ⟨c', t.length - 1 - j, none⟩) hcl).trans (HA2.out.cell (i := t.length - 1 - j) hix)
            have hrt := rev_take t j hjl
            obtain ⟨x, hx⟩ : ∃ x, t.getD (t.length - 1 - j) 0 = x := ⟨_, rfl⟩
            simp only [hx] at c5 hrt
            have hie : (t.length : Int) - 1 - j = ((t.length - 1 - j : Nat) : Int) := by omega
            obtain ⟨d, hd⟩ : ∃ d, t.length - 1 - j = d := ⟨_, rfl⟩
            rw [hd] at hie c5 hix
            have HS2 : Hid (s ++ [x] = t.reverse.take (j + 1)) := Lib.hid (by rw [hrt, ← HS.out])
            have HSL2 : Hid ((s ++ [x]).length = j + 1) := Lib.hid (by rw [List.length_append, List.length_singleton, HSL.out])
            have HIE := Lib.hid hie
            have wq2 : IntKind.i64.wrap ((d : Int) - 1) = (d : Int) - 1 := by rw [IntKind.wrap_i64]; omega
            rw [hie]
            obtain ⟨wx, rfl⟩ : ∃ wx : World, wx = wr := ⟨_, rfl⟩
            clear hrt hx hsl hie hd
            go_wp2_with (first
              | (at_builtin; refine wpList_append_own _ rfl _ _ 23 rfl wo.heap.size 2 i0 (.int .i64 0) 1 8 Try.underlying23 hinf hz0 hz1 hz2 rfl (by decide) _ _ _ rfl (hown.alloc _) ⟨wx.heap.size, 0, none⟩ 1 1 [.int .i64 x] rfl rfl ?c1 ?c2 ?c3 ?c4 ?c5 ?_))
            case c1 => exact World.news_of_block (cs := #[.int .i64 x]) (t := 2) (fr := (0, 0)) (heap_alloc_new _ _)
            case c2 => simp [Value.oneCell']
            case c3 => unfold maxLen; omega
            case c4 => omega
            case c5 => have := hbi.size; simp; omega
            intro v' w5 hown3 hgrow _
            have hb3 := (hbi.alloc hbi.size _).grown hgrow (by have := hbi.size; simp; omega) (fun y e => (hown.lt y e).1)
            have HO3 : Hid (w5.ownsRow wo.heap.size 2 1 v' (s ++ [x]).length ((s ++ [x]).map (Value.int .i64))) := by rw [List.length_append, List.length_singleton, List.map_append, List.map_singleton]; exact hown3
            clear hown3 hgrow
            go_wp2
            go_roundg (t.length - (j + 1))
            case measure => omega
            case rel => exact ⟨j + 1, s ++ [x], by omega, rfl, by (have := HIE.out); first | rfl | (congr 1; omega), HSL2.out, HS2, hb3, HO3.out⟩
          · obtain rfl : j = t.length := by omega
            have hst : s = t.reverse := by rw [HS.out]; exact List.take_of_length_le (by simp)
            subst hst
            have hu := ow_of_own hown (Nat.le_refl _) (by omega)
            obtain ⟨ua, uc, hlv⟩ := hu.shape
            rw [List.length_reverse] at hlv
            subst hlv
            have hm1 : (t.length : Int) - 1 - t.length = -1 := by omega
            rw [hm1]
            obtain ⟨wx, rfl⟩ : ∃ wx : World, wx = wr := ⟨_, rfl⟩
            have hbx2 := hbx.below hbi
            have x0 := hbx2.c0
            have HBLD := Lib.hid (fun (w3 : World) v' (hg : _) ho => hB.step (v' := v') (w3 := w3) (o := .cells #[.slice ua t.length uc] 23) hsB hbi hu hg ho)
            have howl := (hB.below hbi).own
            have hO2 := hO.below hbi
            have hbB2 := hbB.trans (hbi.mono hsB)
            have hap := fun (d : Nat) (hc : (Value.slice (some ⟨g, 0, none⟩) X.2.length cp).ownBlock = some d) => hO2.apart howl d hc
            have hpap := hbx2.apart howl
            have hs6 : l.length ≤ 12 := by omega
            have hsx := hbi.size
            have HST2 := Lib.hid (And.intro hbx2 (And.intro hO2 (And.intro hbB2 (And.intro hap hpap))))
            clear hu hO2 hbB2 hap hpap hbx2 hown
            go_wp2_with (first
              | (at_builtin; refine wpList_append_own _ rfl _ _ 22 rfl w1.heap.size 23 j0 (.slice none 0 0) 1 24 Try.underlying22 hjS hy0 hy1 hy2 rfl (by decide) _ _ _ rfl (howl.alloc _) ⟨wx.heap.size, 0, none⟩ 1 1 [.slice ua t.length uc] rfl rfl ?c1 ?c2 ?c3 ?c4 ?c5 ?_))
            case c1 => exact World.news_of_block (cs := #[.slice ua t.length uc]) (t := 23) (fr := (0, 0)) (heap_alloc_new _ _)
            case c2 => simp [Value.oneCell']
            case c3 => unfold maxLen; omega
            case c4 => omega
            case c5 => simp; omega
            intro v2 w6 hown4 hgrow4 hnil4
            have hB2 := HBLD.out w6 v2 hgrow4 hown4
            obtain ⟨hbx2, hO2, hbB2, hap, hpap⟩ := HST2.out
            have hsz6 := hgrow4.size
            rw [World.size_alloc] at hsz6
            have hbx3 : PBox w6 o v2 (.slice (some ⟨g, 0, none⟩) X.2.length cp) → True := fun _ => trivial
            have hpb : PBox w6 o v (.slice (some ⟨g, 0, none⟩) X.2.length cp) := by
              have h1 := hgrow4.block o (by simp; have := hbx2.lt; omega) hpap
              exact h1.trans ((Below.heap_alloc _ _ _ hbx2.lt).trans hbx2)
            have hO6 : OwI w6 (w1.heap.size + 1) o (.slice (some ⟨g, 0, none⟩) X.2.length cp) X.2 := hO2.block fun d e hd => by
              have h1 := hgrow4.block d (by simp; omega) (fun q => hap d e q.symm)
              exact h1.trans (Below.heap_alloc _ _ _ hd)
            have hb6 : Below w1.heap.size W4 w6 := (hbB2.alloc (by omega) _).grown hgrow4 (by simp; omega) (fun x e => (howl.lt x e).1)
            have x1 := hpb.c0
            have x2 := hpb.f0
            obtain ⟨va, vc, hv2⟩ : ∃ va vc, v2 = .slice va (l.length + 1) vc := by
              obtain ⟨_, ⟨rfl, h0⟩ | ⟨d, cap', cur, rfl, _⟩⟩ := hown4
              · simp at h0
              · exact ⟨_, _, rfl⟩
            subst hv2
            have hpb2 := hpb.set0 (.slice va (l.length + 1) vc)
            have hb7 := hb6.setCell (p := ⟨o, 0, none⟩) (by show w1.heap.size ≤ o; omega) (.slice va (l.length + 1) vc)
            have hO7 : OwI (w6.setCell ⟨o, 0, none⟩ (.slice va (l.length + 1) vc)) (w1.heap.size + 1) o (.slice (some ⟨g, 0, none⟩) X.2.length cp) X.2 := hO6.block fun d e hd => heap_setCell_other _ _ _ _ (show d ≠ o from fun q => by have := (hO6.inb d e).2; omega)
            have hB7 := hpb.bld (u := .slice va (l.length + 1) vc) hB2
            have HLR : Hid (l ++ [t.reverse] = revs X.1 (k + 1)) := Lib.hid (by rw [HRS.out, ← HL.out])
            have HFIN := Lib.hid (And.intro hb7 (And.intro hpb2 (And.intro hB7 hO7)))
            clear hbx2 hO2 hbB2 hap hpap hbx3 hpb hO6 hb6 hpb2 hb7 hO7 hB7 hB2 hown4 hgrow4 hnil4 howl HBLD HST2
            go_wp2
            go_roundg (X.1.length - (k + 1))
            case measure => omega
            case rel => exact ⟨k + 1, l ++ [t.reverse], _, _, by omega, rfl, by simp, by rw [List.length_append, List.length_singleton]; omega, HLR, HFIN.out.1, HFIN.out.2.1, HFIN.out.2.2.1, HFIN.out.2.2.2⟩
      · obtain rfl : k = X.1.length := by omega
        have hO1 := hB.done (by rw [HL.out]; exact revs_fits HF.out.1)
        have hll : l = revs X.1 X.1.length := HL.out
        rw [hll] at hO1
        have x0 := hbx.c0
        have x1 := hbx.c1
        have r5 := p5
        have r0 := (hbB.cell (p := ⟨w.heap.size + 1, 0, none⟩) (by show w.heap.size + 1 < w1.heap.size; omega)).trans p5.c0
        have r1 := (hbB.cell (p := ⟨w.heap.size + 1, 1, none⟩) (by show w.heap.size + 1 < w1.heap.size; omega)).trans p5.c1
        have f0 := (hbB.frozen (p := ⟨w.heap.size + 1, 0, none⟩) (by show w.heap.size + 1 < w1.heap.size; omega)).trans p5.f0
        have f1 := (hbB.frozen (p := ⟨w.heap.size + 1, 1, none⟩) (by show w.heap.size + 1 < w1.heap.size; omega)).trans p5.f1
        have hne1 : ¬ w.heap.size + 1 = o := by omega
        have hfr : ∃ va vc, v = .slice va (revs X.1 X.1.length).length vc := by
          obtain ⟨⟨h1, h2⟩ | ⟨d, cp', N, f', h1, -⟩, -⟩ := hO1
          · exact ⟨none, 0, by rw [h2]; exact h1⟩
          · exact ⟨_, _, h1⟩
        obtain ⟨va, vc, hv⟩ := hfr
        rw [revs_len] at hv
        subst hv
        have hsr := hbB.size
        have HFIN := Lib.hid (And.intro hO1 (And.intro hO hbw))
        clear hO1 hO hB hbx p5 r5 p4 HL hll hbw hbB b1
        go_wp2
        refine bodyPost_ret (v := .tuple #[.agg #[.slice va X.1.length vc, .slice (some ⟨g, 0, none⟩) X.2.length cp], .bool true]) (by simp [results, Try.results31, go_sem, r0, r1]) rfl ⟨_, _, rfl, RdR.mk ?_ ?_, ?_⟩
        · refine OwJ.rd ?_
          refine OwJ.mono (lo := w1.heap.size) (hi := wr.heap.size) ?_ (by omega) (by simp [World.setCell])
          iterate 2 refine OwJ.other ?_ (by show _ + _ < _; omega) _
          exact HFIN.out.1
        · have far : ∀ (W : World) (q : Nat) (u : Value), OwI W (w1.heap.size + 1) o (.slice (some ⟨g, 0, none⟩) X.2.length cp) X.2 → OwI (W.setCell ⟨w.heap.size + 1, q, none⟩ u) (w1.heap.size + 1) o (.slice (some ⟨g, 0, none⟩) X.2.length cp) X.2 := fun W q u hW =>
            hW.block fun d e _ => heap_setCell_other _ _ _ _ (show d ≠ w.heap.size + 1 from fun q => by have := (hW.inb d e).1; omega)
          refine OwI.rd ?_
          refine OwI.mono (lo := w1.heap.size + 1) (hi := o) ?_ (by omega) (by simp [World.setCell]; omega)
          iterate 2 refine far _ _ _ ?_
          exact HFIN.out.2.1
        · iterate 2 refine Below.setCell ?_ (by show _ ≤ _ + _; omega) _
          exact HFIN.out.2.2
end Go.Proofs.Ytnpolmanebmmcaa
