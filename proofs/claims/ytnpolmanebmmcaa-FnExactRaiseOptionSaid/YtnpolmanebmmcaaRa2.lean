/- RaiseOption: the specification's. -/
import Derived.Test.YtnpolmanebmmcaaRa1
namespace Go.Proofs.Ytnpolmanebmmcaa
open Go.ChangeShapes Go.WideShapes Go.ChangeAt Go.RowKit Go.Deep
set_option linter.unusedSimpArgs false
set_option linter.unusedVariables false
/-- Two stores into one row. -/
theorem OwJ.set2 {w : World} {lo hi b cap : Nat} {L : List (List Int)} (h : OwJ w lo hi (.slice (some ⟨b, 0, none⟩) L.length cap) L) {i : Nat} (hi' : i < L.length) (hp : 0 < (L.getD i []).length) :
    ∃ c cap', w.cell? ⟨b, i, none⟩ = some (.slice (some ⟨c, 0, none⟩) (L.getD i []).length cap') ∧ lo ≤ c ∧ c < hi ∧ c < w.heap.size ∧ c ≠ b ∧ lo ≤ b ∧ b < w.heap.size ∧
      (∀ j, j < (L.getD i []).length → w.cell? ⟨c, j, none⟩ = some (.int .i64 ((L.getD i []).getD j 0)) ∧ w.frozen? ⟨c, j, none⟩ = false) ∧
      ∀ j x j' x', j < (L.getD i []).length → j' < (L.getD i []).length → OwJ ((w.setCell ⟨c, j, none⟩ (.int .i64 x)).setCell ⟨c, j', none⟩ (.int .i64 x')) lo hi (.slice (some ⟨b, 0, none⟩) L.length cap) (L.set i (((L.getD i []).set j x).set j' x')) := by
  obtain ⟨c, cp, d1, d2, d3, d4, d5, d6, d7, d8, d9, d10⟩ := h.setAt hi' hp
  refine ⟨c, cp, d1, d2, d3, d4, d5, d6, d8, d9, fun j x j' x' hj hj' => ?_⟩
  have h1 := d10 j x hj
  have hg : (L.set i ((L.getD i []).set j x)).getD i [] = (L.getD i []).set j x := by simp [List.getD, hi']
  have hlen : (L.set i ((L.getD i []).set j x)).length = L.length := by simp
  rw [← hlen] at h1
  obtain ⟨c2, cp2, e1, -, -, -, -, -, -, -, -, e10⟩ := h1.setAt (i := i) (by rw [hlen]; exact hi') (by rw [hg]; simpa using hp)
  have e2 : (w.setCell ⟨c, j, none⟩ (.int .i64 x)).cell? ⟨b, i, none⟩ = some (.slice (some ⟨c, 0, none⟩) (L.getD i []).length cp) := (World.cell?_of_block (a := ⟨b, i, none⟩) (heap_setCell_other _ _ _ _ (show b ≠ c from fun q => d5 q.symm))).trans d1
  rw [e2] at e1
  simp only [Option.some.injEq, Value.slice.injEq, Addr.mk.injEq, and_true, true_and] at e1
  obtain ⟨rfl, -⟩ := e1
  have := e10 j' x' (by rw [hg]; simpa using hj')
  rw [hlen, hg, List.set_set] at this
  exact this
set_option maxHeartbeats 4000000 in
set_option maxRecDepth 100000 in
theorem sRa (X : Pr) (k o : Int) (w : World) (lo hi : Nat) (u : Value) (h : CpR w lo hi u X) (wfk : (Lit.int .i64 k).wf = true) (wfo : (Lit.int .i64 o).wf = true) : Calls Try.prog 26 #[u, .int .i64 k, .int .i64 o] w (PRb (mRa X k o) w) := by
  obtain ⟨b, c, rfl, -, h⟩ := h
  have b1 := ((Below.refl w.heap.size w).alloc (Nat.le_refl _) (.cells #[.slice (some ⟨b, 0, none⟩) X.1.length X.1.length, .slice (some ⟨c, 0, none⟩) X.2.length X.2.length] 28)).alloc (by simp) (.cells #[.slice none 0 0, .slice none 0 0] 28)
  have hX : ∀ w', Below w.heap.size w w' → PrAt w' w.heap.size (.slice (some ⟨b, 0, none⟩) X.1.length X.1.length) (.slice (some ⟨c, 0, none⟩) X.2.length X.2.length) → PrX w' w.heap.size b c X := fun w' hb hp => (h.below hb).prx hp
  have hpa := (pr_at w (.slice (some ⟨b, 0, none⟩) X.1.length X.1.length) (.slice (some ⟨c, 0, none⟩) X.2.length X.2.length)).below ((Below.refl _ _).alloc (Nat.le_refl _) (.cells #[.slice none 0 0, .slice none 0 0] 28))
  have hres : PBox ((w.alloc (.cells #[.slice (some ⟨b, 0, none⟩) X.1.length X.1.length, .slice (some ⟨c, 0, none⟩) X.2.length X.2.length] 28)).alloc (.cells #[.slice none 0 0, .slice none 0 0] 28)) (w.heap.size + 1) (.slice none 0 0) (.slice none 0 0) := by
    have := heap_alloc_new (w.alloc (.cells #[.slice (some ⟨b, 0, none⟩) X.1.length X.1.length, .slice (some ⟨c, 0, none⟩) X.2.length X.2.length] 28)) (.cells #[.slice none 0 0, .slice none 0 0] 28)
    rw [World.size_alloc] at this
    exact this
  have HI := sIs X w.heap.size b c _ (hX _ b1 hpa) h.fits
  have HF := Lib.hid h.fits
  have HX := Lib.hid hX
  have HR := Lib.hid h.rows
  have hbl : b < w.heap.size := h.rows.lt
  obtain ⟨z, hz⟩ : ∃ z, pOkB X = z := ⟨_, rfl⟩
  rw [hz] at HI
  clear h hX
  cases z with
  | false =>
    rw [mRa_no (fun q => by have := pOkB_yes q.1; rw [hz] at this; cases this)]
    clear hz
    go_enter Try.func26, Try.ntmps26
    go_wp2_with fail
    refine HI.mono ?_
    rintro e w1 ⟨rfl, hb⟩
    have r1 := hres.below hb
    have c0 := r1.c0
    have c1 := r1.c1
    have f0 := r1.f0
    have f1 := r1.f1
    have bb := b1.trans (hb.mono b1.size)
    clear hb HI hpa hres r1
    go_wp2
    refine bodyPost_ret (v := .tuple #[.agg #[.slice none 0 0, .slice none 0 0], .bool false]) (by simp [results, Try.results26, go_sem, c0, c1]) rfl ⟨_, _, rfl, RdR.nil _ _ _, ?_⟩
    iterate 2 refine Below.setCell ?_ (by show _ ≤ _ + _; omega) _
    exact bb
  | true =>
    have hok := pOkB_iff.1 hz
    have hA12 : X.1.length ≤ 12 := hok.2.1
    have hA1 : 1 ≤ X.1.length := hok.1
    clear hz
    by_cases hk : 0 ≤ k ∧ k ≤ (X.1.length : Int) - 1
    · have i1 := inB_yes hk.1 hk.2
      have wqA : IntKind.i64.wrap ((X.1.length : Int) - 1) = (X.1.length : Int) - 1 := by rw [IntKind.wrap_i64]; omega
      have HOP := fun w' hb hp => soption w.heap.size b c X w' (HX.out w' hb hp) hok o
      obtain ⟨y, hy⟩ : ∃ y, inB o 0 ((nop X : Int) - 1) = y := ⟨_, rfl⟩
      simp only [hy] at HOP
      cases y with
      | false =>
        have hm : mRa X k o = (([], []), false) := mRa_no (fun q => by
          obtain ⟨q1, q2, q3, q4⟩ := q
          have hin := (ix_bd (X.1.getD k.toNat []) o).2.2.1 (by omega)
          have hr := (hok.2.2.2.2.2 k.toNat (by omega)).1
          have := allDiff_mem hr.2 o hin
          have hy2 := inB_yes (a := 0) (b := (nop X : Int) - 1) (n := o) this.1 (by show o ≤ ((X.1.getD 0 []).length : Int) - 1; omega)
          rw [hy] at hy2; cases hy2)
        rw [hm]
        clear hy hm hok
        go_enter Try.func26, Try.ntmps26
        go_wp2_with fail
        refine HI.mono ?_
        rintro e w1 ⟨rfl, hb⟩
        have r1 := hres.below hb
        have p1 := hpa.below hb
        have c0 := r1.c0
        have c1 := r1.c1
        have f0 := r1.f0
        have f1 := r1.f1
        have bb := b1.trans (hb.mono b1.size)
        have HO1 := HOP w1 bb p1
        have y0 := p1.c0
        clear hb HI hpa hres r1 HOP p1
        go_wp2_with (first
          | (go_at_call 46; refine (in_val _ _ _ _).mono ?_; rintro e w2 ⟨rfl, rfl⟩)
          | (go_at_call 47; refine HO1.mono ?_; rintro e w2 ⟨rfl, rfl⟩))
        refine bodyPost_ret (v := .tuple #[.agg #[.slice none 0 0, .slice none 0 0], .bool false]) (by simp [results, Try.results26, go_sem, c0, c1]) rfl ⟨_, _, rfl, RdR.nil _ _ _, ?_⟩
        iterate 2 refine Below.setCell ?_ (by show _ ≤ _ + _; omega) _
        exact bb
      | true =>
        obtain ⟨kn, rfl⟩ : ∃ kn : Nat, k = kn := ⟨k.toNat, by omega⟩
        have hkn : kn < X.1.length := by omega
        have hr := (hok.2.2.2.2.2 kn hkn).1
        have ho1 : 0 ≤ o ∧ o ≤ (nop X : Int) - 1 := by
          by_cases q : 0 ≤ o ∧ o ≤ (nop X : Int) - 1
          · exact q
          · rw [inB_no q] at hy; cases hy
        have hmem : o ∈ X.1.getD kn [] := rk_has hr ho1.1 (by have := ho1.2; show o < ((X.1.getD 0 []).length : Int); have e : ((X.1.getD 0 []).length : Int) = (nop X : Int) := rfl; omega)
        obtain ⟨p, hp1, hp2, hp3⟩ := ix_at hmem
        have hlen : (X.1.getD kn []).length ≤ 1048576 := HF.out.1.2 kn hkn
        have hl6 : (X.1.getD kn []).length ≤ 6 := by have h1 := hr.1; have h2 := hok.2.2.2.2.1; omega
        obtain ⟨c', a1, a2⟩ := HR.out.at (k := kn) hkn
        have HPL := fun w' (hb : Below w.heap.size w w') => splace (.slice (some ⟨c', 0, none⟩) (X.1.getD kn []).length (X.1.getD kn []).length) (X.1.getD kn []) o w' ((a2.below hb).row _) hlen hmem
        have HOW := fun w' hb hp => sOwnR X w.heap.size b c w' (HX.out w' hb hp) HF.out hA1 hA12
        have HRA : Hid (1 ≤ p → raOk X kn o) := Lib.hid (fun q => ⟨hok, by omega, by omega, by simp only [Int.toNat_natCast]; rw [hp1]; omega⟩)
        have HRN : Hid (p = 0 → ¬ raOk X kn o) := Lib.hid (fun q ho => by have := ho.2.2.2; simp only [Int.toNat_natCast] at this; rw [hp1, q] at this; omega)
        have HMR : Hid (raOk X kn o → mRa X kn o = ((X.1.set kn (rz (X.1.getD kn []) p), X.2), true)) := Lib.hid (fun q => by rw [mRa_yes q]; simp only [Int.toNat_natCast, hp1])
        simp only [hp1] at HPL
        obtain ⟨l, hl⟩ : ∃ l, X.1.getD kn [] = l := ⟨_, rfl⟩
        rw [hl] at a1 hp2 hp3 hl6 HMR
        simp only [hl] at HPL
        have HLL := Lib.hid hl
        clear hy hok hr hmem a2 hp1 hlen ho1 hl
        cases p with
        | zero =>
          rw [mRa_no (HRN.out rfl)]
          go_enter Try.func26, Try.ntmps26
          go_wp2_with fail
          refine HI.mono ?_
          rintro e w1 ⟨rfl, hb⟩
          have r1 := hres.below hb
          have p1 := hpa.below hb
          have c0 := r1.c0
          have c1 := r1.c1
          have f0 := r1.f0
          have f1 := r1.f1
          have bb := b1.trans (hb.mono b1.size)
          have HO1 := HOP w1 bb p1
          have HP1 := HPL w1 bb
          have y0 := p1.c0
          have y2 := (bb.cell (p := ⟨b, kn, none⟩) hbl).trans a1
          clear hb HI hpa hres r1 HOP p1 HPL HOW HMR
          go_wp2_with (first
            | (go_at_call 46; refine (in_val _ _ _ _).mono ?_; rintro e w2 ⟨rfl, rfl⟩)
            | (go_at_call 47; refine HO1.mono ?_; rintro e w2 ⟨rfl, rfl⟩)
            | (go_at_call 48; refine HP1.mono ?_; rintro e w2 ⟨rfl, rfl⟩))
          refine bodyPost_ret (v := .tuple #[.agg #[.slice none 0 0, .slice none 0 0], .bool false]) (by simp [results, Try.results26, go_sem, c0, c1]) rfl ⟨_, _, rfl, RdR.nil _ _ _, ?_⟩
          iterate 2 refine Below.setCell ?_ (by show _ ≤ _ + _; omega) _
          exact bb
        | succ q =>
          rw [HMR.out (HRA.out (by omega))]
          have hcq : ((q + 1 : Nat) : Int) = (q : Int) + 1 := by omega
          rw [hcq] at HPL
          have wq1 : IntKind.i64.wrap ((q : Int) + 1 - 1) = (q : Int) := by rw [IntKind.wrap_i64]; omega
          have wq2 : IntKind.i64.wrap (q : Int) = (q : Int) := by rw [IntKind.wrap_i64]; omega
          have hq0 : ¬ (q : Int) + 1 = 0 := by omega
          go_enter Try.func26, Try.ntmps26
          go_wp2_with fail
          refine HI.mono ?_
          rintro e w1 ⟨rfl, hb⟩
          have r1 := hres.below hb
          have p1 := hpa.below hb
          have bb := b1.trans (hb.mono b1.size)
          have HO1 := HOP w1 bb p1
          have HP1 := HPL w1 bb
          have HW1 := HOW w1 bb p1
          have y0 := p1.c0
          have y2 := (bb.cell (p := ⟨b, kn, none⟩) hbl).trans a1
          have hs0 : w.heap.size + 2 ≤ w1.heap.size := by have := hb.size; simpa using this
          clear hb HI hpa hres HOP p1 HPL HOW HMR
          go_wp2_with (first
            | (go_at_call 46; refine (in_val _ _ _ _).mono ?_; rintro e w2 ⟨rfl, rfl⟩)
            | (go_at_call 47; refine HO1.mono ?_; rintro e w2 ⟨rfl, rfl⟩)
            | (go_at_call 48; refine HP1.mono ?_; rintro e w2 ⟨rfl, rfl⟩)
            | fail)
          refine HW1.mono ?_
          rintro e w2 ⟨⟨b', cap, g, cw, rfl, hO, hOi, hsep⟩, hb2⟩
          have bo := (Below.refl w2.heap.size w2).alloc (Nat.le_refl _) (.cells #[.slice (some ⟨b', 0, none⟩) X.1.length cap, .slice (some ⟨g, 0, none⟩) X.2.length cw] 28)
          have hbx : PBox (w2.alloc (.cells #[.slice (some ⟨b', 0, none⟩) X.1.length cap, .slice (some ⟨g, 0, none⟩) X.2.length cw] 28)) w2.heap.size (.slice (some ⟨b', 0, none⟩) X.1.length cap) (.slice (some ⟨g, 0, none⟩) X.2.length cw) := heap_alloc_new _ _
          have r3 := (r1.below hb2).below bo
          have bb3 := (bb.trans (hb2.mono bb.size)).trans (bo.mono (by have := hb2.size; have := bb.size; omega))
          have hO3 := hO.below bo
          have hOi3 := hOi.below bo
          have hll : (X.1.getD kn []).length = l.length := by rw [HLL.out]
          obtain ⟨d, cp, d1, d2, d3, d4, d5, d6, d8, d9, d10⟩ := hO3.set2 (i := kn) hkn (by rw [hll]; omega)
          rw [hll, HLL.out] at d9
          rw [hll] at d1
          have hb2w : b' < w2.heap.size := by
            obtain ⟨⟨h1, -⟩ | ⟨e0, cp', N, f', h1, -, h3, -, h4, -⟩, -⟩ := hO
            · cases h1
            · simp only [Value.slice.injEq, Option.some.injEq, Addr.mk.injEq, and_true] at h1
              have := h4.lt
              omega
          have hdg : d ≠ g := by
            refine hsep kn hkn d l.length cp ?_
            rw [← d1]
            exact ((bo.cell (p := ⟨b', kn, none⟩) hb2w)).symm
          obtain ⟨e1, e2⟩ := d9 q (by omega)
          obtain ⟨e3, e4⟩ := d9 (q + 1) (by omega)
          obtain ⟨x, hx⟩ : ∃ x, l.getD q 0 = x := ⟨_, rfl⟩
          rw [hx] at e1
          rw [hp3] at e3
          have hS := d10 (q + 1) x q o (by rw [hll]; omega) (by rw [hll]; omega)
          have hrz : ((X.1.getD kn []).set (q + 1) x).set q o = rz l (q + 1) := by rw [HLL.out]; unfold rz; rw [hp3, ← hx]; simp
          rw [hrz] at hS
          have hS2 : OwI (((w2.alloc (.cells #[.slice (some ⟨b', 0, none⟩) X.1.length cap, .slice (some ⟨g, 0, none⟩) X.2.length cw] 28)).setCell ⟨d, q + 1, none⟩ (.int .i64 x)).setCell ⟨d, q, none⟩ (.int .i64 o)) w1.heap.size w2.heap.size (.slice (some ⟨g, 0, none⟩) X.2.length cw) X.2 := by
            have h1 : OwI ((w2.alloc (.cells #[.slice (some ⟨b', 0, none⟩) X.1.length cap, .slice (some ⟨g, 0, none⟩) X.2.length cw] 28)).setCell ⟨d, q + 1, none⟩ (.int .i64 x)) w1.heap.size w2.heap.size (.slice (some ⟨g, 0, none⟩) X.2.length cw) X.2 := hOi3.block fun y hy _ => heap_setCell_other _ _ _ _ (show y ≠ d from fun q => by simp only [Value.ownBlock, Option.some.injEq] at hy; omega)
            exact h1.block fun y hy _ => heap_setCell_other _ _ _ _ (show y ≠ d from fun q => by simp only [Value.ownBlock, Option.some.injEq] at hy; omega)
          have hBS := (bb3.setCell (p := ⟨d, q + 1, none⟩) (by show w.heap.size ≤ d; omega) (.int .i64 x)).setCell (p := ⟨d, q, none⟩) (by show w.heap.size ≤ d; omega) (.int .i64 o)
          have x0 := hbx.c0
          have x1 := hbx.c1
          have c0 := r3.c0
          have c1 := r3.c1
          have f0 := r3.f0
          have f1 := r3.f1
          obtain ⟨O9, hO9⟩ : ∃ O9, w2.heap.size = O9 := ⟨_, rfl⟩
          have hsz2 := hb2.size
          obtain ⟨W3, hW3⟩ : ∃ W3, w2.alloc (.cells #[.slice (some ⟨b', 0, none⟩) X.1.length cap, .slice (some ⟨g, 0, none⟩) X.2.length cw] 28) = W3 := ⟨_, rfl⟩
          have hsz3 : W3.heap.size = O9 + 1 := by rw [← hW3, ← hO9]; simp
          simp only [hW3, hO9] at x0 x1 c0 c1 f0 f1 d1 d3 d4 e1 e2 e3 e4 hS hS2 hBS hsz2 hb2w
          have HW3 := Lib.hid hW3
          have HO9 := Lib.hid hO9
          have HFIN := Lib.hid (And.intro hS (And.intro hS2 hBS))
          have n1 : ¬ O9 = d := by omega
          have n2 : ¬ w.heap.size + 1 = d := by omega
          have n3 : ¬ b' = d := fun e => d5 e.symm
          have n4 : ¬ O9 = w.heap.size + 1 := by omega
          have n5 : ¬ q + 1 = q := by omega
          have n6 : ¬ q = q + 1 := by omega
          clear hS hS2 hBS hO hOi hsep hb2 bo hbx r3 bb3 hO3 hOi3 d9 d10 hrz hx hW3 hO9 r1 y0 y2 hll
          go_wp2
          try simp only [HO9.out]
          try rw [HW3.out]
          go_region
          all_goals go_wp2
          all_goals refine bodyPost_ret (v := .tuple #[.agg #[.slice (some ⟨b', 0, none⟩) X.1.length cap, .slice (some ⟨g, 0, none⟩) X.2.length cw], .bool true]) (by simp [results, Try.results26, go_sem, c0, c1]) rfl ⟨_, _, rfl, RdR.mk ?_ ?_, ?_⟩
          · refine OwJ.rd ?_
            refine OwJ.mono (lo := w1.heap.size) (hi := O9) ?_ (by omega) (by simp [World.setCell]; omega)
            iterate 2 refine OwJ.other ?_ (by show _ + _ < _; omega) _
            have := HFIN.out.1
            exact this
          · refine OwI.rd ?_
            refine OwI.mono (lo := w1.heap.size) (hi := O9) ?_ (by omega) (by simp [World.setCell]; omega)
            have far : ∀ (W : World) (q : Nat) (u : Value), OwI W w1.heap.size O9 (.slice (some ⟨g, 0, none⟩) X.2.length cw) X.2 → OwI (W.setCell ⟨w.heap.size + 1, q, none⟩ u) w1.heap.size O9 (.slice (some ⟨g, 0, none⟩) X.2.length cw) X.2 := fun W q u hW =>
              hW.block fun y e _ => heap_setCell_other _ _ _ _ (show y ≠ w.heap.size + 1 from fun q => by have := (hW.inb y e).1; omega)
            iterate 2 refine far _ _ _ ?_
            exact HFIN.out.2.1
          · have fb : ∀ (W : World) (q : Nat) (u : Value), Below w.heap.size w W → Below w.heap.size w (W.setCell ⟨w.heap.size + 1, q, none⟩ u) := fun W q u hW => hW.setCell (p := ⟨w.heap.size + 1, q, none⟩) (by show w.heap.size ≤ w.heap.size + 1; omega) u
            exact (fb _ _ _ (fb _ _ _ HFIN.out.2.2)).drew
    · have i1 := inB_no hk
      have HK := Lib.hid hk
      rw [mRa_no (fun q => HK.out ⟨q.2.1, by have := q.2.2.1; omega⟩)]
      have wqA : IntKind.i64.wrap ((X.1.length : Int) - 1) = (X.1.length : Int) - 1 := by rw [IntKind.wrap_i64]; omega
      clear hok hk
      go_enter Try.func26, Try.ntmps26
      go_wp2_with fail
      refine HI.mono ?_
      rintro e w1 ⟨rfl, hb⟩
      have r1 := hres.below hb
      have p1 := hpa.below hb
      have c0 := r1.c0
      have c1 := r1.c1
      have f0 := r1.f0
      have f1 := r1.f1
      have y0 := p1.c0
      have bb := b1.trans (hb.mono b1.size)
      clear hb HI hpa hres r1 p1
      go_wp2_with (go_at_call 46; refine (in_val _ _ _ _).mono ?_; rintro e w2 ⟨rfl, rfl⟩)
      refine bodyPost_ret (v := .tuple #[.agg #[.slice none 0 0, .slice none 0 0], .bool false]) (by simp [results, Try.results26, go_sem, c0, c1]) rfl ⟨_, _, rfl, RdR.nil _ _ _, ?_⟩
      iterate 2 refine Below.setCell ?_ (by show _ ≤ _ + _; omega) _
      exact bb
end Go.Proofs.Ytnpolmanebmmcaa
