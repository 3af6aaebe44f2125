/- RaiseOption: the program's. -/
import Derived.Test.YtnpolmanebmmcaaRa2
namespace Go.Proofs.Ytnpolmanebmmcaa
open Go.ChangeShapes Go.WideShapes Go.ChangeAt Go.RowKit Go.Deep
set_option linter.unusedSimpArgs false
set_option linter.unusedVariables false
theorem iid (l : List Int) (g cap : Nat) (w0 w : World) (hb : Below w0.heap.size w0 w) (h : OwI w w0.heap.size w.heap.size (.slice (some ⟨g, 0, none⟩) l.length cap) l) :
    Calls Try.prog 52 (#[.slice (some ⟨g, 0, none⟩) l.length cap] ++ #[]) w fun e w' => ∃ v', e = .returned v' ∧ OwI w' w0.heap.size w'.heap.size v' l ∧ Below w0.heap.size w0 w' := by
  show Calls Try.prog 52 #[.slice (some ⟨g, 0, none⟩) l.length cap] w _
  have HQ := Lib.hid (And.intro h hb)
  clear h hb
  go_enter Try.func52, Try.ntmps52
  go_wp2
  go_ret
  exact ⟨_, rfl, HQ.out.1, HQ.out.2⟩
set_option maxHeartbeats 4000000 in
set_option maxRecDepth 100000 in
theorem iRa (X : Pr) (k o : Int) (w : World) (lo hi : Nat) (u : Value) (h : CpR w lo hi u X) (wfk : (Lit.int .i64 k).wf = true) (wfo : (Lit.int .i64 o).wf = true) : Calls Try.prog 27 #[u, .int .i64 k, .int .i64 o] w (QRb (mRa X k o) w) := by
  obtain ⟨b, c, rfl, -, h⟩ := h
  have b1 := ((Below.refl w.heap.size w).alloc (Nat.le_refl _) (.cells #[.slice (some ⟨b, 0, none⟩) X.1.length X.1.length, .slice (some ⟨c, 0, none⟩) X.2.length X.2.length] 28)).alloc (by simp) (.cells #[.slice none 0 0, .slice none 0 0] 28)
  have hpa := (pr_at w (.slice (some ⟨b, 0, none⟩) X.1.length X.1.length) (.slice (some ⟨c, 0, none⟩) X.2.length X.2.length)).below ((Below.refl _ _).alloc (Nat.le_refl _) (.cells #[.slice none 0 0, .slice none 0 0] 28))
  have hres : PBox ((w.alloc (.cells #[.slice (some ⟨b, 0, none⟩) X.1.length X.1.length, .slice (some ⟨c, 0, none⟩) X.2.length X.2.length] 28)).alloc (.cells #[.slice none 0 0, .slice none 0 0] 28)) (w.heap.size + 1) (.slice none 0 0) (.slice none 0 0) := by
    have := heap_alloc_new (w.alloc (.cells #[.slice (some ⟨b, 0, none⟩) X.1.length X.1.length, .slice (some ⟨c, 0, none⟩) X.2.length X.2.length] 28)) (.cells #[.slice none 0 0, .slice none 0 0] 28)
    rw [World.size_alloc] at this
    exact this
  have HI := ival X b c hi _ (h.below b1)
  have HH := Lib.hid h
  have HR := Lib.hid h.rows
  have hbl : b < w.heap.size := h.rows.lt
  obtain ⟨z, hz⟩ : ∃ z, pOkB X = z := ⟨_, rfl⟩
  rw [hz] at HI
  clear h
  cases z with
  | false =>
    rw [mRa_no (fun q => by have := pOkB_yes q.1; rw [hz] at this; cases this)]
    clear hz
    go_enter Try.func27, Try.ntmps27
    go_wp2_with fail
    refine HI.mono ?_
    rintro e w1 ⟨rfl, hb⟩
    have r1 := hres.below hb
    have c0 := r1.c0
    have c1 := r1.c1
    have f0 := r1.f0
    have f1 := r1.f1
    have bb := b1.trans (hb.mono b1.size)
    have hsb := bb.size
    clear hb HI hpa hres r1
    go_wp2
    refine bodyPost_ret (v := .tuple #[.agg #[.slice none 0 0, .slice none 0 0], .bool false]) (by simp [results, Try.results27, go_sem, c0, c1]) rfl ⟨_, _, rfl, OwR.nil _ (by simp [World.setCell]; omega), ?_⟩
    iterate 2 refine Below.setCell ?_ (by show _ ≤ _ + _; omega) _
    exact bb
  | true =>
    have hok := pOkB_iff.1 hz
    have hA12 : X.1.length ≤ 12 := hok.2.1
    have hA1 : 1 ≤ X.1.length := hok.1
    clear hz
    by_cases hk0 : k < 0
    · rw [mRa_no (fun q => by have := q.2.1; omega)]
      clear hok
      go_enter Try.func27, Try.ntmps27
      go_wp2_with fail
      refine HI.mono ?_
      rintro e w1 ⟨rfl, hb⟩
      have r1 := hres.below hb
      have c0 := r1.c0
      have c1 := r1.c1
      have f0 := r1.f0
      have f1 := r1.f1
      have bb := b1.trans (hb.mono b1.size)
      have hsb := bb.size
      clear hb HI hpa hres r1
      go_wp2
      refine bodyPost_ret (v := .tuple #[.agg #[.slice none 0 0, .slice none 0 0], .bool false]) (by simp [results, Try.results27, go_sem, c0, c1]) rfl ⟨_, _, rfl, OwR.nil _ (by simp [World.setCell]; omega), ?_⟩
      iterate 2 refine Below.setCell ?_ (by show _ ≤ _ + _; omega) _
      exact bb
    by_cases hk1 : (X.1.length : Int) ≤ k
    · rw [mRa_no (fun q => by have := q.2.2.1; omega)]
      clear hok
      go_enter Try.func27, Try.ntmps27
      go_wp2_with fail
      refine HI.mono ?_
      rintro e w1 ⟨rfl, hb⟩
      have r1 := hres.below hb
      have c0 := r1.c0
      have c1 := r1.c1
      have f0 := r1.f0
      have f1 := r1.f1
      obtain ⟨y0, y1, yl⟩ := hpa.below hb
      have bb := b1.trans (hb.mono b1.size)
      have hsb := bb.size
      clear hb HI hpa hres r1
      go_wp2
      refine bodyPost_ret (v := .tuple #[.agg #[.slice none 0 0, .slice none 0 0], .bool false]) (by simp [results, Try.results27, go_sem, c0, c1]) rfl ⟨_, _, rfl, OwR.nil _ (by simp [World.setCell]; omega), ?_⟩
      iterate 2 refine Below.setCell ?_ (by show _ ≤ _ + _; omega) _
      exact bb
    obtain ⟨kn, rfl⟩ : ∃ kn : Nat, k = kn := ⟨k.toNat, by omega⟩
    have hkn : kn < X.1.length := by omega
    have hr := (hok.2.2.2.2.2 kn hkn).1
    have hlen : (X.1.getD kn []).length ≤ 1048576 := HH.out.fits.1.2 kn hkn
    have hl6 : (X.1.getD kn []).length ≤ 6 := by have h1 := hr.1; have h2 := hok.2.2.2.2.1; omega
    obtain ⟨c', a1, a2⟩ := HR.out.at (k := kn) hkn
    have HPL := fun w' (hb : Below w.heap.size w w') => idx_any (.slice (some ⟨c', 0, none⟩) (X.1.getD kn []).length (X.1.getD kn []).length) (X.1.getD kn []) o w' ((a2.below hb).row _) (by omega)
    obtain ⟨z, hzx⟩ : ∃ z, ix (X.1.getD kn []) o = z := ⟨_, rfl⟩
    simp only [hzx] at HPL
    have hzb := ix_bd (X.1.getD kn []) o
    rw [hzx] at hzb
    by_cases hz1 : z < 1
    · rw [mRa_no (fun q => by have := q.2.2.2; simp only [Int.toNat_natCast] at this; rw [hzx] at this; omega)]
      obtain ⟨l, hl⟩ : ∃ l, X.1.getD kn [] = l := ⟨_, rfl⟩
      rw [hl] at a1 hlen hl6
      simp only [hl] at HPL
      clear hok hr a2 hzx hzb hl
      go_enter Try.func27, Try.ntmps27
      go_wp2_with fail
      refine HI.mono ?_
      rintro e w1 ⟨rfl, hb⟩
      have r1 := hres.below hb
      have c0 := r1.c0
      have c1 := r1.c1
      have f0 := r1.f0
      have f1 := r1.f1
      have bb := b1.trans (hb.mono b1.size)
      obtain ⟨y0, y1, yl⟩ := hpa.below hb
      have y2 := (bb.cell (p := ⟨b, kn, none⟩) hbl).trans a1
      have HP1 := HPL w1 bb
      have hsb := bb.size
      clear hb HI hpa hres r1 HPL
      go_wp2_with fail
      refine HP1.mono ?_
      rintro e w2 ⟨rfl, rfl⟩
      go_wp2
      refine bodyPost_ret (v := .tuple #[.agg #[.slice none 0 0, .slice none 0 0], .bool false]) (by simp [results, Try.results27, go_sem, c0, c1]) rfl ⟨_, _, rfl, OwR.nil _ (by simp [World.setCell]; omega), ?_⟩
      iterate 2 refine Below.setCell ?_ (by show _ ≤ _ + _; omega) _
      exact bb
    · have hmem : o ∈ X.1.getD kn [] := hzb.2.2.1 (by omega)
      obtain ⟨p, hp1, hp2, hp3⟩ := ix_at hmem
      rw [hzx] at hp1
      obtain ⟨q, rfl⟩ : ∃ q, p = q + 1 := ⟨p - 1, by omega⟩
      have hm : mRa X kn o = ((X.1.set kn (rz (X.1.getD kn []) (q + 1)), X.2), true) := by
        rw [mRa_yes ⟨hok, by omega, by omega, by simp only [Int.toNat_natCast]; rw [hzx]; omega⟩]
        simp only [Int.toNat_natCast, hzx, hp1]
      rw [hm]
      have hcq : z = (q : Int) + 1 := by omega
      subst hcq
      have HCH := fun w' (hb : Below w.heap.size w w') => ichg X b c hi w' (HH.out.below hb) hA12 52 (fun _ _ => rfl) #[] X.1 rfl HH.out.fits.1
        (fun k wr w1 g cap hk hbr hb1 hu _ => iid (X.1.getD k []) g cap wr w1 hb1 hu)
      obtain ⟨l, hl⟩ : ∃ l, X.1.getD kn [] = l := ⟨_, rfl⟩
      rw [hl] at a1 hlen hl6 hp2 hp3 ⊢
      simp only [hl] at HPL
      have HLL := Lib.hid hl
      have wq1 : IntKind.i64.wrap ((q : Int) + 1 - 1) = (q : Int) := by rw [IntKind.wrap_i64]; omega
      have wq2 : IntKind.i64.wrap (q : Int) = (q : Int) := by rw [IntKind.wrap_i64]; omega
      clear hok hr a2 hzx hzb hl hm hmem hp1
      go_enter Try.func27, Try.ntmps27
      go_wp2_with fail
      refine HI.mono ?_
      rintro e w1 ⟨rfl, hb⟩
      have r1 := hres.below hb
      have bb := b1.trans (hb.mono b1.size)
      have p1 := hpa.below hb
      have p1' := p1
      obtain ⟨y0, y1, yl⟩ := p1'
      have y2 := (bb.cell (p := ⟨b, kn, none⟩) hbl).trans a1
      have HP1 := HPL w1 bb
      have HC := HCH w1 bb
      have hs0 : w.heap.size + 2 ≤ w1.heap.size := by have := hb.size; simpa using this
      clear hb HI hpa hres HPL HCH
      go_wp2_with fail
      refine HP1.mono ?_
      rintro e w1' ⟨rfl, rfl⟩
      go_wp2_with fail
      refine HC.mono ?_
      rintro e w2 ⟨⟨a, cc', rfl, hO⟩, hb2⟩
      obtain ⟨md, m1, m2, m3, m4⟩ := hO
      obtain ⟨b', cap, hva, hb1', hb2'⟩ : ∃ b' cap, a = .slice (some ⟨b', 0, none⟩) X.1.length cap ∧ w1.heap.size ≤ b' ∧ b' < md := by
        obtain ⟨⟨h1, h2⟩ | ⟨d, cp', N, f', h1, h3, h4, -⟩, -⟩ := m3
        · have h9 : X.1.length = 0 := by rw [h2]; rfl
          omega
        · exact ⟨_, _, h1, h3, h4⟩
      obtain ⟨wa, wc, hwa⟩ := m4.shape
      subst hva
      subst hwa
      have bo := (Below.refl w2.heap.size w2).alloc (Nat.le_refl _) (.cells #[.slice (some ⟨b', 0, none⟩) X.1.length cap, .slice wa X.2.length wc] 28)
      have hbx : PBox (w2.alloc (.cells #[.slice (some ⟨b', 0, none⟩) X.1.length cap, .slice wa X.2.length wc] 28)) w2.heap.size (.slice (some ⟨b', 0, none⟩) X.1.length cap) (.slice wa X.2.length wc) := heap_alloc_new _ _
      have r3 := (r1.below hb2).below bo
      have bb3 := (bb.trans (hb2.mono bb.size)).trans (bo.mono (by have := hb2.size; have := bb.size; omega))
      have hO3 := m3.below bo
      have hOi3 := m4.below bo
      have hll : (X.1.getD kn []).length = l.length := by rw [HLL.out]
      obtain ⟨d, cp, d1, d2, d3, d4, d5, d6, d8, d9, d10⟩ := hO3.set2 (i := kn) hkn (by rw [hll]; omega)
      rw [hll, HLL.out] at d9
      rw [hll] at d1
      obtain ⟨e1, e2⟩ := d9 q (by omega)
      obtain ⟨e3, e4⟩ := d9 (q + 1) (by omega)
      obtain ⟨x, hx⟩ : ∃ x, l.getD q 0 = x := ⟨_, rfl⟩
      rw [hx] at e1
      rw [hp3] at e3
      have hS := d10 q o (q + 1) x (by rw [hll]; omega) (by rw [hll]; omega)
      have hrz : ((X.1.getD kn []).set q o).set (q + 1) x = rz l (q + 1) := by
        rw [HLL.out]; unfold rz; rw [hp3, ← hx]
        simp only [Nat.add_sub_cancel]
        rw [List.set_comm _ _ (by omega)]
      rw [hrz] at hS
      have hS2 : OwI (((w2.alloc (.cells #[.slice (some ⟨b', 0, none⟩) X.1.length cap, .slice wa X.2.length wc] 28)).setCell ⟨d, q, none⟩ (.int .i64 o)).setCell ⟨d, q + 1, none⟩ (.int .i64 x)) md w2.heap.size (.slice wa X.2.length wc) X.2 := by
        have h1 : OwI ((w2.alloc (.cells #[.slice (some ⟨b', 0, none⟩) X.1.length cap, .slice wa X.2.length wc] 28)).setCell ⟨d, q, none⟩ (.int .i64 o)) md w2.heap.size (.slice wa X.2.length wc) X.2 := hOi3.block fun y hy _ => heap_setCell_other _ _ _ _ (show y ≠ d from fun q => by have := (hOi3.inb y hy).1; omega)
        exact h1.block fun y hy _ => heap_setCell_other _ _ _ _ (show y ≠ d from fun q => by have := (hOi3.inb y hy).1; omega)
      have hBS := (bb3.setCell (p := ⟨d, q, none⟩) (by show w.heap.size ≤ d; omega) (.int .i64 o)).setCell (p := ⟨d, q + 1, none⟩) (by show w.heap.size ≤ d; omega) (.int .i64 x)
      have x0 := hbx.c0
      have x1 := hbx.c1
      have c0 := r3.c0
      have c1 := r3.c1
      have f0 := r3.f0
      have f1 := r3.f1
      have hsz2 := hb2.size
      have HFIN := Lib.hid (And.intro hS (And.intro hS2 hBS))
      have n1 : ¬ w2.heap.size = d := by omega
      have n2 : ¬ w.heap.size + 1 = d := by omega
      have n3 : ¬ b' = d := fun e => d5 e.symm
      have n4 : ¬ w2.heap.size = w.heap.size + 1 := by omega
      have n5 : ¬ q + 1 = q := by omega
      have n6 : ¬ q = q + 1 := by omega
      clear hS hS2 hBS hb2 bo hbx r3 bb3 hO3 hOi3 d9 d10 hrz hx r1 y0 y1 y2 HC HP1 hll m3 m4 p1
      go_wp2
      go_region_with (fail)
      all_goals go_wp2
      all_goals refine bodyPost_ret (v := .tuple #[.agg #[.slice (some ⟨b', 0, none⟩) X.1.length cap, .slice wa X.2.length wc], .bool true]) (by simp [results, Try.results27, go_sem, c0, c1]) rfl ⟨_, _, rfl, OwR.mk ⟨md, by omega, by simp [World.setCell]; omega, ?_, ?_⟩, ?_⟩
      all_goals first
        | (refine OwJ.mono (lo := w1.heap.size) (hi := md) ?_ (by omega) (Nat.le_refl _)
           iterate 2 refine OwJ.other ?_ (by show _ + _ < _; omega) _
           exact HFIN.out.1)
        | (have far : ∀ (W : World) (q : Nat) (u : Value), OwI W md w2.heap.size (.slice wa X.2.length wc) X.2 → OwI (W.setCell ⟨w.heap.size + 1, q, none⟩ u) md w2.heap.size (.slice wa X.2.length wc) X.2 := fun W q u hW =>
             hW.block fun y e _ => heap_setCell_other _ _ _ _ (show y ≠ w.heap.size + 1 from fun q => by have := (hW.inb y e).1; omega)
           refine OwI.mono (lo := md) (hi := w2.heap.size) ?_ (Nat.le_refl _) (by simp [World.setCell] <;> omega)
           iterate 2 refine far _ _ _ ?_
           exact HFIN.out.2.1)
        | (have fb : ∀ (W : World) (q : Nat) (u : Value), Below w.heap.size w W → Below w.heap.size w (W.setCell ⟨w.heap.size + 1, q, none⟩ u) := fun W q u hW => hW.setCell (p := ⟨w.heap.size + 1, q, none⟩) (by show w.heap.size ≤ w.heap.size + 1; omega) u
           first
             | exact (fb _ _ _ (fb _ _ _ HFIN.out.2.2)).drew
             | exact fb _ _ _ (fb _ _ _ HFIN.out.2.2)
             | exact fb _ _ _ (fb _ _ _ HFIN.out.2.2.drew))
end Go.Proofs.Ytnpolmanebmmcaa
