/- DropOption: the program's answer. -/
import Derived.Test.YtnpolmanebmmcaaDr2
namespace Go.Proofs.Ytnpolmanebmmcaa
open Go.ChangeShapes Go.WideShapes Go.ChangeAt Go.RowKit Go.Deep
set_option linter.unusedSimpArgs false
set_option linter.unusedVariables false
theorem one_made (w : World) (o : Int) : OwnI (w.alloc (.cells #[.int .i64 o] 2)) w.heap.size [o] := by
  refine ⟨#[.int .i64 o], heap_alloc_new w _, rfl, fun i hi => ?_⟩
  have : i = 0 := by simpa using hi
  subst this
  rfl
theorem ad_one {n : Nat} {o : Int} : allDiff n [o] ↔ 0 ≤ o ∧ o < (n : Int) := by
  constructor
  · intro h
    have := h 0 (by simp)
    simpa using this
  · intro h m hm
    have : m = 0 := by simpa using hm
    subst this
    simpa using h
set_option maxHeartbeats 2000000 in
set_option maxRecDepth 100000 in
theorem iho (X : Pr) (b c hi : Nat) (w : World) (h : RfR w b c hi X) (s : Nat) (o : Int) (hs : OwnI w s [o]) :
    Calls Try.prog 55 #[.agg #[.slice (some ⟨b, 0, none⟩) X.1.length X.1.length, .slice (some ⟨c, 0, none⟩) X.2.length X.2.length], .slice (some ⟨s, 0, none⟩) 1 1] w fun e w' => e = .returned (.bool (pOkB X && allDiffB (nop X) [o])) ∧ Below w.heap.size w w' := by
  have b1 := (Below.refl w.heap.size w).alloc (Nat.le_refl _) (.cells #[.slice (some ⟨b, 0, none⟩) X.1.length X.1.length, .slice (some ⟨c, 0, none⟩) X.2.length X.2.length] 28)
  have HI := ival X b c hi _ (h.below b1)
  have hpa := pr_at w (.slice (some ⟨b, 0, none⟩) X.1.length X.1.length) (.slice (some ⟨c, 0, none⟩) X.2.length X.2.length)
  have HR := Lib.hid h.rows
  have hbl : b < w.heap.size := h.rows.lt
  have HSS := Lib.hid hs
  obtain ⟨z, hz⟩ : ∃ z, pOkB X = z := ⟨_, rfl⟩
  rw [hz] at HI ⊢
  clear h hs
  cases z with
  | false =>
    clear hz
    go_enter Try.func55, Try.ntmps55
    go_wp2_with fail
    refine HI.mono ?_
    rintro e w1 ⟨rfl, hb⟩
    go_wp2
    go_ret
    exact ⟨rfl, b1.trans (hb.mono b1.size)⟩
  | true =>
    have hok := pOkB_iff.1 hz
    have hA1 := hok.1
    have hn6 : nop X ≤ 6 := hok.2.2.2.2.1
    obtain ⟨c0, a1, -⟩ := HR.out.at (k := 0) (by omega)
    have hnp : (X.1.getD 0 []).length = nop X := rfl
    rw [hnp] at a1
    obtain ⟨n, hn⟩ : ∃ n, nop X = n := ⟨_, rfl⟩
    rw [hn] at a1 hn6 ⊢
    have HD := fun w' (hb : Below w.heap.size w w') => diffI (some ⟨c0, 0, none⟩) n n (.slice (some ⟨s, 0, none⟩) 1 1) [o] w' ((HSS.out.below hb).row 1) (by simp) (by omega)
    obtain ⟨y, hy⟩ : ∃ y, allDiffB n [o] = y := ⟨_, rfl⟩
    simp only [hy] at HD ⊢
    clear hz hok hn hnp hy
    obtain ⟨A, C⟩ := X
    simp only at HI hpa hA1 b1 a1 ⊢
    go_enter Try.func55, Try.ntmps55
    go_wp2_with fail
    refine HI.mono ?_
    rintro e w1 ⟨rfl, hb⟩
    have b2 := b1.trans (hb.mono b1.size)
    obtain ⟨k0, k1, kl⟩ := hpa.below hb
    have a2 := (b2.cell (p := ⟨b, 0, none⟩) hbl).trans a1
    have HD1 := HD w1 b2
    have s2 := b2.size
    clear hb HI hpa HD
    go_wp2_with fail
    refine HD1.mono ?_
    rintro e w2 ⟨rfl, hb2⟩
    go_wp2
    go_ret
    exact ⟨by first | rfl | simp, b2.trans (hb2.mono s2)⟩
set_option maxHeartbeats 4000000 in
set_option maxRecDepth 100000 in
theorem iDr (X : Pr) (o0 : Int) (w : World) (lo hi : Nat) (u : Value) (h : CpR w lo hi u X) (wfo : (Lit.int .i64 o0).wf = true) : Calls Try.prog 30 #[u, .int .i64 o0] w (QRb (mDr X o0) w) := by
  obtain ⟨b, c, rfl, -, h⟩ := h
  obtain ⟨W0, hW0⟩ : ∃ W0, ((w.alloc (.cells #[.slice (some ⟨b, 0, none⟩) X.1.length X.1.length, .slice (some ⟨c, 0, none⟩) X.2.length X.2.length] 28)).alloc (.cells #[.int .i64 o0] 2)).alloc (.cells #[.slice none 0 0, .slice none 0 0] 28) = W0 := ⟨_, rfl⟩
  have b0 : Below w.heap.size w W0 := by rw [← hW0]; exact (((Below.refl _ _).alloc (Nat.le_refl _) _).alloc (by simp) _).alloc (by simp; omega) _
  have hsz0 : W0.heap.size = w.heap.size + 1 + 1 + 1 := by rw [← hW0]; simp
  have hpa0 : PrAt W0 w.heap.size (.slice (some ⟨b, 0, none⟩) X.1.length X.1.length) (.slice (some ⟨c, 0, none⟩) X.2.length X.2.length) := by
    rw [← hW0]
    exact (pr_at w _ _).below (((Below.refl _ _).alloc (Nat.le_refl _) _).alloc (by simp) _)
  have hq0 : W0.cell? ⟨w.heap.size + 1, 0, none⟩ = some (.int .i64 o0) := by
    have h1 := ((Boxed.new (w.alloc (.cells #[.slice (some ⟨b, 0, none⟩) X.1.length X.1.length, .slice (some ⟨c, 0, none⟩) X.2.length X.2.length] 28)) 2 (.int .i64 o0)).alloc (.cells #[.slice none 0 0, .slice none 0 0] 28)).cell
    rw [World.size_alloc, hW0] at h1
    exact h1
  have hres0 : PBox W0 (w.heap.size + 1 + 1) (.slice none 0 0) (.slice none 0 0) := by
    have := heap_alloc_new ((w.alloc (.cells #[.slice (some ⟨b, 0, none⟩) X.1.length X.1.length, .slice (some ⟨c, 0, none⟩) X.2.length X.2.length] 28)).alloc (.cells #[.int .i64 o0] 2)) (.cells #[.slice none 0 0, .slice none 0 0] 28)
    rw [World.size_alloc, World.size_alloc, hW0] at this
    exact this
  have bs := (Below.refl W0.heap.size W0).alloc (Nat.le_refl _) (.cells #[.int .i64 o0] 2)
  have b1 := b0.trans (bs.mono b0.size)
  have HO := iho X b c hi _ (h.below b1) (w.heap.size + 1 + 1 + 1) o0 (by rw [← hsz0]; exact one_made W0 o0)
  have hpa := hpa0.below bs
  have hres := hres0.below bs
  have hq := (bs.cell (p := ⟨w.heap.size + 1, 0, none⟩) (by show w.heap.size + 1 < W0.heap.size; omega)).trans hq0
  have HH := Lib.hid h
  have HR := Lib.hid h.rows
  have hbl : b < w.heap.size := h.rows.lt
  have HW0 := Lib.hid hW0
  have p00 := hpa0.c0
  have p01 := hpa0.c1
  obtain ⟨z, hz⟩ : ∃ z, (pOkB X && allDiffB (nop X) [o0]) = z := ⟨_, rfl⟩
  rw [hz] at HO
  rw [← hW0] at HO hq0 p00 p01
  clear h hW0 hres0 hpa0
  cases z with
  | false =>
    rw [mDr_no (fun q => by
      have h1 := pOkB_yes q.1
      have h2 := allDiffB_yes (ad_one.2 ⟨q.2.1, q.2.2.1⟩)
      rw [h1, h2] at hz
      cases hz)]
    clear hz
    go_enter Try.func30, Try.ntmps30
    go_wp2_with fail
    refine HO.mono ?_
    rintro e w1 ⟨rfl, hb⟩
    rw [HW0.out] at hb
    have r1 := hres.below hb
    have c0 := r1.c0
    have c1 := r1.c1
    have f0 := r1.f0
    have f1 := r1.f1
    have bb := b1.trans (hb.mono b1.size)
    have hsb := bb.size
    clear hb HO hpa hres r1 hq hq0 p00 p01
    go_wp2
    refine bodyPost_ret (v := .tuple #[.agg #[.slice none 0 0, .slice none 0 0], .bool false]) (by simp [results, Try.results30, go_sem, c0, c1]) rfl ⟨_, _, rfl, OwR.nil _ (by simp [World.setCell]; omega), ?_⟩
    iterate 2 refine Below.setCell ?_ (by show _ ≤ _ + _; omega) _
    exact bb
  | true =>
    have hpk : pOkB X = true ∧ allDiffB (nop X) [o0] = true := by simpa using hz
    have hok := pOkB_iff.1 hpk.1
    have had : 0 ≤ o0 ∧ o0 < (nop X : Int) := ad_one.1 (by have := hpk.2; unfold allDiffB at this; exact @of_decide_eq_true _ (_) this)
    have hA1 := hok.1
    have hA12 := hok.2.1
    have hn6 : nop X ≤ 6 := hok.2.2.2.2.1
    have hl6 : ∀ k, k < X.1.length → (X.1.getD k []).length ≤ 6 ∧ ∀ x ∈ X.1.getD k [], 0 ≤ x ∧ x < 6 := fun k hk => by
      have h1 := (hok.2.2.2.2.2 k hk).1
      have h2 := hok.2.2.2.2.1
      have h3 := h1.1
      exact ⟨by omega, fun x hx => by have := allDiff_mem h1.2 x hx; omega⟩
    obtain ⟨c0, a1, -⟩ := HR.out.at (k := 0) (by omega)
    have hnp : (X.1.getD 0 []).length = nop X := rfl
    rw [hnp] at a1
    by_cases hn1 : nop X = 1
    · rw [mDr_no (fun q => q.2.2.2 hn1)]
      rw [hn1] at a1
      clear hz hpk hok had hn1 hnp hl6 hn6
      obtain ⟨A, C⟩ := X
      simp only at HO hpa hA1 b1 a1 p00 p01 ⊢
      go_enter Try.func30, Try.ntmps30
      go_wp2_with fail
      refine HO.mono ?_
      rintro e w1 ⟨rfl, hb⟩
      rw [HW0.out] at hb
      have r1 := hres.below hb
      have k0 := r1.c0
      have k1 := r1.c1
      have f0 := r1.f0
      have f1 := r1.f1
      obtain ⟨y0, y1, yl⟩ := hpa.below hb
      have bb := b1.trans (hb.mono b1.size)
      have a2 := (bb.cell (p := ⟨b, 0, none⟩) hbl).trans a1
      have hsb := bb.size
      clear hb HO hpa hres r1 hq hq0 p00 p01
      go_wp2
      refine bodyPost_ret (v := .tuple #[.agg #[.slice none 0 0, .slice none 0 0], .bool false]) (by simp [results, Try.results30, go_sem, k0, k1]) rfl ⟨_, _, rfl, OwR.nil _ (by simp [World.setCell]; omega), ?_⟩
      iterate 2 refine Below.setCell ?_ (by show _ ≤ _ + _; omega) _
      exact bb
    · rw [mDr_yes ⟨hok, had.1, had.2, hn1⟩]
      have HCH := fun w' (hb : Below w.heap.size w w') (hqw : w'.cell? ⟨w.heap.size + 1, 0, none⟩ = some (.int .i64 o0)) => ichg X b c hi w' (HH.out.below hb) hA12 56 (fun _ _ => rfl) #[.pointer (some ⟨w.heap.size + 1, 0, none⟩)] (drops X.1 o0 X.1.length) (drops_len _ _ _) (drops_fits HH.out.fits.1)
        (fun k wr w1 g cap hk hbr hb1 hu hcap => by rw [drops_at _ _ hk]; exact idr1 (X.1.getD k []) o0 g cap (w.heap.size + 1) wr w1 hb1 hu hcap ((hbr.cell (p := ⟨w.heap.size + 1, 0, none⟩) (World.block_lt_of_cell? _ _ hqw)).trans hqw) (hl6 k hk).1 (hl6 k hk).2)
      obtain ⟨n, hn⟩ : ∃ n, nop X = n := ⟨_, rfl⟩
      rw [hn] at a1 hn1 hn6
      have hn1' : ¬ (n : Int) = 1 := by omega
      clear hz hpk hok had hnp hl6 hn hn1
      have hXl : X.1.length = X.1.length := rfl
      go_enter Try.func30, Try.ntmps30
      go_wp2_with fail
      refine HO.mono ?_
      rintro e w1 ⟨rfl, hb⟩
      rw [HW0.out] at hb
      have r1 := hres.below hb
      obtain ⟨y0, y1, yl⟩ := hpa.below hb
      have bb := b1.trans (hb.mono b1.size)
      have a2 := (bb.cell (p := ⟨b, 0, none⟩) hbl).trans a1
      have hqq := (hb.cell (p := ⟨w.heap.size + 1, 0, none⟩) (World.block_lt_of_cell? _ _ hq)).trans hq
      have HC := HCH w1 bb hqq
      have hs0 : w.heap.size + 3 ≤ w1.heap.size := by have := hb.size; have h2 := bs.size; omega
      clear hb HO hpa hres HCH hq hq0 p00 p01
      go_wp2_with fail
      refine HC.mono ?_
      rintro e w2 ⟨⟨a, cc', rfl, hOR⟩, hb2⟩
      have r2 := r1.below hb2
      have k0 := r2.c0
      have k1 := r2.c1
      have f0 := r2.f0
      have f1 := r2.f1
      have bb2 := bb.trans (hb2.mono bb.size)
      obtain ⟨md, m1, m2, m3, m4⟩ := hOR
      obtain ⟨va, vc, hva⟩ : ∃ va vc, a = .slice va X.1.length vc := by
        obtain ⟨⟨h1, h2⟩ | ⟨d, cp', N, f', h1, -⟩, -⟩ := m3
        · have := congrArg List.length h2
          rw [drops_len] at this
          exact ⟨none, 0, by rw [this]; exact h1⟩
        · rw [drops_len] at h1; exact ⟨_, _, h1⟩
      obtain ⟨wa, wc, hwa⟩ := m4.shape
      subst hva
      subst hwa
      have HF := Lib.hid (And.intro m3 (And.intro m4 bb2))
      clear m3 m4 bb2 r1 r2 hb2 HC bb y0 y1 yl a2 hqq
      go_wp2
      refine bodyPost_ret (v := .tuple #[.agg #[.slice va X.1.length vc, .slice wa X.2.length wc], .bool true]) (by simp [results, Try.results30, go_sem, k0, k1]) rfl ⟨_, _, rfl, OwR.mk ⟨md, by omega, by simp [World.setCell]; omega, ?_, ?_⟩, ?_⟩
      · refine OwJ.mono (lo := w1.heap.size) (hi := md) ?_ (by omega) (Nat.le_refl _)
        iterate 2 refine OwJ.other ?_ (by show _ + _ < _; omega) _
        exact HF.out.1
      · have far : ∀ (W : World) (q : Nat) (u : Value), OwI W md w2.heap.size (.slice wa X.2.length wc) X.2 → OwI (W.setCell ⟨w.heap.size + 1 + 1, q, none⟩ u) md w2.heap.size (.slice wa X.2.length wc) X.2 := fun W q u hW =>
          hW.block fun d e _ => heap_setCell_other _ _ _ _ (show d ≠ w.heap.size + 1 + 1 from fun q => by have := (hW.inb d e).1; omega)
        refine OwI.mono (lo := md) (hi := w2.heap.size) ?_ (Nat.le_refl _) (by simp [World.setCell])
        iterate 2 refine far _ _ _ ?_
        exact HF.out.2.1
      · iterate 2 refine Below.setCell ?_ (by show _ ≤ _ + _; omega) _
        exact HF.out.2.2
end Go.Proofs.Ytnpolmanebmmcaa
