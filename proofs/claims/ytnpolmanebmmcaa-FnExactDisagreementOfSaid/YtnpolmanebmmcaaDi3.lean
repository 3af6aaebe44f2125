/- DisagreementOf: the two sides' answers. -/
import Derived.Test.YtnpolmanebmmcaaDi2
namespace Go.Proofs.Ytnpolmanebmmcaa
open Go.ChangeShapes Go.WideShapes Go.ChangeAt Go.RowKit Go.Deep
set_option linter.unusedSimpArgs false
set_option linter.unusedVariables false
def Pnb (m : Int × Bool) (w : World) (e : Ending) (w' : World) : Prop := e = .returned (.tuple #[.int .i64 m.1, .bool m.2]) ∧ Below w.heap.size w w'
theorem Pnb.out {n : Int} {z : Bool} {w w' : World} {e : Ending} (h : Pnb (n, z) w e w') : e = .returned (.tuple #[.int .i64 n, .bool z]) ∧ Below w.heap.size w w' := h
def Qnb := Pnb
theorem Qnb.out {n : Int} {z : Bool} {w w' : World} {e : Ending} (h : Qnb (n, z) w e w') : e = .returned (.tuple #[.int .i64 n, .bool z]) ∧ Below w.heap.size w w' := h
noncomputable def mDi (X : Pr) (l : List Int) : Int × Bool := if pOkB X && rkB (nop X) l then (dis (cmat X) (prs 0 l), true) else (0, false)
set_option maxHeartbeats 2000000 in
set_option maxRecDepth 100000 in
theorem sDi (X : Pr) (l : List Int) (w : World) (lo hi : Nat) (u : Value) (h : CpR w lo hi u X) (lo1 hi1 : Nat) (u1 : Value) (h1 : CpI w lo1 hi1 u1 l) : Calls Try.prog 33 #[u, u1] w (Pnb (mDi X l) w) := by
  obtain ⟨b, c, rfl, -, h⟩ := h
  obtain ⟨rfl, hl, -, hlen⟩ := h1
  have b1 := (Below.refl w.heap.size w).alloc (Nat.le_refl _) (.cells #[.slice (some ⟨b, 0, none⟩) X.1.length X.1.length, .slice (some ⟨c, 0, none⟩) X.2.length X.2.length] 28)
  have hX : ∀ w', Below w.heap.size w w' → PrAt w' w.heap.size (.slice (some ⟨b, 0, none⟩) X.1.length X.1.length) (.slice (some ⟨c, 0, none⟩) X.2.length X.2.length) → PrX w' w.heap.size b c X := fun w' hb hp => (h.below hb).prx hp
  have HI := sIs X w.heap.size b c _ (hX _ b1 (pr_at w _ _)) h.fits
  have HP := fun w' hb hp hok => spairs X w.heap.size b c w' (hX w' hb hp) hok
  have HC := fun w' hb hp hA => scnt w.heap.size b c X w' (hX w' hb hp) hA
  have HLI := Lib.hid hl
  have hpa := pr_at w (.slice (some ⟨b, 0, none⟩) X.1.length X.1.length) (.slice (some ⟨c, 0, none⟩) X.2.length X.2.length)
  obtain ⟨z, hz⟩ : ∃ z, pOkB X = z := ⟨_, rfl⟩
  rw [hz] at HI
  clear h hX hl
  cases z with
  | false =>
    have hm : mDi X l = (0, false) := by simp [mDi, hz]
    rw [hm]
    clear hz HP HC hm
    go_enter Try.func33, Try.ntmps33
    go_wp2_with fail
    refine HI.mono ?_
    rintro e w1 ⟨rfl, hb⟩
    go_wp2
    go_ret2
    exact ⟨rfl, b1.trans (hb.mono b1.size)⟩
  | true =>
    have hok := pOkB_iff.1 hz
    have hn6 : nop X ≤ 6 := hok.2.2.2.2.1
    have hn1 : 1 ≤ nop X := hok.2.2.2.1
    have hcm := cmat_ok hok
    obtain ⟨y, hy⟩ : ∃ y, rkB (nop X) l = y := ⟨_, rfl⟩
    have hm : mDi X l = if y then (dis (cmat X) (prs 0 l), true) else (0, false) := by simp [mDi, hz, hy]
    rw [hm]
    have HPP := fun w' hb hp => HP w' hb hp hok
    have HCC : ∀ w', Below w.heap.size w w' → PrAt w' w.heap.size (.slice (some ⟨b, 0, none⟩) X.1.length X.1.length) (.slice (some ⟨c, 0, none⟩) X.2.length X.2.length) → Calls Try.prog 53 #[.pointer (some ⟨w.heap.size, 0, none⟩)] w' fun e w'' => e = .returned (.int .i64 (nop X : Int)) ∧ w' = w'' := fun w' hb hp => HC w' hb hp hok.1
    have HR := fun w' (hb : Below w.heap.size w w') => srank (.slice (some ⟨lo1, 0, none⟩) l.length l.length) l (nop X) w' ((HLI.out.below hb).row l.length) hlen (by omega)
    simp only [hy] at HR
    clear HP HC hz hm
    obtain ⟨n, hn⟩ : ∃ n, nop X = n := ⟨_, rfl⟩
    obtain ⟨M, hM⟩ : ∃ M, cmat X = M := ⟨_, rfl⟩
    rw [hM, hn] at hcm
    simp only [hn, hM] at HPP HCC HR hn6 hn1 hy ⊢
    have HCM := Lib.hid hcm
    have HYY := Lib.hid hy
    clear hok hn hM hcm hy
    cases y with
    | false =>
      clear HPP
      go_enter Try.func33, Try.ntmps33
      go_wp2_with fail
      refine HI.mono ?_
      rintro e w1 ⟨rfl, hb⟩
      have b2 := b1.trans (hb.mono b1.size)
      have HC1 := HCC w1 b2 (hpa.below hb)
      have HR1 := HR w1 b2
      have s2 := b2.size
      clear HCC HR hb HI
      go_wp2_with fail
      refine HC1.mono ?_
      rintro e w1' ⟨rfl, rfl⟩
      go_wp2_with fail
      refine HR1.mono ?_
      rintro e w2 ⟨rfl, hb2⟩
      go_wp2
      go_ret2
      exact ⟨rfl, b2.trans (hb2.mono s2)⟩
    | true =>
      have hk : rkOk n l := rkB_iff.1 HYY.out
      have HLL : Hid (l.length = n) := Lib.hid hk.1
      go_enter Try.func33, Try.ntmps33
      go_wp2_with fail
      refine HI.mono ?_
      rintro e w1 ⟨rfl, hb⟩
      have b2 := b1.trans (hb.mono b1.size)
      have HC1 := HCC w1 b2 (hpa.below hb)
      have HR1 := HR w1 b2
      have s2 := b2.size
      have hp1 := hpa.below hb
      clear HCC HR hb HI
      go_wp2_with fail
      refine HC1.mono ?_
      rintro e w1' ⟨rfl, rfl⟩
      go_wp2_with fail
      refine HR1.mono ?_
      rintro e w2 ⟨rfl, hb2⟩
      have b3 := b2.trans (hb2.mono s2)
      have HQ := HPP w2 b3 (hp1.below hb2)
      have s3 := b3.size
      clear HPP hb2 HC1 HR1
      go_wp2_with fail
      refine HQ.mono ?_
      rintro e w3 ⟨⟨b', cap, rfl, hO⟩, hb3⟩
      have b4 := b3.trans (hb3.mono s3)
      have HD : Calls Try.prog 62 #[.slice (some ⟨b', 0, none⟩) n cap, .slice (some ⟨lo1, 0, none⟩) l.length l.length] w3 fun e w' => e = .returned (.int .i64 (dis M (prs 0 l))) ∧ Below w3.heap.size w3 w' := by
        rw [HLL.out]
        exact sdis M n w2.heap.size w3.heap.size b' cap l lo1 n w3 hO HCM.out.1 HCM.out.2 hn6 (HLI.out.below b4) hk
      clear hO HQ hb3 hk
      have s4 := b4.size
      go_wp2_with fail
      refine HD.mono ?_
      rintro e w4 ⟨rfl, hb4⟩
      go_wp2
      go_ret2
      exact ⟨rfl, b4.trans (hb4.mono s4)⟩
set_option maxHeartbeats 2000000 in
set_option maxRecDepth 100000 in
theorem iDi (X : Pr) (l : List Int) (w : World) (lo hi : Nat) (u : Value) (h : CpR w lo hi u X) (lo1 hi1 : Nat) (u1 : Value) (h1 : CpI w lo1 hi1 u1 l) : Calls Try.prog 35 #[u, u1] w (Qnb (mDi X l) w) := by
  obtain ⟨b, c, rfl, -, h⟩ := h
  obtain ⟨rfl, hl, -, hlen⟩ := h1
  have b1 := (Below.refl w.heap.size w).alloc (Nat.le_refl _) (.cells #[.slice (some ⟨b, 0, none⟩) X.1.length X.1.length, .slice (some ⟨c, 0, none⟩) X.2.length X.2.length] 28)
  have HI := ival X b c hi _ (h.below b1)
  have HP := fun w' hb hok => icounts X b c hi w' (h.below hb) hok
  have hpa := pr_at w (.slice (some ⟨b, 0, none⟩) X.1.length X.1.length) (.slice (some ⟨c, 0, none⟩) X.2.length X.2.length)
  have HRW := Lib.hid h.rows
  have hbl : b < w.heap.size := h.rows.lt
  have HLI := Lib.hid hl
  obtain ⟨z, hz⟩ : ∃ z, pOkB X = z := ⟨_, rfl⟩
  rw [hz] at HI
  clear h hl
  cases z with
  | false =>
    have hm : mDi X l = (0, false) := by simp [mDi, hz]
    rw [hm]
    clear hz HP hm
    go_enter Try.func35, Try.ntmps35
    go_wp2_with fail
    refine HI.mono ?_
    rintro e w1 ⟨rfl, hb⟩
    go_wp2
    go_ret2
    exact ⟨rfl, b1.trans (hb.mono b1.size)⟩
  | true =>
    have hok := pOkB_iff.1 hz
    have hn6 : nop X ≤ 6 := hok.2.2.2.2.1
    have hn1 : 1 ≤ nop X := hok.2.2.2.1
    have hA1 := hok.1
    have hcm := cmat_ok hok
    obtain ⟨c0, a1, -⟩ := HRW.out.at (k := 0) (by omega)
    have hnp : (X.1.getD 0 []).length = nop X := rfl
    rw [hnp] at a1
    obtain ⟨y, hy⟩ : ∃ y, rkB (nop X) l = y := ⟨_, rfl⟩
    have hm : mDi X l = if y then (dis (cmat X) (prs 0 l), true) else (0, false) := by simp [mDi, hz, hy]
    rw [hm]
    have HPP := fun w' hb => HP w' hb hok
    have HR := fun w' (hb : Below w.heap.size w w') => irank (.slice (some ⟨lo1, 0, none⟩) l.length l.length) l (nop X) w' ((HLI.out.below hb).row l.length) hlen (by omega)
    simp only [hy] at HR
    clear HP hz hm
    obtain ⟨n, hn⟩ : ∃ n, nop X = n := ⟨_, rfl⟩
    obtain ⟨M, hM⟩ : ∃ M, cmat X = M := ⟨_, rfl⟩
    rw [hM, hn] at hcm
    simp only [hn, hM] at HPP HR hn6 hn1 hy a1 ⊢
    have HCM := Lib.hid hcm
    have HYY := Lib.hid hy
    clear hok hn hM hcm hy hnp
    obtain ⟨A, C⟩ := X
    simp only at HI HPP hpa hA1 b1 a1 HYY HCM HRW ⊢
    cases y with
    | false =>
      clear HPP
      go_enter Try.func35, Try.ntmps35
      go_wp2_with fail
      refine HI.mono ?_
      rintro e w1 ⟨rfl, hb⟩
      have b2 := b1.trans (hb.mono b1.size)
      obtain ⟨k0, k1, kl⟩ := hpa.below hb
      have a2 := (b2.cell (p := ⟨b, 0, none⟩) hbl).trans a1
      have HR1 := HR w1 b2
      have s2 := b2.size
      clear HR hb HI
      go_wp2_with fail
      refine HR1.mono ?_
      rintro e w2 ⟨rfl, hb2⟩
      go_wp2
      go_ret2
      exact ⟨rfl, b2.trans (hb2.mono s2)⟩
    | true =>
      have hk : rkOk n l := rkB_iff.1 HYY.out
      have HLL : Hid (l.length = n) := Lib.hid hk.1
      go_enter Try.func35, Try.ntmps35
      go_wp2_with fail
      refine HI.mono ?_
      rintro e w1 ⟨rfl, hb⟩
      have b2 := b1.trans (hb.mono b1.size)
      have hp1 := hpa.below hb
      have hp1' := hp1
      obtain ⟨k0, k1, kl⟩ := hp1'
      have a2 := (b2.cell (p := ⟨b, 0, none⟩) hbl).trans a1
      have HR1 := HR w1 b2
      have s2 := b2.size
      clear HR hb HI
      go_wp2_with fail
      refine HR1.mono ?_
      rintro e w2 ⟨rfl, hb2⟩
      have b3 := b2.trans (hb2.mono s2)
      obtain ⟨k0', k1', kl'⟩ := hp1.below hb2
      have HQ := HPP w2 b3
      have s3 := b3.size
      clear HPP hb2 HR1 k0 k1 a2
      go_wp2_with fail
      refine HQ.mono ?_
      rintro e w3 ⟨⟨b', rfl, hO⟩, hb3⟩
      have b4 := b3.trans (hb3.mono s3)
      have HD : Calls Try.prog 63 #[.slice (some ⟨b', 0, none⟩) n n, .slice (some ⟨lo1, 0, none⟩) l.length l.length] w3 fun e w' => e = .returned (.int .i64 (dis M (prs 0 l))) ∧ Below w3.heap.size w3 w' := by
        rw [HLL.out]
        exact idis M n w2.heap.size b' l lo1 w3 hO HCM.out.1 HCM.out.2 hn6 hn1 (HLI.out.below b4) hk
      clear hO HQ hb3 hk
      have s4 := b4.size
      go_wp2_with fail
      refine HD.mono ?_
      rintro e w4 ⟨rfl, hb4⟩
      go_wp2
      go_ret2
      exact ⟨rfl, b4.trans (hb4.mono s4)⟩
end Go.Proofs.Ytnpolmanebmmcaa
