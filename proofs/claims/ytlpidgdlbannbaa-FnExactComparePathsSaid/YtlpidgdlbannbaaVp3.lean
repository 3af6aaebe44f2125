/- IsPath on both sides by its contract; the law on it. -/
import Derived.Test.YtlpidgdlbannbaaVp2
namespace Go.Proofs.Ytlpidgdlbannbaa
open Go.ChangeShapes Go.WideShapes Go.ChangeAt Go.RowKit Go.Deep
set_option linter.unusedSimpArgs false
set_option linter.unusedVariables false
theorem sIsPath (L : List Vc) (B b cap bp : Nat) (p : List Int) (w : World) (h : Vs w B b L) (hf : Fits L) (hp : OwnI w bp p) (hl : p.length ≤ 1048576) :
    Calls Try.prog 18 #[.slice (some ⟨b, 0, none⟩) L.length cap, .slice (some ⟨bp, 0, none⟩) p.length p.length] w fun e w' => e = .returned (.bool (pB L p)) ∧ Below w.heap.size w w' := by
  have HV := sok_any L B b cap w h hf
  have HP := fun w' (hw : Below w.heap.size w w') => spath_any L B b cap bp p w' (h.below hw) hf (hp.below hw) hl
  unfold pB
  generalize okLB L = zv at HV ⊢
  generalize pathB L p = zp at HP ⊢
  cases zv with
  | false =>
    go_enter Try.func18, Try.ntmps18
    go_wp2_with fail
    refine HV.mono ?_
    rintro e w1 ⟨rfl, hb1⟩
    go_wp2
    go_ret
    exact ⟨rfl, hb1⟩
  | true =>
    go_enter Try.func18, Try.ntmps18
    go_wp2_with fail
    refine HV.mono ?_
    rintro e w1 ⟨rfl, hb1⟩
    go_wp2_with fail
    refine (HP _ hb1).mono ?_
    rintro e w2 ⟨rfl, hb2⟩
    go_wp2
    go_ret
    exact ⟨by cases zp <;> rfl, hb1.trans (hb2.mono hb1.size)⟩
theorem iIsPath (L : List Vc) (B b cap bp : Nat) (p : List Int) (w : World) (h : Vs w B b L) (hf : Fits L) (hp : OwnI w bp p) (hl : p.length ≤ 1048576) :
    Calls Try.prog 20 #[.slice (some ⟨b, 0, none⟩) L.length cap, .slice (some ⟨bp, 0, none⟩) p.length p.length] w fun e w' => e = .returned (.bool (pB L p)) ∧ Below w.heap.size w w' := by
  have HR := iranks L B b cap bp p w h hf hp hl
  unfold rkPost at HR
  generalize pB L p = z at HR ⊢
  cases z with
  | false =>
    go_enter Try.func20, Try.ntmps20
    go_wp2_with fail
    refine HR.mono ?_
    rintro e w1 ⟨h1, hb1⟩
    rw [if_neg (by decide)] at h1
    subst h1
    go_wp2
    go_ret
    exact ⟨rfl, hb1⟩
  | true =>
    go_enter Try.func20, Try.ntmps20
    go_wp2_with fail
    refine HR.mono ?_
    rintro e w1 ⟨h1, hb1⟩
    rw [if_pos (by trivial)] at h1
    obtain ⟨c, _, rfl, _⟩ := h1
    go_wp2
    go_ret
    exact ⟨rfl, hb1⟩
theorem toIO (v : Value) (l : List Int) (w : World) (h : RowV w v l) (hl : l.length ≤ 1048576) :
    Calls Try.prog 19 #[v] w fun e w' => e = .returned (.slice (some ⟨w.heap.size, 0, none⟩) l.length l.length) ∧ OwnI w' w.heap.size l ∧ Below w.heap.size w w' := toI v l w h hl
set_option maxHeartbeats 600000 in
set_option maxRecDepth 100000 in
theorem lawIsPath (v : Value) (L : List Vc) (u : Value) (p : List Int) (w : World) (h : ListV w v L) (hr : Room L) (hp : RowV w u p) (hl0 : p.length ≤ 9223372036854775807) (_ : ∀ n ∈ p, (Lit.int .i64 n).wf = true) :
    Calls Try.prog 4 #[v, u] w fun e w' => e = .returned (.bool true) ∧ Below w.heap.size w w' := by
  obtain ⟨ua, ucap, hu⟩ := hp.shape
  by_cases hlong : 1048576 < p.length
  · subst hu
    clear hp h hr
    go_enter Try.func4, Try.ntmps4
    go_wp2
    go_ret
    exact ⟨rfl, Below.refl _ _⟩
  have hl : p.length ≤ 1048576 := by omega
  have HU := fun w' (hw : Below w.heap.size w w') => toIO u p w' (hp.below hw) hl
  subst hu
  clear hp
  have HZ := szVS v L w h hr
  go_enter Try.func4, Try.ntmps4
  go_wp2_with fail
  refine HZ.mono ?_
  rintro e w1 ⟨⟨r, rfl, r1, r2, r3⟩, b1⟩
  have R3 := Lib.hid r3
  clear r3
  by_cases hneg : r < 0
  · go_wp2
    go_ret
    exact ⟨rfl, b1⟩
  · have hf := R3.out (by omega)
    go_wp2_with fail
    refine (toVS_any v L _ (h.below b1) hf.1 hf.2).mono ?_
    rintro e w2 ⟨rfl, hV2, hb2⟩
    have b2 := b1.trans (hb2.mono b1.size)
    go_wp2_with fail
    refine (HU _ b2).mono ?_
    rintro e w3 ⟨rfl, hP3, hb3⟩
    have b3 := b2.trans (hb3.mono b2.size)
    go_wp2_with fail
    refine (sIsPath L _ _ _ _ p _ (hV2.below hb3) hf hP3 hl).mono ?_
    rintro e w4 ⟨rfl, hb4⟩
    have b4 := b3.trans (hb4.mono b3.size)
    go_wp2_with fail
    refine (toVS_any v L _ (h.below b4) hf.1 hf.2).mono ?_
    rintro e w5 ⟨rfl, hV5, hb5⟩
    have b5 := b4.trans (hb5.mono b4.size)
    go_wp2_with fail
    refine (HU _ b5).mono ?_
    rintro e w6 ⟨rfl, hP6, hb6⟩
    have b6 := b5.trans (hb6.mono b5.size)
    go_wp2_with fail
    refine (iIsPath L _ _ _ _ p _ (hV5.below hb6) hf hP6 hl).mono ?_
    rintro e w7 ⟨rfl, hb7⟩
    have b7 := b6.trans (hb7.mono b6.size)
    go_wp2_with fail
    refine (toVS_any v L _ (h.below b7) hf.1 hf.2).mono ?_
    rintro e w8 ⟨rfl, hV8, hb8⟩
    have b8 := b7.trans (hb8.mono b7.size)
    go_wp2_with fail
    refine (eqVS L _ _ _ _ _ _ _ (((hV5.below hb6).below hb7).below hb8) hV8 hf).mono ?_
    rintro e w9 ⟨rfl, hb9⟩
    have b9 := b8.trans (hb9.mono b8.size)
    go_wp2_with fail
    refine (HU _ b9).mono ?_
    rintro e w10 ⟨rfl, hP10, hb10⟩
    have b10 := b9.trans (hb10.mono b9.size)
    go_wp2_with fail
    refine (eqI _ _ p _ ((((hP6.below hb7).below hb8).below hb9 |>.below hb10).row _) (hP10.row _) (by omega)).mono ?_
    rintro e w11 ⟨rfl, hb11⟩
    go_wp2
    go_ret
    exact ⟨rfl, b10.trans (hb11.mono b10.size)⟩
end Go.Proofs.Ytlpidgdlbannbaa
