/- ReverseProfile: the program's. -/
import Derived.Test.YtnpolmanebmmcaaRv1
namespace Go.Proofs.Ytnpolmanebmmcaa
open Go.ChangeShapes Go.WideShapes Go.ChangeAt Go.RowKit Go.Deep
set_option linter.unusedSimpArgs false
set_option linter.unusedVariables false
/-- What place a holds when k pairs are exchanged. -/
def rk (l : List Int) (k a : Nat) : Int := if a < k ∨ l.length ≤ a + k then l.getD (l.length - 1 - a) 0 else l.getD a 0
theorem rk_full (l : List Int) (k a : Nat) (h : l.length ≤ 2 * k + 1) (ha : a < l.length) : rk l k a = l.reverse.getD a 0 := by
  have h1 : l.reverse.getD a 0 = l.getD (l.length - 1 - a) 0 := by
    have h2 : l.length - 1 - a < l.length := by omega
    simp only [List.getD, List.getElem?_reverse ha]
  rw [h1]
  unfold rk
  split
  · rfl
  · have : a = l.length - 1 - a := by omega
    rw [← this]
set_option maxHeartbeats 2000000 in
set_option maxRecDepth 100000 in
theorem irev (g cap N B : Nat) (f : Nat → Value) (l : List Int) (w : World) (hB : B ≤ g) (hrow : w.rowIs g 2 N f) (hN : l.length ≤ N) (hf : ∀ i, i < l.length → f i = .int .i64 (l.getD i 0)) (hn : l.length ≤ 6) :
    Calls Try.prog 60 #[.slice (some ⟨g, 0, none⟩) l.length cap] w fun e w' => (∃ v, e = .returned v) ∧ w'.rowIs g 2 N (fun a => if a < l.length then .int .i64 (l.reverse.getD a 0) else f a) ∧ Below B w w' ∧ w'.heap.size = w.heap.size := by
  have h0 : w.rowIs g 2 N (fun a => if a < l.length then .int .i64 (rk l 0 a) else f a) := hrow.congr fun a _ => by
    by_cases q : a < l.length
    · rw [if_pos q, hf a q]; unfold rk; rw [if_neg (by omega)]
    · rw [if_neg q]
  have wq1 : IntKind.i64.wrap ((l.length : Int) - 1) = (l.length : Int) - 1 := by rw [IntKind.wrap_i64]; omega
  go_enter Try.func60, Try.ntmps60
  go_wp2
  go_loopg [2, 3] l.length (fun gg i j wr => ∃ k : Nat, 2 * k ≤ l.length ∧ gg = l.length - k ∧ i = .int .i64 k ∧ j = .int .i64 ((l.length : Int) - 1 - k) ∧ Below B w wr ∧ wr.heap.size = w.heap.size ∧ wr.rowIs g 2 N (fun a => if a < l.length then .int .i64 (rk l k a) else f a))
  case atStart => exact ⟨0, by omega, rfl, rfl, by first | rfl | (congr 1; omega) | simp, Below.refl _ _, rfl, h0⟩
  case round =>
    clear h0 hrow
    obtain ⟨k, hk, rfl, rfl, rfl, hb, hsz, hr⟩ := hrel
    by_cases hlt : (k : Int) < (l.length : Int) - 1 - k
    · have hje : (l.length : Int) - 1 - k = ((l.length - 1 - k : Nat) : Int) := by omega
      obtain ⟨d, hd⟩ : ∃ d, l.length - 1 - k = d := ⟨_, rfl⟩
      rw [hd] at hje
      rw [hje] at hlt ⊢
      have hkl : k < l.length := by omega
      have hdl : d < l.length := by omega
      have hkd : k < d := by omega
      have c1 := hr.cell (i := k) (by omega)
      have c2 := hr.cell (i := d) (by omega)
      have f1 := hr.frozen k
      have f2 := hr.frozen d
      simp only [hkl, hdl, if_true] at c1 c2
      have e1 : rk l k k = l.getD k 0 := by unfold rk; rw [if_neg (by omega)]
      have e2 : rk l k d = l.getD d 0 := by unfold rk; rw [if_neg (by omega)]
      rw [e1] at c1
      rw [e2] at c2
      obtain ⟨x, hx⟩ : ∃ x, l.getD k 0 = x := ⟨_, rfl⟩
      obtain ⟨y, hy⟩ : ∃ y, l.getD d 0 = y := ⟨_, rfl⟩
      rw [hx] at c1
      rw [hy] at c2
      have hR := ((hr.set k (.int .i64 y)).set d (.int .i64 x)).congr (g := fun a => if a < l.length then .int .i64 (rk l (k + 1) a) else f a) (fun a _ => by
        by_cases q1 : a = d
        · subst q1
          rw [if_pos rfl, if_pos hdl]
          unfold rk
          rw [if_pos (by omega), ← hx]
          congr 2; omega
        · rw [if_neg q1]
          by_cases q2 : a = k
          · subst q2
            rw [if_pos rfl, if_pos hkl]
            unfold rk
            rw [if_pos (by omega), ← hy]
            congr 2; omega
          · rw [if_neg q2]
            by_cases q3 : a < l.length
            · rw [if_pos q3, if_pos q3]
              unfold rk
              by_cases q4 : a < k ∨ l.length ≤ a + k
              · rw [if_pos q4, if_pos (by omega)]
              · rw [if_neg q4, if_neg (by omega)]
            · rw [if_neg q3, if_neg q3])
      have wq3 : IntKind.i64.wrap ((d : Int) - 1) = (d : Int) - 1 := by rw [IntKind.wrap_i64]; omega
      have hb2 := (hb.setCell (p := ⟨g, k, none⟩) hB (.int .i64 y)).setCell (p := ⟨g, d, none⟩) hB (.int .i64 x)
      have HR := Lib.hid (And.intro hR hb2)
      have HE := Lib.hid hje
      clear hR hb2 hr hx hy e1 e2 hje hd hb
      go_wp2
      go_region_with (fail)
      all_goals
        go_wp2
        go_roundg (l.length - (k + 1))
        case measure => omega
        case rel =>
          have hE : (l.length : Int) - 1 - k = (d : Int) := HE.out
          exact ⟨k + 1, by omega, rfl, by simp, by first | rfl | (congr 1; omega), by exact HR.out.2.drew, by simpa [World.setCell] using hsz, HR.out.1⟩
    · have hnk : ¬ (k : Int) < (l.length : Int) - 1 - k := hlt
      have hR := hr.congr (g := fun a => if a < l.length then .int .i64 (l.reverse.getD a 0) else f a) (fun a _ => by
        by_cases q : a < l.length
        · rw [if_pos q, if_pos q, rk_full l k a (by omega) q]
        · rw [if_neg q, if_neg q])
      have HR := Lib.hid hR
      clear hr hR
      go_wp2
      go_end0
      exact ⟨⟨_, rfl⟩, HR.out, hb, hsz⟩
theorem RdR.shape {w : World} {lo hi : Nat} {a c : Value} {X : Pr} (h : RdR w lo hi a c X) : ∃ aa ac ca cc, a = .slice aa X.1.length ac ∧ c = .slice ca X.2.length cc := by
  obtain ⟨aa, ac, h1⟩ := h.rows.list.shape
  obtain ⟨ca, cc, h2⟩ := h.wts.1.shape
  exact ⟨aa, ac, ca, cc, h1, h2⟩
theorem OwR.shape {w : World} {lo hi : Nat} {a c : Value} {X : Pr} (h : OwR w lo hi a c X) : ∃ aa ac ca cc, a = .slice aa X.1.length ac ∧ c = .slice ca X.2.length cc := h.rd.shape
theorem irev1 (l : List Int) (g cap lo : Nat) (w0 w : World) (hb : Below w0.heap.size w0 w) (h : OwI w w0.heap.size w.heap.size (.slice (some ⟨g, 0, none⟩) l.length cap) l) (hn : l.length ≤ 6) :
    Calls Try.prog 59 (#[.slice (some ⟨g, 0, none⟩) l.length cap] ++ #[]) w fun e w' => ∃ v', e = .returned v' ∧ OwI w' w0.heap.size w'.heap.size v' l.reverse ∧ Below w0.heap.size w0 w' := by
  show Calls Try.prog 59 #[.slice (some ⟨g, 0, none⟩) l.length cap] w _
  obtain ⟨⟨q, -⟩ | ⟨g', cap', N, f, q, h1, h2, h3, h4, h5⟩, hl⟩ := h
  · cases q
  · simp only [Value.slice.injEq, Option.some.injEq, Addr.mk.injEq, and_true, true_and] at q
    obtain ⟨rfl, rfl⟩ := q
    have HR := irev g cap N w0.heap.size f l w h1 h4 h3 h5 hn
    have HQ := Lib.hid (And.intro h1 (And.intro h2 (And.intro h3 hb)))
    clear h1 h2 h3 h4 h5 hb
    go_enter Try.func59, Try.ntmps59
    go_wp2_with fail
    refine HR.mono ?_
    rintro e w1 ⟨⟨v, rfl⟩, hr, hb1, hs⟩
    obtain ⟨h1, h2, h3, hb⟩ := HQ.out
    have HF := Lib.hid (And.intro hr (And.intro hb1 hs))
    clear hr hb1 hs HR
    go_wp2
    go_ret
    refine ⟨_, rfl, ⟨.inr ⟨g, cap, N, _, by simp, h1, by rw [HF.out.2.2]; exact h2, by simpa using h3, HF.out.1, fun i hi => ?_⟩, by simp; omega⟩, hb.trans HF.out.2.1⟩
    rw [List.length_reverse] at hi
    rw [if_pos hi]
set_option maxHeartbeats 2000000 in
set_option maxRecDepth 100000 in
theorem iRv (X : Pr) (w : World) (lo hi : Nat) (u : Value) (h : CpR w lo hi u X) : Calls Try.prog 32 #[u] w (QRb (mRv X) w) := by
  obtain ⟨b, c, rfl, -, h⟩ := h
  have b1 := ((Below.refl w.heap.size w).alloc (Nat.le_refl _) (.cells #[.slice (some ⟨b, 0, none⟩) X.1.length X.1.length, .slice (some ⟨c, 0, none⟩) X.2.length X.2.length] 28)).alloc (by simp) (.cells #[.slice none 0 0, .slice none 0 0] 28)
  have hpa := (pr_at w (.slice (some ⟨b, 0, none⟩) X.1.length X.1.length) (.slice (some ⟨c, 0, none⟩) X.2.length X.2.length)).below ((Below.refl _ _).alloc (Nat.le_refl _) (.cells #[.slice none 0 0, .slice none 0 0] 28))
  have hres : PBox ((w.alloc (.cells #[.slice (some ⟨b, 0, none⟩) X.1.length X.1.length, .slice (some ⟨c, 0, none⟩) X.2.length X.2.length] 28)).alloc (.cells #[.slice none 0 0, .slice none 0 0] 28)) (w.heap.size + 1) (.slice none 0 0) (.slice none 0 0) := by
    have := heap_alloc_new (w.alloc (.cells #[.slice (some ⟨b, 0, none⟩) X.1.length X.1.length, .slice (some ⟨c, 0, none⟩) X.2.length X.2.length] 28)) (.cells #[.slice none 0 0, .slice none 0 0] 28)
    rw [World.size_alloc] at this
    exact this
  have HI := ival X b c hi _ (h.below b1)
  have HH := Lib.hid h
  obtain ⟨z, hz⟩ : ∃ z, pOkB X = z := ⟨_, rfl⟩
  rw [hz] at HI
  clear h
  cases z with
  | false =>
    rw [mRv_no hz]
    clear hz
    go_enter Try.func32, Try.ntmps32
    go_wp2_with fail
    refine HI.mono ?_
    rintro e w1 ⟨rfl, hb⟩
    have r1 := hres.below hb
    have c0 := r1.c0
    have c1 := r1.c1
    have f0 := r1.f0
    have f1 := r1.f1
    have bb := b1.trans (hb.mono b1.size)
    have hsb := bb.size
    clear hb HI hpa hres r1
    go_wp2
    refine bodyPost_ret (v := .tuple #[.agg #[.slice none 0 0, .slice none 0 0], .bool false]) (by simp [results, Try.results32, go_sem, c0, c1]) rfl ⟨_, _, rfl, OwR.nil _ (by simp [World.setCell]; omega), ?_⟩
    iterate 2 refine Below.setCell ?_ (by show _ ≤ _ + _; omega) _
    exact bb
  | true =>
    rw [mRv_yes hz]
    have hok := pOkB_iff.1 hz
    have hA12 : X.1.length ≤ 12 := hok.2.1
    have hl6 : ∀ k, k < X.1.length → (X.1.getD k []).length ≤ 6 := fun k hk => by
      have h1 := (hok.2.2.2.2.2 k hk).1.1
      have h2 := hok.2.2.2.2.1
      omega
    have HCH := fun w' (hb : Below w.heap.size w w') => ichg X b c hi w' (HH.out.below hb) hA12 59 (fun _ _ => rfl) #[] (revs X.1 X.1.length) (revs_len _ _) (revs_fits HH.out.fits.1)
      (fun k wr w1 g cap hk hbr hb1 hu _ => by rw [revs_at _ hk]; exact irev1 (X.1.getD k []) g cap 0 wr w1 hb1 hu (hl6 k hk))
    clear hz hok hl6
    go_enter Try.func32, Try.ntmps32
    go_wp2_with fail
    refine HI.mono ?_
    rintro e w1 ⟨rfl, hb⟩
    have r1 := hres.below hb
    have bb := b1.trans (hb.mono b1.size)
    obtain ⟨k0, k1, kl⟩ := hpa.below hb
    have hs0 : w.heap.size + 2 ≤ w1.heap.size := by have := hb.size; simpa using this
    have HC := HCH w1 bb
    clear hb HI hpa hres HCH b1
    go_wp2_with fail
    refine HC.mono ?_
    rintro e w2 ⟨⟨a, c', rfl, hO⟩, hb2⟩
    have r2 := r1.below hb2
    have c0 := r2.c0
    have c1 := r2.c1
    have f0 := r2.f0
    have f1 := r2.f1
    have bb2 := bb.trans (hb2.mono bb.size)
    obtain ⟨md, m1, m2, m3, m4⟩ := hO
    obtain ⟨va, vc, hva⟩ : ∃ va vc, a = .slice va X.1.length vc := by
      obtain ⟨⟨h1, h2⟩ | ⟨d, cp', N, f', h1, -⟩, -⟩ := m3
      · have := congrArg List.length h2
        rw [revs_len] at this
        exact ⟨none, 0, by rw [this]; exact h1⟩
      · rw [revs_len] at h1; exact ⟨_, _, h1⟩
    obtain ⟨wa, wc, hwa⟩ := m4.shape
    subst hva
    subst hwa
    have HF := Lib.hid (And.intro m3 (And.intro m4 bb2))
    clear m3 m4 bb2 r1 r2 hb2 HC bb k0 k1 kl
    go_wp2
    refine bodyPost_ret (v := .tuple #[.agg #[.slice va X.1.length vc, .slice wa X.2.length wc], .bool true]) (by simp [results, Try.results32, go_sem, c0, c1]) rfl ⟨_, _, rfl, ⟨md, by omega, by simp [World.setCell]; omega, ?_, ?_⟩, ?_⟩
    · refine OwJ.mono (lo := w1.heap.size) (hi := md) ?_ (by omega) (Nat.le_refl _)
      iterate 2 refine OwJ.other ?_ (by show _ + _ < _; omega) _
      exact HF.out.1
    · have far : ∀ (W : World) (q : Nat) (u : Value), OwI W md w2.heap.size (.slice wa X.2.length wc) X.2 → OwI (W.setCell ⟨w.heap.size + 1, q, none⟩ u) md w2.heap.size (.slice wa X.2.length wc) X.2 := fun W q u hW =>
        hW.block fun d e _ => heap_setCell_other _ _ _ _ (show d ≠ w.heap.size + 1 from fun q => by have := (hW.inb d e).1; omega)
      refine OwI.mono (lo := md) (hi := w2.heap.size) ?_ (Nat.le_refl _) (by simp [World.setCell])
      iterate 2 refine far _ _ _ ?_
      exact HF.out.2.1
    · iterate 2 refine Below.setCell ?_ (by show _ ≤ _ + _; omega) _
      exact HF.out.2.2
end Go.Proofs.Ytnpolmanebmmcaa
