/- RaiseOption: the specification's copy of a profile. -/
import Derived.Test.YtnpolmanebmmcaaRa0
import Derived.Deep.RegionLaw
namespace Go.Proofs.Ytnpolmanebmmcaa
open Go.ChangeShapes Go.WideShapes Go.ChangeAt Go.RowKit Go.Deep
set_option linter.unusedSimpArgs false
set_option linter.unusedVariables false
theorem BldJ.cells {w : World} {base : Nat} {v : Value} {l : List (List Int)} {f : Nat → Value} (h : BldJ w base v l f) (hl : 0 < l.length) : ∃ b cap, v = .slice (some ⟨b, 0, none⟩) l.length cap ∧ ∀ i, i < l.length → w.cell? ⟨b, i, none⟩ = some (f i) := by
  obtain ⟨⟨_, ⟨rfl, h0⟩ | ⟨g, cap, cur, rfl, hb, hg, hn, hcap, hs, ht⟩⟩, hr, hinj⟩ := h
  · omega
  · refine ⟨g, cap, rfl, fun i hi => ?_⟩
    have h1 : (cur.toList.take (l.length * 1))[i]? = ((List.range l.length).map f)[i]? := by rw [ht]
    rw [Nat.mul_one, List.getElem?_take_of_lt hi, Array.getElem?_toList] at h1
    have h2 : cur[i]? = some (f i) := by rw [h1]; simp [hi]
    simp [World.cell?, hg, h2]
set_option maxHeartbeats 4000000 in
set_option maxRecDepth 100000 in
theorem sOwnR (X : Pr) (p b c : Nat) (w : World) (h : PrX w p b c X) (hf : FitsR X) (hA1 : 1 ≤ X.1.length) (hA12 : X.1.length ≤ 12) :
    Calls Try.prog 49 #[.pointer (some ⟨p, 0, none⟩)] w fun e w' => (∃ b' cap g cw, e = .returned (.agg #[.slice (some ⟨b', 0, none⟩) X.1.length cap, .slice (some ⟨g, 0, none⟩) X.2.length cw]) ∧
      OwJ w' w.heap.size w'.heap.size (.slice (some ⟨b', 0, none⟩) X.1.length cap) X.1 ∧ OwI w' w.heap.size w'.heap.size (.slice (some ⟨g, 0, none⟩) X.2.length cw) X.2 ∧ ∀ k, k < X.1.length → ∀ d n' cp, w'.cell? ⟨b', k, none⟩ = some (.slice (some ⟨d, 0, none⟩) n' cp) → d ≠ g) ∧ Below w.heap.size w w' := by
  obtain ⟨j0, hjS, hy0, hy1, hy2⟩ := info_parts infoIS
  have HX := Lib.hid h
  have HFF := Lib.hid hf
  have HOW := fun w' (hb : Below w.heap.size w w') => own_any ⟨c, 0, none⟩ X.2.length X.2 w' ((HX.out.wts.below hb).row X.2.length) hf.2.1
  have hpl := h.at_.lt
  have hbl : b < w.heap.size := h.rows.lt
  obtain ⟨⟨p0, p1, -⟩, -, -⟩ := h
  have bl := ((Below.refl w.heap.size w).alloc (Nat.le_refl _) (.cells #[.slice none 0 0, .slice none 0 0] 28)).alloc (by simp) (.cells #[] 23)
  have hres : PBox ((w.alloc (.cells #[.slice none 0 0, .slice none 0 0] 28)).alloc (.cells #[] 23)) w.heap.size (.slice none 0 0) (.slice none 0 0) := (Below.heap_alloc _ _ _ (by simp)).trans (heap_alloc_new w _)
  have hB0 := BldJ.start_lit (w.alloc (.cells #[.slice none 0 0, .slice none 0 0] 28)) (base := w.heap.size + 1) (by simp) (fun _ => .slice none 0 0)
  rw [World.size_alloc] at hB0
  have HO1 := HOW _ bl
  have HST := Lib.hid (And.intro hres (And.intro hB0 bl))
  have y1 : ((w.alloc (.cells #[.slice none 0 0, .slice none 0 0] 28)).alloc (.cells #[] 23)).cell? ⟨p, 1, none⟩ = some (.slice (some ⟨c, 0, none⟩) X.2.length X.2.length) := (bl.cell (p := ⟨p, 1, none⟩) hpl).trans p1
  clear hf hres hB0 bl HOW
  go_enter Try.func49, Try.ntmps49
  go_wp2_with fail
  refine HO1.mono ?_
  rintro e w3 ⟨⟨g, cp, rfl, g1, g2, hcw⟩, hb3⟩
  obtain ⟨hres, hB0, bl⟩ := HST.out
  have hu := ow_of_copyR g1 g2 hcw HFF.out.2.1
  have r3 := hres.below hb3
  have B3 := hB0.below hb3
  have bl3 := bl.trans (hb3.mono (by simp only [World.size_alloc]; omega))
  have hs3 : w.heap.size + 2 ≤ w3.heap.size := by have := hb3.size; simpa using this
  obtain ⟨o, ho⟩ : ∃ o, w3.heap.size = o := ⟨_, rfl⟩
  have bo := (Below.refl w3.heap.size w3).alloc (Nat.le_refl _) (.cells #[.slice (some ⟨w.heap.size + 1, 0, none⟩) 0 0, .slice (some ⟨g, 0, none⟩) X.2.length cp] 28)
  have hbx : PBox (w3.alloc (.cells #[.slice (some ⟨w.heap.size + 1, 0, none⟩) 0 0, .slice (some ⟨g, 0, none⟩) X.2.length cp] 28)) o (.slice (some ⟨w.heap.size + 1, 0, none⟩) 0 0) (.slice (some ⟨g, 0, none⟩) X.2.length cp) := by rw [← ho]; exact heap_alloc_new _ _
  rw [ho] at hu
  simp only [World.size_alloc] at hu g1
  have HS4 := Lib.hid (And.intro (bl3.trans (bo.mono (by omega))) (And.intro hbx (And.intro (B3.below bo) (And.intro (hu.below bo) (r3.below bo)))))
  obtain ⟨W4, hW4⟩ : ∃ W4, (w3.alloc (.cells #[.slice (some ⟨w.heap.size + 1, 0, none⟩) 0 0, .slice (some ⟨g, 0, none⟩) X.2.length cp] 28)) = W4 := ⟨_, rfl⟩
  have hs4 : W4.heap.size = o + 1 := by rw [← hW4, ← ho]; simp
  rw [hW4] at HS4
  have HW4 := Lib.hid hW4
  clear hres hB0 bl hu r3 B3 bl3 bo hbx hW4 hcw hb3 HO1 HST y1
  go_wp2
  try simp only [ho]
  rw [HW4.out]
  obtain ⟨q0, q1, q2, q3, q4⟩ := HS4.out
  go_loopg [4] X.1.length (fun gg i wr => ∃ (k : Nat) (l : List (List Int)) (f : Nat → Value) (gB cB : Nat), k ≤ X.1.length ∧ gg = X.1.length - k ∧ i = .int .i64 k ∧ l.length ≤ k ∧ Hid (l = X.1.take k) ∧ Below (w.heap.size + 1) W4 wr ∧ PBox wr o (.slice (some ⟨gB, 0, none⟩) l.length cB) (.slice (some ⟨g, 0, none⟩) X.2.length cp) ∧ BldJ wr (w.heap.size + 1) (.slice (some ⟨gB, 0, none⟩) l.length cB) l f ∧ OwI wr (w.heap.size + 2) o (.slice (some ⟨g, 0, none⟩) X.2.length cp) X.2 ∧ Hid (∀ i, i < l.length → (f i).ownBlock ≠ some g))
  case atStart => exact ⟨0, [], _, _, _, Nat.zero_le _, rfl, rfl, Nat.le_refl _, Lib.hid (by simp), Below.refl _ _, q1, q2, q3, fun i hi => absurd hi (Nat.not_lt_zero _)⟩
  case round =>
    clear q1 q2 q3 HW4
    obtain ⟨k, l, f, gB, cB, hk, rfl, rfl, hlk, HL, hbB, hbx, hB, hO, HAP⟩ := hrel
    have hsw := hbB.size
    have hbw : Below w.heap.size w wr := q0.trans (hbB.mono (by omega))
    have z0 := (hbw.cell (p := ⟨p, 0, none⟩) hpl).trans p0
    by_cases hlt : k < X.1.length
    · obtain ⟨wo, rfl⟩ : ∃ wo : World, wo = wr := ⟨_, rfl⟩
      obtain ⟨c', a1, a2⟩ := HX.out.rows.at (k := k) hlt
      have hlen := HFF.out.1.2 k hlt
      have htk : X.1.take (k + 1) = X.1.take k ++ [X.1.getD k []] := by
        rw [List.take_add_one]
        congr 1
        simp [List.getD, hlt]
      obtain ⟨t, ht⟩ : ∃ t, X.1.getD k [] = t := ⟨_, rfl⟩
      rw [ht] at a1 a2 hlen htk
      have g1' := (hbw.cell (p := ⟨b, k, none⟩) hbl).trans a1
      have HC := own_any ⟨c', 0, none⟩ t.length t wo.drew (((OwnI.below a2 hbw).below (Below.refl _ _).drew).row t.length) hlen
      have HTK := Lib.hid htk
      have hown := hB.own
      have HB := Lib.hid hB
      have HBX := Lib.hid hbx
      have x0 : wo.drew.cell? ⟨o, 0, none⟩ = some (.slice (some ⟨gB, 0, none⟩) l.length cB) := hbx.c0
      have f0 : wo.drew.frozen? ⟨o, 0, none⟩ = false := hbx.f0
      have hap := hbx.apart hown
      have av1 : gB ≠ p := fun e => by have := (hown.lt gB rfl).1; omega
      have av2 : gB ≠ b := fun e => by have := (hown.lt gB rfl).1; omega
      have lpw : p < wo.heap.size := by have := hbw.size; omega
      have lbw : b < wo.heap.size := by have := hbw.size; omega
      have low : o < wo.heap.size := by omega
      have npo : p ≠ o := by have := hbw.size; omega
      have nbo : b ≠ o := by omega
      have nop' : o ≠ p := Ne.symm npo
      have nob' : o ≠ b := Ne.symm nbo
      have hl12 : l.length ≤ 12 := by omega
      have hbase : w.heap.size + 1 ≤ wo.heap.size := by omega
      clear ht a2 hB hbx
      go_wp2_with fail
      have z1 : wo.drew.cell? ⟨p, 0, none⟩ = some (.slice (some ⟨b, 0, none⟩) X.1.length X.1.length) := z0
      have g2' : wo.drew.cell? ⟨b, k, none⟩ = some (.slice (some ⟨c', 0, none⟩) t.length t.length) := g1'
      go_region_law
        (first
          | (go_simp
             go_at_call 54
             refine HC.mono ?_
             rintro e w1 ⟨⟨gc, cp1, rfl, h1, h2, hcw⟩, hb1⟩
             have x0 := (hb1.cell (p := ⟨o, 0, none⟩) low).trans x0
             have f0 := (hb1.frozen (p := ⟨o, 0, none⟩) low).trans f0
             have low1 : o < w1.heap.size := by have := hb1.size; simp at this; omega
             have x0a : (w1.alloc (.cells #[.slice (some ⟨gc, 0, none⟩) t.length cp1] 23)).cell? ⟨o, 0, none⟩ = some (.slice (some ⟨gB, 0, none⟩) l.length cB) := (World.cell?_of_block (a := ⟨o, 0, none⟩) (Below.heap_alloc _ _ _ low1)).trans x0
             have f0a : (w1.alloc (.cells #[.slice (some ⟨gc, 0, none⟩) t.length cp1] 23)).frozen? ⟨o, 0, none⟩ = false := (((Below.refl w1.heap.size w1).alloc (Nat.le_refl _) _).frozen (p := ⟨o, 0, none⟩) low1).trans f0)
          | (refine step_append_lies _ (by rfl) _ _ _ (by rfl) (w.heap.size + 1) 23 j0 _ 1 24 Try.underlying22 hjS hy0 hy1 hy2 rfl (by omega) (.slice (some ⟨gB, 0, none⟩) l.length cB) _ _ (by rfl) ((own_blockJ hown fun g _ hg => (hb1.block g (by simpa using hg)).trans rfl).alloc _)
              ⟨w1.heap.size, 0, none⟩ 1 1 [.slice (some ⟨gc, 0, none⟩) t.length cp1] (by rfl) (by rfl) (World.news_of_block (cs := #[.slice (some ⟨gc, 0, none⟩) t.length cp1]) (t := 23) (fr := (0, 0)) (heap_alloc_new w1 _)) (by simp [Value.oneCell'])
              (by omega) (by unfold maxLen; omega) (by omega) (by have := hb1.size; simp at this ⊢; omega) (w1.heap.size + 1) (by simp) ?_
             intro gg cap' w5 hown1 hgrow hat hlt'
             have hpb5 : PBox w5 o (.slice (some ⟨gB, 0, none⟩) l.length cB) (.slice (some ⟨g, 0, none⟩) X.2.length cp) := (hgrow.block o (by have := hb1.size; simp at this ⊢; omega) hap).trans ((Below.heap_alloc _ _ _ (by have := hb1.size; simp at this; omega)).trans ((hb1.block o low).trans HBX.out))
             have x0 := hpb5.c0
             have f0 := hpb5.f0))
      all_goals
        have hu := ow_of_copyR h1 h2 hcw hlen
        have hbd : Below wo.heap.size wo w1 := (Below.refl _ _).drew.trans hb1
        have hB2 := HB.out.step (v' := .slice (some ⟨gg, 0, none⟩) (l.length + 1) cap') (w3 := w5) (o := .cells #[.slice (some ⟨gc, 0, none⟩) t.length cp1] 23) hbase hbd hu hgrow hown1
        have howl := (HB.out.below hbd).own
        have hO2 := hO.below hbd
        have hap2 := fun (d : Nat) (hc : (Value.slice (some ⟨g, 0, none⟩) X.2.length cp).ownBlock = some d) => hO2.apart howl d hc
        have hb6 : Below (w.heap.size + 1) W4 w5 := ((hbB.trans (hbd.mono hbase)).alloc (by omega) _).grown hgrow (by simp; omega) (fun x e => (howl.lt x e).1)
        have hO6 : OwI w5 (w.heap.size + 2) o (.slice (some ⟨g, 0, none⟩) X.2.length cp) X.2 := hO2.block fun d e hd => by
          have h1 := hgrow.block d (by simp; omega) (fun q => hap2 d e q.symm)
          exact h1.trans (Below.heap_alloc _ _ _ hd)
        have hpb2 := hpb5.set0 (.slice (some ⟨gg, 0, none⟩) (l.length + 1) cap')
        have hb7 := hb6.setCell (p := ⟨o, 0, none⟩) (by show w.heap.size + 1 ≤ o; omega) (.slice (some ⟨gg, 0, none⟩) (l.length + 1) cap')
        have hO7 : OwI (w5.setCell ⟨o, 0, none⟩ (.slice (some ⟨gg, 0, none⟩) (l.length + 1) cap')) (w.heap.size + 2) o (.slice (some ⟨g, 0, none⟩) X.2.length cp) X.2 := hO6.block fun d e hd => heap_setCell_other _ _ _ _ (show d ≠ o from fun q => by have := (hO6.inb d e).2; omega)
        have hB7 := hpb5.bld (u := .slice (some ⟨gg, 0, none⟩) (l.length + 1) cap') hB2
        have HLR : Hid (l ++ [t] = X.1.take (k + 1)) := Lib.hid (by rw [HTK.out, ← HL.out])
        have HA2 : Hid (∀ i, i < (l ++ [t]).length → ((fun i => if i = l.length then (Value.slice (some ⟨gc, 0, none⟩) t.length cp1) else f i) i).ownBlock ≠ some g) := Lib.hid (fun i hi => by
          show (if i = l.length then (Value.slice (some ⟨gc, 0, none⟩) t.length cp1) else f i).ownBlock ≠ some g
          have hl' : (l ++ [t]).length = l.length + 1 := by simp
          by_cases hil : i = l.length
          · rw [if_pos hil]
            have : wo.heap.size ≤ gc := h1
            intro e
            have e : gc = g := by simpa [Value.ownBlock] using e
            omega
          · rw [if_neg hil]
            exact HAP.out i (by omega))
        have HFIN := Lib.hid (And.intro hb7 (And.intro hpb2 (And.intro hB7 (And.intro hO7 HA2))))
        clear hu hbd hB2 howl hO2 hap2 hb6 hO6 hpb2 hb7 hO7 hB7 HA2 hown1 hgrow hat hcw hpb5 x0 f0 x0a f0a
        go_wp2
        go_roundg (X.1.length - (k + 1))
        case measure => omega
        case rel => exact ⟨k + 1, l ++ [t], _, gg, cap', by omega, rfl, by simp, by rw [List.length_append, List.length_singleton]; omega, HLR, HFIN.out.1, by rw [List.length_append, List.length_singleton]; exact HFIN.out.2.1, by rw [List.length_append, List.length_singleton]; exact HFIN.out.2.2.1, HFIN.out.2.2.2.1, HFIN.out.2.2.2.2⟩
    · obtain rfl : k = X.1.length := by omega
      have hll : l = X.1 := by rw [HL.out]; exact List.take_length
      subst hll
      have hO1 := hB.done HFF.out.1
      obtain ⟨b', cap, hv, hcl⟩ := hB.cells (by omega)
      simp only [Value.slice.injEq, Option.some.injEq, Addr.mk.injEq, and_true, true_and] at hv
      obtain ⟨hv1, hv2⟩ := hv
      subst hv1
      subst hv2
      have x0 := hbx.c0
      have x1 := hbx.c1
      have r0 := (hbB.cell (p := ⟨w.heap.size, 0, none⟩) (by show w.heap.size < w.heap.size + 1; omega)).trans q4.c0
      have r1 := (hbB.cell (p := ⟨w.heap.size, 1, none⟩) (by show w.heap.size < w.heap.size + 1; omega)).trans q4.c1
      have f0 := (hbB.frozen (p := ⟨w.heap.size, 0, none⟩) (by show w.heap.size < w.heap.size + 1; omega)).trans q4.f0
      have f1 := (hbB.frozen (p := ⟨w.heap.size, 1, none⟩) (by show w.heap.size < w.heap.size + 1; omega)).trans q4.f1
      have hne1 : ¬ w.heap.size = o := by omega
      have hgB : w.heap.size + 1 ≤ gB := by
        obtain ⟨⟨h1, h2⟩ | ⟨d, cp', N, f', h1, h2, -⟩, -⟩ := hO1
        · cases h1
        · simp only [Value.slice.injEq, Option.some.injEq, Addr.mk.injEq, and_true] at h1
          omega
      have hsep : ∀ k, k < X.1.length → ∀ d n' cp, wr.cell? ⟨gB, k, none⟩ = some (.slice (some ⟨d, 0, none⟩) n' cp) → d ≠ g := fun k hk d n' cp e q => by
        rw [hcl k hk] at e
        injection e with e
        exact HAP.out k hk (by rw [e, q]; rfl)
      have HFIN := Lib.hid (And.intro hO1 (And.intro hO (And.intro hsep hbw)))
      clear hO1 hO hB hbx hcl hsep hbw hbB HL HAP q4 q0
      go_wp2
      refine bodyPost_ret (v := .agg #[.slice (some ⟨gB, 0, none⟩) X.1.length cB, .slice (some ⟨g, 0, none⟩) X.2.length cp]) (by simp [results, Try.results49, go_sem, r0, r1]) rfl ⟨⟨_, _, _, _, rfl, ?_, ?_, ?_⟩, ?_⟩
      · refine OwJ.mono (lo := w.heap.size + 1) (hi := wr.heap.size) ?_ (by omega) (by simp [World.setCell])
        iterate 2 refine OwJ.other ?_ (by show w.heap.size < w.heap.size + 1; omega) _
        exact HFIN.out.1
      · have far : ∀ (W : World) (q : Nat) (u : Value), OwI W (w.heap.size + 2) o (.slice (some ⟨g, 0, none⟩) X.2.length cp) X.2 → OwI (W.setCell ⟨w.heap.size, q, none⟩ u) (w.heap.size + 2) o (.slice (some ⟨g, 0, none⟩) X.2.length cp) X.2 := fun W q u hW =>
          hW.block fun d e _ => heap_setCell_other _ _ _ _ (show d ≠ w.heap.size from fun q => by have := (hW.inb d e).1; omega)
        refine OwI.mono (lo := w.heap.size + 2) (hi := o) ?_ (by omega) (by simp [World.setCell]; omega)
        iterate 2 refine far _ _ _ ?_
        exact HFIN.out.2.1
      · intro k hk d n' cp2 e
        refine HFIN.out.2.2.1 k hk d n' cp2 ?_
        rw [← e]
        exact ((World.cell?_of_block (a := ⟨gB, k, none⟩) (heap_setCell_other _ _ _ _ (show gB ≠ w.heap.size by omega))).trans (World.cell?_of_block (a := ⟨gB, k, none⟩) (heap_setCell_other _ _ _ _ (show gB ≠ w.heap.size by omega)))).symm
      · iterate 2 refine Below.setCell ?_ (show w.heap.size ≤ w.heap.size from Nat.le_refl _) _
        exact HFIN.out.2.2.2
end Go.Proofs.Ytnpolmanebmmcaa
