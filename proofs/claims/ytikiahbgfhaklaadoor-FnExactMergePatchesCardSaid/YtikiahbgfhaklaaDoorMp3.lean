/- Two patches in one that are not in conflict: the specification's answer. -/
import Derived.Test.YtikiahbgfhaklaaDoorMpa
namespace Go.Proofs.YtikiahbgfhaklaaDoor
open Go.ChangeShapes Go.WideShapes Go.ChangeAt Go.RowKit Go.Deep
set_option linter.unusedSimpArgs false
set_option linter.unusedVariables false
theorem BldD.snoc {w : World} {base : Nat} {v : Value} {L : List Ed} {e : Ed} (h : w.ownsRow base 74 4 v (L.length + 1) (fl L ++ [.int .i64 e.1, .int .i64 e.2.1, .string e.2.2.1, .string e.2.2.2])) : BldD w base v (L ++ [e]) := bsnoc h
theorem BldD.start (w : World) : BldD (w.alloc (.cells #[] 74)) w.heap.size (.slice (some ⟨w.heap.size, 0, none⟩) 0 0) [] := World.ownsRow_lit w #[] 0 (Nat.le_refl _) (by unfold maxLen; omega) rfl
theorem pq_left {P Q : List Ed} {i : Int} {e : Ed} (h : fnd P i = some e) : pq P Q i = some e := by unfold pq; rw [h]; rfl
theorem pq_right {P Q : List Ed} {i : Int} (h : fnd P i = none) : pq P Q i = fnd Q i := by unfold pq; rw [h]; rfl
set_option maxHeartbeats 4000000 in
set_option maxRecDepth 100000 in
theorem sMP (P Q : List Ed) (w : World) (lo0 hi0 : Nat) (u0 : Value) (h0 : CpD w lo0 hi0 u0 P) (lo1 hi1 : Nat) (u1 : Value) (h1 : CpD w lo1 hi1 u1 Q) : Calls Tryd.prog 33 #[u0, u1] w (PDb (mMrg P Q) w) := by
  obtain ⟨i0, hi, hz0, hz1, hz2⟩ := info_parts7 infoE
  obtain ⟨rfl, hp, -, fp⟩ := h0
  obtain ⟨rfl, hq, -, fq⟩ := h1
  have HP := spatch P lo0 P.length w hp fp
  have HQ := Lib.hid (fun w' (hw : Below w.heap.size w w') => spatch Q lo1 Q.length w' (hq.below hw) fq)
  have lp := fp.1
  have lq := fq.1
  have lbp := hp.lt
  have lbq := hq.lt
  unfold PDb
  cases ep : patB P with
  | false =>
    rw [ep] at HP
    rw [mMrg_no (by rw [ep]; simp)]
    clear ep hp hq HQ
    go_enter Tryd.func33, Tryd.ntmps33
    go_wp2_with fail
    refine HP.mono ?_
    rintro e w1 ⟨rfl, hd⟩
    have hb := hd.below
    go_wp2
    go_ret2
    exact ⟨_, rfl, RdD.nil _ _ _, hb⟩
  | true =>
    rw [ep] at HP
    cases eq : patB Q with
    | false =>
      rw [eq] at HQ
      rw [mMrg_no (by rw [eq]; simp)]
      clear ep eq hp hq
      go_enter Tryd.func33, Tryd.ntmps33
      go_wp2_with fail
      refine HP.mono ?_
      rintro e w1 ⟨rfl, hd⟩
      have hb := hd.below
      have HQ1 := HQ.out w1 hb
      go_wp2_with fail
      refine HQ1.mono ?_
      rintro e w2 ⟨rfl, hd2⟩
      have hb2 := hb.trans (hd2.below.mono hb.size)
      go_wp2
      go_ret2
      exact ⟨_, rfl, RdD.nil _ _ _, hb2⟩
    | true =>
      rw [eq] at HQ
      have oP := patB_iff.1 ep
      have oQ := patB_iff.1 eq
      have HC := Lib.hid (fun w' (hw : Below w.heap.size w w') => sconf P Q lo0 P.length lo1 Q.length w' (hp.below hw) (hq.below hw) lp lq (pat_ok oQ))
      have OKP := Lib.hid (pat_ok oP)
      have OKQ := Lib.hid (pat_ok oQ)
      have HPP := Lib.hid hp
      have HQQ := Lib.hid hq
      have HMR := Lib.hid (pq_mrg oP oQ)
      have hcl := cfl_len P Q
      have HY := Lib.hid (@mMrg_yes P Q (by rw [ep, eq]; rfl))
      have HN := Lib.hid (@mMrg_long P Q)
      have HZ := Lib.hid (@mMrg_conf P Q)
      obtain ⟨C, hC⟩ : ∃ C, cfl P Q = C := ⟨_, rfl⟩
      rw [hC] at HC hcl HY HZ
      clear ep eq hp hq oP oQ hC
      by_cases hc : C = []
      · subst hc
        have HY' := Lib.hid (HY.out rfl)
        clear HY HZ
        go_enter Tryd.func33, Tryd.ntmps33
        go_wp2_with fail
        refine HP.mono ?_
        rintro e w1 ⟨rfl, hd⟩
        have hb := hd.below
        have HQ1 := HQ.out w1 hb
        go_wp2_with fail
        refine HQ1.mono ?_
        rintro e w2 ⟨rfl, hd2⟩
        have hb2 := hb.trans (hd2.below.mono hb.size)
        have HC2 := HC.out w2 hb2
        go_wp2_with fail
        refine HC2.mono ?_
        rintro e w3 ⟨⟨v, rfl, hv⟩, hb3'⟩
        obtain ⟨va, vc, rfl⟩ := hv.rd.1.shape
        have hb3 := hb2.trans (hb3'.mono hb2.size)
        have HB3 := Lib.hid hb3
        have hs3 := hb3.size
        clear hv hb3' HC2 HQ1 HP hd hd2 hb hb2 hb3
        have hB0 := BldD.start w3
        have hbb0 := (Below.refl w3.heap.size w3).alloc (Nat.le_refl _) (.cells #[] 74)
        go_wp2
        go_loopg [6, 7] 99 (fun g v i wr => ∃ (k : Nat) (l : List Ed), k ≤ 99 ∧ g = 99 - k ∧ i = .int .i64 ((k : Int) + 1) ∧ Below w3.heap.size w3 wr ∧ l.length ≤ k ∧ Hid (l = upTo (pq P Q) k) ∧ BldD wr w3.heap.size v l)
        case atStart => exact ⟨0, [], Nat.zero_le _, rfl, by simp, hbb0, Nat.le_refl _, rfl, hB0⟩
        case round =>
          clear hB0 hbb0
          obtain ⟨k, l, hk, rfl, rfl, hb, hll, HL, hO⟩ := hrel
          have lbs := hb.size
          have hbw := HB3.out.trans (hb.mono hs3)
          by_cases hlt : k < 99
          · have hst := upTo_succ (pq P Q) k
            obtain ⟨y, hy⟩ : ∃ y : Int, (k : Int) + 1 = y := ⟨_, rfl⟩
            rw [hy] at hst
            simp only [hy]
            have y1 : 1 ≤ y := by omega
            have y2 : y ≤ 99 := by omega
            have HE := sedof P lo0 P.length y wr (HPP.out.below hbw) lp
            have HYK := Lib.hid hy
            clear hy
            cases hf : fnd P y with
            | some x =>
              rw [pq_left hf] at hst
              simp only [hf] at HE hst
              obtain ⟨hxm, hxi⟩ := fnd_some hf
              have hkd := edF_kind (OKP.out x hxm)
              obtain ⟨n', y', sa', sb'⟩ := x
              simp only at hkd
              unfold vE at HE
              simp only [Option.getD_some] at HE
              have HEE : Hid (l ++ [(n', y', sa', sb')] = upTo (pq P Q) (k + 1)) := by show l ++ _ = _; rw [hst, ← HL.out]
              clear hf hxm hxi hst
              go_wp2_with fail
              refine HE.mono ?_
              rintro e w4 ⟨rfl, hb4⟩
              have hO4 := (hO.below hb4)
              have hown : w4.ownsRow w3.heap.size 74 4 u6 l.length (fl l) := hO4
              have hb5 := hb.trans (hb4.mono lbs)
              have hs5 := hb5.size
              clear hO hb4 HE hO4
              go_wp2_with (first
                | (at_builtin; refine wpList_append_own _ rfl _ _ 33 rfl w3.heap.size 74 i0 _ 4 48 Tryd.underlying33 hi hz0 hz1 hz2 rfl (by decide) _ _ _ rfl ((hown.alloc _).alloc _) ⟨w4.heap.size + 1, 0, none⟩ 1 1 [.int .i64 n', .int .i64 y', .string sa', .string sb'] rfl rfl ?c1 ?c2 ?c3 ?c4 ?c5 ?_))
              case c1 => exact World.news_of_block (cs := #[.int .i64 n', .int .i64 y', .string sa', .string sb']) (t := 74) (fr := (0, 0)) (by simpa using heap_alloc_new (w4.alloc (.cells #[.int .i64 n', .int .i64 y', .string sa', .string sb'] 74)) _)
              case c2 => simp [Value.oneCell']
              case c3 => unfold maxLen; omega
              case c4 => omega
              case c5 => simp; omega
              intro v' w5 hown5 hgrow _
              have hb6 := ((hb5.alloc hs5 (.cells #[.int .i64 n', .int .i64 y', .string sa', .string sb'] 74)).alloc (by simp; omega) (.cells #[.int .i64 n', .int .i64 y', .string sa', .string sb'] 74)).grown hgrow (by simp; omega) (fun x e => (hown.lt x e).1)
              have HO : Hid (BldD w5 w3.heap.size v' (l ++ [(n', y', sa', sb')])) := Lib.hid (BldD.snoc (e := (n', y', sa', sb')) hown5)
              have HLN : Hid ((l ++ [(n', y', sa', sb')]).length = l.length + 1) := Lib.hid (by simp)
              clear hown5 hgrow hown
              go_wp2
              go_roundg (99 - (k + 1))
              case measure => omega
              case rel => exact ⟨k + 1, l ++ [(n', y', sa', sb')], by omega, rfl, by rw [← HYK.out]; simp, hb6, by rw [HLN.out]; omega, HEE, HO.out⟩
            | none =>
              rw [pq_right hf] at hst
              simp only [hf] at HE
              unfold vE e0 at HE
              simp only [Option.getD_none] at HE
              have HST := Lib.hid hst
              clear hf hst
              go_wp2_with fail
              refine HE.mono ?_
              rintro e w4 ⟨rfl, hb4⟩
              have hO4 := hO.below hb4
              have hb5 := hb.trans (hb4.mono lbs)
              have hs5 := hb5.size
              clear hO hb4 HE
              go_wp2_with fail
              obtain ⟨W1, hW1⟩ : ∃ W1, W1 = w4.alloc (.cells #[.int .i64 0, .int .i64 0, .string ⟨#[]⟩, .string ⟨#[]⟩] 74) := ⟨_, rfl⟩
              have q0 : W1.cell? ⟨w4.heap.size, 0, none⟩ = some (.int .i64 0) := by rw [hW1]; go_simp
              have q1 : W1.cell? ⟨w4.heap.size, 1, none⟩ = some (.int .i64 0) := by rw [hW1]; go_simp
              have q2 : W1.cell? ⟨w4.heap.size, 2, none⟩ = some (.string ⟨#[]⟩) := by rw [hW1]; go_simp
              have q3 : W1.cell? ⟨w4.heap.size, 3, none⟩ = some (.string ⟨#[]⟩) := by rw [hW1]; go_simp
              have z0 : W1.frozen? ⟨w4.heap.size, 0, none⟩ = false := by rw [hW1]; go_simp
              have z1 : W1.frozen? ⟨w4.heap.size, 1, none⟩ = false := by rw [hW1]; go_simp
              have z2 : W1.frozen? ⟨w4.heap.size, 2, none⟩ = false := by rw [hW1]; go_simp
              have z3 : W1.frozen? ⟨w4.heap.size, 3, none⟩ = false := by rw [hW1]; go_simp
              have hbW : Below w3.heap.size w3 W1 := by rw [hW1]; exact hb5.alloc hs5 _
              have hOW1 : BldD W1 w3.heap.size u6 l := by rw [hW1]; exact World.ownsRow.alloc hO4 _
              have hlow := World.ownsRow.lt hO4
              have hB1 : w4.heap.size < W1.heap.size := by rw [hW1]; simp
              rw [← hW1]
              clear hW1 hb5 hO4
              have hs6 := hbW.size
              have HE2 := sedof Q lo1 Q.length y W1 (HQQ.out.below (HB3.out.trans (hbW.mono hs3))) lq
              obtain ⟨B, hB⟩ : ∃ B, w4.heap.size = B := ⟨_, rfl⟩
              rw [hB] at q0 q1 q2 q3 z0 z1 z2 z3 hlow hB1 hs5
              simp only [hB]
              clear hB
              cases hf : fnd Q y with
              | some x =>
                have hst := HST.out
                simp only [hf] at HE2 hst
                obtain ⟨hxm, hxi⟩ := fnd_some hf
                have hkd := edF_kind (OKQ.out x hxm)
                obtain ⟨n', y', sa', sb'⟩ := x
                simp only at hkd
                unfold vE at HE2
                simp only [Option.getD_some] at HE2
                have HEE : Hid (l ++ [(n', y', sa', sb')] = upTo (pq P Q) (k + 1)) := by show l ++ _ = _; rw [hst, ← HL.out]
                clear hf hxm hxi hst
                refine HE2.mono ?_
                rintro e w5 ⟨rfl, hb6⟩
                have hO5 : w5.ownsRow w3.heap.size 74 4 u6 l.length (fl l) := hOW1.below hb6
                have hb7 := hbW.trans (hb6.mono hs6)
                have hs7 := hb7.size
                have hs8 := hb6.size
                have p0 := (hb6.cell (p := ⟨B, 0, none⟩) hB1).trans q0
                have p1 := (hb6.cell (p := ⟨B, 1, none⟩) hB1).trans q1
                have p2 := (hb6.cell (p := ⟨B, 2, none⟩) hB1).trans q2
                have p3 := (hb6.cell (p := ⟨B, 3, none⟩) hB1).trans q3
                have f0 := (hb6.frozen (p := ⟨B, 0, none⟩) hB1).trans z0
                have f1 := (hb6.frozen (p := ⟨B, 1, none⟩) hB1).trans z1
                have f2 := (hb6.frozen (p := ⟨B, 2, none⟩) hB1).trans z2
                have f3 := (hb6.frozen (p := ⟨B, 3, none⟩) hB1).trans z3
                have HSO : Hid (∀ a b c d, ((((w5.setCell ⟨B, 0, none⟩ a).setCell ⟨B, 1, none⟩ b).setCell ⟨B, 2, none⟩ c).setCell ⟨B, 3, none⟩ d).ownsRow w3.heap.size 74 4 u6 l.length (fl l)) := Lib.hid fun a b c d => own_block7 hO5 fun g hg _ => by
                  have hne : g ≠ B := by have := hlow g hg; omega
                  rw [Deep.blk_setCell_other _ _ _ _ (by exact hne), Deep.blk_setCell_other _ _ _ _ (by exact hne), Deep.blk_setCell_other _ _ _ _ (by exact hne), Deep.blk_setCell_other _ _ _ _ (by exact hne)]
                have HSB : Hid (∀ a b c d, Below w3.heap.size w3 ((((w5.setCell ⟨B, 0, none⟩ a).setCell ⟨B, 1, none⟩ b).setCell ⟨B, 2, none⟩ c).setCell ⟨B, 3, none⟩ d)) := Lib.hid fun a b c d => by
                  refine Below.setCell (Below.setCell (Below.setCell (Below.setCell hb7 ?_ _) ?_ _) ?_ _) ?_ _ <;> exact hs5
                have HSN : Hid (∀ a b c d o, (((((w5.setCell ⟨B, 0, none⟩ a).setCell ⟨B, 1, none⟩ b).setCell ⟨B, 2, none⟩ c).setCell ⟨B, 3, none⟩ d).alloc o).heap[w5.heap.size]? = some o) := Lib.hid fun a b c d o => by
                  have h := heap_alloc_new ((((w5.setCell ⟨B, 0, none⟩ a).setCell ⟨B, 1, none⟩ b).setCell ⟨B, 2, none⟩ c).setCell ⟨B, 3, none⟩ d) o
                  simpa only [Deep.nblk_setCell] using h
                clear HE2 hO5 hb6 hb7 hOW1 hbW q0 q1 q2 q3 z0 z1 z2 z3
                go_wp2_with (first
                  | (at_builtin; refine wpList_append_own _ rfl _ _ 33 rfl w3.heap.size 74 i0 _ 4 48 Tryd.underlying33 hi hz0 hz1 hz2 rfl (by decide) _ _ _ rfl ((HSO.out _ _ _ _).alloc _) ⟨w5.heap.size, 0, none⟩ 1 1 [.int .i64 n', .int .i64 y', .string sa', .string sb'] rfl rfl ?c1 ?c2 ?c3 ?c4 ?c5 ?_))
                case c1 => exact World.news_of_block (cs := #[.int .i64 n', .int .i64 y', .string sa', .string sb']) (t := 74) (fr := (0, 0)) (HSN.out _ _ _ _ _)
                case c2 => simp [Value.oneCell']
                case c3 => unfold maxLen; omega
                case c4 => omega
                case c5 => simp; omega
                intro v' w6 hown6 hgrow _
                have hb8 := ((HSB.out (.int .i64 n') (.int .i64 y') (.string sa') (.string sb')).alloc (by simp; omega) (.cells #[.int .i64 n', .int .i64 y', .string sa', .string sb'] 74)).grown hgrow (by simp; omega) (fun x e => by have := hlow x e; omega)
                have HO : Hid (BldD w6 w3.heap.size v' (l ++ [(n', y', sa', sb')])) := Lib.hid (BldD.snoc (e := (n', y', sa', sb')) hown6)
                have HLN : Hid ((l ++ [(n', y', sa', sb')]).length = l.length + 1) := Lib.hid (by simp)
                clear hown6 hgrow
                go_wp2
                go_roundg (99 - (k + 1))
                case measure => omega
                case rel => exact ⟨k + 1, l ++ [(n', y', sa', sb')], by omega, rfl, by rw [← HYK.out]; simp, hb8, by rw [HLN.out]; omega, HEE, HO.out⟩
              | none =>
                have hst := HST.out
                simp only [hf] at HE2 hst
                unfold vE e0 at HE2
                simp only [Option.getD_none] at HE2
                have HEE : Hid (l = upTo (pq P Q) (k + 1)) := by show l = _; rw [hst, ← HL.out, List.append_nil]
                clear hf hst
                refine HE2.mono ?_
                rintro e w5 ⟨rfl, hb6⟩
                have hO5 : w5.ownsRow w3.heap.size 74 4 u6 l.length (fl l) := hOW1.below hb6
                have hb7 := hbW.trans (hb6.mono hs6)
                have hs7 := hb7.size
                have hs8 := hb6.size
                have p0 := (hb6.cell (p := ⟨B, 0, none⟩) hB1).trans q0
                have p1 := (hb6.cell (p := ⟨B, 1, none⟩) hB1).trans q1
                have p2 := (hb6.cell (p := ⟨B, 2, none⟩) hB1).trans q2
                have p3 := (hb6.cell (p := ⟨B, 3, none⟩) hB1).trans q3
                have f0 := (hb6.frozen (p := ⟨B, 0, none⟩) hB1).trans z0
                have f1 := (hb6.frozen (p := ⟨B, 1, none⟩) hB1).trans z1
                have f2 := (hb6.frozen (p := ⟨B, 2, none⟩) hB1).trans z2
                have f3 := (hb6.frozen (p := ⟨B, 3, none⟩) hB1).trans z3
                have HSO : Hid (∀ a b c d, ((((w5.setCell ⟨B, 0, none⟩ a).setCell ⟨B, 1, none⟩ b).setCell ⟨B, 2, none⟩ c).setCell ⟨B, 3, none⟩ d).ownsRow w3.heap.size 74 4 u6 l.length (fl l)) := Lib.hid fun a b c d => own_block7 hO5 fun g hg _ => by
                  have hne : g ≠ B := by have := hlow g hg; omega
                  rw [Deep.blk_setCell_other _ _ _ _ (by exact hne), Deep.blk_setCell_other _ _ _ _ (by exact hne), Deep.blk_setCell_other _ _ _ _ (by exact hne), Deep.blk_setCell_other _ _ _ _ (by exact hne)]
                have HSB : Hid (∀ a b c d, Below w3.heap.size w3 ((((w5.setCell ⟨B, 0, none⟩ a).setCell ⟨B, 1, none⟩ b).setCell ⟨B, 2, none⟩ c).setCell ⟨B, 3, none⟩ d)) := Lib.hid fun a b c d => by
                  refine Below.setCell (Below.setCell (Below.setCell (Below.setCell hb7 ?_ _) ?_ _) ?_ _) ?_ _ <;> exact hs5
                have HSN : Hid (∀ a b c d o, (((((w5.setCell ⟨B, 0, none⟩ a).setCell ⟨B, 1, none⟩ b).setCell ⟨B, 2, none⟩ c).setCell ⟨B, 3, none⟩ d).alloc o).heap[w5.heap.size]? = some o) := Lib.hid fun a b c d o => by
                  have h := heap_alloc_new ((((w5.setCell ⟨B, 0, none⟩ a).setCell ⟨B, 1, none⟩ b).setCell ⟨B, 2, none⟩ c).setCell ⟨B, 3, none⟩ d) o
                  simpa only [Deep.nblk_setCell] using h
                clear HE2 hO5 hb6 hb7 hOW1 hbW q0 q1 q2 q3 z0 z1 z2 z3
                go_wp2
                go_roundg (99 - (k + 1))
                case measure => omega
                case rel => exact ⟨k + 1, l, by omega, rfl, by rw [← HYK.out]; simp, HSB.out _ _ _ _, by omega, HEE, HSO.out _ _ _ _⟩
          · obtain rfl : k = 99 := by omega
            have hl := HL.out
            rw [HMR.out] at hl
            have hlen : l.length ≤ 99 := hll
            have hOW := (hO.done (Nat.le_refl _) (by omega)).mono (e1 := hs3) (e2 := Nat.le_refl _)
            obtain ⟨va', vc', hv'⟩ := hOW.rd.1.shape
            subst hv'
            have hcase : (¬ (16 : Int) < (l.length : Int) ∧ mMrg P Q = (l, true)) ∨ (16 : Int) < (l.length : Int) ∧ mMrg P Q = ([], false) := by
              rw [← hl] at HY' HN
              by_cases hn : l.length ≤ 16
              · exact .inl ⟨by omega, HY'.out hn⟩
              · exact .inr ⟨by omega, HN.out hn⟩
            have HOW := Lib.hid hOW.rd
            clear hO hl hOW HY' HN
            rcases hcase with ⟨hni, hm⟩ | ⟨hni, hm⟩
            all_goals
              have HM := Lib.hid hm
              clear hm
              go_wp2
              go_ret2
              rw [HM.out]
              first
                | exact ⟨_, rfl, HOW.out, hbw⟩
                | exact ⟨_, rfl, RdD.nil _ _ _, hbw⟩
      · have hpl : (0 : Int) < (C.length : Int) := by have := List.length_pos_iff.2 hc; omega
        rw [HZ.out hc]
        clear hc HY HZ HN
        go_enter Tryd.func33, Tryd.ntmps33
        go_wp2_with fail
        refine HP.mono ?_
        rintro e w1 ⟨rfl, hd⟩
        have hb := hd.below
        have HQ1 := HQ.out w1 hb
        go_wp2_with fail
        refine HQ1.mono ?_
        rintro e w2 ⟨rfl, hd2⟩
        have hb2 := hb.trans (hd2.below.mono hb.size)
        have HC2 := HC.out w2 hb2
        go_wp2_with fail
        refine HC2.mono ?_
        rintro e w3 ⟨⟨v, rfl, hv⟩, hb3'⟩
        obtain ⟨va, vc, rfl⟩ := hv.rd.1.shape
        have hb3 := hb2.trans (hb3'.mono hb2.size)
        clear hv hb3' HC2 HQ1 HP
        go_wp2
        go_ret2
        exact ⟨_, rfl, RdD.nil _ _ _, hb3⟩
end Go.Proofs.YtikiahbgfhaklaaDoor
