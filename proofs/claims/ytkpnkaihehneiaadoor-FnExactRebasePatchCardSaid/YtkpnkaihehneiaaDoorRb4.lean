/- What is left of a patch behind another one: the specification's answer. -/
import Derived.Test.YtkpnkaihehneiaaDoorRb3
namespace Go.Proofs.YtkpnkaihehneiaaDoor
open Go.ChangeShapes Go.WideShapes Go.ChangeAt Go.RowKit Go.Deep
set_option linter.unusedSimpArgs false
set_option linter.unusedVariables false
theorem run_kind7 (a i : Int) (s t : ByteArray) (w : World) : (Instr.field 70 (.agg #[.int .i64 a, .int .i64 i, .string s, .string t]) 0).run Tryd.prog w = .ok (.int .i64 a) w := by kernel_rfl
theorem BldD.own {w : World} {base : Nat} {v : Value} {L : List Ed} (h : BldD w base v L) : w.ownsRow base 70 4 v L.length (fl L) := h
theorem BldD.snoc {w : World} {base : Nat} {v : Value} {L : List Ed} {e : Ed} (h : w.ownsRow base 70 4 v (L.length + 1) (fl L ++ [.int .i64 e.1, .int .i64 e.2.1, .string e.2.2.1, .string e.2.2.2])) : BldD w base v (L ++ [e]) := by
  have hl : (L ++ [e]).length = L.length + 1 := by simp
  unfold BldD
  rw [hl, fl_snoc]
  exact h
theorem BldD.start (w : World) : BldD (w.alloc (.cells #[] 70)) w.heap.size (.slice (some ⟨w.heap.size, 0, none⟩) 0 0) [] := World.ownsRow_lit w #[] 0 (Nat.le_refl _) (by unfold maxLen; omega) rfl
set_option maxHeartbeats 4000000 in
set_option maxRecDepth 100000 in
theorem sRB (P Q : List Ed) (w : World) (lo0 hi0 : Nat) (u0 : Value) (h0 : CpD w lo0 hi0 u0 P) (lo1 hi1 : Nat) (u1 : Value) (h1 : CpD w lo1 hi1 u1 Q) : Calls Tryd.prog 30 #[u0, u1] w (PDb (mReb P Q) w) := by
  obtain ⟨i0, hi, hz0, hz1, hz2⟩ := info_parts7 infoE
  have hfd := run_kind7
  obtain ⟨rfl, hp, -, fp⟩ := h0
  obtain ⟨rfl, hq, -, fq⟩ := h1
  have HP := spatch P lo0 P.length w hp fp
  have HQ := Lib.hid (fun w' (hw : Below w.heap.size w w') => spatch Q lo1 Q.length w' (hq.below hw) fq)
  have lp := fp.1
  have lq := fq.1
  have lbp := hp.lt
  have lbq := hq.lt
  unfold PDb mReb
  cases ep : patB P with
  | false =>
    rw [ep] at HP
    simp only [Bool.false_and, Bool.false_eq_true, if_false]
    clear ep hp hq HQ
    go_enter Tryd.func30, Tryd.ntmps30
    go_wp2_with fail
    refine HP.mono ?_
    rintro e w1 ⟨rfl, hd⟩
    have hb := hd.below
    go_wp2
    go_ret2
    exact ⟨_, rfl, RdD.nil _ _ _, hb⟩
  | true =>
    rw [ep] at HP
    cases eq : patB Q with
    | false =>
      rw [eq] at HQ
      simp only [Bool.and_false, Bool.false_and, Bool.false_eq_true, if_false]
      clear ep eq hp hq
      go_enter Tryd.func30, Tryd.ntmps30
      go_wp2_with fail
      refine HP.mono ?_
      rintro e w1 ⟨rfl, hd⟩
      have hb := hd.below
      have HQ1 := HQ.out w1 hb
      go_wp2_with fail
      refine HQ1.mono ?_
      rintro e w2 ⟨rfl, hd2⟩
      have hb2 := hb.trans (hd2.below.mono hb.size)
      go_wp2
      go_ret2
      exact ⟨_, rfl, RdD.nil _ _ _, hb2⟩
    | true =>
      rw [eq] at HQ
      simp only [Bool.and_true, Bool.true_and]
      have oP := patB_iff.1 ep
      have oQ := patB_iff.1 eq
      have HC := Lib.hid (fun w' (hw : Below w.heap.size w w') => sconf P Q lo0 P.length lo1 Q.length w' (hp.below hw) (hq.below hw) lp lq (pat_ok oQ))
      have OKP := Lib.hid (pat_ok oP)
      have HPP := Lib.hid hp
      have HQQ := Lib.hid hq
      have hcl := cfl_len P Q
      obtain ⟨C, hC⟩ : ∃ C, cfl P Q = C := ⟨_, rfl⟩
      rw [hC] at HC hcl ⊢
      clear ep eq hp hq oP oQ hC
      by_cases hc : C = []
      · subst hc
        simp only [List.isEmpty_nil, if_true]
        go_enter Tryd.func30, Tryd.ntmps30
        go_wp2_with fail
        refine HP.mono ?_
        rintro e w1 ⟨rfl, hd⟩
        have hb := hd.below
        have HQ1 := HQ.out w1 hb
        go_wp2_with fail
        refine HQ1.mono ?_
        rintro e w2 ⟨rfl, hd2⟩
        have hb2 := hb.trans (hd2.below.mono hb.size)
        have HC2 := HC.out w2 hb2
        go_wp2_with fail
        refine HC2.mono ?_
        rintro e w3 ⟨⟨v, rfl, hv⟩, hb3'⟩
        obtain ⟨va, vc, rfl⟩ := hv.rd.1.shape
        have hb3 := hb2.trans (hb3'.mono hb2.size)
        have HB3 := Lib.hid hb3
        have hs3 := hb3.size
        clear hv hb3' HC2 HQ1 HP hd hd2 hb hb2 hb3
        have hB0 := BldD.start w3
        have hbb0 := (Below.refl w3.heap.size w3).alloc (Nat.le_refl _) (.cells #[] 70)
        go_wp2
        go_loopg [6, 7] Q.length (fun g v i wr => ∃ (k : Nat) (l : List Ed), k ≤ Q.length ∧ g = Q.length - k ∧ i = .int .i64 k ∧ Below w3.heap.size w3 wr ∧ l.length ≤ k ∧ Hid (l = reb P (Q.take k)) ∧ BldD wr w3.heap.size v l)
        case atStart => exact ⟨0, [], Nat.zero_le _, rfl, rfl, hbb0, Nat.le_refl _, rfl, hB0⟩
        case round =>
          clear hB0 hbb0
          obtain ⟨k, l, hk, rfl, rfl, hb, hll, HL, hO⟩ := hrel
          have lbs := hb.size
          have hbw := HB3.out.trans (hb.mono hs3)
          by_cases hlt : k < Q.length
          · have hst := reb_take (P := P) hlt
            have hqa := (HQQ.out.below hbw).at hlt
            obtain ⟨q, hqq⟩ : ∃ q, Q.getD k e0 = q := ⟨_, rfl⟩
            rw [hqq] at hqa hst
            have HE := sedof P lo0 P.length q.2.1 wr (HPP.out.below hbw) lp
            have HST := Lib.hid hst
            obtain ⟨n, y, sa, sb⟩ := q
            have HQA := Lib.hid hqa
            obtain ⟨a1, a2, a3, a4⟩ := hqa
            simp only at HE a1 a2 a3 a4
            clear hqq hst
            cases hl : fnd P y with
            | some x =>
              simp only [hl] at HE HST
              obtain ⟨hxm, hxi⟩ := fnd_some hl
              have hkd := edF_kind (OKP.out x hxm)
              obtain ⟨n', y', sa', sb'⟩ := x
              simp only at hkd
              unfold vE at HE
              simp only [Option.getD_some] at HE
              have HEE : Hid (l = reb P (Q.take (k + 1))) := by show l = _; rw [HST.out, ← HL.out]; simp
              clear hl hxm hxi
              go_wp2_with fail
              refine HE.mono ?_
              rintro e w4 ⟨rfl, hb4⟩
              have hO4 := hO.below hb4
              have hb5 := hb.trans (hb4.mono lbs)
              clear hO hb4 HE a1 a2 a3 a4
              go_wp2
              go_roundg (Q.length - (k + 1))
              case measure => omega
              case rel => exact ⟨k + 1, l, by omega, rfl, by simp, hb5, by omega, HEE, hO4⟩
            | none =>
              simp only [hl] at HE HST
              unfold vE at HE
              simp only [Option.getD_none] at HE
              have HEE : Hid (l ++ [(n, y, sa, sb)] = reb P (Q.take (k + 1))) := by show l ++ _ = _; rw [HST.out, ← HL.out]; simp
              clear hl
              go_wp2_with fail
              refine HE.mono ?_
              rintro e w4 ⟨rfl, hb4⟩
              obtain ⟨d1, d2, d3, d4⟩ := HQA.out.below hb4
              simp only at d1 d2 d3 d4
              have hO4 := (hO.below hb4).own
              have hb5 := hb.trans (hb4.mono lbs)
              have hs5 := hb5.size
              have lb4 : lo1 < w4.heap.size := by omega
              have lb5 : lo1 ≠ w4.heap.size := by omega
              clear hO hb4 HE a1 a2 a3 a4
              go_wp2_with (first
                | (at_builtin; refine wpList_append_own _ rfl _ _ 32 rfl w3.heap.size 70 i0 _ 4 48 Tryd.underlying32 hi hz0 hz1 hz2 rfl (by decide) _ _ _ rfl (hO4.alloc _) ⟨w4.heap.size, 0, none⟩ 1 1 [.int .i64 n, .int .i64 y, .string sa, .string sb] rfl rfl ?c1 ?c2 ?c3 ?c4 ?c5 ?_))
              case c1 => exact World.news_of_block (cs := #[.int .i64 n, .int .i64 y, .string sa, .string sb]) (t := 70) (fr := (0, 0)) (heap_alloc_new w4 _)
              case c2 => simp [Value.oneCell']
              case c3 => unfold maxLen; omega
              case c4 => omega
              case c5 => simp; omega
              intro v' w5 hown5 hgrow _
              have hb6 := (hb5.alloc hs5 (.cells #[.int .i64 n, .int .i64 y, .string sa, .string sb] 70)).grown hgrow (by simp; omega) (fun x e => (hO4.lt x e).1)
              have HO : Hid (BldD w5 w3.heap.size v' (l ++ [(n, y, sa, sb)])) := Lib.hid (BldD.snoc (e := (n, y, sa, sb)) hown5)
              have HLN : Hid ((l ++ [(n, y, sa, sb)]).length = l.length + 1) := Lib.hid (by simp)
              clear hown5 hgrow
              go_wp2
              go_roundg (Q.length - (k + 1))
              case measure => omega
              case rel => exact ⟨k + 1, l ++ [(n, y, sa, sb)], by omega, rfl, by simp, hb6, by rw [HLN.out]; omega, HEE, HO.out⟩
          · obtain rfl : k = Q.length := by omega
            have hl := HL.out
            rw [List.take_length] at hl
            have hOW := (hO.done (Nat.le_refl _) (by omega)).mono (e1 := hs3) (e2 := Nat.le_refl _)
            rw [hl] at hOW
            have HOW := Lib.hid hOW.rd
            clear hO hl hOW
            go_wp2
            go_ret2
            exact ⟨_, rfl, HOW.out, hbw⟩
      · have he : C.isEmpty = false := by cases C with | nil => exact absurd rfl hc | cons _ _ => rfl
        have hpl : (0 : Int) < (C.length : Int) := by have := List.length_pos_iff.2 hc; omega
        simp only [he, Bool.false_eq_true, if_false]
        clear hc he
        go_enter Tryd.func30, Tryd.ntmps30
        go_wp2_with fail
        refine HP.mono ?_
        rintro e w1 ⟨rfl, hd⟩
        have hb := hd.below
        have HQ1 := HQ.out w1 hb
        go_wp2_with fail
        refine HQ1.mono ?_
        rintro e w2 ⟨rfl, hd2⟩
        have hb2 := hb.trans (hd2.below.mono hb.size)
        have HC2 := HC.out w2 hb2
        go_wp2_with fail
        refine HC2.mono ?_
        rintro e w3 ⟨⟨v, rfl, hv⟩, hb3'⟩
        obtain ⟨va, vc, rfl⟩ := hv.rd.1.shape
        have hb3 := hb2.trans (hb3'.mono hb2.size)
        clear hv hb3' HC2 HQ1 HP
        go_wp2
        go_ret2
        exact ⟨_, rfl, RdD.nil _ _ _, hb3⟩
end Go.Proofs.YtkpnkaihehneiaaDoor
