/- Two patches in one: the specification's answer. -/
import Derived.Test.YtikiahbgfhaklaaDoorCma
namespace Go.Proofs.YtikiahbgfhaklaaDoor
open Go.ChangeShapes Go.WideShapes Go.ChangeAt Go.RowKit Go.Deep
set_option linter.unusedSimpArgs false
set_option linter.unusedVariables false
theorem cstart (w : World) : BldD (w.alloc (.cells #[] 74)) w.heap.size (.slice (some ⟨w.heap.size, 0, none⟩) 0 0) [] := World.ownsRow_lit w #[] 0 (Nat.le_refl _) (by unfold maxLen; omega) rfl
theorem kindE_nz (a b : ByteArray) : (kindE a b == 0) = false := by
  unfold kindE
  split
  · rfl
  · split <;> rfl
set_option maxHeartbeats 8000000 in
set_option maxRecDepth 100000 in
theorem sCM (P Q : List Ed) (w : World) (lo0 hi0 : Nat) (u0 : Value) (h0 : CpD w lo0 hi0 u0 P) (lo1 hi1 : Nat) (u1 : Value) (h1 : CpD w lo1 hi1 u1 Q) : Calls Tryd.prog 31 #[u0, u1] w (PDb (mCmp P Q) w) := by
  obtain ⟨i0, hi, hz0, hz1, hz2⟩ := info_parts7 infoE
  obtain ⟨rfl, hp, -, fp⟩ := h0
  obtain ⟨rfl, hq, -, fq⟩ := h1
  have HP := spatch P lo0 P.length w hp fp
  have HQ := Lib.hid (fun w' (hw : Below w.heap.size w w') => spatch Q lo1 Q.length w' (hq.below hw) fq)
  have lp := fp.1
  have lq := fq.1
  have lbp := hp.lt
  have lbq := hq.lt
  unfold PDb
  cases ep : patB P with
  | false =>
    rw [ep] at HP
    rw [mCmp_no (by rw [ep]; simp)]
    clear ep hp hq HQ
    go_enter Tryd.func31, Tryd.ntmps31
    go_wp2_with fail
    refine HP.mono ?_
    rintro e w1 ⟨rfl, hd⟩
    have hb := hd.below
    go_wp2
    go_ret2
    exact ⟨_, rfl, RdD.nil _ _ _, hb⟩
  | true =>
    rw [ep] at HP
    cases eq : patB Q with
    | false =>
      rw [eq] at HQ
      rw [mCmp_no (by rw [eq]; simp)]
      clear ep eq hp hq
      go_enter Tryd.func31, Tryd.ntmps31
      go_wp2_with fail
      refine HP.mono ?_
      rintro e w1 ⟨rfl, hd⟩
      have hb := hd.below
      have HQ1 := HQ.out w1 hb
      go_wp2_with fail
      refine HQ1.mono ?_
      rintro e w2 ⟨rfl, hd2⟩
      have hb2 := hb.trans (hd2.below.mono hb.size)
      go_wp2
      go_ret2
      exact ⟨_, rfl, RdD.nil _ _ _, hb2⟩
    | true =>
      rw [eq] at HQ
      have oP := patB_iff.1 ep
      have oQ := patB_iff.1 eq
      have OKP := Lib.hid (pat_ok oP)
      have OKQ := Lib.hid (pat_ok oQ)
      have HPP := Lib.hid hp
      have HQQ := Lib.hid hq
      have HMR := Lib.hid (cf_cps oP oQ)
      have HY := Lib.hid (@mCmp_yes P Q (by rw [ep, eq]; rfl))
      have HN := Lib.hid (@mCmp_long P Q)
      have HS0 := Lib.hid (shd_none oP oQ)
      have HZ := Lib.hid (fun (i : Int) (x y : Ed) (hx : fnd P i = some x) (hy : fnd Q i = some y) (h : y.2.2.1 ≠ x.2.2.2) => mCmp_conf (shd_some oP hx hy h))
      clear ep eq hp hq oP oQ
      go_enter Tryd.func31, Tryd.ntmps31
      go_wp2_with fail
      refine HP.mono ?_
      rintro e w1 ⟨rfl, hd⟩
      have hb := hd.below
      have HQ1 := HQ.out w1 hb
      go_wp2_with fail
      refine HQ1.mono ?_
      rintro e w3 ⟨rfl, hd2⟩
      have hb3 := hb.trans (hd2.below.mono hb.size)
      have HB3 := Lib.hid hb3
      have hs3 := hb3.size
      clear HQ1 HP hd hd2 hb hb3
      have hB0 := cstart w3
      have hbb0 := (Below.refl w3.heap.size w3).alloc (Nat.le_refl _) (.cells #[] 74)
      go_wp2
      go_loopg [6, 7] 99 (fun g v i wr => ∃ (k : Nat) (l : List Ed), k ≤ 99 ∧ g = 99 - k ∧ i = .int .i64 ((k : Int) + 1) ∧ Below w3.heap.size w3 wr ∧ l.length ≤ k ∧ Hid (l = upTo (cf P Q) k) ∧ BldD wr w3.heap.size v l ∧ Hid (∀ i : Int, 1 ≤ i → i ≤ k → ∀ x y, fnd P i = some x → fnd Q i = some y → y.2.2.1 = x.2.2.2))
      case atStart => exact ⟨0, [], Nat.zero_le _, rfl, by simp, hbb0, Nat.le_refl _, rfl, hB0, fun i h1 h2 => absurd h2 (by simp; omega)⟩
      case round =>
        clear hB0 hbb0
        obtain ⟨k, l, hk, rfl, rfl, hb, hll, HL, hO, HF⟩ := hrel
        have lbs := hb.size
        have hbw := HB3.out.trans (hb.mono hs3)
        by_cases hlt : k < 99
        · have hst := upTo_succ (cf P Q) k
          have hff : ∀ y : Int, (k : Int) + 1 = y → (∀ a b, fnd P y = some a → fnd Q y = some b → b.2.2.1 = a.2.2.2) → Hid (∀ i : Int, 1 ≤ i → i ≤ ((k + 1 : Nat) : Int) → ∀ x y, fnd P i = some x → fnd Q i = some y → y.2.2.1 = x.2.2.2) := fun y hy h i h1 h2 a b ha hb => by
            by_cases e : i = y
            · subst e; exact h a b ha hb
            · exact HF.out i h1 (by omega) a b ha hb
          obtain ⟨y, hy⟩ : ∃ y : Int, (k : Int) + 1 = y := ⟨_, rfl⟩
          have HFF := Lib.hid (hff y hy)
          rw [hy] at hst
          simp only [hy]
          have y1 : 1 ≤ y := by omega
          have y2 : y ≤ 99 := by omega
          have HE := sedof P lo0 P.length y wr (HPP.out.below hbw) lp
          have HYK := Lib.hid hy
          clear hy hff HF
          cases hf : fnd P y with
          | none =>
            simp only [hf] at HE
            unfold vE e0 at HE
            simp only [Option.getD_none] at HE
            go_wp2_with fail
            refine HE.mono ?_
            rintro e w4 ⟨rfl, hb4⟩
            have hO4 := hO.below hb4
            have hb5 := hb.trans (hb4.mono lbs)
            have hs5 := hb5.size
            clear hO hb4 HE
            go_wp2_with fail
            obtain ⟨W1, hW1⟩ : ∃ W1, W1 = w4.alloc (.cells #[.int .i64 0, .int .i64 0, .string ⟨#[]⟩, .string ⟨#[]⟩] 74) := ⟨_, rfl⟩
            have q0 : W1.cell? ⟨w4.heap.size, 0, none⟩ = some (.int .i64 0) := by rw [hW1]; go_simp
            have q1 : W1.cell? ⟨w4.heap.size, 1, none⟩ = some (.int .i64 0) := by rw [hW1]; go_simp
            have q2 : W1.cell? ⟨w4.heap.size, 2, none⟩ = some (.string ⟨#[]⟩) := by rw [hW1]; go_simp
            have q3 : W1.cell? ⟨w4.heap.size, 3, none⟩ = some (.string ⟨#[]⟩) := by rw [hW1]; go_simp
            have hbW : Below w3.heap.size w3 W1 := by rw [hW1]; exact hb5.alloc hs5 _
            have hOW1 : BldD W1 w3.heap.size u6 l := by rw [hW1]; exact World.ownsRow.alloc hO4 _
            have hB1 : w4.heap.size < W1.heap.size := by rw [hW1]; simp
            rw [← hW1]
            clear hW1 hb5 hO4
            have hs6 := hbW.size
            have HE2 := sedof Q lo1 Q.length y W1 (HQQ.out.below (HB3.out.trans (hbW.mono hs3))) lq
            obtain ⟨A, hA⟩ : ∃ A, w4.heap.size = A := ⟨_, rfl⟩
            rw [hA] at q0 q1 q2 q3 hB1 hs5
            simp only [hA]
            clear hA
            cases hg : fnd Q y with
            | none =>
              rw [cf_nn hf hg] at hst
              have HFN := HFF.out (fun a b ha hb => by rw [hf] at ha; cases ha)
              simp only [hg] at HE2
              unfold vE e0 at HE2
              simp only [Option.getD_none] at HE2
              have HEE : Hid (l = upTo (cf P Q) (k + 1)) := by show l = _; rw [hst, ← HL.out, List.append_nil]
              clear hf hg hst HFF
              refine HE2.mono ?_
              rintro e w5 ⟨rfl, hb6⟩
              have hown : w5.ownsRow w3.heap.size 74 4 u6 l.length (fl l) := hOW1.below hb6
              have hb7 := hbW.trans (hb6.mono hs6)
              have hs7 := hb7.size
              have hs8 := hb6.size
              have p0 := (hb6.cell (p := ⟨A, 0, none⟩) hB1).trans q0
              have p1 := (hb6.cell (p := ⟨A, 1, none⟩) hB1).trans q1
              have p2 := (hb6.cell (p := ⟨A, 2, none⟩) hB1).trans q2
              have p3 := (hb6.cell (p := ⟨A, 3, none⟩) hB1).trans q3
              have hA5 : A < w5.heap.size := by omega
              have hA6 : A ≠ w5.heap.size := by omega
              clear HE2 hb6 hOW1 hbW q0 q1 q2 q3 hB1
              have hb9 := hb7.alloc hs7 (.cells #[.int .i64 0, .int .i64 0, .string ⟨#[]⟩, .string ⟨#[]⟩] 74)
              have hown9 : BldD (w5.alloc (.cells #[.int .i64 0, .int .i64 0, .string ⟨#[]⟩, .string ⟨#[]⟩] 74)) w3.heap.size u6 l := hown.alloc _
              go_wp2
              go_roundg (99 - (k + 1))
              case measure => omega
              case rel => exact ⟨k + 1, l, by omega, rfl, by rw [← HYK.out]; simp, hb9, by omega, HEE, hown9, HFN⟩
            | some z =>
              obtain ⟨zm, zi'⟩ := fnd_some hg
              have hkdz := edF_kind (OKQ.out z zm)
              have hokz := OKQ.out z zm
              clear zm zi'
              rw [cf_ns hf hg hokz] at hst
              have HFN := HFF.out (fun a b ha hb => by rw [hf] at ha; cases ha)
              simp only [hg] at HE2
              obtain ⟨yn, yi, ya, yb⟩ := z
              simp only at hkdz
              have hkdz2 : (yn != 0) = true := by simp [bne, hkdz]
              have hkdz3 : ¬ yn = 0 := by simpa using hkdz
              unfold vE at HE2
              simp only [Option.getD_some] at HE2
              have HEE : Hid (l ++ [(yn, yi, ya, yb)] = upTo (cf P Q) (k + 1)) := by show l ++ _ = _; rw [hst, ← HL.out]
              clear hf hg hst hokz HFF
              refine HE2.mono ?_
              rintro e w5 ⟨rfl, hb6⟩
              have hown : w5.ownsRow w3.heap.size 74 4 u6 l.length (fl l) := hOW1.below hb6
              have hb7 := hbW.trans (hb6.mono hs6)
              have hs7 := hb7.size
              have hs8 := hb6.size
              have p0 := (hb6.cell (p := ⟨A, 0, none⟩) hB1).trans q0
              have p1 := (hb6.cell (p := ⟨A, 1, none⟩) hB1).trans q1
              have p2 := (hb6.cell (p := ⟨A, 2, none⟩) hB1).trans q2
              have p3 := (hb6.cell (p := ⟨A, 3, none⟩) hB1).trans q3
              have hA5 : A < w5.heap.size := by omega
              have hA6 : A ≠ w5.heap.size := by omega
              clear HE2 hb6 hOW1 hbW q0 q1 q2 q3 hB1
              go_wp2_with (first
                | (at_builtin; refine wpList_append_own _ rfl _ _ 33 rfl w3.heap.size 74 i0 _ 4 48 Tryd.underlying33 hi hz0 hz1 hz2 rfl (by decide) _ _ _ rfl ((hown.alloc _).alloc _) ⟨w5.heap.size + 1, 0, none⟩ 1 1 [.int .i64 yn, .int .i64 yi, .string ya, .string yb] rfl rfl ?c1 ?c2 ?c3 ?c4 ?c5 ?_))
              case c1 => exact World.news_of_block (cs := #[.int .i64 yn, .int .i64 yi, .string ya, .string yb]) (t := 74) (fr := (0, 0)) (by simpa using heap_alloc_new (w5.alloc (.cells #[.int .i64 yn, .int .i64 yi, .string ya, .string yb] 74)) _)
              case c2 => simp [Value.oneCell']
              case c3 => unfold maxLen; omega
              case c4 => omega
              case c5 => simp; omega
              intro v' w9 hown9 hgrow _
              have hb9 := ((hb7.alloc hs7 (.cells #[.int .i64 yn, .int .i64 yi, .string ya, .string yb] 74)).alloc (by simp; omega) (.cells #[.int .i64 yn, .int .i64 yi, .string ya, .string yb] 74)).grown hgrow (by simp; omega) (fun x e => by have := hown.lt x e; omega)
              have HO : Hid (BldD w9 w3.heap.size v' (l ++ [(yn, yi, ya, yb)])) := Lib.hid (bsnoc (e := (yn, yi, ya, yb)) hown9)
              have HLN : Hid ((l ++ [(yn, yi, ya, yb)]).length = l.length + 1) := Lib.hid (by simp)
              clear hown9 hgrow
              go_wp2
              go_roundg (99 - (k + 1))
              case measure => omega
              case rel => exact ⟨k + 1, l ++ [(yn, yi, ya, yb)], by omega, rfl, by rw [← HYK.out]; simp, hb9, by rw [HLN.out]; omega, HEE, HO.out, HFN⟩
          | some x =>
            obtain ⟨xm, xi'⟩ := fnd_some hf
            have hkdx := edF_kind (OKP.out x xm)
            have hokx := OKP.out x xm
            clear xm xi'
            have HX := Lib.hid hf
            simp only [hf] at HE
            obtain ⟨xn, xi, xa, xb⟩ := x
            have HOKX := Lib.hid hokx
            simp only at hkdx
            have hkdx2 : (xn != 0) = true := by simp [bne, hkdx]
            have hkdx3 : ¬ xn = 0 := by simpa using hkdx
            unfold vE at HE
            simp only [Option.getD_some] at HE
            clear hf hokx
            go_wp2_with fail
            refine HE.mono ?_
            rintro e w4 ⟨rfl, hb4⟩
            have hO4 := hO.below hb4
            have hb5 := hb.trans (hb4.mono lbs)
            have hs5 := hb5.size
            clear hO hb4 HE
            go_wp2_with fail
            obtain ⟨W1, hW1⟩ : ∃ W1, W1 = w4.alloc (.cells #[.int .i64 xn, .int .i64 xi, .string xa, .string xb] 74) := ⟨_, rfl⟩
            have q0 : W1.cell? ⟨w4.heap.size, 0, none⟩ = some (.int .i64 xn) := by rw [hW1]; go_simp
            have q1 : W1.cell? ⟨w4.heap.size, 1, none⟩ = some (.int .i64 xi) := by rw [hW1]; go_simp
            have q2 : W1.cell? ⟨w4.heap.size, 2, none⟩ = some (.string xa) := by rw [hW1]; go_simp
            have q3 : W1.cell? ⟨w4.heap.size, 3, none⟩ = some (.string xb) := by rw [hW1]; go_simp
            have hbW : Below w3.heap.size w3 W1 := by rw [hW1]; exact hb5.alloc hs5 _
            have hOW1 : BldD W1 w3.heap.size u6 l := by rw [hW1]; exact World.ownsRow.alloc hO4 _
            have hB1 : w4.heap.size < W1.heap.size := by rw [hW1]; simp
            rw [← hW1]
            clear hW1 hb5 hO4
            have hs6 := hbW.size
            have HE2 := sedof Q lo1 Q.length y W1 (HQQ.out.below (HB3.out.trans (hbW.mono hs3))) lq
            obtain ⟨A, hA⟩ : ∃ A, w4.heap.size = A := ⟨_, rfl⟩
            rw [hA] at q0 q1 q2 q3 hB1 hs5
            simp only [hA]
            clear hA
            cases hg : fnd Q y with
            | none =>
              rw [cf_sn HX.out hg HOKX.out] at hst
              have HFN := HFF.out (fun a b ha hb => by rw [hg] at hb; cases hb)
              simp only [hg] at HE2
              unfold vE e0 at HE2
              simp only [Option.getD_none] at HE2
              have HEE : Hid (l ++ [(xn, xi, xa, xb)] = upTo (cf P Q) (k + 1)) := by show l ++ _ = _; rw [hst, ← HL.out]
              clear hg hst HFF
              refine HE2.mono ?_
              rintro e w5 ⟨rfl, hb6⟩
              have hown : w5.ownsRow w3.heap.size 74 4 u6 l.length (fl l) := hOW1.below hb6
              have hb7 := hbW.trans (hb6.mono hs6)
              have hs7 := hb7.size
              have hs8 := hb6.size
              have p0 := (hb6.cell (p := ⟨A, 0, none⟩) hB1).trans q0
              have p1 := (hb6.cell (p := ⟨A, 1, none⟩) hB1).trans q1
              have p2 := (hb6.cell (p := ⟨A, 2, none⟩) hB1).trans q2
              have p3 := (hb6.cell (p := ⟨A, 3, none⟩) hB1).trans q3
              have hA5 : A < w5.heap.size := by omega
              have hA6 : A ≠ w5.heap.size := by omega
              clear HE2 hb6 hOW1 hbW q0 q1 q2 q3 hB1
              go_wp2_with (first
                | (at_builtin; refine wpList_append_own _ rfl _ _ 33 rfl w3.heap.size 74 i0 _ 4 48 Tryd.underlying33 hi hz0 hz1 hz2 rfl (by decide) _ _ _ rfl ((hown.alloc _).alloc _) ⟨w5.heap.size + 1, 0, none⟩ 1 1 [.int .i64 xn, .int .i64 xi, .string xa, .string xb] rfl rfl ?c1 ?c2 ?c3 ?c4 ?c5 ?_))
              case c1 => exact World.news_of_block (cs := #[.int .i64 xn, .int .i64 xi, .string xa, .string xb]) (t := 74) (fr := (0, 0)) (by simpa using heap_alloc_new (w5.alloc (.cells #[.int .i64 xn, .int .i64 xi, .string xa, .string xb] 74)) _)
              case c2 => simp [Value.oneCell']
              case c3 => unfold maxLen; omega
              case c4 => omega
              case c5 => simp; omega
              intro v' w9 hown9 hgrow _
              have hb9 := ((hb7.alloc hs7 (.cells #[.int .i64 xn, .int .i64 xi, .string xa, .string xb] 74)).alloc (by simp; omega) (.cells #[.int .i64 xn, .int .i64 xi, .string xa, .string xb] 74)).grown hgrow (by simp; omega) (fun x e => by have := hown.lt x e; omega)
              have HO : Hid (BldD w9 w3.heap.size v' (l ++ [(xn, xi, xa, xb)])) := Lib.hid (bsnoc (e := (xn, xi, xa, xb)) hown9)
              have HLN : Hid ((l ++ [(xn, xi, xa, xb)]).length = l.length + 1) := Lib.hid (by simp)
              clear hown9 hgrow
              go_wp2
              go_roundg (99 - (k + 1))
              case measure => omega
              case rel => exact ⟨k + 1, l ++ [(xn, xi, xa, xb)], by omega, rfl, by rw [← HYK.out]; simp, hb9, by rw [HLN.out]; omega, HEE, HO.out, HFN⟩
            | some z =>
              obtain ⟨zm, zi'⟩ := fnd_some hg
              have hkdz := edF_kind (OKQ.out z zm)
              have hokz := OKQ.out z zm
              clear zm zi'
              have HYQ := Lib.hid hg
              have hss := cf_ss HX.out hg
              simp only [hg] at HE2
              obtain ⟨yn, yi, ya, yb⟩ := z
              simp only at hkdz
              have hkdz2 : (yn != 0) = true := by simp [bne, hkdz]
              have hkdz3 : ¬ yn = 0 := by simpa using hkdz
              unfold vE at HE2
              simp only [Option.getD_some] at HE2
              unfold joinE at hss
              simp only at hss
              have HSS := Lib.hid hss
              have HST := Lib.hid hst
              clear hg hst hokz hss
              refine HE2.mono ?_
              rintro e w5 ⟨rfl, hb6⟩
              have hown : w5.ownsRow w3.heap.size 74 4 u6 l.length (fl l) := hOW1.below hb6
              have hb7 := hbW.trans (hb6.mono hs6)
              have hs7 := hb7.size
              have hs8 := hb6.size
              have p0 := (hb6.cell (p := ⟨A, 0, none⟩) hB1).trans q0
              have p1 := (hb6.cell (p := ⟨A, 1, none⟩) hB1).trans q1
              have p2 := (hb6.cell (p := ⟨A, 2, none⟩) hB1).trans q2
              have p3 := (hb6.cell (p := ⟨A, 3, none⟩) hB1).trans q3
              have hA5 : A < w5.heap.size := by omega
              have hA6 : A ≠ w5.heap.size := by omega
              clear HE2 hb6 hOW1 hbW q0 q1 q2 q3 hB1
              by_cases hs : ya = xb
              · have HFN := HFF.out (fun a b ha hb => by
                  rw [HX.out] at ha; rw [HYQ.out] at hb
                  injection ha with ha; injection hb with hb; subst ha hb; exact hs)
                subst hs
                have HSTEP := fun W => sstep y xa yb W
                go_wp2_with fail
                obtain ⟨W2, hW2⟩ : ∃ W2, W2 = w5.alloc (.cells #[.int .i64 yn, .int .i64 yi, .string ya, .string yb] 74) := ⟨_, rfl⟩
                have r0 : W2.cell? ⟨w5.heap.size, 0, none⟩ = some (.int .i64 yn) := by rw [hW2]; go_simp
                have r1 : W2.cell? ⟨w5.heap.size, 1, none⟩ = some (.int .i64 yi) := by rw [hW2]; go_simp
                have r2 : W2.cell? ⟨w5.heap.size, 2, none⟩ = some (.string ya) := by rw [hW2]; go_simp
                have r3 : W2.cell? ⟨w5.heap.size, 3, none⟩ = some (.string yb) := by rw [hW2]; go_simp
                have z0 : W2.frozen? ⟨w5.heap.size, 0, none⟩ = false := by rw [hW2]; go_simp
                have z1 : W2.frozen? ⟨w5.heap.size, 1, none⟩ = false := by rw [hW2]; go_simp
                have z2 : W2.frozen? ⟨w5.heap.size, 2, none⟩ = false := by rw [hW2]; go_simp
                have z3 : W2.frozen? ⟨w5.heap.size, 3, none⟩ = false := by rw [hW2]; go_simp
                have hbX : Below w3.heap.size w3 W2 := by rw [hW2]; exact hb7.alloc hs7 _
                have hOX : BldD W2 w3.heap.size u6 l := by rw [hW2]; exact hown.alloc _
                have hlow := hown.lt
                have hBX : w5.heap.size < W2.heap.size := by rw [hW2]; simp
                rw [← hW2]
                clear hW2 hb7 hown p0 p1 p2 p3 hA5 hA6
                have hsX := hbX.size
                obtain ⟨B, hBe⟩ : ∃ B, w5.heap.size = B := ⟨_, rfl⟩
                rw [hBe] at r0 r1 r2 r3 z0 z1 z2 z3 hlow hBX hs7
                simp only [hBe]
                clear hBe hs8
                have HSW := HSTEP W2
                clear HSTEP
                by_cases hd : xa = yb
                · subst hd
                  rw [stepE_eq] at HSW
                  have hst := HST.out
                  rw [HSS.out, difE_no rfl] at hst
                  have HEE : Hid (l = upTo (cf P Q) (k + 1)) := by show l = _; rw [hst, ← HL.out]; simp
                  clear hst
                  unfold vE e0 at HSW
                  simp only at HSW
                  refine HSW.mono ?_
                  rintro e w6 ⟨rfl, hb8⟩
                  have hO6 : w6.ownsRow w3.heap.size 74 4 u6 l.length (fl l) := hOX.below hb8
                  have hb9 := hbX.trans (hb8.mono hsX)
                  have hs9 := hb9.size
                  have hs10 := hb8.size
                  have p0 := (hb8.cell (p := ⟨B, 0, none⟩) hBX).trans r0
                  have p1 := (hb8.cell (p := ⟨B, 1, none⟩) hBX).trans r1
                  have p2 := (hb8.cell (p := ⟨B, 2, none⟩) hBX).trans r2
                  have p3 := (hb8.cell (p := ⟨B, 3, none⟩) hBX).trans r3
                  have f0 := (hb8.frozen (p := ⟨B, 0, none⟩) hBX).trans z0
                  have f1 := (hb8.frozen (p := ⟨B, 1, none⟩) hBX).trans z1
                  have f2 := (hb8.frozen (p := ⟨B, 2, none⟩) hBX).trans z2
                  have f3 := (hb8.frozen (p := ⟨B, 3, none⟩) hBX).trans z3
                  have HSO : Hid (∀ a b c d, ((((w6.setCell ⟨B, 0, none⟩ a).setCell ⟨B, 1, none⟩ b).setCell ⟨B, 2, none⟩ c).setCell ⟨B, 3, none⟩ d).ownsRow w3.heap.size 74 4 u6 l.length (fl l)) := Lib.hid fun a b c d => own_block7 hO6 fun g hg _ => by
                    have hne : g ≠ B := by have := hlow g hg; omega
                    rw [Deep.blk_setCell_other _ _ _ _ (by exact hne), Deep.blk_setCell_other _ _ _ _ (by exact hne), Deep.blk_setCell_other _ _ _ _ (by exact hne), Deep.blk_setCell_other _ _ _ _ (by exact hne)]
                  have HSB : Hid (∀ a b c d, Below w3.heap.size w3 ((((w6.setCell ⟨B, 0, none⟩ a).setCell ⟨B, 1, none⟩ b).setCell ⟨B, 2, none⟩ c).setCell ⟨B, 3, none⟩ d)) := Lib.hid fun a b c d => by
                    refine Below.setCell (Below.setCell (Below.setCell (Below.setCell hb9 ?_ _) ?_ _) ?_ _) ?_ _ <;> exact hs7
                  have HSN : Hid (∀ a b c d o, (((((w6.setCell ⟨B, 0, none⟩ a).setCell ⟨B, 1, none⟩ b).setCell ⟨B, 2, none⟩ c).setCell ⟨B, 3, none⟩ d).alloc o).heap[w6.heap.size]? = some o) := Lib.hid fun a b c d o => by
                    have h := heap_alloc_new ((((w6.setCell ⟨B, 0, none⟩ a).setCell ⟨B, 1, none⟩ b).setCell ⟨B, 2, none⟩ c).setCell ⟨B, 3, none⟩ d) o
                    simpa only [Deep.nblk_setCell] using h
                  clear HSW hO6 hb8 hb9 hOX hbX r0 r1 r2 r3 z0 z1 z2 z3
                  go_wp2
                  go_roundg (99 - (k + 1))
                  case measure => omega
                  case rel => exact ⟨k + 1, l, by omega, rfl, by rw [← HYK.out]; simp, HSB.out _ _ _ _, by omega, HEE, HSO.out _ _ _ _, HFN⟩
                · rw [stepE_ne hd] at HSW
                  have hst := HST.out
                  rw [HSS.out, difE_yes hd] at hst
                  have hkz := kindE_nz xa yb
                  have hxi : xi = y := (fnd_some HX.out).2
                  subst hxi
                  obtain ⟨kz, hkze⟩ : ∃ z, kindE xa yb = z := ⟨_, rfl⟩
                  rw [hkze] at hkz HSW hst
                  have HEE : Hid (l ++ [(kz, xi, xa, yb)] = upTo (cf P Q) (k + 1)) := by show l ++ _ = _; rw [hst, ← HL.out]; simp
                  clear hst hkze hd
                  unfold vE at HSW
                  simp only at HSW
                  refine HSW.mono ?_
                  rintro e w6 ⟨rfl, hb8⟩
                  have hO6 : w6.ownsRow w3.heap.size 74 4 u6 l.length (fl l) := hOX.below hb8
                  have hb9 := hbX.trans (hb8.mono hsX)
                  have hs9 := hb9.size
                  have hs10 := hb8.size
                  have p0 := (hb8.cell (p := ⟨B, 0, none⟩) hBX).trans r0
                  have p1 := (hb8.cell (p := ⟨B, 1, none⟩) hBX).trans r1
                  have p2 := (hb8.cell (p := ⟨B, 2, none⟩) hBX).trans r2
                  have p3 := (hb8.cell (p := ⟨B, 3, none⟩) hBX).trans r3
                  have f0 := (hb8.frozen (p := ⟨B, 0, none⟩) hBX).trans z0
                  have f1 := (hb8.frozen (p := ⟨B, 1, none⟩) hBX).trans z1
                  have f2 := (hb8.frozen (p := ⟨B, 2, none⟩) hBX).trans z2
                  have f3 := (hb8.frozen (p := ⟨B, 3, none⟩) hBX).trans z3
                  have HSO : Hid (∀ a b c d, ((((w6.setCell ⟨B, 0, none⟩ a).setCell ⟨B, 1, none⟩ b).setCell ⟨B, 2, none⟩ c).setCell ⟨B, 3, none⟩ d).ownsRow w3.heap.size 74 4 u6 l.length (fl l)) := Lib.hid fun a b c d => own_block7 hO6 fun g hg _ => by
                    have hne : g ≠ B := by have := hlow g hg; omega
                    rw [Deep.blk_setCell_other _ _ _ _ (by exact hne), Deep.blk_setCell_other _ _ _ _ (by exact hne), Deep.blk_setCell_other _ _ _ _ (by exact hne), Deep.blk_setCell_other _ _ _ _ (by exact hne)]
                  have HSB : Hid (∀ a b c d, Below w3.heap.size w3 ((((w6.setCell ⟨B, 0, none⟩ a).setCell ⟨B, 1, none⟩ b).setCell ⟨B, 2, none⟩ c).setCell ⟨B, 3, none⟩ d)) := Lib.hid fun a b c d => by
                    refine Below.setCell (Below.setCell (Below.setCell (Below.setCell hb9 ?_ _) ?_ _) ?_ _) ?_ _ <;> exact hs7
                  have HSN : Hid (∀ a b c d o, (((((w6.setCell ⟨B, 0, none⟩ a).setCell ⟨B, 1, none⟩ b).setCell ⟨B, 2, none⟩ c).setCell ⟨B, 3, none⟩ d).alloc o).heap[w6.heap.size]? = some o) := Lib.hid fun a b c d o => by
                    have h := heap_alloc_new ((((w6.setCell ⟨B, 0, none⟩ a).setCell ⟨B, 1, none⟩ b).setCell ⟨B, 2, none⟩ c).setCell ⟨B, 3, none⟩ d) o
                    simpa only [Deep.nblk_setCell] using h
                  clear HSW hO6 hb8 hb9 hOX hbX r0 r1 r2 r3 z0 z1 z2 z3
                  go_wp2_with (first
                    | (at_builtin; refine wpList_append_own _ rfl _ _ 33 rfl w3.heap.size 74 i0 _ 4 48 Tryd.underlying33 hi hz0 hz1 hz2 rfl (by decide) _ _ _ rfl ((HSO.out _ _ _ _).alloc _) ⟨w6.heap.size, 0, none⟩ 1 1 [.int .i64 kz, .int .i64 xi, .string xa, .string yb] rfl rfl ?c1 ?c2 ?c3 ?c4 ?c5 ?_))
                  case c1 => exact World.news_of_block (cs := #[.int .i64 kz, .int .i64 xi, .string xa, .string yb]) (t := 74) (fr := (0, 0)) (HSN.out _ _ _ _ _)
                  case c2 => simp [Value.oneCell']
                  case c3 => unfold maxLen; omega
                  case c4 => omega
                  case c5 => simp; omega
                  intro v' w9 hown9 hgrow _
                  have hb9 := ((HSB.out (.int .i64 kz) (.int .i64 xi) (.string xa) (.string yb)).alloc (by simp; omega) (.cells #[.int .i64 kz, .int .i64 xi, .string xa, .string yb] 74)).grown hgrow (by simp; omega) (fun x e => by have := hlow x e; omega)
                  have HO : Hid (BldD w9 w3.heap.size v' (l ++ [(kz, xi, xa, yb)])) := Lib.hid (bsnoc (e := (kz, xi, xa, yb)) hown9)
                  have HLN : Hid ((l ++ [(kz, xi, xa, yb)]).length = l.length + 1) := Lib.hid (by simp)
                  clear hown9 hgrow
                  go_wp2
                  go_roundg (99 - (k + 1))
                  case measure => omega
                  case rel => exact ⟨k + 1, l ++ [(kz, xi, xa, yb)], by omega, rfl, by rw [← HYK.out]; simp, hb9, by rw [HLN.out]; omega, HEE, HO.out, HFN⟩
              · skip
                have HCF := Lib.hid (HZ.out y _ _ HX.out HYQ.out hs)
                have tb : (xb.toList == ya.toList) = false := str_ne (fun q => hs q.symm)
                have hb9 := hb7.alloc hs7 (.cells #[.int .i64 yn, .int .i64 yi, .string ya, .string yb] 74)
                have hbw9 := HB3.out.trans (hb9.mono hs3)
                clear hs
                go_wp2
                go_ret2
                rw [HCF.out]
                exact ⟨_, rfl, RdD.nil _ _ _, hbw9⟩
        · obtain rfl : k = 99 := by omega
          have hl := HL.out
          rw [HMR.out] at hl
          have hlen : l.length ≤ 99 := hll
          have hsn := HS0.out (fun i h1 h2 => HF.out i h1 (by simpa using h2))
          have hOW := (hO.done (Nat.le_refl _) (by omega)).mono (e1 := hs3) (e2 := Nat.le_refl _)
          obtain ⟨va', vc', hv'⟩ := hOW.rd.1.shape
          subst hv'
          have hcase : (¬ (16 : Int) < (l.length : Int) ∧ mCmp P Q = (l, true)) ∨ (16 : Int) < (l.length : Int) ∧ mCmp P Q = ([], false) := by
            rw [← hl] at HY HN
            by_cases hn : l.length ≤ 16
            · exact .inl ⟨by omega, HY.out hsn hn⟩
            · exact .inr ⟨by omega, HN.out hn⟩
          have HOW := Lib.hid hOW.rd
          clear hO hl hOW HY HN hsn
          rcases hcase with ⟨hni, hm⟩ | ⟨hni, hm⟩
          all_goals
            have HM := Lib.hid hm
            clear hm
            go_wp2
            go_ret2
            rw [HM.out]
            first
              | exact ⟨_, rfl, HOW.out, hbw⟩
              | exact ⟨_, rfl, RdD.nil _ _ _, hbw⟩
end Go.Proofs.YtikiahbgfhaklaaDoor
