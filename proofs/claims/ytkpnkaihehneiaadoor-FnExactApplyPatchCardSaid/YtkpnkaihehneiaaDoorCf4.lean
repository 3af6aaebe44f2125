/- Conflicts of two patches: the program's condition; the specification's list. -/
import Derived.Test.YtkpnkaihehneiaaDoorCf3
namespace Go.Proofs.YtkpnkaihehneiaaDoor
open Go.ChangeShapes Go.WideShapes Go.ChangeAt Go.RowKit Go.Deep Go.Maps
set_option linter.unusedSimpArgs false
set_option linter.unusedVariables false
theorem neE_self (x : Ed) : neE x x = false := by simp [neE]
theorem neE_ne {x y : Ed} (h : x ≠ y) : neE x y = true := by simp [neE, h]
set_option maxHeartbeats 1000000 in
theorem icf (x y : Ed) (w : World) : Calls Tryd.prog 59 #[vE x, vE y] w fun e w' => e = .returned (.bool (neE x y)) ∧ Below w.heap.size w w' := by
  by_cases hxy : x = y
  · subst hxy
    rw [neE_self]
    obtain ⟨k, i, a, b⟩ := x
    unfold vE
    simp only
    have b1 := ((Below.refl w.heap.size w).alloc (Nat.le_refl _) (.cells #[.int .i64 k, .int .i64 i, .string a, .string b] 70)).alloc (by simp) (.cells #[.int .i64 k, .int .i64 i, .string a, .string b] 70)
    go_enter Tryd.func59, Tryd.ntmps59
    go_wp2
    go_ret
    exact ⟨by simp, b1⟩
  · rw [neE_ne hxy]
    obtain ⟨k, i, a, b⟩ := x
    obtain ⟨k', i', a', b'⟩ := y
    unfold vE
    simp only
    have b1 := ((Below.refl w.heap.size w).alloc (Nat.le_refl _) (.cells #[.int .i64 k, .int .i64 i, .string a, .string b] 70)).alloc (by simp) (.cells #[.int .i64 k', .int .i64 i', .string a', .string b'] 70)
    by_cases h1 : k = k'
    · by_cases h2 : i = i'
      · by_cases h3 : a = a'
        · by_cases h4 : b = b'
          · exact absurd (by rw [h1, h2, h3, h4]) hxy
          · have t4 := str_ne h4
            subst h1 h2 h3
            clear h4 hxy
            go_enter Tryd.func59, Tryd.ntmps59
            go_wp2
            go_ret
            exact ⟨by simp [t4], b1⟩
        · have t3 := str_ne h3
          subst h1 h2
          clear h3 hxy
          go_enter Tryd.func59, Tryd.ntmps59
          go_wp2
          go_ret
          exact ⟨by simp [t3], b1⟩
      · have t2 : (i == i') = false := by simpa using h2
        subst h1
        clear h2 hxy
        go_enter Tryd.func59, Tryd.ntmps59
        go_wp2
        go_ret
        exact ⟨by simp [t2], b1⟩
    · have t1 : (k == k') = false := by simpa using h1
      clear h1 hxy
      go_enter Tryd.func59, Tryd.ntmps59
      go_wp2
      go_ret
      exact ⟨by simp [t1], b1⟩
theorem cfl_take {P Q : List Ed} {k : Nat} (hk : k < P.length) :
    cfl (P.take (k + 1)) Q = cfl (P.take k) Q ++ (if (match fnd Q (P.getD k e0).2.1 with | some y => neE y (P.getD k e0) | none => false) then [(P.getD k e0).2.1] else []) := by
  rw [take_snoc hk]
  unfold cfl
  rw [List.filter_append, List.map_append]
  congr 1
  generalize P.getD k e0 = q
  cases hl : fnd Q q.2.1 with
  | none => simp [hl]
  | some x =>
    by_cases hc : x = q
    · simp [hl, hc, neE]
    · simp [hl, hc, neE]
theorem edF_kind {e : Ed} (h : edF e) : (e.1 == 0) = false := by
  have : e.1 ≠ 0 := by rcases h with h | h | h <;> omega
  simpa using this
set_option maxHeartbeats 4000000 in
set_option maxRecDepth 100000 in
theorem sconf (P Q : List Ed) (bp cp bq cq : Nat) (w : World) (hp : Es w bp P) (hq : Es w bq Q) (lp : P.length ≤ 1048576) (lq : Q.length ≤ 1048576) (okq : ∀ e ∈ Q, edF e) :
    Calls Tryd.prog 57 #[.slice (some ⟨bp, 0, none⟩) P.length cp, .slice (some ⟨bq, 0, none⟩) Q.length cq] w fun e w' => (∃ v, e = .returned v ∧ OwI w' w.heap.size w'.heap.size v (cfl P Q)) ∧ Below w.heap.size w w' := by
  obtain ⟨i0, hi, hz0, hz1, hz2⟩ := info_parts7 infoI
  have HP := Lib.hid hp
  have HQ := Lib.hid hq
  have OKQ := Lib.hid okq
  have lbp := hp.lt
  have lbq := hq.lt
  have hO0 : (w.alloc (.cells #[] 2)).ownsRow w.heap.size 2 1 (.slice (some ⟨w.heap.size, 0, none⟩) 0 0) ([] : List Int).length (([] : List Int).map (Value.int .i64)) := World.ownsRow_lit w #[] 0 (Nat.le_refl _) (by unfold maxLen; omega) rfl
  have hb0 := (Below.refl w.heap.size w).alloc (Nat.le_refl _) (.cells #[] 2)
  clear hp hq okq
  go_enter Tryd.func57, Tryd.ntmps57
  go_wp2
  go_loopg [5, 6, 7] P.length (fun g v i _ wr => ∃ (k : Nat) (l : List Int), k ≤ P.length ∧ g = P.length - k ∧ i = .int .i64 k ∧ Below w.heap.size w wr ∧ l.length ≤ k ∧ Hid (l = cfl (P.take k) Q) ∧ wr.ownsRow w.heap.size 2 1 v l.length (l.map (Value.int .i64)))
  case atStart => exact ⟨0, [], Nat.zero_le _, rfl, rfl, hb0, Nat.le_refl _, rfl, hO0⟩
  case round =>
    clear hO0 hb0
    obtain ⟨k, l, hk, rfl, rfl, hb, hll, HL, hO⟩ := hrel
    have lbs := hb.size
    by_cases hlt : k < P.length
    · have hst := cfl_take (Q := Q) hlt
      have hpa := (HP.out.below hb).at hlt
      obtain ⟨q, hq⟩ : ∃ q, P.getD k e0 = q := ⟨_, rfl⟩
      rw [hq] at hpa hst
      have HC := sedof Q bq cq q.2.1 wr (HQ.out.below hb) lq
      have HST := Lib.hid hst
      obtain ⟨n, y, sa, sb⟩ := q
      have HPA := Lib.hid hpa
      obtain ⟨a1, a2, a3, a4⟩ := hpa
      simp only at HC a2
      clear hq hst a1 a3 a4
      cases hl : fnd Q y with
      | none =>
        simp only [hl] at HC HST
        unfold vE at HC
        simp only [Option.getD_none] at HC
        have HE : Hid (l = cfl (P.take (k + 1)) Q) := by show l = _; rw [HST.out, ← HL.out]; simp
        clear hl
        go_wp2_with fail
        refine HC.mono ?_
        rintro e w1 ⟨rfl, hb1⟩
        have hO1 := own_below7 hO hb1
        have hb2 := (hb.trans (hb1.mono hb.size)).alloc (by have := hb1.size; omega) (.cells #[.int .i64 0, .int .i64 0, .string ⟨#[]⟩, .string ⟨#[]⟩] 70)
        have hO2 := hO1.alloc (.cells #[.int .i64 0, .int .i64 0, .string ⟨#[]⟩, .string ⟨#[]⟩] 70)
        clear hO hb1 HC a2 hO1
        go_wp2_with fail
        go_region
        all_goals go_wp2
        all_goals go_roundg (P.length - (k + 1))
        all_goals first
          | omega
          | exact ⟨k + 1, l, by omega, rfl, by simp, hb2.drew, by omega, HE, hO2⟩
          | exact ⟨k + 1, l, by omega, rfl, by simp, hb2, by omega, HE, hO2⟩
      | some x =>
        simp only [hl] at HC HST
        obtain ⟨hxm, hxi⟩ := fnd_some hl
        have hkd := edF_kind (OKQ.out x hxm)
        obtain ⟨n', y', sa', sb'⟩ := x
        simp only at hxi hkd
        have hkd2 : (n' != 0) = true := by simp [bne, hkd]
        subst hxi
        unfold vE at HC
        simp only [Option.getD_some] at HC
        clear hl hxm
        go_wp2_with fail
        refine HC.mono ?_
        rintro e w1 ⟨rfl, hb1⟩
        obtain ⟨a1, a2, a3, a4⟩ := HPA.out.below hb1
        simp only at a1 a2 a3 a4
        have hO1 := own_below7 hO hb1
        have hb2 := (hb.trans (hb1.mono hb.size)).alloc (by have := hb1.size; omega) (.cells #[.int .i64 n', .int .i64 y', .string sa', .string sb'] 70)
        have hO2 := hO1.alloc (.cells #[.int .i64 n', .int .i64 y', .string sa', .string sb'] 70)
        have lp1 : bp < w1.heap.size := by have := hb1.size; omega
        have lp2 : bp ≠ w1.heap.size := by omega
        have lw1 := hb1.size
        have hcase : ((n' = n ∧ sa' = sa ∧ sb' = sb) ∧ neE (n', y', sa', sb') (n, y', sa, sb) = false) ∨ ((n' == n) = false ∧ neE (n', y', sa', sb') (n, y', sa, sb) = true) ∨ ((n' = n ∧ (sa'.toList == sa.toList) = false) ∧ neE (n', y', sa', sb') (n, y', sa, sb) = true) ∨ ((n' = n ∧ sa' = sa ∧ (sb'.toList == sb.toList) = false) ∧ neE (n', y', sa', sb') (n, y', sa, sb) = true) := by
          by_cases h1 : n' = n
          · by_cases h2 : sa' = sa
            · by_cases h3 : sb' = sb
              · exact .inl ⟨⟨h1, h2, h3⟩, by rw [h1, h2, h3]; exact neE_self _⟩
              · exact .inr (.inr (.inr ⟨⟨h1, h2, str_ne h3⟩, neE_ne (fun e => h3 (by injection e with _ e; injection e with _ e; injection e))⟩))
            · exact .inr (.inr (.inl ⟨⟨h1, str_ne h2⟩, neE_ne (fun e => h2 (by injection e with _ e; injection e with _ e; injection e))⟩))
          · exact .inr (.inl ⟨by simpa using h1, neE_ne (fun e => h1 (by injection e))⟩)
        clear hO hb1 HC
        rcases hcase with ⟨⟨rfl, rfl, rfl⟩, hne⟩ | ⟨t1, hne⟩ | ⟨⟨rfl, t2⟩, hne⟩ | ⟨⟨rfl, rfl, t3⟩, hne⟩
        · have HE : Hid (l = cfl (P.take (k + 1)) Q) := by show l = _; rw [HST.out, ← HL.out, hne]; simp
          clear hne
          go_wp2_with fail
          go_region
          all_goals go_wp2
          all_goals go_roundg (P.length - (k + 1))
          all_goals first
            | omega
            | exact ⟨k + 1, l, by omega, rfl, by simp, hb2.drew, by omega, HE, hO2⟩
            | exact ⟨k + 1, l, by omega, rfl, by simp, hb2, by omega, HE, hO2⟩
        all_goals
          have HE : Hid (l ++ [y'] = cfl (P.take (k + 1)) Q) := by show l ++ [y'] = _; rw [HST.out, ← HL.out, hne]; simp
          clear hne
          go_wp2_with fail
          go_region
          obtain ⟨W3, hW3⟩ : ∃ W3, W3 = (w1.alloc (.cells #[.int .i64 n', .int .i64 y', .string sa', .string sb'] 70)).drew := ⟨_, rfl⟩
          have hO3 : W3.ownsRow w.heap.size 2 1 u5 l.length (l.map (Value.int .i64)) := by rw [hW3]; exact hO2
          have hb3 : Below w.heap.size w W3 := by rw [hW3]; exact hb2.drew
          have e2 : W3.cell? ⟨bp, k * 4 + 1, none⟩ = some (.int .i64 y') := by
            rw [hW3]
            refine Eq.trans ?_ a2
            exact World.cell?_of_block (Below.block ((Below.refl w1.heap.size w1).alloc (Nat.le_refl _) _).drew bp lp1)
          have hs3 := hb3.size
          rw [← hW3]
          clear hW3 hb2 hO2 a1 a2 a3 a4
          go_wp2_with (first
            | (at_builtin; refine wpList_append_own _ rfl _ _ 39 rfl w.heap.size 2 i0 (.int .i64 0) 1 8 Tryd.underlying39 hi hz0 hz1 hz2 rfl (by decide) _ _ _ rfl (hO3.alloc _) ⟨W3.heap.size, 0, none⟩ 1 1 [.int .i64 y'] rfl rfl ?_ ?_ ?_ ?_ ?_ ?_))
          · exact World.news_of_block (cs := #[.int .i64 y']) (t := 2) (fr := (0, 0)) (heap_alloc_new W3 _)
          · simp [Value.oneCell']
          · unfold maxLen; omega
          · omega
          · simp; omega
          intro v' w3 hown3 hgrow _
          have hb4 := (hb3.alloc hs3 (.cells #[.int .i64 y'] 2)).grown hgrow (by simp; omega) (fun x e => (hO3.lt x e).1)
          have HO : Hid (w3.ownsRow w.heap.size 2 1 v' (l ++ [y']).length ((l ++ [y']).map (Value.int .i64))) := by rw [snocL7, snocM7]; exact hown3
          have HLN := Lib.hid (snocL7 l y')
          clear hown3 hgrow
          go_wp2
          go_roundg (P.length - (k + 1))
          · refine ⟨k + 1, l ++ [y'], by omega, rfl, by simp, hb4, by rw [HLN.out]; omega, HE, HO.out⟩
          · omega
    · obtain rfl : k = P.length := by omega
      have hl := HL.out
      rw [List.take_length] at hl
      have hOW := (ow_of_own hO (Nat.le_refl _) (by omega))
      rw [hl] at hOW
      have HOW := Lib.hid hOW
      clear hO hl hOW
      go_wp2
      go_ret
      exact ⟨⟨_, rfl, HOW.out⟩, hb⟩
end Go.Proofs.YtkpnkaihehneiaaDoor
