/- Several of this claim's texts in one: Mp1, Mp2. -/
import Derived.Test.YtikiahbgfhaklaaDoorMga
import Derived.Test.YtikiahbgfhaklaaDoorCf5
/- Two patches in one that are not in conflict: pure, and the specification's answer. -/
namespace Go.Proofs.YtikiahbgfhaklaaDoor
open Go.ChangeShapes Go.WideShapes Go.ChangeAt Go.RowKit Go.Deep
set_option linter.unusedSimpArgs false
set_option linter.unusedVariables false
def fstE (x y : Ed) : Ed := x
/-- What the merged patch has at an Id. -/
def pq (P Q : List Ed) (i : Int) : Option Ed := (fnd P i).orElse fun _ => fnd Q i
theorem pq_eq (P Q : List Ed) (i : Int) : pq P Q i = mid fstE (fnd P i) (fnd Q i) := by
  unfold pq mid fstE
  cases fnd P i <;> cases fnd Q i <;> rfl
theorem pq_ok {P Q : List Ed} (hP : patF P) (hQ : patF Q) : ∀ i e, pq P Q i = some e → e.2.1 = i ∧ 1 ≤ i ∧ i ≤ 99 := by
  have key : ∀ L, patF L → ∀ i e, fnd L i = some e → e.2.1 = i ∧ 1 ≤ i ∧ i ≤ 99 := by
    intro L hL i e h
    obtain ⟨h1, h2⟩ := fnd_some h
    obtain ⟨k, hk, rfl⟩ := List.mem_iff_getElem.1 h1
    have h3 := (hL.2 k hk).1
    have : L.getD k e0 = L[k] := by simp [List.getD, hk]
    rw [this] at h3
    exact ⟨h2, by omega, by omega⟩
  intro i e h
  unfold pq at h
  cases hp : fnd P i with
  | none => rw [hp] at h; exact key Q hQ i e h
  | some x => rw [hp] at h; injection h with h; subst h; exact key P hP i x hp
/-- The Ids to k, in order. -/
def upTo (f : Int → Option Ed) (k : Nat) : List Ed := (List.range k).filterMap fun k : Nat => f ((k : Int) + 1)
theorem upTo_all (f : Int → Option Ed) : upTo f 99 = idsOf f := rfl
theorem upTo_succ (f : Int → Option Ed) (k : Nat) : upTo f (k + 1) = upTo f k ++ (match f ((k : Int) + 1) with | some e => [e] | none => []) := by
  unfold upTo
  rw [List.range_succ, List.filterMap_append]
  congr 1
  cases h : f ((k : Int) + 1) <;> simp [h]
theorem upTo_len (f : Int → Option Ed) (k : Nat) : (upTo f k).length ≤ k := by
  unfold upTo
  exact Nat.le_trans (List.length_filterMap_le _ _) (by simp)
theorem pq_mrg {P Q : List Ed} (hP : patF P) (hQ : patF Q) : upTo (pq P Q) 99 = mrg fstE P Q := by
  obtain ⟨h1, h2⟩ := mrg_incs fstE (fun _ _ => rfl) _ P Q (Nat.le_refl _) (pat_incs hP.2) (pat_incs hQ.2)
  rw [upTo_all]
  exact idsOf_eq (pq_ok hP hQ) h1 fun i => by rw [h2, pq_eq]
noncomputable def mMrg (P Q : List Ed) : List Ed × Bool := if ((patB P && patB Q) && (cfl P Q).isEmpty) && decide ((mrg fstE P Q).length ≤ 16) then (mrg fstE P Q, true) else ([], false)
end Go.Proofs.YtikiahbgfhaklaaDoor
/- Two patches in one that are not in conflict: the program's answer. -/
namespace Go.Proofs.YtikiahbgfhaklaaDoor
open Go.ChangeShapes Go.WideShapes Go.ChangeAt Go.RowKit Go.Deep
set_option linter.unusedSimpArgs false
set_option linter.unusedVariables false
theorem nan7 (x : Int) (w : World) : Calls Tryd.prog 129 #[.int .i64 x] w fun e w' => e = .returned (.bool false) ∧ w = w' := by
  go_enter Tryd.func129, Tryd.ntmps129
  go_wp2
  go_ret
  exact ⟨by simp, rfl⟩
set_option maxRecDepth 100000 in
theorem comp7 (x y : Int) (w : World) : Calls Tryd.prog 111 #[.int .i64 x, .int .i64 y] w fun e w' => e = .returned (.int .i64 (if x < y then -1 else if y < x then 1 else 0)) ∧ w = w' := by
  by_cases h1 : x < y
  · rw [if_pos h1]
    go_enter Tryd.func111, Tryd.ntmps111
    go_wp2_with fail
    refine (nan7 _ _).mono ?_
    rintro e w1 ⟨rfl, rfl⟩
    go_wp2_with fail
    refine (nan7 _ _).mono ?_
    rintro e w1 ⟨rfl, rfl⟩
    go_wp2
    go_ret
    exact ⟨rfl, rfl⟩
  · rw [if_neg h1]
    by_cases h2 : y < x
    · rw [if_pos h2]
      go_enter Tryd.func111, Tryd.ntmps111
      go_wp2_with fail
      refine (nan7 _ _).mono ?_
      rintro e w1 ⟨rfl, rfl⟩
      go_wp2_with fail
      refine (nan7 _ _).mono ?_
      rintro e w1 ⟨rfl, rfl⟩
      go_wp2
      go_ret
      exact ⟨rfl, rfl⟩
    · rw [if_neg h2]
      go_enter Tryd.func111, Tryd.ntmps111
      go_wp2_with fail
      refine (nan7 _ _).mono ?_
      rintro e w1 ⟨rfl, rfl⟩
      go_wp2_with fail
      refine (nan7 _ _).mono ?_
      rintro e w1 ⟨rfl, rfl⟩
      go_wp2
      go_ret
      exact ⟨rfl, rfl⟩
set_option maxHeartbeats 1000000 in
theorem icmpE (x y : Ed) (w : World) : Calls Tryd.prog 78 #[vE x, vE y] w fun e w' => e = .returned (.int .i64 (cmpI x y)) ∧ Below w.heap.size w w' := by
  obtain ⟨k, i, a, b⟩ := x
  obtain ⟨k', i', a', b'⟩ := y
  unfold vE cmpI
  simp only
  have b1 := ((Below.refl w.heap.size w).alloc (Nat.le_refl _) (.cells #[.int .i64 k, .int .i64 i, .string a, .string b] 74)).alloc (by simp) (.cells #[.int .i64 k', .int .i64 i', .string a', .string b'] 74)
  have HC := fun W => comp7 i i' W
  obtain ⟨c, hc⟩ : ∃ c, (if i < i' then (-1 : Int) else if i' < i then 1 else 0) = c := ⟨_, rfl⟩
  simp only [hc] at HC ⊢
  clear hc
  go_enter Tryd.func78, Tryd.ntmps78
  go_wp2_with fail
  refine (HC _).mono ?_
  rintro e w1 ⟨rfl, rfl⟩
  go_wp2
  go_ret
  exact ⟨rfl, b1⟩
set_option maxHeartbeats 1000000 in
theorem ifst (x y : Ed) (w : World) : Calls Tryd.prog 79 #[vE x, vE y] w fun e w' => e = .returned (vE (fstE x y)) ∧ Below w.heap.size w w' := by
  obtain ⟨k, i, a, b⟩ := x
  obtain ⟨k', i', a', b'⟩ := y
  unfold vE fstE
  simp only
  have b1 := ((Below.refl w.heap.size w).alloc (Nat.le_refl _) (.cells #[.int .i64 k, .int .i64 i, .string a, .string b] 74)).alloc (by simp) (.cells #[.int .i64 k', .int .i64 i', .string a', .string b'] 74)
  have b2 := b1.alloc (by simp; omega) (.cells #[.int .i64 k, .int .i64 i, .string a, .string b] 74)
  go_enter Tryd.func79, Tryd.ntmps79
  go_wp2
  refine bodyPost_ret (v := .agg #[.int .i64 k, .int .i64 i, .string a, .string b]) (by simp [results, Tryd.results79, go_sem]) rfl ⟨rfl, ?_⟩
  exact b2
theorem mMrg_no {P Q : List Ed} (h : ¬ (patB P && patB Q) = true) : mMrg P Q = ([], false) := by
  unfold mMrg
  rw [if_neg]
  intro k
  exact h (Bool.and_eq_true_iff.1 (Bool.and_eq_true_iff.1 k).1).1
theorem mMrg_conf {P Q : List Ed} (h : ¬ cfl P Q = []) : mMrg P Q = ([], false) := by
  unfold mMrg
  rw [if_neg]
  intro k
  exact h (by simpa using (Bool.and_eq_true_iff.1 (Bool.and_eq_true_iff.1 k).1).2)
theorem mMrg_long {P Q : List Ed} (h : ¬ (mrg fstE P Q).length ≤ 16) : mMrg P Q = ([], false) := by
  unfold mMrg
  rw [if_neg]
  intro k
  exact h (by simpa using (Bool.and_eq_true_iff.1 k).2)
theorem mMrg_yes {P Q : List Ed} (h1 : (patB P && patB Q) = true) (h2 : cfl P Q = []) (h3 : (mrg fstE P Q).length ≤ 16) : mMrg P Q = (mrg fstE P Q, true) := by
  unfold mMrg
  rw [if_pos]
  rw [h1, h2]
  simpa using h3
set_option maxHeartbeats 2000000 in
set_option maxRecDepth 100000 in
theorem iMP (P Q : List Ed) (w : World) (lo0 hi0 : Nat) (u0 : Value) (h0 : CpD w lo0 hi0 u0 P) (lo1 hi1 : Nat) (u1 : Value) (h1 : CpD w lo1 hi1 u1 Q) : Calls Tryd.prog 34 #[u0, u1] w (QDb (mMrg P Q) w) := by
  have HC := iCO P Q w lo0 hi0 u0 h0 lo1 hi1 u1 h1
  obtain ⟨rfl, hp, -, fp⟩ := h0
  obtain ⟨rfl, hq, -, fq⟩ := h1
  unfold QDb
  by_cases hv : (patB P && patB Q) = true
  · have hm : mConf P Q = (cfl P Q, true) := by unfold mConf; rw [if_pos hv]
    rw [hm] at HC
    by_cases hc : cfl P Q = []
    · rw [hc] at HC
      have oP : patF P := patB_iff.1 (by simpa using (Bool.and_eq_true_iff.1 hv).1)
      have oQ : patF Q := patB_iff.1 (by simpa using (Bool.and_eq_true_iff.1 hv).2)
      have lp := oP.1
      have lq := oQ.1
      have HMG := Lib.hid (fun w' (hw : Below w.heap.size w w') => imerge 78 79 (fun _ _ => rfl) (fun _ _ => rfl) fstE icmpE ifst P Q lo0 P.length lo1 Q.length w' (hp.below hw) (hq.below hw) (by omega) (by omega) (Nat.le_refl _) (Nat.le_refl _) (by omega) (by omega))
      have HY := @mMrg_yes P Q hv hc
      have HN := @mMrg_long P Q
      obtain ⟨L, hL⟩ : ∃ L, mrg fstE P Q = L := ⟨_, rfl⟩
      rw [hL] at HMG HY HN
      clear hm hc hv oP oQ hp hq hL
      have hcase : (L.length ≤ 16 ∧ ¬ (16 : Int) < (L.length : Int) ∧ mMrg P Q = (L, true)) ∨ (L.length ≤ 16 → False) ∧ (16 : Int) < (L.length : Int) ∧ mMrg P Q = ([], false) := by
        by_cases hn : L.length ≤ 16
        · exact .inl ⟨hn, by omega, HY hn⟩
        · exact .inr ⟨hn, by omega, HN hn⟩
      clear HY HN
      rcases hcase with ⟨-, hni, hm⟩ | ⟨-, hni, hm⟩
      all_goals
        rw [hm]
        clear hm
      all_goals
       go_enter Tryd.func34, Tryd.ntmps34
       go_wp2_with fail
       refine HC.mono ?_
       intro e w2 hpo
       obtain ⟨v, rfl, hv, hb2⟩ := hpo
       obtain ⟨va, vc, rfl⟩ := hv.rd.1.shape
       have HM2 := HMG.out w2 hb2
       have hs2 := hb2.size
       clear hv HC
       go_wp2_with fail
       refine HM2.mono ?_
       rintro e w3 ⟨⟨v', rfl, hO⟩, hb3⟩
       have hb := hb2.trans (hb3.mono hs2)
       obtain ⟨va', vc', rfl⟩ := hO.rd.1.shape
       have HO := Lib.hid (hO.mono hs2 (Nat.le_refl _))
       clear hO hb3 hb2 HM2
       go_wp2
       go_ret2
       first
         | exact ⟨_, rfl, HO.out, hb⟩
         | exact ⟨_, rfl, OwD.nil _ _ _, hb⟩
    · rw [mMrg_conf hc]
      have hpos : 0 < (cfl P Q).length := List.length_pos_iff.2 hc
      have hpl : (0 : Int) < ((cfl P Q).length : Int) := by omega
      have hcl := cfl_len P Q
      obtain ⟨C, hC⟩ : ∃ C, cfl P Q = C := ⟨_, rfl⟩
      rw [hC] at HC hpos hpl hcl
      clear hm hc hv hC hp hq
      go_enter Tryd.func34, Tryd.ntmps34
      go_wp2_with fail
      refine HC.mono ?_
      intro e w2 hpo
      obtain ⟨v, rfl, hv, hb2⟩ := hpo
      obtain ⟨va, vc, rfl⟩ := hv.rd.1.shape
      clear hv HC
      go_wp2
      go_ret2
      exact ⟨_, rfl, OwD.nil _ _ _, hb2⟩
  · have hm : mConf P Q = ([], false) := by unfold mConf; rw [if_neg hv]
    rw [hm] at HC
    rw [mMrg_no hv]
    clear hm hv hp hq
    go_enter Tryd.func34, Tryd.ntmps34
    go_wp2_with fail
    refine HC.mono ?_
    intro e w2 hpo
    obtain ⟨v, rfl, hv, hb2⟩ := hpo
    obtain ⟨va, vc, rfl⟩ := hv.rd.1.shape
    clear hv HC
    go_wp2
    go_ret2
    exact ⟨_, rfl, OwD.nil _ _ _, hb2⟩
end Go.Proofs.YtikiahbgfhaklaaDoor
