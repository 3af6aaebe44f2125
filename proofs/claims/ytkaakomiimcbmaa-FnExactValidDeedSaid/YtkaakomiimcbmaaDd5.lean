/- Deeds: the program's looks at members, votes and empty fields. -/
import Derived.Test.YtkaakomiimcbmaaDd4
namespace Go.Proofs.Ytkaakomiimcbmaa
open Go.ChangeShapes Go.WideShapes Go.ChangeAt Go.RowKit Go.Deep
set_option linter.unusedSimpArgs false
set_option linter.unusedVariables false
set_option maxHeartbeats 1000000 in
set_option maxRecDepth 100000 in
theorem diff_anyK (a : Option Addr) (n cap : Nat) (v : Value) (l : List Int) (w : World) (h : RowV w v l) (hl : l.length ≤ 1048576) (hn : n ≤ 1048576) :
    Calls Try.prog 52 #[.slice a n cap, v] w fun e w' => e = .returned (.bool (allDiffB n l)) ∧ Below w.heap.size w w' := by
  have hmm := @run_makeMap Try.prog
  have hb0 := (Below.refl w.heap.size w).alloc (Nat.le_refl _) (.map #[] 0)
  have hS0 : SetIs (w.alloc (.map #[] 0)) w.heap.size 0 [] := ⟨_, World.ownsMap_made w _ _ _, fun y => by simp [WideAt.atKey_none]⟩
  by_cases e : l = []
  · subst e
    obtain ⟨a', cap', rfl⟩ := h.shape
    clear h hS0
    go_enter Try.func52, Try.ntmps52
    go_wp2
    go_loopg [11] 0 (fun g i wr => i = .int .i64 0 ∧ Below w.heap.size w wr)
    case atStart => exact ⟨rfl, hb0⟩
    case round =>
      obtain ⟨rfl, hb⟩ := hrel
      go_wp2
      go_ret
      exact ⟨by rw [allDiffB_yes (fun m hm => absurd hm (Nat.not_lt_zero _))]; rfl, hb⟩
  · obtain ⟨x, cp, rfl, hx, hc⟩ := h.cons e
    clear h
    go_enter Try.func52, Try.ntmps52
    go_wp2
    go_loopg [11] l.length (fun g i wr => ∃ k : Nat, k ≤ l.length ∧ g = l.length - k ∧ i = .int .i64 k ∧ Below w.heap.size w wr ∧ SetIs wr w.heap.size k (l.take k) ∧ Hid (∀ m, m < k → 0 ≤ l.getD m 0 ∧ l.getD m 0 < (n : Int) ∧ ¬ l.getD m 0 ∈ l.take m))
    case atStart => exact ⟨0, Nat.zero_le _, rfl, rfl, hb0, by simpa using hS0, fun j hj => absurd hj (Nat.not_lt_zero _)⟩
    case round =>
      clear hmm hb0 hS0
      obtain ⟨k, hk, rfl, rfl, hb, hS, H⟩ := hrel
      by_cases hlt : k < l.length
      · have c1 := (hb.cell (p := x.add k) (by rw [block_add]; exact hx)).trans (hc k hlt)
        obtain ⟨y, hy⟩ : ∃ y, l.getD k 0 = y := ⟨_, rfl⟩
        rw [hy] at c1
        have HY := Lib.hid hy
        clear hy hc
        by_cases h1 : y < 0
        · go_wp2
          go_ret
          exact ⟨by rw [allDiffB_no (fun ho => by have := ho k hlt; rw [HY.out] at this; omega)]; rfl, hb⟩
        · by_cases h2 : (n : Int) ≤ y
          · go_wp2
            go_ret
            exact ⟨by rw [allDiffB_no (fun ho => by have := ho k hlt; rw [HY.out] at this; omega)]; rfl, hb⟩
          · have hwf : (Lit.int .i64 y).wf = true := Go.WalkArith.wf_i64 ⟨by omega, by omega⟩
            have hlook := hS.look y hwf
            obtain ⟨w2, hst, hS2, hg2⟩ := hS.store (by unfold maxLen; omega) y hwf
            obtain ⟨z, hz⟩ : ∃ z, decide (y ∈ l.take k) = z := ⟨_, rfl⟩
            rw [hz] at hlook
            have HZ := Lib.hid hz
            clear hz
            cases z with
            | true =>
              clear hst hS2 hg2
              go_wp2
              go_ret
              exact ⟨by rw [allDiffB_no (fun ho => by have := ho k hlt; rw [HY.out] at this; exact this.2.2 (of_decide_eq_true HZ.out))]; rfl, hb⟩
            | false =>
              go_wp2
              go_roundg (l.length - (k + 1))
              case measure => omega
              case rel =>
                refine ⟨k + 1, by omega, rfl, by simp, hb.grown hg2 hb.size (fun j hj => by cases hj; exact Nat.le_refl _), ?_, fun j hj => ?_⟩
                · have et : l.take (k + 1) = l.take k ++ [y] := by
                    rw [List.take_add_one]
                    congr 1
                    have := HY.out
                    simp [List.getD, hlt] at this
                    simp [hlt, this]
                  rw [et]; exact hS2
                · by_cases ej : j = k
                  · subst ej
                    rw [HY.out]
                    exact ⟨by omega, by omega, of_decide_eq_false HZ.out⟩
                  · exact H.out j (by omega)
      · have e : k = l.length := by omega
        subst e
        go_wp2
        go_ret
        exact ⟨by rw [allDiffB_yes H.out]; rfl, hb⟩
set_option maxHeartbeats 1000000 in
set_option maxRecDepth 100000 in
theorem trust_anyK (a : Option Addr) (n cap : Nat) (m : Int) (x : Addr) (l : List Int) (cp : Nat) (w : World) (hx : 0 < l.length → x.block < w.heap.size) (hr : ∀ j, j < l.length → w.cell? (x.add j) = some (.int .i64 (l.getD j 0))) (hl : l.length ≤ 1048576) (hn : n ≤ 1048576) :
    Calls Try.prog 51 #[.slice a n cap, .int .i64 m, .slice (some x) l.length cp] w fun e w' => e = .returned (.bool (trB n m l)) ∧ Below w.heap.size w w' := by
  by_cases h4 : l.length ≤ 4
  · have HC : ∀ W : World, W = ((w.alloc (.cells #[.int .i64 m] 2)).alloc (.cells #[.slice (some ⟨w.heap.size, 0, none⟩) 1 1, .slice (some x) l.length cp] 22)) → Calls Try.prog 53 #[.slice (some ⟨w.heap.size + 1, 0, none⟩) 2 2] W fun e w' => (∃ v, e = .returned v ∧ RowV w' v (m :: l)) ∧ Below W.heap.size W w' := fun W hW => by
      subst hW
      have hB := ((Below.refl w.heap.size w).alloc (Nat.le_refl _) (.cells #[.int .i64 m] 2)).alloc (by simp) (.cells #[.slice (some ⟨w.heap.size, 0, none⟩) 1 1, .slice (some x) l.length cp] 22)
      refine concatx (w.heap.size + 1) (fun k => if k = 0 then ⟨w.heap.size, 0, none⟩ else x) (fun k => if k = 0 then 1 else cp) m l _ (by omega) (by simp) (fun k hk h0 => ?_) (fun k hk => ?_) (fun k hk j hj => ?_)
      · match k, hk with
        | 0, _ => simp; omega
        | 1, _ => have := hx (by simpa [lsx] using h0); simp; omega
      · match k, hk with
        | 0, _ => simp only [lsx]; go_simp
        | 1, _ => simp only [lsx]; go_simp
      · match k, hk with
        | 0, _ =>
          have hj0 : j = 0 := by simpa [lsx] using hj
          subst hj0
          simp only [lsx, if_true, Addr.add_lit, Nat.zero_add]
          go_simp
        | 1, _ =>
          have hj' : j < l.length := by simpa [lsx] using hj
          have := hr j hj'
          simp only [lsx]
          show World.cell? _ (x.add j) = some (.int .i64 (l.getD j 0))
          rw [← this]
          exact hB.cell (p := x.add j) (by rw [block_add]; exact hx (by omega))
    have HD := fun (v : Value) (w' : World) (h : RowV w' v (m :: l)) => diff_anyK a n cap v (m :: l) w' h (by simp; omega) hn
    obtain ⟨z, hz⟩ : ∃ z, allDiffB n (m :: l) = z := ⟨_, rfl⟩
    have ht : trB n m l = z := by unfold trB; rw [hz]; simp [h4]
    rw [hz] at HD
    rw [ht]
    clear ht hz hr
    go_enter Try.func51, Try.ntmps51
    go_wp2_with fail
    refine (HC _ rfl).mono ?_
    rintro e w1 ⟨⟨v, rfl, hv⟩, hb1⟩
    have b1 := (((Below.refl w.heap.size w).alloc (Nat.le_refl _) (.cells #[.int .i64 m] 2)).alloc (by simp) (.cells #[.slice (some ⟨w.heap.size, 0, none⟩) 1 1, .slice (some x) l.length cp] 22)).trans (hb1.mono (by simp; omega))
    go_wp2_with fail
    refine (HD _ _ hv).mono ?_
    rintro e w2 ⟨rfl, hb2⟩
    have b2 := b1.trans (hb2.mono b1.size)
    go_wp2
    go_ret
    exact ⟨by cases z <;> rfl, b2⟩
  · have ht : trB n m l = false := by unfold trB; simp [h4]
    rw [ht]
    have hbig : 4 < l.length := by omega
    go_enter Try.func51, Try.ntmps51
    go_wp2
    go_ret
    exact ⟨rfl, Below.refl _ _⟩
theorem diff_oneK (n : Nat) (m : Int) : allDiffB n [m] = inB m 0 ((n : Int) - 1) := by
  by_cases h : 0 ≤ m ∧ m ≤ (n : Int) - 1
  · rw [inB_yes h.1 h.2]
    refine allDiffB_yes (fun k hk => ?_)
    have hk0 : k = 0 := by simpa using hk
    subst hk0
    exact ⟨h.1, by show m < _; omega, by simp⟩
  · rw [inB_no h]
    refine allDiffB_no (fun q => h ?_)
    have := q 0 (by simp)
    exact ⟨this.1, by have h2 : m < (n : Int) := this.2.1; omega⟩
set_option maxHeartbeats 1000000 in
set_option maxRecDepth 100000 in
theorem is_memberK (a : Option Addr) (n cap : Nat) (m : Int) (w : World) (hn : n ≤ 1048576) :
    Calls Try.prog 56 #[.slice a n cap, .int .i64 m] w fun e w' => e = .returned (.bool (inB m 0 ((n : Int) - 1))) ∧ Below w.heap.size w w' := by
  have HD : ∀ w1 : World, Calls Try.prog 52 #[.slice a n cap, .slice (some ⟨w1.heap.size, 0, none⟩) 1 1] (w1.alloc (.cells #[.int .i64 m] 2)) fun e w' => e = .returned (.bool (inB m 0 ((n : Int) - 1))) ∧ Below (w1.alloc (.cells #[.int .i64 m] 2)).heap.size (w1.alloc (.cells #[.int .i64 m] 2)) w' := fun w1 => by
    have := diff_anyK a n cap (.slice (some ⟨w1.heap.size, 0, none⟩) 1 1) [m] (w1.alloc (.cells #[.int .i64 m] 2)) (.inr ⟨_, 1, rfl, fun _ => by simp, fun i hi => by
      have hi0 : i = 0 := by simpa using hi
      subst hi0
      rw [Addr.add_lit, Nat.zero_add]
      go_simp⟩) (by simp) hn
    rw [diff_oneK] at this
    exact this
  generalize inB m 0 ((n : Int) - 1) = zi at HD ⊢
  go_enter Try.func56, Try.ntmps56
  go_wp2_with fail
  refine (HD _).mono ?_
  rintro e w2 ⟨rfl, hb2⟩
  have b2 := ((Below.refl w.heap.size w).alloc (Nat.le_refl _) (.cells #[.int .i64 m] 2)).trans (hb2.mono (by simp))
  go_wp2
  go_ret
  exact ⟨rfl, b2⟩
theorem imvote (n : Int) (w : World) : Calls Try.prog 58 #[.int .i64 n] w fun e w' => e = .returned (.bool (inB n 0 3)) ∧ w = w' := by
  by_cases h1 : 0 ≤ n
  · by_cases h2 : n ≤ 3
    · rw [inB_yes h1 h2]
      go_enter Try.func58, Try.ntmps58
      go_wp2
      go_ret
      exact ⟨rfl, rfl⟩
    · rw [inB_no (fun q => h2 q.2)]
      go_enter Try.func58, Try.ntmps58
      go_wp2
      go_ret
      exact ⟨rfl, rfl⟩
  · rw [inB_no (fun q => h1 q.1)]
    go_enter Try.func58, Try.ntmps58
    go_wp2
    go_ret
    exact ⟨rfl, rfl⟩

/-- Whether a deed has nothing but a kind. -/
def emptB (X : Dd) : Bool := (X.m == 0) && (decide (X.t.length = 0) && (emB X.n && ((X.v == 0) && plainB X)))
set_option maxHeartbeats 4000000 in
set_option maxRecDepth 100000 in
theorem iempty (X : Dd) (ta pa : Option Addr) (tc pc : Nat) (w : World) :
    Calls Try.prog 29 #[ddV X (.slice ta X.t.length tc) (.slice pa X.p.length pc)] w fun e w' => e = .returned (.bool (emptB X)) ∧ Below w.heap.size w w' := by
  obtain ⟨xk, xm, xt, xn, xv, xp, xf, xu, xc⟩ := X
  unfold emptB plainB ddV
  simp only
  have em := emB_val xn
  obtain ⟨nt, hnt⟩ : ∃ n, xt.length = n := ⟨_, rfl⟩
  obtain ⟨np, hnp⟩ : ∃ n, xp.length = n := ⟨_, rfl⟩
  rw [hnt, hnp]
  clear hnt hnp
  have b1 := (Below.refl w.heap.size w).alloc (Nat.le_refl _) (.cells #[.int .i64 xk, .int .i64 xm, .slice ta nt tc, .string xn, .int .i64 xv, .slice pa np pc, .int .i64 xf, .int .i64 xu, .int .i64 xc] 30)
  have e2 : ((nt : Int) == 0) = decide (nt = 0) := by
    by_cases q : nt = 0
    · subst q; rfl
    · rw [decide_eq_false q]; simp; omega
  have e5 : ((np : Int) == 0) = decide (np = 0) := by
    by_cases q : np = 0
    · subst q; rfl
    · rw [decide_eq_false q]; simp; omega
  obtain ⟨z1, h1⟩ : ∃ z, (xm == 0) = z := ⟨_, rfl⟩
  obtain ⟨z2, h2⟩ : ∃ z, decide (nt = 0) = z := ⟨_, rfl⟩
  obtain ⟨z3, h3⟩ : ∃ z, emB xn = z := ⟨_, rfl⟩
  obtain ⟨z4, h4⟩ : ∃ z, (xv == 0) = z := ⟨_, rfl⟩
  obtain ⟨z5, h5⟩ : ∃ z, decide (np = 0) = z := ⟨_, rfl⟩
  obtain ⟨z6, h6⟩ : ∃ z, (xf == 0) = z := ⟨_, rfl⟩
  obtain ⟨z7, h7⟩ : ∃ z, (xu == 0) = z := ⟨_, rfl⟩
  obtain ⟨z8, h8⟩ : ∃ z, (xc == 0) = z := ⟨_, rfl⟩
  rw [h3] at em
  rw [h2] at e2
  rw [h5] at e5
  rw [h1, h2, h3, h4, h5, h6, h7, h8]
  clear h2 h5
  cases z1 with
  | false =>
    go_enter Try.func29, Try.ntmps29
    go_wp2
    go_ret
    exact ⟨rfl, b1⟩
  | true =>
    cases z2 with
    | false =>
      go_enter Try.func29, Try.ntmps29
      go_wp2
      go_ret
      exact ⟨rfl, b1⟩
    | true =>
      cases z3 with
      | false =>
        go_enter Try.func29, Try.ntmps29
        go_wp2
        go_ret
        exact ⟨rfl, b1⟩
      | true =>
        cases z4 with
        | false =>
          go_enter Try.func29, Try.ntmps29
          go_wp2
          go_ret
          exact ⟨rfl, b1⟩
        | true =>
          cases z5 with
          | false =>
            go_enter Try.func29, Try.ntmps29
            go_wp2
            go_ret
            exact ⟨rfl, b1⟩
          | true =>
            cases z6 with
            | false =>
              go_enter Try.func29, Try.ntmps29
              go_wp2
              go_ret
              exact ⟨rfl, b1⟩
            | true =>
              cases z7 with
              | false =>
                go_enter Try.func29, Try.ntmps29
                go_wp2
                go_ret
                exact ⟨rfl, b1⟩
              | true =>
                cases z8 with
                | false =>
                  go_enter Try.func29, Try.ntmps29
                  go_wp2
                  go_ret
                  exact ⟨rfl, b1⟩
                | true =>
                  go_enter Try.func29, Try.ntmps29
                  go_wp2
                  go_ret
                  exact ⟨rfl, b1⟩
end Go.Proofs.Ytkaakomiimcbmaa
