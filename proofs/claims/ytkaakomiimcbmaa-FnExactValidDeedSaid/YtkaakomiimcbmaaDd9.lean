/- Whether an event is for members: the program's looks. -/
import Derived.Test.YtkaakomiimcbmaaDd8
namespace Go.Proofs.Ytkaakomiimcbmaa
open Go.ChangeShapes Go.WideShapes Go.ChangeAt Go.RowKit Go.Deep
set_option linter.unusedSimpArgs false
set_option linter.unusedVariables false
set_option maxHeartbeats 4000000 in
set_option maxRecDepth 100000 in
theorem imact (t : ByteArray) (a f u k : Int) (l : List Ed) (c : Nat) (w : World) (h : Es w c l) (hl : l.length ≤ 1048576) :
    Calls Try.prog 59 #[.agg #[.string t, .int .i64 a, .slice (some ⟨c, 0, none⟩) l.length l.length, .int .i64 f, .int .i64 u, .int .i64 k, .slice none 0 0, .int .i64 0]] w fun e w' => (∃ g cp, e = .returned (.agg #[.int .i64 f, .int .i64 u, .slice (some ⟨g, 0, none⟩) l.length cp]) ∧ Ex w' g l) ∧ Below w.heap.size w w' := by
  have b0 := ((Below.refl w.heap.size w).alloc (Nat.le_refl _) (.cells #[.string t, .int .i64 a, .slice (some ⟨c, 0, none⟩) l.length l.length, .int .i64 f, .int .i64 u, .int .i64 k, .slice none 0 0, .int .i64 0] 70)).alloc (by simp) (.cells #[.int .i64 0, .int .i64 0, .slice none 0 0] 100)
  have q0 : ((w.alloc (.cells #[.string t, .int .i64 a, .slice (some ⟨c, 0, none⟩) l.length l.length, .int .i64 f, .int .i64 u, .int .i64 k, .slice none 0 0, .int .i64 0] 70)).alloc (.cells #[.int .i64 0, .int .i64 0, .slice none 0 0] 100)).cell? ⟨w.heap.size + 1, 0, none⟩ = some (.int .i64 0) := by go_simp
  have q1 : ((w.alloc (.cells #[.string t, .int .i64 a, .slice (some ⟨c, 0, none⟩) l.length l.length, .int .i64 f, .int .i64 u, .int .i64 k, .slice none 0 0, .int .i64 0] 70)).alloc (.cells #[.int .i64 0, .int .i64 0, .slice none 0 0] 100)).cell? ⟨w.heap.size + 1, 1, none⟩ = some (.int .i64 0) := by go_simp
  have q2 : ((w.alloc (.cells #[.string t, .int .i64 a, .slice (some ⟨c, 0, none⟩) l.length l.length, .int .i64 f, .int .i64 u, .int .i64 k, .slice none 0 0, .int .i64 0] 70)).alloc (.cells #[.int .i64 0, .int .i64 0, .slice none 0 0] 100)).cell? ⟨w.heap.size + 1, 2, none⟩ = some (.slice none 0 0) := by go_simp
  have z0 : ∀ o, ((w.alloc (.cells #[.string t, .int .i64 a, .slice (some ⟨c, 0, none⟩) l.length l.length, .int .i64 f, .int .i64 u, .int .i64 k, .slice none 0 0, .int .i64 0] 70)).alloc (.cells #[.int .i64 0, .int .i64 0, .slice none 0 0] 100)).frozen? ⟨w.heap.size + 1, o, none⟩ = false := fun o => by go_simp
  have HC := iclone f u l c _ (h.below b0) hl
  have lw := World.block_lt_of_cell? _ _ q0
  clear h
  go_enter Try.func59, Try.ntmps59
  go_wp2_with fail
  refine HC.mono ?_
  rintro e w2 ⟨⟨g, cp, rfl, hgl, hg⟩, hb2⟩
  obtain ⟨hc, hf⟩ := bcell hb2
  have q0' := (hc _ _ lw).trans q0
  have q1' := (hc _ _ lw).trans q1
  have q2' := (hc _ _ lw).trans q2
  have z0' := (hf _ 0 lw).trans (z0 0)
  have z1' := (hf _ 1 lw).trans (z0 1)
  have z2' := (hf _ 2 lw).trans (z0 2)
  have hb3 := b0.trans (hb2.mono b0.size)
  have nq : w.heap.size + 1 ≠ g := by simp at hgl; omega
  have HG := Lib.hid hg
  have HB := Lib.hid hb3
  clear hc hf hb2 hb3 hg hgl q0 q1 q2 z0 b0 lw HC
  go_wp2
  refine bodyPost_ret (v := .agg #[.int .i64 f, .int .i64 u, .slice (some ⟨g, 0, none⟩) l.length cp]) (by simp [results, Try.results59, go_sem, q0', q1', q2']) rfl ⟨⟨g, cp, rfl, ?_⟩, ?_⟩
  · exact Ex.setOther (Ex.setOther (Ex.setOther HG.out nq _) nq _) nq _
  · exact Below.setCell (Below.setCell (Below.setCell HB.out (by show _ ≤ _ + _; omega) _) (by show _ ≤ _ + _; omega) _) (by show _ ≤ _ + _; omega) _
noncomputable def propB (t : ByteArray) (a f u k : Int) (l : List Ed) : Bool := nameB t.data.toList && (inB a 0 11 && (decide (0 < l.length) && (actBq (f, u, l) && (decide (1 ≤ k) && decide (k ≤ f)))))
set_option maxHeartbeats 8000000 in
set_option maxRecDepth 100000 in
theorem iprop (t : ByteArray) (a f u k : Int) (l : List Ed) (c : Nat) (ma : Option Addr) (mc : Nat) (w : World) (h : Es w c l) (hf : FitsE l) (ht : t.size ≤ 1048576) :
    Calls Try.prog 61 #[.agg #[.string t, .int .i64 a, .slice (some ⟨c, 0, none⟩) l.length l.length, .int .i64 f, .int .i64 u, .int .i64 k, .slice none 0 0, .int .i64 0], .slice ma 12 mc] w fun e w' => e = .returned (.bool (propB t a f u k l)) ∧ Below w.heap.size w w' := by
  have b0 := (Below.refl w.heap.size w).alloc (Nat.le_refl _) (.cells #[.string t, .int .i64 a, .slice (some ⟨c, 0, none⟩) l.length l.length, .int .i64 f, .int .i64 u, .int .i64 k, .slice none 0 0, .int .i64 0] 70)
  obtain ⟨w0, hw0⟩ : ∃ w0, w.alloc (.cells #[.string t, .int .i64 a, .slice (some ⟨c, 0, none⟩) l.length l.length, .int .i64 f, .int .i64 u, .int .i64 k, .slice none 0 0, .int .i64 0] 70) = w0 := ⟨_, rfl⟩
  have p0 : w0.cell? ⟨w.heap.size, 0, none⟩ = some (.string t) := by subst hw0; go_simp
  have p1 : w0.cell? ⟨w.heap.size, 1, none⟩ = some (.int .i64 a) := by subst hw0; go_simp
  have p2 : w0.cell? ⟨w.heap.size, 2, none⟩ = some (.slice (some ⟨c, 0, none⟩) l.length l.length) := by subst hw0; go_simp
  have p3 : w0.cell? ⟨w.heap.size, 3, none⟩ = some (.int .i64 f) := by subst hw0; go_simp
  have p4 : w0.cell? ⟨w.heap.size, 4, none⟩ = some (.int .i64 u) := by subst hw0; go_simp
  have p5 : w0.cell? ⟨w.heap.size, 5, none⟩ = some (.int .i64 k) := by subst hw0; go_simp
  have p6 : w0.cell? ⟨w.heap.size, 6, none⟩ = some (.slice none 0 0) := by subst hw0; go_simp
  have p7 : w0.cell? ⟨w.heap.size, 7, none⟩ = some (.int .i64 0) := by subst hw0; go_simp
  have lw : w.heap.size < w0.heap.size := World.block_lt_of_cell? _ _ p0
  rw [hw0] at b0
  have hl := hf.1
  have HN := fun w' => iname t w' (by unfold maxLen; omega)
  have HM : ∀ w', Calls Try.prog 56 #[.slice ma 12 mc, .int .i64 a] w' fun e w'' => e = .returned (.bool (inB a 0 11)) ∧ Below w'.heap.size w' w'' := fun w' => by
    have := is_memberK ma 12 mc a w' (by omega)
    simpa using this
  have HA := Lib.hid (fun w' (hw : Below w0.heap.size w0 w') => imact t a f u k l c w' ((h.below b0).below hw) hl)
  have HV := Lib.hid (fun g cp w' (hx : Ex w' g l) => iactx f u l g cp w' hx hf)
  unfold propB
  generalize nameB t.data.toList = z1 at HN ⊢
  generalize inB a 0 11 = z2 at HM ⊢
  obtain ⟨z4, h4⟩ : ∃ z, actBq (f, u, l) = z := ⟨_, rfl⟩
  rw [h4] at HV ⊢
  clear h h4
  obtain ⟨np, hnp⟩ : ∃ n, l.length = n := ⟨_, rfl⟩
  rw [hnp] at p2 hl HA HV hw0 ⊢
  have e3 : decide ((0 : Int) < (np : Int)) = decide (0 < np) := by
    by_cases q : 0 < np
    · rw [decide_eq_true q, decide_eq_true (by omega)]
    · rw [decide_eq_false q, decide_eq_false (by omega)]
  obtain ⟨z3, h3⟩ : ∃ z, decide (0 < np) = z := ⟨_, rfl⟩
  rw [h3] at e3
  rw [h3]
  have h6 : (0 < np) = (z3 = true) := by rw [← h3]; simp
  obtain ⟨z5, h5⟩ : ∃ z, decide (1 ≤ k) = z := ⟨_, rfl⟩
  obtain ⟨z6, h7⟩ : ∃ z, decide (k ≤ f) = z := ⟨_, rfl⟩
  rw [h5, h7]
  clear hnp
  cases z1 with
  | false =>
    go_enter Try.func61, Try.ntmps61
    go_wp2_with fail
    refine (HN _).mono ?_
    rintro e w1 ⟨rfl, rfl⟩
    go_wp2
    go_ret
    exact ⟨rfl, b0⟩
  | true =>
    cases z2 with
    | false =>
      go_enter Try.func61, Try.ntmps61
      go_wp2_with fail
      refine (HN _).mono ?_
      rintro e w1 ⟨rfl, rfl⟩
      go_wp2_with fail
      refine (HM _).mono ?_
      rintro e w2 ⟨rfl, hb2⟩
      have lw2 := Nat.lt_of_lt_of_le lw hb2.size
      have bw2 := b0.trans (hb2.mono b0.size)
      have d0 := (hb2.cell (p := ⟨w.heap.size, 0, none⟩) lw).trans p0
      have d1 := (hb2.cell (p := ⟨w.heap.size, 1, none⟩) lw).trans p1
      have d2 := (hb2.cell (p := ⟨w.heap.size, 2, none⟩) lw).trans p2
      have d3 := (hb2.cell (p := ⟨w.heap.size, 3, none⟩) lw).trans p3
      have d4 := (hb2.cell (p := ⟨w.heap.size, 4, none⟩) lw).trans p4
      have d5 := (hb2.cell (p := ⟨w.heap.size, 5, none⟩) lw).trans p5
      have d6 := (hb2.cell (p := ⟨w.heap.size, 6, none⟩) lw).trans p6
      have d7 := (hb2.cell (p := ⟨w.heap.size, 7, none⟩) lw).trans p7
      clear HA HV
      go_wp2
      go_ret
      exact ⟨rfl, bw2⟩
    | true =>
      cases z3 with
      | false =>
        go_enter Try.func61, Try.ntmps61
        go_wp2_with fail
        refine (HN _).mono ?_
        rintro e w1 ⟨rfl, rfl⟩
        go_wp2_with fail
        refine (HM _).mono ?_
        rintro e w2 ⟨rfl, hb2⟩
        have lw2 := Nat.lt_of_lt_of_le lw hb2.size
        have bw2 := b0.trans (hb2.mono b0.size)
        have d0 := (hb2.cell (p := ⟨w.heap.size, 0, none⟩) lw).trans p0
        have d1 := (hb2.cell (p := ⟨w.heap.size, 1, none⟩) lw).trans p1
        have d2 := (hb2.cell (p := ⟨w.heap.size, 2, none⟩) lw).trans p2
        have d3 := (hb2.cell (p := ⟨w.heap.size, 3, none⟩) lw).trans p3
        have d4 := (hb2.cell (p := ⟨w.heap.size, 4, none⟩) lw).trans p4
        have d5 := (hb2.cell (p := ⟨w.heap.size, 5, none⟩) lw).trans p5
        have d6 := (hb2.cell (p := ⟨w.heap.size, 6, none⟩) lw).trans p6
        have d7 := (hb2.cell (p := ⟨w.heap.size, 7, none⟩) lw).trans p7
        clear HA HV
        go_wp2
        go_ret
        exact ⟨rfl, bw2⟩
      | true =>
        cases z4 with
        | false =>
          go_enter Try.func61, Try.ntmps61
          go_wp2_with fail
          refine (HN _).mono ?_
          rintro e w1 ⟨rfl, rfl⟩
          go_wp2_with fail
          refine (HM _).mono ?_
          rintro e w2 ⟨rfl, hb2⟩
          have lw2 := Nat.lt_of_lt_of_le lw hb2.size
          have bw2 := b0.trans (hb2.mono b0.size)
          have d0 := (hb2.cell (p := ⟨w.heap.size, 0, none⟩) lw).trans p0
          have d1 := (hb2.cell (p := ⟨w.heap.size, 1, none⟩) lw).trans p1
          have d2 := (hb2.cell (p := ⟨w.heap.size, 2, none⟩) lw).trans p2
          have d3 := (hb2.cell (p := ⟨w.heap.size, 3, none⟩) lw).trans p3
          have d4 := (hb2.cell (p := ⟨w.heap.size, 4, none⟩) lw).trans p4
          have d5 := (hb2.cell (p := ⟨w.heap.size, 5, none⟩) lw).trans p5
          have d6 := (hb2.cell (p := ⟨w.heap.size, 6, none⟩) lw).trans p6
          have d7 := (hb2.cell (p := ⟨w.heap.size, 7, none⟩) lw).trans p7
          have HA2 := HA.out w2 hb2
          go_wp2_with fail
          refine HA2.mono ?_
          rintro e w3 ⟨⟨g, cp, rfl, hg⟩, hb3⟩
          have f0 := (hb3.cell (p := ⟨w.heap.size, 0, none⟩) lw2).trans d0
          have f1 := (hb3.cell (p := ⟨w.heap.size, 1, none⟩) lw2).trans d1
          have f2 := (hb3.cell (p := ⟨w.heap.size, 2, none⟩) lw2).trans d2
          have f3 := (hb3.cell (p := ⟨w.heap.size, 3, none⟩) lw2).trans d3
          have f4 := (hb3.cell (p := ⟨w.heap.size, 4, none⟩) lw2).trans d4
          have f5 := (hb3.cell (p := ⟨w.heap.size, 5, none⟩) lw2).trans d5
          have f6 := (hb3.cell (p := ⟨w.heap.size, 6, none⟩) lw2).trans d6
          have f7 := (hb3.cell (p := ⟨w.heap.size, 7, none⟩) lw2).trans d7
          have lw3 := Nat.lt_of_lt_of_le lw2 hb3.size
          have bw3 := bw2.trans (hb3.mono bw2.size)
          have HV3 := HV.out g cp w3 hg
          go_wp2_with fail
          refine HV3.mono ?_
          rintro e w4 ⟨rfl, hb4⟩
          have g3 := (hb4.cell (p := ⟨w.heap.size, 3, none⟩) lw3).trans f3
          have g5 := (hb4.cell (p := ⟨w.heap.size, 5, none⟩) lw3).trans f5
          have bw4 := bw3.trans (hb4.mono bw3.size)
          clear HA2 HV3 HA HV hg hb2 hb3 hb4 d0 f0 d1 f1 d2 f2 d3 f3 d4 f4 d5 f5 d6 f6 d7 f7
          go_wp2
          go_ret
          exact ⟨rfl, bw4⟩
        | true =>
          cases z5 with
          | false =>
            go_enter Try.func61, Try.ntmps61
            go_wp2_with fail
            refine (HN _).mono ?_
            rintro e w1 ⟨rfl, rfl⟩
            go_wp2_with fail
            refine (HM _).mono ?_
            rintro e w2 ⟨rfl, hb2⟩
            have lw2 := Nat.lt_of_lt_of_le lw hb2.size
            have bw2 := b0.trans (hb2.mono b0.size)
            have d0 := (hb2.cell (p := ⟨w.heap.size, 0, none⟩) lw).trans p0
            have d1 := (hb2.cell (p := ⟨w.heap.size, 1, none⟩) lw).trans p1
            have d2 := (hb2.cell (p := ⟨w.heap.size, 2, none⟩) lw).trans p2
            have d3 := (hb2.cell (p := ⟨w.heap.size, 3, none⟩) lw).trans p3
            have d4 := (hb2.cell (p := ⟨w.heap.size, 4, none⟩) lw).trans p4
            have d5 := (hb2.cell (p := ⟨w.heap.size, 5, none⟩) lw).trans p5
            have d6 := (hb2.cell (p := ⟨w.heap.size, 6, none⟩) lw).trans p6
            have d7 := (hb2.cell (p := ⟨w.heap.size, 7, none⟩) lw).trans p7
            have HA2 := HA.out w2 hb2
            go_wp2_with fail
            refine HA2.mono ?_
            rintro e w3 ⟨⟨g, cp, rfl, hg⟩, hb3⟩
            have f0 := (hb3.cell (p := ⟨w.heap.size, 0, none⟩) lw2).trans d0
            have f1 := (hb3.cell (p := ⟨w.heap.size, 1, none⟩) lw2).trans d1
            have f2 := (hb3.cell (p := ⟨w.heap.size, 2, none⟩) lw2).trans d2
            have f3 := (hb3.cell (p := ⟨w.heap.size, 3, none⟩) lw2).trans d3
            have f4 := (hb3.cell (p := ⟨w.heap.size, 4, none⟩) lw2).trans d4
            have f5 := (hb3.cell (p := ⟨w.heap.size, 5, none⟩) lw2).trans d5
            have f6 := (hb3.cell (p := ⟨w.heap.size, 6, none⟩) lw2).trans d6
            have f7 := (hb3.cell (p := ⟨w.heap.size, 7, none⟩) lw2).trans d7
            have lw3 := Nat.lt_of_lt_of_le lw2 hb3.size
            have bw3 := bw2.trans (hb3.mono bw2.size)
            have HV3 := HV.out g cp w3 hg
            go_wp2_with fail
            refine HV3.mono ?_
            rintro e w4 ⟨rfl, hb4⟩
            have g3 := (hb4.cell (p := ⟨w.heap.size, 3, none⟩) lw3).trans f3
            have g5 := (hb4.cell (p := ⟨w.heap.size, 5, none⟩) lw3).trans f5
            have bw4 := bw3.trans (hb4.mono bw3.size)
            clear HA2 HV3 HA HV hg hb2 hb3 hb4 d0 f0 d1 f1 d2 f2 d3 f3 d4 f4 d5 f5 d6 f6 d7 f7
            go_wp2
            go_ret
            exact ⟨rfl, bw4⟩
          | true =>
            cases z6 with
            | false =>
              go_enter Try.func61, Try.ntmps61
              go_wp2_with fail
              refine (HN _).mono ?_
              rintro e w1 ⟨rfl, rfl⟩
              go_wp2_with fail
              refine (HM _).mono ?_
              rintro e w2 ⟨rfl, hb2⟩
              have lw2 := Nat.lt_of_lt_of_le lw hb2.size
              have bw2 := b0.trans (hb2.mono b0.size)
              have d0 := (hb2.cell (p := ⟨w.heap.size, 0, none⟩) lw).trans p0
              have d1 := (hb2.cell (p := ⟨w.heap.size, 1, none⟩) lw).trans p1
              have d2 := (hb2.cell (p := ⟨w.heap.size, 2, none⟩) lw).trans p2
              have d3 := (hb2.cell (p := ⟨w.heap.size, 3, none⟩) lw).trans p3
              have d4 := (hb2.cell (p := ⟨w.heap.size, 4, none⟩) lw).trans p4
              have d5 := (hb2.cell (p := ⟨w.heap.size, 5, none⟩) lw).trans p5
              have d6 := (hb2.cell (p := ⟨w.heap.size, 6, none⟩) lw).trans p6
              have d7 := (hb2.cell (p := ⟨w.heap.size, 7, none⟩) lw).trans p7
              have HA2 := HA.out w2 hb2
              go_wp2_with fail
              refine HA2.mono ?_
              rintro e w3 ⟨⟨g, cp, rfl, hg⟩, hb3⟩
              have f0 := (hb3.cell (p := ⟨w.heap.size, 0, none⟩) lw2).trans d0
              have f1 := (hb3.cell (p := ⟨w.heap.size, 1, none⟩) lw2).trans d1
              have f2 := (hb3.cell (p := ⟨w.heap.size, 2, none⟩) lw2).trans d2
              have f3 := (hb3.cell (p := ⟨w.heap.size, 3, none⟩) lw2).trans d3
              have f4 := (hb3.cell (p := ⟨w.heap.size, 4, none⟩) lw2).trans d4
              have f5 := (hb3.cell (p := ⟨w.heap.size, 5, none⟩) lw2).trans d5
              have f6 := (hb3.cell (p := ⟨w.heap.size, 6, none⟩) lw2).trans d6
              have f7 := (hb3.cell (p := ⟨w.heap.size, 7, none⟩) lw2).trans d7
              have lw3 := Nat.lt_of_lt_of_le lw2 hb3.size
              have bw3 := bw2.trans (hb3.mono bw2.size)
              have HV3 := HV.out g cp w3 hg
              go_wp2_with fail
              refine HV3.mono ?_
              rintro e w4 ⟨rfl, hb4⟩
              have g3 := (hb4.cell (p := ⟨w.heap.size, 3, none⟩) lw3).trans f3
              have g5 := (hb4.cell (p := ⟨w.heap.size, 5, none⟩) lw3).trans f5
              have bw4 := bw3.trans (hb4.mono bw3.size)
              clear HA2 HV3 HA HV hg hb2 hb3 hb4 d0 f0 d1 f1 d2 f2 d3 f3 d4 f4 d5 f5 d6 f6 d7 f7
              go_wp2
              go_ret
              exact ⟨rfl, bw4⟩
            | true =>
              go_enter Try.func61, Try.ntmps61
              go_wp2_with fail
              refine (HN _).mono ?_
              rintro e w1 ⟨rfl, rfl⟩
              go_wp2_with fail
              refine (HM _).mono ?_
              rintro e w2 ⟨rfl, hb2⟩
              have lw2 := Nat.lt_of_lt_of_le lw hb2.size
              have bw2 := b0.trans (hb2.mono b0.size)
              have d0 := (hb2.cell (p := ⟨w.heap.size, 0, none⟩) lw).trans p0
              have d1 := (hb2.cell (p := ⟨w.heap.size, 1, none⟩) lw).trans p1
              have d2 := (hb2.cell (p := ⟨w.heap.size, 2, none⟩) lw).trans p2
              have d3 := (hb2.cell (p := ⟨w.heap.size, 3, none⟩) lw).trans p3
              have d4 := (hb2.cell (p := ⟨w.heap.size, 4, none⟩) lw).trans p4
              have d5 := (hb2.cell (p := ⟨w.heap.size, 5, none⟩) lw).trans p5
              have d6 := (hb2.cell (p := ⟨w.heap.size, 6, none⟩) lw).trans p6
              have d7 := (hb2.cell (p := ⟨w.heap.size, 7, none⟩) lw).trans p7
              have HA2 := HA.out w2 hb2
              go_wp2_with fail
              refine HA2.mono ?_
              rintro e w3 ⟨⟨g, cp, rfl, hg⟩, hb3⟩
              have f0 := (hb3.cell (p := ⟨w.heap.size, 0, none⟩) lw2).trans d0
              have f1 := (hb3.cell (p := ⟨w.heap.size, 1, none⟩) lw2).trans d1
              have f2 := (hb3.cell (p := ⟨w.heap.size, 2, none⟩) lw2).trans d2
              have f3 := (hb3.cell (p := ⟨w.heap.size, 3, none⟩) lw2).trans d3
              have f4 := (hb3.cell (p := ⟨w.heap.size, 4, none⟩) lw2).trans d4
              have f5 := (hb3.cell (p := ⟨w.heap.size, 5, none⟩) lw2).trans d5
              have f6 := (hb3.cell (p := ⟨w.heap.size, 6, none⟩) lw2).trans d6
              have f7 := (hb3.cell (p := ⟨w.heap.size, 7, none⟩) lw2).trans d7
              have lw3 := Nat.lt_of_lt_of_le lw2 hb3.size
              have bw3 := bw2.trans (hb3.mono bw2.size)
              have HV3 := HV.out g cp w3 hg
              go_wp2_with fail
              refine HV3.mono ?_
              rintro e w4 ⟨rfl, hb4⟩
              have g3 := (hb4.cell (p := ⟨w.heap.size, 3, none⟩) lw3).trans f3
              have g5 := (hb4.cell (p := ⟨w.heap.size, 5, none⟩) lw3).trans f5
              have bw4 := bw3.trans (hb4.mono bw3.size)
              clear HA2 HV3 HA HV hg hb2 hb3 hb4 d0 f0 d1 f1 d2 f2 d3 f3 d4 f4 d5 f5 d6 f6 d7 f7
              go_wp2
              go_ret
              exact ⟨rfl, bw4⟩
end Go.Proofs.Ytkaakomiimcbmaa
