/- The program's graph of a frame, if it is valid: graphOf. -/
import Derived.Test.YtllfopbpchjhpaaDoorGza
import Derived.Test.YtllfopbpchjhpaaDoorWza
import Derived.StillTailTactics
namespace Go.Proofs.YtllfopbpchjhpaaDoor
open Go.ChangeShapes Go.WideShapes Go.ChangeAt Go.RowKit Go.Deep Go.Maps
set_option linter.unusedSimpArgs false
set_option linter.unusedVariables false
set_option maxRecDepth 100000
/-- What graphOf answers. -/
def GrOf (X : Fm) (w : World) (e : Ending) (w' : World) : Prop := ((fOk X ∧ ∃ m, e = .returned (.agg #[.int .i64 X.1, .map (some m)]) ∧ GrIs w' X.1.toNat m X.2) ∨ (¬ fOk X ∧ Panics e)) ∧ Below w.heap.size w w'
theorem lessL_key {a b : List Int} (ha : a.length = 2) (hb : b.length = 2) (a1 : 0 ≤ a.getD 1 0) (a2 : a.getD 1 0 < 10) (b1 : 0 ≤ b.getD 1 0) (b2 : b.getD 1 0 < 10) : lessL a b < 0 ↔ keyA a < keyA b := by
  match a, ha, b, hb with
  | [x, y], _, [u, v], _ =>
    simp [List.getD] at a1 a2 b1 b2
    unfold keyA
    simp [List.getD, lessL]
    by_cases h1 : x < u
    · simp [h1]; omega
    · by_cases h2 : u < x
      · simp [h1, h2]; omega
      · simp [h1, h2]
        by_cases h3 : y < v
        · simp [h3]; omega
        · by_cases h4 : v < y
          · simp [h3, h4]; omega
          · simp [h3, h4]; omega
theorem lessL_nil {b : List Int} (hb : b.length = 2) : lessL [] b = -1 := by
  match b, hb with
  | [u, v], _ => rfl
/-- Attacks 0 to k - 1 are as they must be. -/
def okTo (n : Int) (L : List (List Int)) (k : Nat) : Prop := ∀ i, i < k → atkOk n (L.getD i []) ∧ ∀ j, j + 1 = i → keyA (L.getD j []) < keyA (L.getD i [])
/-- The map of the attackers by the first k attacks. -/
def GrMap (w : World) (m k : Nat) (L : List (List Int)) : Prop := ∃ f, MapB w m k f ∧ ∀ y : Int, f y = byF (L.take k) y
theorem GrMap.below {w w' : World} {m k : Nat} {L : List (List Int)} (h : GrMap w m k L) (hb : Below w.heap.size w w') : GrMap w' m k L := by
  obtain ⟨f, h1, h2⟩ := h
  exact ⟨f, h1.below hb, h2⟩
theorem grmap_made (W : World) (o : Obj) (m : Nat) (hm : m = W.heap.size) (L : List (List Int)) : GrMap ((W.alloc (.map #[] 0)).alloc o) m 0 L := by
  subst hm
  exact ⟨fun _ => 0, (MapB.made W).below ((Below.refl _ _).alloc (Nat.le_refl _) _), fun y => rfl⟩
theorem all_has {N : Nat} (x : Int) : hasB (2 ^ N - 1) x = decide (0 ≤ x ∧ x < (N : Int)) := by
  unfold hasB
  rw [all_bit, Bool.eq_iff_iff]
  simp
  omega
set_option maxHeartbeats 4000000 in
set_option maxRecDepth 100000 in
theorem graphofX (X : Fm) (b cp : Nat) (w : World) (h : FmX w b X) :
    Calls Tryd.prog 12 #[.agg #[.int .i64 X.1, .slice (some ⟨b, 0, none⟩) X.2.length cp]] w (GrOf X w) := by
  have hf := h.fits
  have hf1 := hf.1.1
  have HF := Lib.hid hf.1.2
  have hr := Lib.hid h.rows
  clear h hf
  obtain ⟨n, L⟩ := X
  simp only at hf1 HF hr ⊢
  have hmm := @run_makeMap Tryd.prog
  have b0 := (((Below.refl w.heap.size w).alloc (Nat.le_refl _) (.cells #[.int .i64 n, .slice (some ⟨b, 0, none⟩) L.length cp] 26)).alloc (by simp) (.cells #[.int .i64 0, .map none] 40))
  by_cases h1 : n < 0
  · clear hmm
    go_enter Tryd.func12, Tryd.ntmps12
    go_wp2_with fail
    refine (req_no _).mono ?_
    rintro e w1 ⟨rfl, rfl⟩
    go_wp2
    exact ⟨rfl, .inr ⟨fun ho => by have := ho.1; simp only at this; omega, _, _, rfl⟩, b0⟩
  by_cases h2 : 10 < n
  · clear hmm
    have hd : decide (n ≤ 10) = false := by simpa using h2
    go_enter Tryd.func12, Tryd.ntmps12
    go_wp2_with fail
    refine (req_no _).mono ?_
    rintro e w1 ⟨rfl, rfl⟩
    go_wp2
    exact ⟨rfl, .inr ⟨fun ho => by have := ho.2.1; simp only at this; omega, _, _, rfl⟩, b0⟩
  obtain ⟨N, rfl⟩ : ∃ N : Nat, n = (N : Int) := ⟨n.toNat, by omega⟩
  go_enter Tryd.func12, Tryd.ntmps12
  go_wp2_with fail
  refine (req_yes _).mono ?_
  rintro e w1 ⟨rfl, rfl⟩
  go_wp2
  have HA : Hid (∀ w' : World, Calls Tryd.prog 16 #[.agg #[.int .i64 (N : Int), .map (some (w.heap.size + 1 + 1))]] w' fun e w'' => e = .returned (.int .u16 ((2 ^ N - 1 : Nat) : Int)) ∧ Below w'.heap.size w' w'') := fun w' => by
    have := all_any (N : Int) (.map (some (w.heap.size + 1 + 1))) w' (by omega) (by omega)
    simpa using this
  have HH : Hid (∀ (z : Int) (w' : World), Calls Tryd.prog 17 #[.int .u16 ((2 ^ N - 1 : Nat) : Int), .int .i64 z] w' fun e w'' => e = .returned (.bool (decide (0 ≤ z ∧ z < (N : Int)))) ∧ w' = w'') := fun z w' => by
    have := has_any (2 ^ N - 1) z w' (by have := pow10 (n := N) (by omega); omega)
    rwa [all_has] at this
  generalize 2 ^ N - 1 = AA at HA HH
  go_loopg [4, 25] L.length (fun g u i wr => ∃ k : Nat, k ≤ L.length ∧ g = L.length - k ∧ i = .int .i64 (k : Int) ∧ RowV wr u (if k = 0 then [] else L.getD (k - 1) []) ∧ Below w.heap.size w wr ∧ w.heap.size + 3 < wr.heap.size ∧ wr.cell? ⟨w.heap.size + 1 + 1 + 1, 0, none⟩ = some (.int .i64 (N : Int)) ∧ wr.cell? ⟨w.heap.size + 1 + 1 + 1, 1, none⟩ = some (.map (some (w.heap.size + 1 + 1))) ∧ wr.cell? ⟨w.heap.size + 1, 0, none⟩ = some (.int .i64 0) ∧ wr.cell? ⟨w.heap.size + 1, 1, none⟩ = some (.map none) ∧ wr.frozen? ⟨w.heap.size + 1, 0, none⟩ = false ∧ wr.frozen? ⟨w.heap.size + 1, 1, none⟩ = false ∧ GrMap wr (w.heap.size + 1 + 1) k L ∧ Hid (okTo (N : Int) L k))
  case atStart =>
    refine ⟨0, Nat.zero_le _, rfl, rfl, .inl ⟨rfl, rfl⟩, ?_, by simp, by go_simp, by go_simp, by go_simp, by go_simp, by go_simp, by go_simp, grmap_made _ _ _ (by simp) L, fun j hj => absurd hj (Nat.not_lt_zero _)⟩
    exact (b0.alloc (by simp; omega) _).alloc (by simp; omega) _
  case round =>
    clear hmm b0
    obtain ⟨k, hk, rfl, rfl, hu, hb, hsz, g0, g1, y0, y1, z0, z1, hM, HK⟩ := hrel
    have HM := Lib.hid hM
    clear hM
    by_cases hlt : k < L.length
    · obtain ⟨c, a1, a2⟩ := (hr.out.below hb).at hlt
      have hcl := World.rowIs.lt a2
      have hcm : c ≠ w.heap.size + 1 + 1 := by
        obtain ⟨c'', u1, u2⟩ := hr.out.at hlt
        have v1 := (hb.cell (p := ⟨b, k, none⟩) hr.out.lt).trans u1
        rw [v1] at a1
        have v2 : c'' = c := by simpa using a1
        have := World.rowIs.lt u2
        omega
      have hlen := HF.out k hlt
      obtain ⟨l, hl⟩ : ∃ l, L.getD k [] = l := ⟨_, rfl⟩
      have HU : ∃ a, RowV wr u4 a ∧ a.length ≤ 1048576 ∧ ((k = 0 ∧ a = []) ∨ (0 < k ∧ a = L.getD (k - 1) [])) := by
        by_cases e : k = 0
        · rw [if_pos e] at hu; exact ⟨_, hu, by simp, .inl ⟨e, rfl⟩⟩
        · rw [if_neg e] at hu; exact ⟨_, hu, HF.out (k - 1) (by omega), .inr ⟨by omega, rfl⟩⟩
      obtain ⟨a, hua, hal, hak⟩ := HU
      rw [hl] at a1 a2 hlen
      have HC := scmp_any u4 (.slice (some ⟨c, 0, none⟩) l.length l.length) a l wr hua (a2.row l.length) hal hlen
      obtain ⟨r, hrr⟩ : ∃ r, lessL a l = r := ⟨_, rfl⟩
      rw [hrr] at HC
      have HR := Lib.hid hrr
      have HL := Lib.hid hl
      have HAK := Lib.hid hak
      clear hu hua hal hak hrr hl
      by_cases q1 : l.length = 2
      · have q1b : ((l.length : Int) == 2) = true := by simp; omega
        have Q1 := Lib.hid q1
        clear q1
        by_cases q2 : r < 0
        · go_wp2_with fail
          refine HC.mono ?_
          rintro e w1 ⟨rfl, rfl⟩
          go_wp2_with fail
          refine (req_yes _).mono ?_
          rintro e w1 ⟨rfl, rfl⟩
          have x1 : wr.cell? ⟨c, 0, none⟩ = some (.int .i64 (l.getD 0 0)) := a2.cell (i := 0) (by have := Q1.out; omega)
          have x2 : wr.cell? ⟨c, 1, none⟩ = some (.int .i64 (l.getD 1 0)) := a2.cell (i := 1) (by have := Q1.out; omega)
          obtain ⟨x, hx⟩ : ∃ x, l.getD 0 0 = x := ⟨_, rfl⟩
          obtain ⟨y, hy⟩ : ∃ y, l.getD 1 0 = y := ⟨_, rfl⟩
          rw [hx] at x1
          rw [hy] at x2
          have HX := Lib.hid hx
          have HY := Lib.hid hy
          have l0 : 0 < l.length := by have := Q1.out; omega
          have l1 : 1 < l.length := by have := Q1.out; omega
          clear hx hy
          go_wp2_with fail
          go_quiet (fail)
          have bq : Below wr.heap.size wr (wr.drewN nq) := below_drewN (Below.refl _ _) _
          go_wp2_with fail
          refine (HA.out _).mono ?_
          rintro e w1 ⟨rfl, hb1⟩
          obtain ⟨zx, hzx⟩ : ∃ z, decide (0 ≤ x ∧ x < (N : Int)) = z := ⟨_, rfl⟩
          have H1 := HH.out x w1
          rw [hzx] at H1
          have HZX := Lib.hid hzx
          have c1 := bq.trans (hb1.mono bq.size)
          have g0 := (c1.cell (p := ⟨w.heap.size + 1 + 1 + 1, 0, none⟩) (by show _ + _ < _; omega)).trans g0
          have g1 := (c1.cell (p := ⟨w.heap.size + 1 + 1 + 1, 1, none⟩) (by show _ + _ < _; omega)).trans g1
          clear hzx hb1 bq
          go_wp2_with fail
          refine H1.mono ?_
          rintro e w2 ⟨rfl, rfl⟩
          cases zx with
          | false =>
            go_wp2_with fail
            refine (req_no _).mono ?_
            rintro e w2 ⟨rfl, rfl⟩
            go_wp2
            refine ⟨rfl, .inr ⟨fun ho => ?_, _, _, rfl⟩, hb.trans (c1.mono hb.size)⟩
            have := (ho.2.2 k hlt).1
            simp only at this
            rw [HL.out] at this
            obtain ⟨-, p1, p2, -, -⟩ := this
            rw [HX.out] at p1 p2
            have := HZX.out
            simp only [decide_eq_false_iff_not] at this
            exact this ⟨p1, p2⟩
          | true =>
            go_wp2_with fail
            refine (HA.out _).mono ?_
            rintro e w2 ⟨rfl, hb2⟩
            obtain ⟨zy, hzy⟩ : ∃ z, decide (0 ≤ y ∧ y < (N : Int)) = z := ⟨_, rfl⟩
            have H2 := HH.out y w2
            rw [hzy] at H2
            have HZY := Lib.hid hzy
            have c2 := c1.trans (hb2.mono c1.size)
            have lb1 := c1.size
            have g0 := (hb2.cell (p := ⟨w.heap.size + 1 + 1 + 1, 0, none⟩) (by show _ + _ < _; omega)).trans g0
            have g1 := (hb2.cell (p := ⟨w.heap.size + 1 + 1 + 1, 1, none⟩) (by show _ + _ < _; omega)).trans g1
            clear hzy hb2
            go_wp2_with fail
            refine H2.mono ?_
            rintro e w3 ⟨rfl, rfl⟩
            cases zy with
            | false =>
              go_wp2_with fail
              refine (req_no _).mono ?_
              rintro e w2 ⟨rfl, rfl⟩
              go_wp2
              refine ⟨rfl, .inr ⟨fun ho => ?_, _, _, rfl⟩, hb.trans (c2.mono hb.size)⟩
              have := (ho.2.2 k hlt).1
              simp only at this
              rw [HL.out] at this
              obtain ⟨-, -, -, p1, p2⟩ := this
              rw [HY.out] at p1 p2
              have := HZY.out
              simp only [decide_eq_false_iff_not] at this
              exact this ⟨p1, p2⟩
            | true =>
              go_wp2_with fail
              refine (req_yes _).mono ?_
              rintro e w3 ⟨rfl, rfl⟩
              have p1 := HZX.out
              have p2 := HZY.out
              simp only [decide_eq_true_eq] at p1 p2
              have hM2 := HM.out.below c2
              have hl2 := c2.size
              have D2 : Below w2.heap.size w2 w2.drew := (Below.refl _ _).drew
              obtain ⟨xn, rfl⟩ : ∃ n : Nat, x = (n : Int) := ⟨x.toNat, by omega⟩
              obtain ⟨yn, rfl⟩ : ∃ n : Nat, y = (n : Int) := ⟨y.toNat, by omega⟩
              obtain ⟨f, hf1', hf2'⟩ := hM2.below D2
              have hlook := hf1'.look (yn : Int) (Go.WalkArith.wf_i64 ⟨by omega, by omega⟩)
              have hfl : f (yn : Int) < 65536 := by
                rw [hf2']
                refine Nat.lt_of_lt_of_le (byF_lt (n := N) (fun l' hl' => ?_) yn) (Nat.le_trans (pow10 (by omega)) (by decide))
                obtain ⟨i, hi, ei⟩ := List.getElem_of_mem hl'
                have hi' : i < k := by simp at hi; omega
                have := (HK.out i hi').1
                have eg : L.getD i [] = (L.take k)[i] := by simp [List.getD, show i < L.length by omega]
                rw [eg, ei] at this
                exact this
              have HWq : Calls Tryd.prog 23 #[.int .u16 (f (yn : Int) : Int), .int .i64 (xn : Int)] w2.drew fun e w'' => e = .returned (.int .u16 ((f (yn : Int) ||| 2 ^ xn : Nat) : Int)) ∧ w'' = w2.drew :=
                (with_any (f (yn : Int)) (xn : Int) w2.drew hfl (by omega) (by omega)).mono (fun e w' h => ⟨h.1, h.2.symm⟩)
              obtain ⟨w3, hst, hM3, hg3⟩ := hf1'.store (by unfold maxLen; omega) (yn : Int) (Go.WalkArith.wf_i64 ⟨by omega, by omega⟩) (f (yn : Int) ||| 2 ^ xn) (by exact or_lt (n := 16) hfl (pow_lt16 (by omega)))
              have HF2 := Lib.hid hf2'
              have hdr : w2.heap.size = w2.drew.heap.size := rfl
              have g0' : w2.drew.cell? ⟨w.heap.size + 1 + 1 + 1, 0, none⟩ = some (.int .i64 (N : Int)) := g0
              have g1' : w2.drew.cell? ⟨w.heap.size + 1 + 1 + 1, 1, none⟩ = some (.map (some (w.heap.size + 1 + 1))) := g1
              clear hf2' hM2 hdr
              go_wp2_with fail
              refine wp_region_still_tail 9 (by kernel_rfl) (by kernel_rfl) ?_
              simp only [List.take_succ_cons, List.take_zero, List.drop_succ_cons, List.drop_zero]
              iterate 8 still_step
              refine wpStill_step (fun K hK => ?_)
              go_simp
              refine ⟨_, HWq, hK _ ?_⟩
              clear hK K HWq
              refine wpStill_nil ?_
              change wpList _ _ _ _ _ w2.drew
              go_wp2
              go_roundg (L.length - (k + 1))
              case measure => omega
              case rel =>
                have b2 := (hb.trans (c2.mono hb.size)).drew
                have b3 := b2.grown hg3 b2.size (fun j hj => by cases hj; omega)
                have K3 : Kept w2.drew w3 (fun q => q = w.heap.size + 1 + 1) := by
                  obtain ⟨r1, r2, r3, r4, r5⟩ := hg3
                  exact ⟨r1, r2, r3, r4, fun q hq hs => r5 q hq (by intro e; cases e; exact hs rfl)⟩
                have s3 : w2.heap.size ≤ w3.heap.size := K3.size
                have KC : ∀ q o v, q < wr.heap.size → q ≠ w.heap.size + 1 + 1 → wr.cell? ⟨q, o, none⟩ = some v → w3.cell? ⟨q, o, none⟩ = some v := fun q o v h1 h2 h3 =>
                  (K3.cell (p := ⟨q, o, none⟩) (by show q < w2.heap.size; omega) h2).trans (((c2.drew).cell (p := ⟨q, o, none⟩) h1).trans h3)
                have KF : ∀ q o, q < wr.heap.size → q ≠ w.heap.size + 1 + 1 → wr.frozen? ⟨q, o, none⟩ = false → w3.frozen? ⟨q, o, none⟩ = false := fun q o h1 h2 h3 =>
                  (World.frozen?_of_block (K3.block q (by show q < w2.heap.size; omega) h2)).trans (((c2.drew).frozen (p := ⟨q, o, none⟩) h1).trans h3)
                have ER : (if k + 1 = 0 then ([] : List Int) else L.getD (k + 1 - 1) []) = l := by rw [if_neg (by omega)]; exact HL.out
                refine ⟨k + 1, by omega, rfl, by simp, ?_, b3, by omega, (K3.cell (p := ⟨w.heap.size + 1 + 1 + 1, 0, none⟩) (by show _ + _ < w2.heap.size; omega) (by show ¬ _ + _ = _ + _; omega)).trans g0', (K3.cell (p := ⟨w.heap.size + 1 + 1 + 1, 1, none⟩) (by show _ + _ < w2.heap.size; omega) (by show ¬ _ + _ = _ + _; omega)).trans g1', KC _ _ _ (by omega) (by omega) y0, KC _ _ _ (by omega) (by omega) y1, KF _ _ (by omega) (by omega) z0, KF _ _ (by omega) (by omega) z1, ⟨_, hM3, fun y => ?_⟩, fun i hi => ?_⟩
                · rw [ER]
                  exact OwnI.row (w := w3) (World.rowIs.of_block (w := wr) a2 ((K3.block c (by show c < w2.heap.size; omega) (fun e => hcm e)).trans ((c2.drew).block c hcl))) l.length
                · have et : L.take (k + 1) = L.take k ++ [l] := by
                    rw [List.take_succ_eq_append_getElem hlt]
                    congr 2
                    rw [← HL.out]; simp [List.getD, hlt]
                  rw [et, byF_snoc, HX.out, HY.out, ← HF2.out]
                  by_cases e : y = (yn : Int)
                  · subst e; simp
                  · rw [if_neg e, if_neg (by omega)]
                · by_cases ei : i = k
                  · subst ei
                    have o1 : atkOk (N : Int) l := ⟨Q1.out, by rw [HX.out]; omega, by rw [HX.out]; omega, by rw [HY.out]; omega, by rw [HY.out]; omega⟩
                    refine ⟨by rw [HL.out]; exact o1, fun j hj => ?_⟩
                    rw [HL.out]
                    rcases HAK.out with ⟨e1, e2⟩ | ⟨e1, e2⟩
                    · omega
                    · have ej : j = i - 1 := by omega
                      rw [ej, ← e2]
                      have o2 := (HK.out (i - 1) (by omega)).1
                      rw [← e2] at o2
                      exact (lessL_key o2.1 Q1.out o2.2.2.2.1 (by have := o2.2.2.2.2; omega) o1.2.2.2.1 (by have := o1.2.2.2.2; omega)).1 (by rw [HR.out]; exact q2)
                  · exact HK.out i (by omega)
        · have q2b : decide (r < 0) = false := by simpa using q2
          go_wp2_with fail
          refine HC.mono ?_
          rintro e w1 ⟨rfl, rfl⟩
          go_wp2_with fail
          refine (req_no _).mono ?_
          rintro e w1 ⟨rfl, rfl⟩
          go_wp2
          refine ⟨rfl, .inr ⟨fun ho => ?_, _, _, rfl⟩, hb⟩
          obtain ⟨o1, o2, o3⟩ := ho
          have o4 := o3 k hlt
          simp only at o4
          rw [HL.out] at o4
          rcases HAK.out with ⟨e1, e2⟩ | ⟨e1, e2⟩
          · have := lessL_nil Q1.out
            rw [← e2, HR.out] at this
            omega
          · have o5 := (o3 (k - 1) (by show k - 1 < L.length; omega)).1
            have o6 := o4.2 (k - 1) (by omega)
            simp only at o5 o6
            rw [← e2] at o5 o6
            obtain ⟨o7, -, -, p1, p2⟩ := o5
            obtain ⟨⟨-, -, -, p3, p4⟩, -⟩ := o4
            have := (lessL_key (a := a) (b := l) o7 Q1.out p1 (by omega) p3 (by omega)).2 o6
            rw [HR.out] at this
            omega
      · have q1b : ((l.length : Int) == 2) = false := by simp; omega
        have Q1 := Lib.hid q1
        clear HC q1
        go_wp2_with fail
        refine (req_no _).mono ?_
        rintro e w1 ⟨rfl, rfl⟩
        go_wp2
        refine ⟨rfl, .inr ⟨fun ho => ?_, _, _, rfl⟩, hb⟩
        have := (ho.2.2 k hlt).1.1
        simp only at this
        rw [HL.out] at this
        exact Q1.out this
    · obtain rfl : k = L.length := by omega
      obtain ⟨f, hM1, hM2⟩ := HM.out
      rw [List.take_length] at hM2
      have HM2 := Lib.hid hM2
      clear hM2
      go_wp2
      refine bodyPost_ret (v := .agg #[.int .i64 (N : Int), .map (some (w.heap.size + 1 + 1))]) (by simp [results, Tryd.results12, go_sem, y0, y1]) rfl ⟨.inl ⟨⟨by show (0 : Int) ≤ N; omega, by show (N : Int) ≤ 10; omega, HK.out⟩, _, rfl, ⟨?_, ?_, by show (N : Int).toNat ≤ 10; omega⟩⟩, ?_⟩
      · exact ⟨_, f, (hM1.setCell (by show _ + _ ≠ _ + _; omega) _).setCell (by show _ + _ ≠ _ + _; omega) _, HM2.out⟩
      · intro l hl
        obtain ⟨i, hi, ei⟩ := List.getElem_of_mem hl
        have := (HK.out i hi).1
        have eg : L.getD i [] = L[i] := by simp [List.getD, hi]
        rw [eg, ei] at this
        exact this
      · exact (hb.setCell (by show _ ≤ _ + _; omega) _).setCell (by show _ ≤ _ + _; omega) _
theorem graphof (X : Fm) (b hi : Nat) (w : World) (h : FmR w b hi X) :
    Calls Tryd.prog 12 #[.agg #[.int .i64 X.1, .slice (some ⟨b, 0, none⟩) X.2.length X.2.length]] w (GrOf X w) := graphofX X b _ w h.toX
end Go.Proofs.YtllfopbpchjhpaaDoor
