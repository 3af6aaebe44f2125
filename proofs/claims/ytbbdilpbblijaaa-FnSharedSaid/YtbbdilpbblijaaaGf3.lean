/- The program's insertion sort of indices by decreasing values. -/
import Derived.Test.YtbbdilpbblijaaaGf2
import Derived.Test.YtbbdilpbblijaaaEl2
namespace Go.Proofs.Ytbbdilpbblijaaa
open Go.ChangeShapes Go.WideShapes Go.ChangeAt Go.RowKit Go.Deep
set_option linter.unusedSimpArgs false
set_option linter.unusedVariables false
abbrev vOf (V : List Int) : Nat → Int := fun k => V.getD k 0
/-- The row of indices when the first m are sorted. -/
def gfR (V : List Int) (m k : Nat) : Nat := if k < m then (gfL (vOf V) m).getD k 0 else k
theorem cmpJ_lt (x y : Int) : cmpJ x y < 0 ↔ x < y := by unfold cmpJ; split <;> (try split) <;> omega
theorem keptD {w : World} {S : Nat → Prop} (n : Nat) : Kept w (w.drewN n) S := Kept.ofBelow (below_drewN (Below.refl _ _) n)
set_option maxHeartbeats 4000000 in
set_option maxRecDepth 100000 in
theorem gsort (V : List Int) (lv : Value) (p D cap : Nat) (w : World) (hp : w.cell? ⟨p, 0, none⟩ = some lv) (hpl : p < w.heap.size) (hpD : p ≠ D) (hv : RowV w lv V) (hvD : lv.ownBlock ≠ some D) (hV : V.length ≤ 20)
    (hr : w.rowIs D 3 V.length (fun k => .int .i64 (k : Int))) :
    Calls Try.prog 23 #[.slice (some ⟨D, 0, none⟩) V.length cap, .int .i64 0, .int .i64 (V.length : Int), .func (.func 17) #[] #[.pointer (some ⟨p, 0, none⟩)]] w fun e w' =>
      e = .returned (.tuple #[]) ∧ w'.rowIs D 3 V.length (fun k => .int .i64 (gfR V V.length k : Int)) ∧ Kept w w' (fun b => b = D) := by
  have hGS : ∀ m k, k < m → m ≤ V.length → (gfL (vOf V) m).getD k 0 < V.length := fun m k hk hm => by
    have : (gfL (vOf V) m).getD k 0 ∈ gfL (vOf V) m := by
      have hl := gfL_len (vOf V) m
      have : (gfL (vOf V) m).getD k 0 = (gfL (vOf V) m)[k]'(by omega) := by simp [List.getD, hl, hk]
      rw [this]; exact List.getElem_mem _
    have := (mem_gfL _ _ _).1 this
    omega
  have HG := Lib.hid hGS
  have hst : Hid (w.rowIs D 3 V.length (fun k => .int .i64 (gfR V 1 k : Int))) := Lib.hid (hr.congr fun k _ => by
    unfold gfR
    by_cases h : k < 1
    · obtain rfl : k = 0 := by omega
      simp [gfL, gins]
    · rw [if_neg h])
  have hst0 : Hid (V.length = 0 → w.rowIs D 3 V.length (fun k => .int .i64 (gfR V V.length k : Int))) := Lib.hid (fun e => hr.congr fun k hk => by omega)
  clear hGS hr
  go_enter Try.func23, Try.ntmps23
  go_wp2
  go_loopg [8] V.length (fun g i wr => ∃ m : Nat, 1 ≤ m ∧ (m ≤ V.length ∨ m = 1) ∧ g = V.length + 1 - m ∧ i = .int .i64 m ∧ wr.rowIs D 3 V.length (fun k => .int .i64 (gfR V m k : Int)) ∧ Kept w wr (fun b => b = D))
  case atStart => exact ⟨1, Nat.le_refl _, .inr rfl, by omega, rfl, hst.out, Kept.refl _ _⟩
  case round =>
    obtain ⟨m, hm1, hm2, rfl, rfl, hro, hk⟩ := hrel
    by_cases hlt : m < V.length
    · go_wp2
      go_loopg [9] m (fun g jv wi => ∃ j : Nat, j ≤ m ∧ j = g ∧ jv = .int .i64 j ∧ wi.rowIs D 3 V.length (fun k => .int .i64 (mvR (gfL (vOf V) m) m j k : Int)) ∧ Kept w wi (fun b => b = D) ∧ Hid (j < m → vOf V ((gfL (vOf V) m).getD j 0) < vOf V m))
      case atStart => exact ⟨m, Nat.le_refl _, rfl, rfl, hro.congr (fun k _ => by rw [mvR_start _ _ _ (gfL_len _ _)]; unfold gfR; rfl), hk, fun h => absurd h (by omega)⟩
      case round =>
        clear hro hk
        obtain ⟨j, hj, rfl, rfl, hro, hk, HJ⟩ := hrel
        have hgl := gfL_len (vOf V) m
        have hse : ∀ k, (0 < j → vOf V m ≤ vOf V ((gfL (vOf V) m).getD (j - 1) 0)) → mvR (gfL (vOf V) m) m j k = gfR V (m + 1) k := fun k h => by
          rw [mvR_end (vOf V) _ m j hgl hj (gfL_sorted _ _) h HJ.out k]; unfold gfR; rfl
        have HSE := Lib.hid hse
        have HGL := Lib.hid hgl
        clear hse hgl
        by_cases hj0 : j = 0
        · have hn0 : ¬ 0 < j := by omega
          have hro2 : wr.rowIs D 3 V.length (fun k => .int .i64 (gfR V (m + 1) k : Int)) := hro.congr fun k _ => by rw [HSE.out k (fun h => absurd h hn0)]
          have HJ0 := Lib.hid hj0
          clear hj0 hro
          go_wp2_with fail
          go_quiet (fail)
          go_wp2
          go_roundg (V.length + 1 - (m + 1))
          case measure => omega
          case rel => exact ⟨m + 1, by omega, by omega, rfl, by simp, World.rowIs.of_block hro2 rfl, hk.trans (keptD _)⟩
        · obtain ⟨j', hjj⟩ : ∃ j', j = j' + 1 := ⟨j - 1, by omega⟩
          have hjp : 0 < j := by omega
          have c1 : wr.cell? ⟨D, j, none⟩ = some (.int .i64 (m : Int)) := by
            rw [hro.cell (i := j) (by omega)]; simp [mvR]
          have c2 : wr.cell? ⟨D, j', none⟩ = some (.int .i64 ((gfL (vOf V) m).getD j' 0 : Int)) := by
            rw [hro.cell (i := j') (by omega)]; simp [mvR, show j' < j by omega]
          have f1 : wr.frozen? ⟨D, j, none⟩ = false := hro.frozen _
          have f2 : wr.frozen? ⟨D, j', none⟩ = false := hro.frozen _
          have hq := HG.out m j' (by omega) (by omega)
          obtain ⟨q, hqq⟩ : ∃ q, (gfL (vOf V) m).getD j' 0 = q := ⟨_, rfl⟩
          rw [hqq] at c2 hq
          have pl' : p < wr.heap.size := Nat.lt_of_lt_of_le hpl hk.size
          have hpc := (hk.cell (p := ⟨p, 0, none⟩) hpl hpD).trans hp
          have hvr : RowV wr lv V := hv.kept hk (fun k e => by intro q; subst q; exact hvD e)
          have HC : ∀ n, Calls Try.prog 17 #[.int .i64 (m : Int), .int .i64 (q : Int), .pointer (some ⟨p, 0, none⟩)] (wr.drewN n) fun e w' => e = .returned (.int .i64 (cmpJ (V.getD q 0) (V.getD m 0))) ∧ Drw (wr.drewN n) w' := fun n =>
            gcmp V lv p m q (wr.drewN n) (by simpa using hpc) (hvr.below (below_drewN (Below.refl _ _) n)) hlt hq
          have hcl := cmpJ_lt (V.getD q 0) (V.getD m 0)
          obtain ⟨z, hz⟩ : ∃ z, cmpJ (V.getD q 0) (V.getD m 0) = z := ⟨_, rfl⟩
          rw [hz] at HC hcl
          have HCL := Lib.hid hcl
          have wk1 : IntKind.i64.wrap ((j : Int) - 1) = j' := by rw [IntKind.wrap_i64]; omega
          have wk2 : (j : Int) - 1 = j' := by omega
          have wk3 : IntKind.i64.wrap (j' : Int) = j' := by rw [IntKind.wrap_i64]; omega
          have hj'n : j' < V.length := by omega
          have hjn : j < V.length := by omega
          have HJJ := Lib.hid hjj
          have HQ := Lib.hid hqq
          have HVR := Lib.hid hvr
          clear hz hcl hqq hvr hjj hpc hj0
          by_cases hc : z < 0
          · go_wp2_with fail
            go_quiet ((first | (go_at_call 17; exact Drw.quiet (HC _))))
            go_wp2_with fail
            go_region_with (fail)
            all_goals
              go_wp2
              go_roundg j'
              case measure => omega
              case rel =>
                refine ⟨j', by omega, rfl, rfl, (((World.rowIs.of_block hro rfl).set j _).set j' _).congr (fun k _ => ?_), ((hk.trans (keptD _)).trans (Kept.set _ _ _ rfl)).trans (Kept.set _ _ _ rfl), fun _ => ?_⟩
                · have hs := mvR_step (gfL (vOf V) m) m j' k (by have := HJJ.out; omega)
                  rw [← HJJ.out] at hs
                  rw [hs]
                  have e1 : mvR (gfL (vOf V) m) m j j = m := by simp [mvR]
                  have e2 : mvR (gfL (vOf V) m) m j j' = q := by rw [← HQ.out]; simp [mvR, show j' < j by have := HJJ.out; omega]
                  rw [e1, e2]
                  by_cases k1 : k = j'
                  · rw [if_pos k1, if_pos k1]
                  · rw [if_neg k1, if_neg k1]
                    by_cases k2 : k = j
                    · rw [if_pos k2, if_pos k2]
                    · rw [if_neg k2, if_neg k2]
                · rw [HQ.out]
                  exact HCL.out.1 hc
          · have hro2 : wr.rowIs D 3 V.length (fun k => .int .i64 (gfR V (m + 1) k : Int)) := hro.congr fun k _ => by
              rw [HSE.out k (fun _ => by
                have e : j - 1 = j' := by have := HJJ.out; omega
                rw [e, HQ.out]
                have := HCL.out
                show V.getD m 0 ≤ V.getD q 0
                omega)]
            clear hro
            go_wp2_with fail
            go_quiet ((first | (go_at_call 17; exact Drw.quiet (HC _))))
            go_wp2
            go_roundg (V.length + 1 - (m + 1))
            case measure => omega
            case rel => exact ⟨m + 1, by omega, by omega, rfl, by simp, World.rowIs.of_block hro2 rfl, hk.trans (keptD _)⟩
    · go_wp2
      go_end0
      refine ⟨rfl, hro.congr fun k hk2 => ?_, hk⟩
      have : m = V.length := by omega
      rw [this]
end Go.Proofs.Ytbbdilpbblijaaa
