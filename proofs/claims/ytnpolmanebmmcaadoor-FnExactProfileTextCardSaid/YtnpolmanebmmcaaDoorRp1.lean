/- Whether a list is a ranking, whether a profile is valid: the specification's look. -/
import Derived.Test.YtnpolmanebmmcaaDoorRf3
import Derived.Test.YtnpolmanebmmcaaDoorPo3
import Derived.Test.YtnpolmanebmmcaaDoorDf1
namespace Go.Proofs.YtnpolmanebmmcaaDoor
open Go.ChangeShapes Go.WideShapes Go.ChangeAt Go.RowKit Go.Deep
set_option linter.unusedSimpArgs false
set_option linter.unusedVariables false
set_option maxRecDepth 100000 in
theorem infoBool : (Tryd.prog.info? 4).map (fun i => (i.zero, i.size, i.bytes)) = some (some (.bool false), 1, 1) := by kernel_rfl
/-- A ranking of n options: each number below n once. -/
def rkOk (n : Nat) (l : List Int) : Prop := l.length = n ∧ allDiff n l
noncomputable def rkB (n : Nat) (l : List Int) : Bool := @decide (rkOk n l) (Classical.propDecidable _)
theorem rkB_iff {n : Nat} {l : List Int} : rkB n l = true ↔ rkOk n l := by simp [rkB]
theorem rkB_yes {n : Nat} {l : List Int} (h : rkOk n l) : rkB n l = true := by simp [rkB, h]
theorem rkB_no {n : Nat} {l : List Int} (h : ¬ rkOk n l) : rkB n l = false := by simp [rkB, h]
def pOk (X : Pr) : Prop := 1 ≤ X.1.length ∧ X.1.length ≤ 12 ∧ X.2.length = X.1.length ∧ 1 ≤ (X.1.getD 0 []).length ∧ (X.1.getD 0 []).length ≤ 6 ∧ ∀ k, k < X.1.length → rkOk (X.1.getD 0 []).length (X.1.getD k []) ∧ 0 ≤ X.2.getD k 0 ∧ X.2.getD k 0 ≤ 1000
noncomputable def pOkB (X : Pr) : Bool := @decide (pOk X) (Classical.propDecidable _)
theorem pOkB_iff {X : Pr} : pOkB X = true ↔ pOk X := by simp [pOkB]
theorem pOkB_yes {X : Pr} (h : pOk X) : pOkB X = true := by simp [pOkB, h]
theorem pOkB_no {X : Pr} (h : ¬ pOk X) : pOkB X = false := by simp [pOkB, h]
set_option maxHeartbeats 1000000 in
set_option maxRecDepth 100000 in
theorem srank (v : Value) (l : List Int) (n : Nat) (w : World) (h : RowV w v l) (hl : l.length ≤ 1048576) (hn : n ≤ 1048576) :
    Calls Tryd.prog 23 #[v, .int .i64 (n : Int)] w fun e w' => e = .returned (.bool (rkB n l)) ∧ Below w.heap.size w w' := by
  by_cases hne : l.length = n
  · have hmk := run_make_row' (P := Tryd.prog) 55 4 (.bool false) 1 Tryd.underlying55 infoBool rfl .i64 .i64 n (by omega) (by omega)
    have hb0 := (Below.refl w.heap.size w).alloc (Nat.le_refl _) (.cells (madeCells #[.bool false] n) 4)
    have hG0 : (w.alloc (.cells (madeCells #[.bool false] n) 4)).rowIs w.heap.size 4 n (fun j => .bool (decide ((j : Int) ∈ l.take 0))) := (World.rowIs_made w _ _ _).congr (fun j _ => by simp)
    by_cases e : l = []
    · subst e
      simp only [List.length_nil] at hne
      subst hne
      obtain ⟨a, cap, rfl⟩ := h.shape
      have hmk : ∀ w, (Instr.makeSlice 55 (.int .i64 0) (.int .i64 0)).run Tryd.prog w = .ok (.slice (some ⟨w.heap.size, 0, none⟩) 0 0) (w.alloc (.cells (madeCells #[.bool false] 0) 4)) :=
        run_make_row' (P := Tryd.prog) 55 4 (.bool false) 1 Tryd.underlying55 infoBool rfl .i64 .i64 0 (by omega) (by omega)
      clear h hG0
      change Calls Tryd.prog 23 #[.slice a 0 cap, .int .i64 0] w _
      go_enter Tryd.func23, Tryd.ntmps23
      go_wp2
      go_loopg [6] 0 (fun g i wr => i = .int .i64 0 ∧ Below w.heap.size w wr)
      case atStart => exact ⟨rfl, hb0⟩
      case round =>
        obtain ⟨rfl, hb⟩ := hrel
        clear hmk
        go_wp2
        go_ret
        exact ⟨by rw [rkB_yes (n := 0) ⟨rfl, fun m hm => absurd hm (Nat.not_lt_zero _)⟩]; rfl, hb⟩
    · obtain ⟨x, cp, rfl, hx, hc⟩ := h.cons e
      subst hne
      clear h
      have wq : IntKind.i64.wrap ((l.length : Int) - 1) = (l.length : Int) - 1 := by rw [IntKind.wrap_i64]; omega
      have hxb : ∀ k, (x.add k).block ≠ w.heap.size := fun k => by rw [block_add]; omega
      go_enter Tryd.func23, Tryd.ntmps23
      go_wp2
      go_loopg [6] l.length (fun g i wr => ∃ k : Nat, k ≤ l.length ∧ g = l.length - k ∧ i = .int .i64 k ∧ Below w.heap.size w wr ∧ wr.rowIs w.heap.size 4 l.length (fun j => .bool (decide ((j : Int) ∈ l.take k))) ∧ Hid (∀ m, m < k → 0 ≤ l.getD m 0 ∧ l.getD m 0 < (l.length : Int) ∧ ¬ l.getD m 0 ∈ l.take m))
      case atStart => exact ⟨0, Nat.zero_le _, rfl, rfl, hb0, hG0, fun j hj => absurd hj (Nat.not_lt_zero _)⟩
      case round =>
        clear hmk hb0 hG0
        obtain ⟨k, hk, rfl, rfl, hb, hG, H⟩ := hrel
        by_cases hlt : k < l.length
        · have c1 := (hb.cell (p := x.add k) (by rw [block_add]; exact hx)).trans (hc k hlt)
          obtain ⟨y, hy⟩ : ∃ y, l.getD k 0 = y := ⟨_, rfl⟩
          rw [hy] at c1
          have HY := Lib.hid hy
          clear hy hc
          by_cases hin : 0 ≤ y ∧ y ≤ (l.length : Int) - 1
          · have i2 := inB_yes hin.1 hin.2
            obtain ⟨m, hm⟩ : ∃ m : Nat, y = m := ⟨y.toNat, by omega⟩
            subst hm
            have hml : m < l.length := by omega
            have c2 := hG.cell (i := m) hml
            have f2 := hG.frozen m
            obtain ⟨z, hz⟩ : ∃ z, decide ((m : Int) ∈ l.take k) = z := ⟨_, rfl⟩
            rw [hz] at c2
            have HZ := Lib.hid hz
            clear hz
            cases z with
            | true =>
              go_wp2_with (go_at_call 21; refine (in_val _ _ _ _).mono ?_; rintro e w1 ⟨rfl, rfl⟩)
              go_ret
              exact ⟨by rw [rkB_no (fun ho => by have := ho.2 k hlt; rw [HY.out] at this; exact this.2.2 (of_decide_eq_true HZ.out))]; rfl, hb⟩
            | false =>
              have hS := hG.set m (.bool true)
              have hbS := hb.setCell (p := ⟨w.heap.size, m, none⟩) (Nat.le_refl _) (.bool true)
              have HS := Lib.hid hS
              have HBS := Lib.hid hbS
              clear hS hbS
              go_wp2_with (go_at_call 21; refine (in_val _ _ _ _).mono ?_; rintro e w1 ⟨rfl, rfl⟩)
              go_roundg (l.length - (k + 1))
              case measure => omega
              case rel =>
                refine ⟨k + 1, by omega, rfl, by simp, HBS.out, ?_, fun j hj => ?_⟩
                · have et : l.take (k + 1) = l.take k ++ [(m : Int)] := by
                    rw [List.take_add_one]
                    congr 1
                    have := HY.out
                    simp [List.getD, hlt] at this
                    simp [hlt, this]
                  refine HS.out.congr fun j _ => ?_
                  rw [et]
                  by_cases q : j = m
                  · subst q; simp
                  · have q' : ¬ (j : Int) = m := by omega
                    simp [q, q']
                · by_cases ej : j = k
                  · subst ej
                    rw [HY.out]
                    exact ⟨by omega, by omega, of_decide_eq_false HZ.out⟩
                  · exact H.out j (by omega)
          · have i2 := inB_no hin
            have HIN := Lib.hid hin
            clear hin
            go_wp2_with (go_at_call 21; refine (in_val _ _ _ _).mono ?_; rintro e w1 ⟨rfl, rfl⟩)
            go_ret
            exact ⟨by rw [rkB_no (fun ho => by have := ho.2 k hlt; rw [HY.out] at this; exact HIN.out (by omega))]; rfl, hb⟩
        · have e : k = l.length := by omega
          subst e
          go_wp2
          go_ret
          exact ⟨by rw [rkB_yes ⟨rfl, H.out⟩]; rfl, hb⟩
  · obtain ⟨a, cap, rfl⟩ := h.shape
    clear h
    have HN := Lib.hid hne
    have hne' : ¬ (l.length : Int) = (n : Int) := by omega
    go_enter Tryd.func23, Tryd.ntmps23
    go_wp2
    go_ret
    exact ⟨by rw [rkB_no (fun ho => HN.out ho.1)]; rfl, Below.refl _ _⟩
end Go.Proofs.YtnpolmanebmmcaaDoor
