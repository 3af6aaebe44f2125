/- areDifferentMembers and the program's ValidVoices by their contracts. -/
import Derived.Test.YtlpidgdlbannbabDoorVo7
import Derived.Maps.Own
import Derived.Maps.OwnSet
import Derived.Maps.Views
namespace Go.Proofs.YtlpidgdlbannbabDoor
open Go.ChangeShapes Go.WideShapes Go.ChangeAt Go.RowKit Go.Deep Go.Maps
set_option linter.unusedSimpArgs false
set_option linter.unusedVariables false
set_option maxRecDepth 100000
abbrev TM : TypeId := 64
theorem keyI : Keyed Tryd.prog 2 := int_keyed Tryd.underlying2
theorem zeroB (w : World) : (zeroValue 4).run Tryd.prog w = .ok (.bool false) w := by kernel_rfl
/-- The call's own set holds just the numbers of l. -/
def SetIs (w : World) (b n : Nat) (l : List Int) : Prop :=
  ∃ D : DataW Unit, w.ownsMap Tryd.prog 2 (plainElem Tryd.prog 4) b n D ∧ ∀ y : Int, D.atKey (.int .i64 y) (.lit (.bool false)) = .lit (.bool (decide (y ∈ l)))
theorem bool_inv {v : Value} {z : DataW Unit × List MemPlace} (h : plainElem Tryd.prog 4 v = some z) : ∃ x, v = .bool x ∧ z.1 = .lit (.bool x) := by
  unfold plainElem at h
  rw [Tryd.underlying4] at h
  cases v <;> simp at h
  subst h
  exact ⟨_, rfl, rfl⟩
theorem SetIs.look {w : World} {b n : Nat} {l : List Int} (h : SetIs w b n l) (y : Int) (hy : (Lit.int .i64 y).wf = true) :
    (Instr.lookup TM (.map (some b)) (.int .i64 y) false).run Tryd.prog w = .ok (.bool (decide (y ∈ l))) w := by
  obtain ⟨D, h, hD⟩ := h
  obtain ⟨v, ps, hrun, hv⟩ := h.lookup keyI Tryd.underlying64 (zeroB w) (plainElem_bool Tryd.underlying4 false) (keyOf_int_mk Tryd.underlying2 hy)
  obtain ⟨x, rfl, hx⟩ := bool_inv hv
  have e : (DataW.lit (Lit.bool (decide (y ∈ l))) : DataW Unit) = .lit (.bool x) := (hD y).symm.trans hx
  injection e with e
  injection e with e
  rw [hrun, e]
theorem SetIs.store {w : World} {b n : Nat} {l : List Int} (h : SetIs w b n l) (hn : n < maxLen) (y : Int) (hy : (Lit.int .i64 y).wf = true) :
    ∃ w', (Instr.mapUpdate TM (.map (some b)) (.int .i64 y) (.bool true)).run Tryd.prog w = .ok () w' ∧ SetIs w' b (n + 1) (l ++ [y]) ∧ w.grownBy w' (some b) := by
  obtain ⟨D, h, hD⟩ := h
  obtain ⟨w', hrun, h', hg⟩ := h.update keyI Tryd.underlying64 hn (keyOf_int_mk Tryd.underlying2 hy) (plainElem_bool Tryd.underlying4 true)
  refine ⟨w', hrun, ⟨_, h', fun z => ?_⟩, hg⟩
  by_cases e : z = y
  · subst e
    rw [atKey_put_same h.isMap (by exact trivial)]
    simp
  · rw [atKey_put_other (by intro q; injection q; contradiction), hD]
    simp [e]
/-- The elements of l are numbers of n members, no two alike. -/
def allDiff (n : Nat) (l : List Int) : Prop := ∀ m, m < l.length → 0 ≤ l.getD m 0 ∧ l.getD m 0 < (n : Int) ∧ ¬ l.getD m 0 ∈ l.take m
noncomputable def allDiffB (n : Nat) (l : List Int) : Bool := @decide (allDiff n l) (Classical.propDecidable _)
theorem allDiffB_yes {n : Nat} {l : List Int} (h : allDiff n l) : allDiffB n l = true := by simp [allDiffB, h]
theorem allDiffB_no {n : Nat} {l : List Int} (h : ¬ allDiff n l) : allDiffB n l = false := by simp [allDiffB, h]
set_option maxHeartbeats 1000000 in
set_option maxRecDepth 100000 in
theorem diff_any (a : Option Addr) (n cap : Nat) (v : Value) (l : List Int) (w : World) (h : RowV w v l) (hl : l.length ≤ 1048576) (hn : n ≤ 1048576) :
    Calls Tryd.prog 27 #[.slice a n cap, v] w fun e w' => e = .returned (.bool (allDiffB n l)) ∧ Below w.heap.size w w' := by
  have hmm := @run_makeMap Tryd.prog
  have hb0 := (Below.refl w.heap.size w).alloc (Nat.le_refl _) (.map #[] 0)
  have hS0 : SetIs (w.alloc (.map #[] 0)) w.heap.size 0 [] := ⟨_, World.ownsMap_made w _ _ _, fun y => by simp [WideAt.atKey_none]⟩
  by_cases e : l = []
  · subst e
    obtain ⟨a', cap', rfl⟩ := h.shape
    clear h hS0
    go_enter Tryd.func27, Tryd.ntmps27
    go_wp2
    go_loopg [11] 0 (fun g i wr => i = .int .i64 0 ∧ Below w.heap.size w wr)
    case atStart => exact ⟨rfl, hb0⟩
    case round =>
      obtain ⟨rfl, hb⟩ := hrel
      go_wp2
      go_ret
      exact ⟨by rw [allDiffB_yes (fun m hm => absurd hm (Nat.not_lt_zero _))]; rfl, hb⟩
  · obtain ⟨x, cp, rfl, hx, hc⟩ := h.cons e
    clear h
    go_enter Tryd.func27, Tryd.ntmps27
    go_wp2
    go_loopg [11] l.length (fun g i wr => ∃ k : Nat, k ≤ l.length ∧ g = l.length - k ∧ i = .int .i64 k ∧ Below w.heap.size w wr ∧ SetIs wr w.heap.size k (l.take k) ∧ Hid (∀ m, m < k → 0 ≤ l.getD m 0 ∧ l.getD m 0 < (n : Int) ∧ ¬ l.getD m 0 ∈ l.take m))
    case atStart => exact ⟨0, Nat.zero_le _, rfl, rfl, hb0, by simpa using hS0, fun j hj => absurd hj (Nat.not_lt_zero _)⟩
    case round =>
      clear hmm hb0 hS0
      obtain ⟨k, hk, rfl, rfl, hb, hS, H⟩ := hrel
      by_cases hlt : k < l.length
      · have c1 := (hb.cell (p := x.add k) (by rw [block_add]; exact hx)).trans (hc k hlt)
        obtain ⟨y, hy⟩ : ∃ y, l.getD k 0 = y := ⟨_, rfl⟩
        rw [hy] at c1
        have HY := Lib.hid hy
        clear hy hc
        by_cases h1 : y < 0
        · go_wp2
          go_ret
          exact ⟨by rw [allDiffB_no (fun ho => by have := ho k hlt; rw [HY.out] at this; omega)]; rfl, hb⟩
        · by_cases h2 : (n : Int) ≤ y
          · go_wp2
            go_ret
            exact ⟨by rw [allDiffB_no (fun ho => by have := ho k hlt; rw [HY.out] at this; omega)]; rfl, hb⟩
          · have hwf : (Lit.int .i64 y).wf = true := Go.WalkArith.wf_i64 ⟨by omega, by omega⟩
            have hlook := hS.look y hwf
            obtain ⟨w2, hst, hS2, hg2⟩ := hS.store (by unfold maxLen; omega) y hwf
            obtain ⟨z, hz⟩ : ∃ z, decide (y ∈ l.take k) = z := ⟨_, rfl⟩
            rw [hz] at hlook
            have HZ := Lib.hid hz
            clear hz
            cases z with
            | true =>
              clear hst hS2 hg2
              go_wp2
              go_ret
              exact ⟨by rw [allDiffB_no (fun ho => by have := ho k hlt; rw [HY.out] at this; exact this.2.2 (of_decide_eq_true HZ.out))]; rfl, hb⟩
            | false =>
              go_wp2
              go_roundg (l.length - (k + 1))
              case measure => omega
              case rel =>
                refine ⟨k + 1, by omega, rfl, by simp, hb.grown hg2 hb.size (fun j hj => by cases hj; exact Nat.le_refl _), ?_, fun j hj => ?_⟩
                · have et : l.take (k + 1) = l.take k ++ [y] := by
                    rw [List.take_add_one]
                    congr 1
                    have := HY.out
                    simp [List.getD, hlt] at this
                    simp [hlt, this]
                  rw [et]; exact hS2
                · by_cases ej : j = k
                  · subst ej
                    rw [HY.out]
                    exact ⟨by omega, by omega, of_decide_eq_false HZ.out⟩
                  · exact H.out j (by omega)
      · have e : k = l.length := by omega
        subst e
        go_wp2
        go_ret
        exact ⟨by rw [allDiffB_yes H.out]; rfl, hb⟩
end Go.Proofs.YtlpidgdlbannbabDoor
