/- Members of a list of shares, on both sides. -/
import Derived.Test.YtlpidgdlbannbaaSh7
import Derived.Test.YtlpidgdlbannbaaK3
import Derived.Test.YtlpidgdlbannbaaVr2
namespace Go.Proofs.Ytlpidgdlbannbaa
open Go.ChangeShapes Go.WideShapes Go.ChangeAt Go.RowKit Go.Deep Go.Maps
set_option linter.unusedSimpArgs false
set_option linter.unusedVariables false
set_option maxHeartbeats 1000000 in
set_option maxRecDepth 100000 in
theorem diff_anyS (a : Option Addr) (n cap : Nat) (v : Value) (l : List Int) (w : World) (h : RowV w v l) (hl : l.length ≤ 1048576) (hn : n ≤ 1048576) :
    Calls Try.prog 119 #[.slice a n cap, v] w fun e w' => e = .returned (.bool (allDiffB n l)) ∧ Below w.heap.size w w' := by
  have hmm := @run_makeMap Try.prog
  have hb0 := (Below.refl w.heap.size w).alloc (Nat.le_refl _) (.map #[] 0)
  have hS0 : SetIs (w.alloc (.map #[] 0)) w.heap.size 0 [] := ⟨_, World.ownsMap_made w _ _ _, fun y => by simp [WideAt.atKey_none]⟩
  by_cases e : l = []
  · subst e
    obtain ⟨a', cap', rfl⟩ := h.shape
    clear h hS0
    go_enter Try.func119, Try.ntmps119
    go_wp2
    go_loopg [11] 0 (fun g i wr => i = .int .i64 0 ∧ Below w.heap.size w wr)
    case atStart => exact ⟨rfl, hb0⟩
    case round =>
      obtain ⟨rfl, hb⟩ := hrel
      go_wp2
      go_ret
      exact ⟨by rw [allDiffB_yes (fun m hm => absurd hm (Nat.not_lt_zero _))]; rfl, hb⟩
  · obtain ⟨x, cp, rfl, hx, hc⟩ := h.cons e
    clear h
    go_enter Try.func119, Try.ntmps119
    go_wp2
    go_loopg [11] l.length (fun g i wr => ∃ k : Nat, k ≤ l.length ∧ g = l.length - k ∧ i = .int .i64 k ∧ Below w.heap.size w wr ∧ SetIs wr w.heap.size k (l.take k) ∧ Hid (∀ m, m < k → 0 ≤ l.getD m 0 ∧ l.getD m 0 < (n : Int) ∧ ¬ l.getD m 0 ∈ l.take m))
    case atStart => exact ⟨0, Nat.zero_le _, rfl, rfl, hb0, by simpa using hS0, fun j hj => absurd hj (Nat.not_lt_zero _)⟩
    case round =>
      clear hmm hb0 hS0
      obtain ⟨k, hk, rfl, rfl, hb, hS, H⟩ := hrel
      by_cases hlt : k < l.length
      · have c1 := (hb.cell (p := x.add k) (by rw [block_add]; exact hx)).trans (hc k hlt)
        obtain ⟨y, hy⟩ : ∃ y, l.getD k 0 = y := ⟨_, rfl⟩
        rw [hy] at c1
        have HY := Lib.hid hy
        clear hy hc
        by_cases h1 : y < 0
        · go_wp2
          go_ret
          exact ⟨by rw [allDiffB_no (fun ho => by have := ho k hlt; rw [HY.out] at this; omega)]; rfl, hb⟩
        · by_cases h2 : (n : Int) ≤ y
          · go_wp2
            go_ret
            exact ⟨by rw [allDiffB_no (fun ho => by have := ho k hlt; rw [HY.out] at this; omega)]; rfl, hb⟩
          · have hwf : (Lit.int .i64 y).wf = true := Go.WalkArith.wf_i64 ⟨by omega, by omega⟩
            have hlook := hS.look y hwf
            obtain ⟨w2, hst, hS2, hg2⟩ := hS.store (by unfold maxLen; omega) y hwf
            obtain ⟨z, hz⟩ : ∃ z, decide (y ∈ l.take k) = z := ⟨_, rfl⟩
            rw [hz] at hlook
            have HZ := Lib.hid hz
            clear hz
            cases z with
            | true =>
              clear hst hS2 hg2
              go_wp2
              go_ret
              exact ⟨by rw [allDiffB_no (fun ho => by have := ho k hlt; rw [HY.out] at this; exact this.2.2 (of_decide_eq_true HZ.out))]; rfl, hb⟩
            | false =>
              go_wp2
              go_roundg (l.length - (k + 1))
              case measure => omega
              case rel =>
                refine ⟨k + 1, by omega, rfl, by simp, hb.grown hg2 hb.size (fun j hj => by cases hj; exact Nat.le_refl _), ?_, fun j hj => ?_⟩
                · have et : l.take (k + 1) = l.take k ++ [y] := by
                    rw [List.take_add_one]
                    congr 1
                    have := HY.out
                    simp [List.getD, hlt] at this
                    simp [hlt, this]
                  rw [et]; exact hS2
                · by_cases ej : j = k
                  · subst ej
                    rw [HY.out]
                    exact ⟨by omega, by omega, of_decide_eq_false HZ.out⟩
                  · exact H.out j (by omega)
      · have e : k = l.length := by omega
        subst e
        go_wp2
        go_ret
        exact ⟨by rw [allDiffB_yes H.out]; rfl, hb⟩
noncomputable def hmSB (L : List (List Sq)) (m : Int) : Bool := okSB L && inB m 0 ((L.length : Int) - 1)
set_option maxHeartbeats 1000000 in
set_option maxRecDepth 100000 in
theorem is_memberS (a : Option Addr) (n cap : Nat) (m : Int) (w : World) (hn : n ≤ 1048576) :
    Calls Try.prog 110 #[.slice a n cap, .int .i64 m] w fun e w' => e = .returned (.bool (inB m 0 ((n : Int) - 1))) ∧ Below w.heap.size w w' := by
  have HD : ∀ w1 : World, Calls Try.prog 119 #[.slice a n cap, .slice (some ⟨w1.heap.size, 0, none⟩) 1 1] (w1.alloc (.cells #[.int .i64 m] 2)) fun e w' => e = .returned (.bool (inB m 0 ((n : Int) - 1))) ∧ Below (w1.alloc (.cells #[.int .i64 m] 2)).heap.size (w1.alloc (.cells #[.int .i64 m] 2)) w' := fun w1 => by
    have := diff_anyS a n cap (.slice (some ⟨w1.heap.size, 0, none⟩) 1 1) [m] (w1.alloc (.cells #[.int .i64 m] 2)) (.inr ⟨_, 1, rfl, fun _ => by simp, fun i hi => by
      have hi0 : i = 0 := by simpa using hi
      subst hi0
      rw [Addr.add_lit, Nat.zero_add]
      go_simp⟩) (by simp) hn
    rw [diff_one] at this
    exact this
  generalize inB m 0 ((n : Int) - 1) = zi at HD ⊢
  go_enter Try.func110, Try.ntmps110
  go_wp2_with fail
  refine (HD _).mono ?_
  rintro e w2 ⟨rfl, hb2⟩
  have b2 := ((Below.refl w.heap.size w).alloc (Nat.le_refl _) (.cells #[.int .i64 m] 2)).trans (hb2.mono (by simp))
  go_wp2
  go_ret
  exact ⟨rfl, b2⟩
set_option maxHeartbeats 1000000 in
set_option maxRecDepth 100000 in
theorem has_sharer (L : List (List Sq)) (B b cap : Nat) (m : Int) (w : World) (h : SS w B b L) (hf : FitsS L) :
    Calls Try.prog 83 #[.slice (some ⟨b, 0, none⟩) L.length cap, .int .i64 m] w fun e w' => e = .returned (.bool (hmSB L m)) ∧ Below w.heap.size w w' := by
  have HV := iis_any L B b cap w h hf
  have HD := fun w1 => is_memberS (some ⟨b, 0, none⟩) L.length cap m w1 hf.1
  unfold hmSB
  generalize okSB L = zv at HV ⊢
  generalize inB m 0 ((L.length : Int) - 1) = zi at HD ⊢
  cases zv with
  | false =>
    go_enter Try.func83, Try.ntmps83
    go_wp2_with fail
    refine HV.mono ?_
    rintro e w1 ⟨rfl, hb1⟩
    go_wp2
    go_ret
    exact ⟨rfl, hb1⟩
  | true =>
    go_enter Try.func83, Try.ntmps83
    go_wp2_with fail
    refine HV.mono ?_
    rintro e w1 ⟨rfl, hb1⟩
    go_wp2_with fail
    refine (HD _).mono ?_
    rintro e w2 ⟨rfl, hb2⟩
    go_wp2
    go_ret
    exact ⟨by cases zi <;> rfl, hb1.trans (hb2.mono hb1.size)⟩

set_option maxHeartbeats 600000 in
theorem s_member (L : List (List Sq)) (B b cap : Nat) (m : Int) (w : World) (h : SS w B b L) (hf : FitsS L) :
    Calls Try.prog 78 #[.slice (some ⟨b, 0, none⟩) L.length cap, .int .i64 m] w fun e w' => e = .returned (.bool (hmSB L m)) ∧ Below w.heap.size w w' := by
  have HV := sis_any L B b cap w h hf
  have hl := hf.1
  have wrl : IntKind.i64.wrap ((L.length : Int) - 1) = (L.length : Int) - 1 := by rw [IntKind.wrap_i64]; omega
  unfold hmSB
  generalize okSB L = zv at HV ⊢
  cases zv with
  | false =>
    go_enter Try.func78, Try.ntmps78
    go_wp2_with fail
    refine HV.mono ?_
    rintro e w1 ⟨rfl, hb1⟩
    go_wp2
    go_ret
    exact ⟨rfl, hb1⟩
  | true =>
    go_enter Try.func78, Try.ntmps78
    go_wp2_with fail
    refine HV.mono ?_
    rintro e w1 ⟨rfl, hb1⟩
    go_wp2_with fail
    refine (in_val _ _ _ _).mono ?_
    rintro e w2 ⟨rfl, rfl⟩
    go_wp2
    go_ret
    exact ⟨by generalize inB m 0 ((L.length : Int) - 1) = zi; cases zi <;> rfl, hb1⟩
end Go.Proofs.Ytlpidgdlbannbaa
