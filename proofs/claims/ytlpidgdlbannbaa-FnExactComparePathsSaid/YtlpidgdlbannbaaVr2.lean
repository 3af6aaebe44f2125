/- hasMember by its contract. -/
import Derived.Test.YtlpidgdlbannbaaVr1
namespace Go.Proofs.Ytlpidgdlbannbaa
open Go.ChangeShapes Go.WideShapes Go.ChangeAt Go.RowKit Go.Deep
set_option linter.unusedSimpArgs false
set_option linter.unusedVariables false
theorem diff_one (n : Nat) (m : Int) : allDiffB n [m] = inB m 0 ((n : Int) - 1) := by
  by_cases h : 0 ≤ m ∧ m ≤ (n : Int) - 1
  · rw [inB_yes h.1 h.2]
    refine allDiffB_yes (fun k hk => ?_)
    have hk0 : k = 0 := by simpa using hk
    subst hk0
    exact ⟨h.1, by show m < _; omega, by simp⟩
  · rw [inB_no h]
    refine allDiffB_no (fun q => h ?_)
    have := q 0 (by simp)
    exact ⟨this.1, by have h2 : m < (n : Int) := this.2.1; omega⟩
noncomputable def hmB (L : List Vc) (m : Int) : Bool := okLB L && inB m 0 ((L.length : Int) - 1)
set_option maxHeartbeats 1000000 in
set_option maxRecDepth 100000 in
theorem is_member (a : Option Addr) (n cap : Nat) (m : Int) (w : World) (hn : n ≤ 1048576) :
    Calls Try.prog 105 #[.slice a n cap, .int .i64 m] w fun e w' => e = .returned (.bool (inB m 0 ((n : Int) - 1))) ∧ Below w.heap.size w w' := by
  have HD : ∀ w1 : World, Calls Try.prog 57 #[.slice a n cap, .slice (some ⟨w1.heap.size, 0, none⟩) 1 1] (w1.alloc (.cells #[.int .i64 m] 2)) fun e w' => e = .returned (.bool (inB m 0 ((n : Int) - 1))) ∧ Below (w1.alloc (.cells #[.int .i64 m] 2)).heap.size (w1.alloc (.cells #[.int .i64 m] 2)) w' := fun w1 => by
    have := diff_any a n cap (.slice (some ⟨w1.heap.size, 0, none⟩) 1 1) [m] (w1.alloc (.cells #[.int .i64 m] 2)) (.inr ⟨_, 1, rfl, fun _ => by simp, fun i hi => by
      have hi0 : i = 0 := by simpa using hi
      subst hi0
      rw [Addr.add_lit, Nat.zero_add]
      go_simp⟩) (by simp) hn
    rw [diff_one] at this
    exact this
  generalize inB m 0 ((n : Int) - 1) = zi at HD ⊢
  go_enter Try.func105, Try.ntmps105
  go_wp2_with fail
  refine (HD _).mono ?_
  rintro e w2 ⟨rfl, hb2⟩
  have b2 := ((Below.refl w.heap.size w).alloc (Nat.le_refl _) (.cells #[.int .i64 m] 2)).trans (hb2.mono (by simp))
  go_wp2
  go_ret
  exact ⟨rfl, b2⟩
set_option maxHeartbeats 1000000 in
set_option maxRecDepth 100000 in
theorem has_member (L : List Vc) (B b cap : Nat) (m : Int) (w : World) (h : Vs w B b L) (hf : Fits L) :
    Calls Try.prog 71 #[.slice (some ⟨b, 0, none⟩) L.length cap, .int .i64 m] w fun e w' => e = .returned (.bool (hmB L m)) ∧ Below w.heap.size w w' := by
  have HV := iok_any L B b cap w h hf
  have HD := fun w1 => is_member (some ⟨b, 0, none⟩) L.length cap m w1 hf.1
  unfold hmB
  generalize okLB L = zv at HV ⊢
  generalize inB m 0 ((L.length : Int) - 1) = zi at HD ⊢
  cases zv with
  | false =>
    go_enter Try.func71, Try.ntmps71
    go_wp2_with fail
    refine HV.mono ?_
    rintro e w1 ⟨rfl, hb1⟩
    go_wp2
    go_ret
    exact ⟨rfl, hb1⟩
  | true =>
    go_enter Try.func71, Try.ntmps71
    go_wp2_with fail
    refine HV.mono ?_
    rintro e w1 ⟨rfl, hb1⟩
    go_wp2_with fail
    refine (HD _).mono ?_
    rintro e w2 ⟨rfl, hb2⟩
    go_wp2
    go_ret
    exact ⟨by cases zi <;> rfl, hb1.trans (hb2.mono hb1.size)⟩
end Go.Proofs.Ytlpidgdlbannbaa
