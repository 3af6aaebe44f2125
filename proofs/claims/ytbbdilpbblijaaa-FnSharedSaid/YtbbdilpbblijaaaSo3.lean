/- Shares of a whole: the program's sum of weights and exact share. -/
import Derived.Test.YtbbdilpbblijaaaSo2
namespace Go.Proofs.Ytbbdilpbblijaaa
open Go.ChangeShapes Go.WideShapes Go.ChangeAt Go.RowKit Go.Deep
set_option linter.unusedSimpArgs false
set_option linter.unusedVariables false
theorem wsum_nil : wsum [] 0 = 0 := by simp [wsum]
theorem iwsum (v : Value) (W : List Int) (w : World) (h : RowV w v W) (hl : W.length ≤ 1048576) :
    Calls Try.prog 9 #[v] w (WSum W w) := by
  by_cases h0 : W = []
  · subst h0
    have ht : inB (tot []) 1 1000000000 = false := inB_no (by
      unfold tot; split
      · simp [wsum]
      · omega)
    have HT := Lib.hid ht
    obtain ⟨a, cap, rfl⟩ := h.shape
    clear h ht
    go_enter Try.func9, Try.ntmps9
    go_wp2
    go_ret2
    exact ⟨_, _, rfl, rfl, by rw [HT.out]; rfl, fun q => by cases q⟩
  · have hp : 0 < W.length := List.length_pos_iff.2 h0
    by_cases h20 : W.length ≤ 20
    · have HB := isumb v W w h h20
      obtain ⟨a, cap, rfl⟩ := h.shape
      have ht1 : wInB W = true → tot W = wsum W W.length := fun q => by unfold tot; rw [decide_eq_true h20, q]; rfl
      have ht0 : wInB W = false → inB (tot W) 1 1000000000 = false := fun q => inB_no (by unfold tot; rw [q]; simp)
      have hwb : wInB W = true → 0 ≤ wsum W W.length ∧ wsum W W.length ≤ 20000000000 := fun q => by
        have := wsum_bd (wInB_iff.1 q) (Nat.le_refl W.length); omega
      have H1 := Lib.hid ht1
      have H0 := Lib.hid ht0
      have HW := Lib.hid hwb
      clear h h0 ht1 ht0 hwb
      go_enter Try.func9, Try.ntmps9
      go_wp2_with fail
      refine HB.mono ?_
      rintro e w1 ⟨x, z, rfl, rfl, hz, hx⟩
      have HZ := Lib.hid hz
      have HX := Lib.hid hx
      clear hz hx
      cases z with
      | false =>
        go_wp2
        go_ret2
        exact ⟨_, _, rfl, rfl, by rw [H0.out HZ.out.symm, decide_eq_true h20]; rfl, fun q => by cases q⟩
      | true =>
        have hx := HX.out (by first | exact rfl | trivial)
        have e1 := H1.out HZ.out.symm
        have hb := HW.out HZ.out.symm
        rw [← hx] at e1 hb
        have E1 := Lib.hid e1
        have X1 := Lib.hid hx
        clear hx e1
        by_cases g1 : 1 ≤ x
        · by_cases g2 : x ≤ 1000000000
          · go_wp2
            go_ret2
            exact ⟨_, _, rfl, rfl, by rw [E1.out, inB_yes g1 g2, decide_eq_true h20]; first | rfl | simp [g2], fun _ => X1.out⟩
          · go_wp2
            go_ret2
            exact ⟨_, _, rfl, rfl, by rw [E1.out, inB_no (by omega), decide_eq_true h20]; first | rfl | (simp; omega), fun _ => X1.out⟩
        · go_wp2
          go_ret2
          exact ⟨_, _, rfl, rfl, by rw [E1.out, inB_no (by omega), decide_eq_true h20]; first | rfl | simp, fun _ => X1.out⟩
    · obtain ⟨a, cap, rfl⟩ := h.shape
      clear h h0
      go_enter Try.func9, Try.ntmps9
      go_wp2
      go_ret2
      exact ⟨_, _, rfl, rfl, by rw [decide_eq_false h20]; rfl, fun q => by cases q⟩
set_option maxRecDepth 100000 in
theorem idiv (lo y : Nat) (w : World) (h1 : lo ≤ 1000000000000000000) (h2 : 1 ≤ y) (h3 : y ≤ 1000000000) :
    Calls Try.prog 15 #[.int .u64 0, .int .u64 (lo : Int), .int .u64 (y : Int)] w fun e w' => e = .returned (.tuple #[.int .u64 ((lo / y : Nat) : Int), .int .u64 ((lo % y : Nat) : Int)]) ∧ Drw w w' := by
  have hy0 : ¬ (y : Int) = 0 := by omega
  have hy1 : ¬ (y : Int) ≤ 0 := by omega
  have hy2 : ((y : Int) == 0) = false := beq_eq_false_iff_ne.2 (by omega)
  go_enter Try.func15, Try.ntmps15
  go_wp2_with fail
  go_quiet (fail)
  go_wp2
  go_ret2
  have hq : (lo : Int) / (y : Int) = ((lo / y : Nat) : Int) := by simp
  have hle : lo / y ≤ lo := Nat.div_le_self _ _
  have wq : IntKind.u64.wrap ((lo : Int) / (y : Int)) = ((lo / y : Nat) : Int) := by
    rw [hq]
    clear hq
    generalize lo / y = q at hle ⊢
    rw [IntKind.wrap_u64]; omega
  exact ⟨by rw [wq]; simp, (Drw.refl _).drewN _⟩
set_option maxRecDepth 100000 in
theorem iexact (t x s : Nat) (w : World) (h1 : t ≤ 1000000000) (h2 : x ≤ 1000000000) (h3 : 1 ≤ s) (h4 : s ≤ 1000000000) :
    Calls Try.prog 10 #[.int .i64 (t : Int), .int .i64 (x : Int), .int .i64 (s : Int)] w fun e w' => e = .returned (.tuple #[.int .i64 ((t * x / s : Nat) : Int), .int .i64 ((t * x % s : Nat) : Int)]) ∧ Drw w w' := by
  have hp : t * x ≤ 1000000000000000000 := by
    have := Nat.mul_le_mul h1 h2; omega
  have HM := Try.bits_Mul64 t x (by omega) (by omega) w
  rw [Nat.div_eq_of_lt (by omega), Nat.mod_eq_of_lt (by omega)] at HM
  have HD := idiv (t * x) s w hp h3 h4
  have hq := Nat.div_le_self (t * x) s
  have hr := Nat.mod_lt (t * x) (show s > 0 by omega)
  generalize t * x / s = q at HD hq ⊢
  generalize t * x % s = r at HD hr ⊢
  generalize t * x = pp at HM HD hq hp
  go_enter Try.func10, Try.ntmps10
  go_wp2_with fail
  refine HM.mono ?_
  rintro e w1 ⟨rfl, rfl⟩
  go_wp2_with fail
  refine HD.mono ?_
  rintro e w2 ⟨rfl, hd⟩
  go_wp2
  go_ret2
  exact ⟨by first | rfl | simp, hd⟩
end Go.Proofs.Ytbbdilpbblijaaa
