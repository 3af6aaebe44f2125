/- PatchText: the line of an edit: the program's. -/
import Derived.Test.YtikgaaaehoekaaaDoorPt1
namespace Go.Proofs.YtikgaaaehoekaaaDoor
open Go.ChangeShapes Go.WideShapes Go.ChangeAt Go.RowKit Go.Deep
set_option linter.unusedSimpArgs false
set_option linter.unusedVariables false
set_option maxRecDepth 100000
theorem bo2 (l : List UInt8) : (bytesOf l).data.toList = l := by simp [bytesOf]
/-- What the text of an edit reads, kept. -/
def Bx (w : World) (p : Nat) (k y : Int) (w' : World) : Prop := w'.cell? ⟨p, 0, none⟩ = some (.int .i64 k) ∧ w'.cell? ⟨p, 1, none⟩ = some (.int .i64 y) ∧ Hid (Below w.heap.size w w')
theorem Bx.drew {w w' : World} {p : Nat} {k y : Int} (h : Bx w p k y w') : Bx w p k y w'.drew := ⟨h.1, h.2.1, Lib.hid h.2.2.out.drew⟩
theorem Bx.bel {w w' : World} {p : Nat} {k y : Int} (h : Bx w p k y w') : Below w.heap.size w w' := h.2.2.out
theorem Bx.below {w w' w'' : World} {p : Nat} {k y : Int} (h : Bx w p k y w') (hb : Below w'.heap.size w' w'') : Bx w p k y w'' := by
  obtain ⟨a1, a2, g⟩ := h
  have q : ∀ {b : Nat} {o : Nat} {v : Value}, w'.cell? ⟨b, o, none⟩ = some v → w''.cell? ⟨b, o, none⟩ = some v := fun {b o v} hc => (hb.cell (p := ⟨b, o, none⟩) (World.block_lt_of_cell? _ _ hc)).trans hc
  exact ⟨q a1, q a2, Lib.hid (g.out.trans (hb.mono g.out.size))⟩
set_option maxHeartbeats 4000000 in
theorem ieline (k y : Int) (a b : ByteArray) (w : World) (h : smE (k, y, a, b)) (hk : k = 1 ∨ k = 2 ∨ k = 3) (hg : PowT w) :
    Calls Tryd.prog 15 #[.agg #[.int .i64 k, .int .i64 y, .string a, .string b]] w fun e w' => e = .returned (.string (bytesOf (eline (k, y, a, b)))) ∧ Below w.heap.size w w' := by
  obtain ⟨⟨h1, h2⟩, h3, h4⟩ := h
  simp only at h1 h2 h3 h4
  have b0 := (Below.refl w.heap.size w).alloc (Nat.le_refl _) (.cells #[.int .i64 k, .int .i64 y, .string a, .string b] 35)
  have HP := Lib.hid (hg.below b0)
  have HL := Lib.hid (fun (l : List UInt8) (hl : l.length ≤ 100) w' hp => iline y (bytesOf l) w' ⟨⟨h1, h2⟩, by rw [bo2]; exact hl⟩ hp)
  unfold aline at HL
  simp only [bo2] at HL
  have hdl := itoa_len9 (n := y) (by omega) (by omega)
  have BX : Bx (w.alloc (.cells #[.int .i64 k, .int .i64 y, .string a, .string b] 35)) w.heap.size k y (w.alloc (.cells #[.int .i64 k, .int .i64 y, .string a, .string b] 35)) := ⟨by go_simp, by go_simp, Lib.hid (Below.refl _ _)⟩
  have ea := bo a
  have eb := bo b
  have B0 := Lib.hid b0
  unfold eline wdE
  simp only
  generalize a.data.toList = S at ea h3 ⊢
  generalize b.data.toList = T at eb h4 ⊢
  obtain ⟨U, hU⟩ : ∃ U, S ++ T = U := ⟨_, rfl⟩
  have lU : U.length = S.length + T.length := by rw [← hU]; simp
  have A1 := add_d S T U a b ea eb hU (by omega)
  rcases hk with rfl | rfl | rfl
  all_goals
    first
      | rw [if_neg (by decide), hU]
      | rw [if_pos rfl]
  · have HL1 := Lib.hid (HL.out U (by omega))
    obtain ⟨D, hD⟩ : ∃ D, Lib.itoa y ++ ([32] ++ U) = D := ⟨_, rfl⟩
    have lD : D.length = (Lib.itoa y).length + 1 + U.length := by rw [← hD]; simp; omega
    rw [hD] at HL1 ⊢
    obtain ⟨N, hN⟩ : ∃ N, [sgE 1] ++ D = N := ⟨_, rfl⟩
    have A2 := fun W => add_d [43] D N (ByteArray.extract ⟨#[43, 45, 126]⟩ 0 1) (bytesOf D) rfl rfl hN (by simp; omega) W
    rw [hN]
    clear hU hD hN ea eb HL hg b0
    have q0 : IntKind.i64.wrap 0 = 0 := rfl
    have q1 : IntKind.i64.wrap 1 = 1 := rfl
    have q2 : IntKind.i64.wrap 2 = 2 := rfl
    have q3 : (⟨#[43, 45, 126]⟩ : ByteArray).size = 3 := rfl
    go_enter Tryd.func15, Tryd.ntmps15
    go_wp2_with fail
    go_region_held3 (fun w' => w'.cell? ⟨w.heap.size, 0, none⟩ = some (.int .i64 1) ∧ w'.cell? ⟨w.heap.size, 1, none⟩ = some (.int .i64 y) ∧ Hid (Below (w.alloc (.cells #[.int .i64 1, .int .i64 y, .string a, .string b] 35)).heap.size (w.alloc (.cells #[.int .i64 1, .int .i64 y, .string a, .string b] 35)) w'))
      (first | exact BX.drew | exact Bx.below (p := w.heap.size) (by assumption) (by assumption))
      (first
        | (go_at_call 24; refine (HL1.out _ ?_).mono ?_; (exact HP.out.below (show Bx (w.alloc (.cells #[.int .i64 1, .int .i64 y, .string a, .string b] 35)) w.heap.size 1 y _ from by assumption).bel); rintro e w2 ⟨rfl, hb⟩))
    all_goals
      go_wp2_with fail
      go_ret
      exact ⟨rfl, B0.out.trans ((show Bx (w.alloc (.cells #[.int .i64 1, .int .i64 y, .string a, .string b] 35)) w.heap.size 1 y _ from by assumption).bel.mono B0.out.size)⟩
  · have HL1 := Lib.hid (HL.out U (by omega))
    obtain ⟨D, hD⟩ : ∃ D, Lib.itoa y ++ ([32] ++ U) = D := ⟨_, rfl⟩
    have lD : D.length = (Lib.itoa y).length + 1 + U.length := by rw [← hD]; simp; omega
    rw [hD] at HL1 ⊢
    obtain ⟨N, hN⟩ : ∃ N, [sgE 2] ++ D = N := ⟨_, rfl⟩
    have A2 := fun W => add_d [45] D N (ByteArray.extract ⟨#[43, 45, 126]⟩ 1 2) (bytesOf D) rfl rfl hN (by simp; omega) W
    rw [hN]
    clear hU hD hN ea eb HL hg b0
    have q0 : IntKind.i64.wrap 0 = 0 := rfl
    have q1 : IntKind.i64.wrap 1 = 1 := rfl
    have q2 : IntKind.i64.wrap 2 = 2 := rfl
    have q3 : (⟨#[43, 45, 126]⟩ : ByteArray).size = 3 := rfl
    go_enter Tryd.func15, Tryd.ntmps15
    go_wp2_with fail
    go_region_held3 (fun w' => w'.cell? ⟨w.heap.size, 0, none⟩ = some (.int .i64 2) ∧ w'.cell? ⟨w.heap.size, 1, none⟩ = some (.int .i64 y) ∧ Hid (Below (w.alloc (.cells #[.int .i64 2, .int .i64 y, .string a, .string b] 35)).heap.size (w.alloc (.cells #[.int .i64 2, .int .i64 y, .string a, .string b] 35)) w'))
      (first | exact BX.drew | exact Bx.below (p := w.heap.size) (by assumption) (by assumption))
      (first
        | (go_at_call 24; refine (HL1.out _ ?_).mono ?_; (exact HP.out.below (show Bx (w.alloc (.cells #[.int .i64 2, .int .i64 y, .string a, .string b] 35)) w.heap.size 2 y _ from by assumption).bel); rintro e w2 ⟨rfl, hb⟩))
    all_goals
      go_wp2_with fail
      go_ret
      exact ⟨rfl, B0.out.trans ((show Bx (w.alloc (.cells #[.int .i64 2, .int .i64 y, .string a, .string b] 35)) w.heap.size 2 y _ from by assumption).bel.mono B0.out.size)⟩
  · obtain ⟨X1, hX1⟩ : ∃ X, S ++ [124] = X := ⟨_, rfl⟩
    obtain ⟨X2, hX2⟩ : ∃ X, S ++ ([124] ++ T) = X := ⟨_, rfl⟩
    have lX : X2.length = S.length + 1 + T.length := by rw [← hX2]; simp; omega
    have lX1 : X1.length = S.length + 1 := by rw [← hX1]; simp
    have A3 := add_d S [124] X1 a ⟨#[124]⟩ ea rfl hX1 (by simp; omega)
    have A4 := add_d X1 T X2 (bytesOf X1) b rfl eb (by rw [← hX2, ← hX1]; simp) (by omega)
    rw [hX2]
    have HL1 := Lib.hid (HL.out X2 (by omega))
    obtain ⟨D, hD⟩ : ∃ D, Lib.itoa y ++ ([32] ++ X2) = D := ⟨_, rfl⟩
    have lD : D.length = (Lib.itoa y).length + 1 + X2.length := by rw [← hD]; simp; omega
    rw [hD] at HL1 ⊢
    obtain ⟨N, hN⟩ : ∃ N, [sgE 3] ++ D = N := ⟨_, rfl⟩
    have A2 := fun W => add_d [126] D N (ByteArray.extract ⟨#[43, 45, 126]⟩ 2 3) (bytesOf D) rfl rfl hN (by simp; omega) W
    rw [hN]
    clear hU hX1 hX2 hD hN ea eb HL hg b0
    have q0 : IntKind.i64.wrap 0 = 0 := rfl
    have q1 : IntKind.i64.wrap 1 = 1 := rfl
    have q2 : IntKind.i64.wrap 2 = 2 := rfl
    have q3 : (⟨#[43, 45, 126]⟩ : ByteArray).size = 3 := rfl
    go_enter Tryd.func15, Tryd.ntmps15
    go_wp2_with fail
    go_region_held3 (fun w' => w'.cell? ⟨w.heap.size, 0, none⟩ = some (.int .i64 3) ∧ w'.cell? ⟨w.heap.size, 1, none⟩ = some (.int .i64 y) ∧ Hid (Below (w.alloc (.cells #[.int .i64 3, .int .i64 y, .string a, .string b] 35)).heap.size (w.alloc (.cells #[.int .i64 3, .int .i64 y, .string a, .string b] 35)) w'))
      (first | exact BX.drew | exact Bx.below (p := w.heap.size) (by assumption) (by assumption))
      (first
        | (go_at_call 24; refine (HL1.out _ ?_).mono ?_; (exact HP.out.below (show Bx (w.alloc (.cells #[.int .i64 3, .int .i64 y, .string a, .string b] 35)) w.heap.size 3 y _ from by assumption).bel); rintro e w2 ⟨rfl, hb⟩))
    all_goals
      go_wp2_with fail
      go_ret
      exact ⟨rfl, B0.out.trans ((show Bx (w.alloc (.cells #[.int .i64 3, .int .i64 y, .string a, .string b] 35)) w.heap.size 3 y _ from by assumption).bel.mono B0.out.size)⟩
end Go.Proofs.YtikgaaaehoekaaaDoor
