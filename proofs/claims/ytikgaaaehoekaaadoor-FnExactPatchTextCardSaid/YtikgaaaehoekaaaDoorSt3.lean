/- StatuteText: the line of an article, the lines of a list (strings.Builder): the program's call by its contract. -/
import Derived.Test.YtikgaaaehoekaaaDoorBd1
import Derived.Test.YtikgaaaehoekaaaDoorShelfB
import Derived.Test.YtikgaaaehoekaaaDoorTx1
import Derived.Test.YtikgaaaehoekaaaDoorSt2
import Derived.Laws.Concat
import Derived.Deep.RegionHeld3
namespace Go.Proofs.YtikgaaaehoekaaaDoor
open Go.ChangeShapes Go.WideShapes Go.ChangeAt Go.RowKit Go.Deep
set_option linter.unusedSimpArgs false
set_option linter.unusedVariables false
set_option maxRecDepth 100000
/-- A text and a bool. -/
def Psb (m : ByteArray × Bool) (w : World) (e : Ending) (w' : World) : Prop := e = .returned (.tuple #[.string m.1, .bool m.2]) ∧ Below w.heap.size w w'
theorem Psb.out {s : ByteArray} {z : Bool} {w w' : World} {e : Ending} (h : Psb (s, z) w e w') : e = .returned (.tuple #[.string s, .bool z]) ∧ Below w.heap.size w w' := h
abbrev Qsb := Psb
theorem bytesOf_app (a b : List UInt8) : bytesOf a ++ bytesOf b = bytesOf (a ++ b) := str_app a b
theorem add_b (a b : List UInt8) (lb : ByteArray) (e : lb = bytesOf b) (h : a.length + b.length ≤ 1000000) (W : World) : (Op.stringOp .add (bytesOf a) lb).run Tryd.prog W = .ok (.string (bytesOf (a ++ b))) W := by
  subst e
  rw [← bytesOf_app]
  exact run_string_add_sum (P := Tryd.prog) (w := W) (bytesOf a) (bytesOf b) (by show a.length + b.length ≤ _; omega)
theorem add_d (a b c : List UInt8) (la lb : ByteArray) (ea : la = bytesOf a) (eb : lb = bytesOf b) (hc : a ++ b = c) (h : a.length + b.length ≤ 1000000) (W : World) : (Op.stringOp .add la lb).run Tryd.prog W = .ok (.string (bytesOf c)) W := by
  subst ea hc
  exact add_b a b lb eb h W
theorem idecb7 (n : Int) (w : World) (h1 : -1000000000 ≤ n) (h2 : n ≤ 1000000000) (hp : PowT w) :
    Calls Tryd.prog 29 #[.int .i64 n] w fun e w' => e = .returned (.string (bytesOf (Lib.itoa n))) ∧ Below w.heap.size w w' := idec n w (by omega) (by omega) hp
theorem sdecb7 (n : Int) (w : World) (h1 : -1000000000 ≤ n) (h2 : n ≤ 1000000000) :
    Calls Tryd.prog 19 #[.int .i64 n] w fun e w' => e = .returned (.string (bytesOf (Lib.itoa n))) ∧ Below w.heap.size w w' := sdec n w (by omega) (by omega)
theorem bo (t : ByteArray) : t = bytesOf t.data.toList := by cases t; simp [bytesOf]
def aline (q : Ar) : List UInt8 := Lib.itoa q.1 ++ ([32] ++ q.2.data.toList)
def atl (L : List Ar) : Nat → List UInt8
  | 0 => []
  | k + 1 => atl L k ++ (aline (L.getD k a0) ++ [10])
/-- An article whose line is short. -/
def smA (q : Ar) : Prop := (0 ≤ q.1 ∧ q.1 ≤ 999) ∧ q.2.data.toList.length ≤ 100
theorem aline_len {q : Ar} (h : smA q) : (aline q).length ≤ 120 := by
  have := itoa_len9 (n := q.1) (by have := h.1; omega) (by have := h.1; omega)
  have := h.2
  unfold aline
  simp only [List.length_append, List.length_cons, List.length_nil]
  omega
theorem atl_len {L : List Ar} (h : ∀ k, k < L.length → smA (L.getD k a0)) (k : Nat) (hk : k ≤ L.length) : (atl L k).length ≤ 121 * k := by
  induction k with
  | zero => simp [atl]
  | succ k ih =>
    have := ih (by omega)
    have := aline_len (h k (by omega))
    show (atl L k ++ (aline (L.getD k a0) ++ [10])).length ≤ _
    simp only [List.length_append, List.length_cons, List.length_nil]
    omega
theorem sta_small {L : List Ar} (h : staF L) : L.length ≤ 8 ∧ ∀ k, k < L.length → smA (L.getD k a0) := by
  refine ⟨h.1, fun k hk => ?_⟩
  obtain ⟨h1, h2, -⟩ := h.2 k hk
  exact ⟨⟨by omega, by omega⟩, by have q := h2.2.1; have e : (L.getD k a0).2.data.toList.length = (L.getD k a0).2.size := rfl; omega⟩
noncomputable def mSTx (L : List Ar) : ByteArray × Bool := if staB L then (bytesOf (atl L L.length), true) else (⟨#[]⟩, false)
/-- What the text of an article reads, kept. -/
def Ba (w : World) (b o : Nat) (y : Int) (t : ByteArray) (w' : World) : Prop := w'.cell? ⟨b, o, none⟩ = some (.int .i64 y) ∧ w'.cell? ⟨b, o + 1, none⟩ = some (.string t) ∧ Hid (Below w.heap.size w w')
theorem Ba.drew {w w' : World} {b o : Nat} {y : Int} {t : ByteArray} (h : Ba w b o y t w') : Ba w b o y t w'.drew := ⟨h.1, h.2.1, Lib.hid h.2.2.out.drew⟩
theorem Ba.bel {w w' : World} {b o : Nat} {y : Int} {t : ByteArray} (h : Ba w b o y t w') : Below w.heap.size w w' := h.2.2.out
theorem Ba.below {w w' w'' : World} {b o : Nat} {y : Int} {t : ByteArray} (h : Ba w b o y t w') (hb : Below w'.heap.size w' w'') : Ba w b o y t w'' := by
  obtain ⟨a1, a2, g⟩ := h
  have q : ∀ {b : Nat} {o : Nat} {v : Value}, w'.cell? ⟨b, o, none⟩ = some v → w''.cell? ⟨b, o, none⟩ = some v := fun {b o v} hc => (hb.cell (p := ⟨b, o, none⟩) (World.block_lt_of_cell? _ _ hc)).trans hc
  exact ⟨q a1, q a2, Lib.hid (g.out.trans (hb.mono g.out.size))⟩
set_option maxHeartbeats 2000000 in
theorem iline (y : Int) (t : ByteArray) (w : World) (h : smA (y, t)) (hg : PowT w) :
    Calls Tryd.prog 24 #[.agg #[.int .i64 y, .string t]] w fun e w' => e = .returned (.string (bytesOf (aline (y, t)))) ∧ Below w.heap.size w w' := by
  obtain ⟨⟨h1, h2⟩, h3⟩ := h
  simp only at h1 h2 h3
  have HN := Lib.hid (fun w hp => idecb7 y w (by omega) (by omega) hp)
  have hdl := itoa_len9 (n := y) (by omega) (by omega)
  have b0 := (Below.refl w.heap.size w).alloc (Nat.le_refl _) (.cells #[.int .i64 y, .string t] 56)
  have HP := Lib.hid (hg.below b0)
  unfold aline
  simp only
  have e2 := bo t
  generalize t.data.toList = T at e2 h3 ⊢
  obtain ⟨D, hD⟩ : ∃ D, Lib.itoa y = D := ⟨_, rfl⟩
  rw [hD] at HN hdl ⊢
  obtain ⟨E1, hE1⟩ : ∃ T, D ++ [32] = T := ⟨_, rfl⟩
  obtain ⟨N, hN⟩ : ∃ N, D ++ ([32] ++ T) = N := ⟨_, rfl⟩
  have g1 : E1.length = D.length + 1 := by rw [← hE1]; simp
  have A1 := add_d D [32] E1 (bytesOf D) ⟨#[32]⟩ rfl rfl hE1 (by simp; omega)
  have A2 := add_d E1 T N (bytesOf E1) t rfl e2 (by rw [← hN, ← hE1]; simp) (by omega)
  have BA : Ba (w.alloc (.cells #[.int .i64 y, .string t] 56)) w.heap.size 0 y t (w.alloc (.cells #[.int .i64 y, .string t] 56)) := ⟨by go_simp, by go_simp, Lib.hid (Below.refl _ _)⟩
  have B0 := Lib.hid b0
  rw [hN]
  clear hD hE1 hN e2 hg b0
  go_enter Tryd.func24, Tryd.ntmps24
  go_wp2_with fail
  go_region_held3 (fun w' => w'.cell? ⟨w.heap.size, 0, none⟩ = some (.int .i64 y) ∧ w'.cell? ⟨w.heap.size, 0 + 1, none⟩ = some (.string t) ∧ Hid (Below (w.alloc (.cells #[.int .i64 y, .string t] 56)).heap.size (w.alloc (.cells #[.int .i64 y, .string t] 56)) w'))
    (first | exact BA.drew | exact Ba.below (b := w.heap.size) (o := 0) (by assumption) (by assumption))
    (first
      | (go_at_call 29; refine (HN.out _ ?_).mono ?_; (exact HP.out.below (show Ba (w.alloc (.cells #[.int .i64 y, .string t] 56)) w.heap.size 0 y t _ from by assumption).bel); rintro e w2 ⟨rfl, hb⟩))
  all_goals
    go_wp2_with fail
    go_ret
    exact ⟨rfl, B0.out.trans ((show Ba (w.alloc (.cells #[.int .i64 y, .string t] 56)) w.heap.size 0 y t _ from by assumption).bel.mono B0.out.size)⟩
end Go.Proofs.YtikgaaaehoekaaaDoor
