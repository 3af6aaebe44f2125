/- The program's list of indices by decreasing values. -/
import Derived.Test.YtbbdilpbblijaaaGf3
namespace Go.Proofs.Ytbbdilpbblijaaa
open Go.ChangeShapes Go.WideShapes Go.ChangeAt Go.RowKit Go.Deep
set_option linter.unusedSimpArgs false
set_option linter.unusedVariables false
theorem gsort0 (dv fv : Value) (w : World) :
    Calls Try.prog 23 #[dv, .int .i64 20, .int .i64 20, fv] w fun e w' => e = .returned (.tuple #[]) ∧ w = w' := by
  go_enter Try.func23, Try.ntmps23
  go_wp2
  go_loopg [8] 0 (fun g i wr => i = .int .i64 21 ∧ w = wr)
  case atStart => exact ⟨rfl, rfl⟩
  case round =>
    obtain ⟨rfl, rfl⟩ := hrel
    go_wp2
    go_end0
    exact ⟨rfl, rfl⟩
/-- What the sort leaves. -/
def Sorted (V : List Int) (D : Nat) (w : World) (e : Ending) (w' : World) : Prop := e = .returned (.tuple #[]) ∧ w'.rowIs D 3 V.length (fun k => .int .i64 (gfR V V.length k : Int)) ∧ Kept w w' (fun b => b = D)
set_option maxHeartbeats 1000000 in
set_option maxRecDepth 100000 in
theorem gstable (V : List Int) (lv : Value) (p D cap : Nat) (w : World) (hp : w.cell? ⟨p, 0, none⟩ = some lv) (hpl : p < w.heap.size) (hpD : p ≠ D) (hv : RowV w lv V) (hvD : lv.ownBlock ≠ some D) (hV : V.length ≤ 20)
    (hr : w.rowIs D 3 V.length (fun k => .int .i64 (k : Int))) :
    Calls Try.prog 20 #[.slice (some ⟨D, 0, none⟩) V.length cap, .int .i64 (V.length : Int), .func (.func 17) #[] #[.pointer (some ⟨p, 0, none⟩)]] w (Sorted V D w) := by
  have HS := gsort V lv p D cap w hp hpl hpD hv hvD hV hr
  clear hp hv hr hvD
  by_cases h : V.length < 20
  · go_enter Try.func20, Try.ntmps20
    go_wp2
    go_loopg [7, 8] 0 (fun g a b wr => a = .int .i64 0 ∧ b = .int .i64 20 ∧ w = wr)
    case atStart => exact ⟨rfl, rfl, rfl⟩
    case round =>
      obtain ⟨rfl, rfl, rfl⟩ := hrel
      go_wp2_with fail
      refine HS.mono ?_
      rintro e w1 ⟨rfl, hr1, hk1⟩
      go_wp2
      go_loopg [6] 0 (fun g a wr => a = .int .i64 20 ∧ w1 = wr)
      case atStart => exact ⟨rfl, rfl⟩
      case round =>
        obtain ⟨rfl, rfl⟩ := hrel
        go_wp2
        go_end0
        exact ⟨rfl, hr1, hk1⟩
  · have h20 : V.length = 20 := by omega
    rw [h20] at HS ⊢
    go_enter Try.func20, Try.ntmps20
    go_wp2
    go_loopg [7, 8] 1 (fun g a b wr => (g = 1 ∧ a = .int .i64 0 ∧ b = .int .i64 20 ∧ w = wr) ∨ (g = 0 ∧ a = .int .i64 20 ∧ b = .int .i64 40 ∧ wr.rowIs D 3 20 (fun k => .int .i64 (gfR V 20 k : Int)) ∧ Kept w wr (fun b => b = D)))
    case atStart => exact .inl ⟨rfl, rfl, rfl, rfl⟩
    case round =>
      rcases hrel with ⟨rfl, rfl, rfl, rfl⟩ | ⟨rfl, rfl, rfl, hr1, hk1⟩
      · go_wp2_with fail
        refine HS.mono ?_
        rintro e w1 ⟨rfl, hr1, hk1⟩
        go_wp2
        go_roundg 0
        case measure => omega
        case rel => exact .inr ⟨rfl, by first | rfl | simp, by first | rfl | simp, hr1, hk1⟩
      · go_wp2_with fail
        refine (gsort0 _ _ _).mono ?_
        rintro e w1 ⟨rfl, rfl⟩
        go_wp2
        go_loopg [6] 0 (fun g a w2 => a = .int .i64 20 ∧ wr = w2)
        case atStart => exact ⟨rfl, rfl⟩
        case round =>
          obtain ⟨rfl, rfl⟩ := hrel
          go_wp2
          go_end0
          unfold Sorted
          rw [h20]
          exact ⟨rfl, hr1, hk1⟩
theorem gsortf (V : List Int) (lv : Value) (p D cap : Nat) (w : World) (hp : w.cell? ⟨p, 0, none⟩ = some lv) (hpl : p < w.heap.size) (hpD : p ≠ D) (hv : RowV w lv V) (hvD : lv.ownBlock ≠ some D) (hV : V.length ≤ 20)
    (hr : w.rowIs D 3 V.length (fun k => .int .i64 (k : Int))) :
    Calls Try.prog 16 #[.slice (some ⟨D, 0, none⟩) V.length cap, .func (.func 17) #[] #[.pointer (some ⟨p, 0, none⟩)]] w (Sorted V D w) := by
  have HS := gstable V lv p D cap w hp hpl hpD hv hvD hV hr
  unfold Sorted at HS ⊢
  clear hp hv hr hvD
  go_enter Try.func16, Try.ntmps16
  go_wp2_with fail
  refine HS.mono ?_
  rintro e w1 ⟨rfl, hr1, hk1⟩
  go_wp2
  go_end0
  exact ⟨rfl, hr1, hk1⟩
set_option maxRecDepth 100000 in
theorem infoInt : (Try.prog.info? 3).map (fun i => (i.zero, i.size, i.bytes)) = some (some (.int .i64 0), 1, 8) := by kernel_rfl
/-- The numbers below k lie in the row, zeros behind them. -/
def idf (k : Nat) : Nat → Value := fun j => if j < k then .int .i64 (j : Int) else .int .i64 0
set_option maxHeartbeats 1000000 in
set_option maxRecDepth 100000 in
theorem gfirst (V : List Int) (lv : Value) (w : World) (hv : RowV w lv V) (h1 : 0 < V.length) (hV : V.length ≤ 20) :
    Calls Try.prog 11 #[lv] w fun e w' => (∃ D, e = .returned (.slice (some ⟨D, 0, none⟩) V.length V.length) ∧ w.heap.size ≤ D ∧ w'.rowIs D 3 V.length (fun k => .int .i64 ((gfL (vOf V) V.length).getD k 0 : Int))) ∧ Below w.heap.size w w' := by
  obtain ⟨x, cap, rfl, hx, hc⟩ := hv.cons (by intro h; subst h; simp at h1)
  have hmk := fun w => run_make_row' (P := Try.prog) 36 3 (.int .i64 0) 8 Try.underlying36 infoInt rfl .i64 .i64 V.length (by omega) (by omega) w
  obtain ⟨W1, hW1⟩ : ∃ W1, W1 = (w.alloc (.cells #[.slice (some x) V.length cap] 24)).alloc (.cells (madeCells #[.int .i64 0] V.length) 3) := ⟨_, rfl⟩
  have b1 : Below w.heap.size w W1 := by rw [hW1]; exact ((Below.refl w.heap.size w).alloc (Nat.le_refl _) _).alloc (by simp) _
  have hb : W1.cell? ⟨w.heap.size, 0, none⟩ = some (.slice (some x) V.length cap) := by rw [hW1]; go_simp
  have hr : W1.rowIs (w.heap.size + 1) 3 V.length (idf 0) := by
    rw [hW1]
    have := World.rowIs_made (w.alloc (.cells #[.slice (some x) V.length cap] 24)) (.int .i64 0) V.length 3
    simp only [World.size_alloc] at this
    exact this.congr (fun j _ => by simp [idf])
  rw [hW1] at b1 hb hr
  have B1 := Lib.hid b1
  have HB := Lib.hid hb
  have HR := Lib.hid hr
  have HV := Lib.hid hv
  clear b1 hb hr hW1 hv
  go_enter Try.func11, Try.ntmps11
  go_wp2
  go_loopg [10] V.length (fun g i wr => ∃ k : Nat, k ≤ V.length ∧ g = V.length - k ∧ i = .int .i64 k ∧ Below w.heap.size w wr ∧ wr.cell? ⟨w.heap.size, 0, none⟩ = some (.slice (some x) V.length cap) ∧ wr.rowIs (w.heap.size + 1) 3 V.length (idf k))
  case atStart => exact ⟨0, Nat.zero_le _, rfl, rfl, B1.out, HB.out, HR.out⟩
  case round =>
    clear hmk HB HR B1
    obtain ⟨k, hk, rfl, rfl, hb, hcell, hro⟩ := hrel
    have hD := hro.lt
    by_cases hlt : k < V.length
    · have c1 := hro.cell (i := k) hlt
      have f1 := hro.frozen k
      have np : w.heap.size ≠ w.heap.size + 1 := by omega
      go_wp2
      go_roundg (V.length - (k + 1))
      case measure => omega
      case rel =>
        refine ⟨k + 1, by omega, rfl, by simp, hb.setCell (by show _ ≤ _ + _; omega) _, ?_, (hro.set k _).congr (fun j _ => ?_)⟩
        · exact ((Kept.set wr ⟨w.heap.size + 1, k, none⟩ (.int .i64 (k : Int)) (S := fun b => b = w.heap.size + 1) rfl).cell (p := ⟨w.heap.size, 0, none⟩) (by show w.heap.size < _; omega) (by show ¬ w.heap.size = _; omega)).trans hcell
        · unfold idf
          by_cases e : j = k
          · subst e; rw [if_pos rfl, if_pos (by omega)]
          · rw [if_neg e]
            by_cases h : j < k
            · rw [if_pos h, if_pos (by omega)]
            · rw [if_neg h, if_neg (by omega)]
    · have e : k = V.length := by omega
      subst e
      have hvr := HV.out.below hb
      have hxb := hx
      have hro2 : wr.rowIs (w.heap.size + 1) 3 V.length (fun k => .int .i64 (k : Int)) := hro.congr (fun j hj => by simp [idf, hj])
      have HS := gsortf V (.slice (some x) V.length cap) w.heap.size (w.heap.size + 1) V.length wr hcell (by omega) (by omega) hvr (by intro e; have q : x.block = w.heap.size + 1 := by { cases x; simpa [Value.ownBlock] using e }; omega) hV hro2
      unfold Sorted at HS
      clear hvr hro hro2 hcell hxb
      go_wp2_with fail
      refine HS.mono ?_
      rintro e w2 ⟨rfl, hr2, hk2⟩
      go_wp2
      go_ret
      refine ⟨⟨_, rfl, by omega, hr2.congr (fun j hj => by unfold gfR; rw [if_pos hj])⟩, hb.trans (hk2.below (B := w.heap.size) hb.size (fun b e => by omega))⟩
end Go.Proofs.Ytbbdilpbblijaaa
