/- The sums of the weights for each vote: the program's. -/
import Derived.Test.YtgoocglcgkfgmaaCa1
import Derived.Deep.RegionWith
namespace Go.Proofs.Ytgoocglcgkfgmaa
open Go.ChangeShapes Go.WideShapes Go.ChangeAt Go.RowKit Go.Deep
set_option linter.unusedSimpArgs false
set_option linter.unusedVariables false
/-- The sum of the weights of the first k votes that are i. -/
def os (V W : List Int) : Nat → Int → Int
  | 0, _ => 0
  | k + 1, i => os V W k i + if V.getD k 0 = i then W.getD k 0 else 0
theorem os_bd {V W : List Int} (h : vwOk V W) {k : Nat} (hk : k ≤ V.length) (i : Int) : 0 ≤ os V W k i ∧ os V W k i ≤ 1000 * k := by
  induction k with
  | zero => exact ⟨by show (0 : Int) ≤ 0; omega, by show (0 : Int) ≤ _; omega⟩
  | succ k ih =>
    have a := ih (by omega)
    have b := wB_ok (all_at h.2.1 (show k < W.length by rw [h.2.2.1]; omega))
    show 0 ≤ os V W k i + (if V.getD k 0 = i then W.getD k 0 else 0) ∧ os V W k i + (if V.getD k 0 = i then W.getD k 0 else 0) ≤ _
    split <;> omega
/-- The three sums. -/
def osL (V W : List Int) : List Int := [os V W V.length 0, os V W V.length 1, os V W V.length 2]
set_option maxHeartbeats 1000000 in
set_option maxRecDepth 100000 in
theorem isums (b cap : Nat) (V W : List Int) (w : World) (h : CsR w b V W) (ok : vwOk V W) :
    Calls Try.prog 56 #[.slice (some ⟨b, 0, none⟩) V.length cap] w fun e w' => e = .returned (.slice (some ⟨w.heap.size, 0, none⟩) 3 3) ∧ w'.rowIs w.heap.size 2 3 (fun i => .int .i64 (os V W V.length (i : Int))) ∧ Below w.heap.size w w' := by
  have hmk : ∀ w, (Instr.makeSlice 26 (.int .i64 3) (.int .i64 3)).run Try.prog w = .ok (.slice (some ⟨w.heap.size, 0, none⟩) 3 3) (w.alloc (.cells (madeCells #[.int .i64 0] 3) 2)) :=
    fun W => run_make_row' (w := W) (P := Try.prog) 26 2 (.int .i64 0) 8 Try.underlying26 infoI rfl .i64 .i64 3 (by omega) (by omega)
  have hb0 : Below w.heap.size w (w.alloc (.cells (madeCells #[.int .i64 0] 3) 2)) := (Below.refl _ _).alloc (Nat.le_refl _) _
  have hr0 := Lib.hid ((World.rowIs_made w (.int .i64 0) 3 2).congr (g := fun i => .int .i64 (os V W 0 (i : Int))) (fun i _ => rfl))
  have OK := Lib.hid ok
  have hbl := World.rowIs.lt h
  have HC := Lib.hid h
  have hn := ok.1
  clear ok h
  go_enter Try.func56, Try.ntmps56
  go_wp2
  go_loopg [9] V.length (fun g i wr => ∃ k : Nat, k ≤ V.length ∧ g = V.length - k ∧ i = .int .i64 (k : Int) ∧ Below w.heap.size w wr ∧ w.heap.size < wr.heap.size ∧ Hid (wr.rowIs w.heap.size 2 3 (fun i => .int .i64 (os V W k (i : Int)))))
  case atStart => exact ⟨0, Nat.zero_le _, rfl, rfl, hb0, by simp, hr0⟩
  case round =>
    obtain ⟨k, hk, rfl, rfl, hb, hsz, HR⟩ := hrel
    clear hmk hb0 hr0
    by_cases hlt : k < V.length
    · obtain ⟨c1, c2⟩ := (HC.out.below hb).at hlt
      have va := vB_ok (all_at OK.out.2.2.2 hlt)
      have wa := wB_ok (all_at OK.out.2.1 (show k < W.length by rw [OK.out.2.2.1]; exact hlt))
      obtain ⟨a, ha⟩ : ∃ a, V.getD k 0 = a := ⟨_, rfl⟩
      obtain ⟨y, hy⟩ : ∃ y, W.getD k 0 = y := ⟨_, rfl⟩
      rw [ha] at c1 va
      rw [hy] at c2 wa
      obtain ⟨t, rfl⟩ : ∃ t : Nat, a = (t : Int) := ⟨a.toNat, by omega⟩
      have ht : t < 3 := by omega
      have s1 : wr.cell? ⟨w.heap.size, t, none⟩ = some (.int .i64 (os V W k (t : Int))) := HR.out.cell ht
      have z1 : wr.frozen? ⟨w.heap.size, t, none⟩ = false := HR.out.frozen _
      obtain ⟨o1, o2⟩ := os_bd OK.out hk (t : Int)
      have hos : ∀ i : Int, os V W (k + 1) i = os V W k i + if (t : Int) = i then y else 0 := fun i => by rw [← ha, ← hy]; rfl
      obtain ⟨s, hs⟩ : ∃ s, os V W k (t : Int) = s := ⟨_, rfl⟩
      rw [hs] at s1 o1 o2
      have ws : IntKind.i64.wrap (s + y) = s + y := by rw [IntKind.wrap_i64]; omega
      obtain ⟨q, hq⟩ : ∃ q, s + y = q := ⟨_, rfl⟩
      rw [hq] at ws
      have HOS := Lib.hid hos
      have HS := Lib.hid hs
      have HQ := Lib.hid hq
      have hne : w.heap.size ≠ wr.heap.size := by omega
      have hbw : b < wr.heap.size := by omega
      clear hos hs ha hy
      go_wp2_with fail
      go_region_with (fail)
      all_goals
        go_wp2
        go_roundg (V.length - (k + 1))
        case measure => omega
        case rel =>
          refine ⟨k + 1, by omega, rfl, by simp, ?_, by simp; omega, Lib.hid ?_⟩
          · exact ((hb.setCell (Nat.le_refl _) _).alloc (by simp; omega) _).drew
          · refine (World.rowIs.of_block (World.rowIs.of_block (HR.out.set t (.int .i64 q)) (((Below.refl _ _).alloc (Nat.le_refl _) (.cells #[.int .i64 (t : Int), .int .i64 y] 65)).block w.heap.size (by simp; exact hsz))) rfl).congr (fun i hi => ?_)
            by_cases e : i = t
            · subst e; simp [HOS.out, HS.out, HQ.out]
            · rw [if_neg e, HOS.out, if_neg (by omega)]; simp
    · have e' : k = V.length := by omega
      subst e'
      go_wp2
      go_ret
      exact ⟨rfl, HR.out, hb⟩
end Go.Proofs.Ytgoocglcgkfgmaa
