/- Matrices of noughts: the specification's and the program's. -/
import Derived.Test.YtnpolmanebmmcaaMx1
namespace Go.Proofs.Ytnpolmanebmmcaa
open Go.ChangeShapes Go.WideShapes Go.ChangeAt Go.RowKit Go.Deep
set_option linter.unusedSimpArgs false
set_option linter.unusedVariables false
def zer (n : Nat) : List (List Int) := List.replicate n (List.replicate n 0)
theorem zer_len (n : Nat) : (zer n).length = n := by simp [zer]
theorem zer_at {n i : Nat} (h : i < n) : (zer n).getD i [] = List.replicate n 0 := by simp [zer, List.getD, h]
theorem zer_sq (n : Nat) : Sq n (zer n) := ⟨zer_len n, fun i hi => by rw [zer_at hi]; simp⟩
theorem zer_mg (n i j : Nat) : mg (zer n) i j = 0 := by
  unfold mg zer
  by_cases h : i < n
  · by_cases h2 : j < n
    · simp [List.getD, h, h2]
    · simp [List.getD, h, h2]
  · simp [List.getD, h]
theorem zer_bd (n : Nat) : Bd 0 (zer n) := fun i j => by rw [zer_mg]; omega
theorem zer_fits {n : Nat} (h : n ≤ 1048576) : FitsJ (zer n) := ⟨by rw [zer_len]; exact h, fun k hk => by rw [zer_at (by rw [zer_len] at hk; exact hk)]; simpa using h⟩
theorem row_made (w : World) (n : Nat) : OwnI (w.alloc (.cells (madeCells #[.int .i64 0] n) 2)) w.heap.size (List.replicate n 0) := by
  unfold OwnI
  have := World.rowIs_made w (.int .i64 0) n 2
  rw [List.length_replicate]
  exact this.congr fun j hj => by simp [List.getD, hj]
set_option maxHeartbeats 1000000 in
set_option maxRecDepth 100000 in
theorem isquare (n : Nat) (hn : n ≤ 6) (w : World) :
    Calls Try.prog 68 #[.int .i64 (n : Int)] w fun e w' => e = .returned (.slice (some ⟨w.heap.size, 0, none⟩) n n) ∧ Js w' w.heap.size w.heap.size (zer n) ∧ Below w.heap.size w w' := by
  have hmk := run_make_row' (P := Try.prog) 22 23 (.slice none 0 0) 24 Try.underlying22 infoIS rfl .i64 .i64 n (by omega) (by omega)
  have hmr := run_make_row' (P := Try.prog) 23 2 (.int .i64 0) 8 Try.underlying23 infoI rfl .i64 .i64 n (by omega) (by omega)
  have hC0 : CopyJ w.heap.size w.heap.size (w.alloc (.cells (madeCells #[.slice none 0 0] n) 23)) (zer n) n 0 (fun _ => 0) :=
    ⟨(World.rowIs_made _ _ _ _).congr (fun j _ => by simp [jjf]), fun j hj => absurd hj (Nat.not_lt_zero _), fun i j _ hj => absurd hj (Nat.not_lt_zero _)⟩
  have hB0 : Below w.heap.size w (w.alloc (.cells (madeCells #[.slice none 0 0] n) 23)) := (Below.refl _ _).alloc (Nat.le_refl _) _
  go_enter Try.func68, Try.ntmps68
  go_wp2
  go_loopg [9] n (fun g i wr => ∃ k : Nat, k ≤ n ∧ g = n - k ∧ i = .int .i64 k ∧ Below w.heap.size w wr ∧ w.heap.size < wr.heap.size ∧ ∃ c, CopyJ w.heap.size w.heap.size wr (zer n) n k c)
  case atStart => exact ⟨0, Nat.zero_le _, rfl, rfl, hB0, by simp, _, hC0⟩
  case round =>
    clear hmk hC0 hB0
    obtain ⟨k, hk, rfl, rfl, hb, hsz, c, hC⟩ := hrel
    by_cases hlt : k < n
    · have s1 : (wr.alloc (.cells (madeCells #[.int .i64 0] n) 2)).cell? ⟨w.heap.size, k, none⟩ = some (jjf (zer n) c k k) := by
        rw [World.cell?_of_block (Below.heap_alloc _ _ _ hsz)]; exact hC.row.cell hlt
      have f1 : (wr.alloc (.cells (madeCells #[.int .i64 0] n) 2)).frozen? ⟨w.heap.size, k, none⟩ = false := by
        rw [World.frozen?_of_block (Below.heap_alloc _ _ _ hsz)]; exact hC.row.frozen k
      have ho := row_made wr n
      have hbr : Below wr.heap.size wr (wr.alloc (.cells (madeCells #[.int .i64 0] n) 2)) := (Below.refl _ _).alloc (Nat.le_refl _) _
      rw [← zer_at hlt] at ho
      have hS := copyJ_step hC hbr (Nat.le_refl _) (by omega) (Nat.le_refl _) ho
      have hbs := (hb.alloc hb.size (.cells (madeCells #[.int .i64 0] n) 2)).setCell (p := ⟨w.heap.size, k, none⟩) (Nat.le_refl _) (.slice (some ⟨wr.heap.size, 0, none⟩) n n)
      have el : ((zer n).getD k []).length = n := by rw [zer_at hlt]; simp
      rw [el] at hS
      rw [World.setCell_alloc_past _ _ _ _ hsz] at hS hbs
      have HS := Lib.hid hS
      have HBS := Lib.hid hbs
      clear ho hbr hS hbs
      go_wp2
      go_roundg (n - (k + 1))
      case measure => omega
      case rel =>
        refine ⟨k + 1, by omega, rfl, by simp, HBS.out, ?_, _, HS.out⟩
        simp [World.setCell]; omega
    · have e : k = n := by omega
      subst e
      go_wp2
      go_ret
      exact ⟨rfl, ⟨_, by rw [zer_len]; exact hC⟩, hb⟩
set_option maxHeartbeats 1000000 in
set_option maxRecDepth 100000 in
theorem ssquare (n : Nat) (hn : n ≤ 6) (hn1 : 1 ≤ n) (w : World) :
    Calls Try.prog 67 #[.int .i64 (n : Int)] w fun e w' => (∃ b cap, e = .returned (.slice (some ⟨b, 0, none⟩) n cap) ∧ OwJ w' w.heap.size w'.heap.size (.slice (some ⟨b, 0, none⟩) n cap) (zer n)) ∧ Below w.heap.size w w' := by
  obtain ⟨j0, hj, hy0, hy1, hy2⟩ := info_parts infoIS
  have hmr := run_make_row' (P := Try.prog) 23 2 (.int .i64 0) 8 Try.underlying23 infoI rfl .i64 .i64 n (by omega) (by omega)
  have hB0 := BldJ.start_lit w (Nat.le_refl _) (fun _ => .slice none 0 0)
  have hb0 : Below w.heap.size w (w.alloc (.cells #[] 23)) := (Below.refl _ _).alloc (Nat.le_refl _) _
  go_enter Try.func67, Try.ntmps67
  go_wp2
  go_loopg [3, 4] n (fun g v i wr => ∃ (k : Nat) (l : List (List Int)) (f : Nat → Value), k ≤ n ∧ g = n - k ∧ i = .int .i64 k ∧ BldJ wr w.heap.size v l f ∧ Hid (l = List.replicate k (List.replicate n 0)) ∧ l.length ≤ k ∧ Below w.heap.size w wr)
  case atStart => exact ⟨0, [], _, Nat.zero_le _, rfl, rfl, hB0, rfl, Nat.le_refl _, hb0⟩
  case round =>
    clear hB0 hb0
    obtain ⟨k, l, f, hk, rfl, rfl, hB, HL, hlk, hb⟩ := hrel
    by_cases hlt : k < n
    · have hu : OwI (wr.alloc (.cells (madeCells #[.int .i64 0] n) 2)) wr.heap.size (wr.alloc (.cells (madeCells #[.int .i64 0] n) 2)).heap.size (.slice (some ⟨wr.heap.size, 0, none⟩) n n) (List.replicate n 0) := by
        have := (row_made wr n).ow n wr.heap.size (wr.heap.size + 1) (Nat.le_refl _) (by omega) (by simp; omega)
        simpa using this
      have hbr : Below wr.heap.size wr (wr.alloc (.cells (madeCells #[.int .i64 0] n) 2)) := (Below.refl _ _).alloc (Nat.le_refl _) _
      have HBLD := Lib.hid (fun (w3 : World) v' (hg : _) ho => hB.step (v' := v') (w3 := w3) (o := .cells #[.slice (some ⟨wr.heap.size, 0, none⟩) n n] 23) hb.size hbr hu hg ho)
      have howl := (hB.below hbr).own
      have hb2 := hb.trans (hbr.mono hb.size)
      have sw := hb.size
      clear hu
      go_wp2_with (first
        | (at_builtin; refine wpList_append_own _ rfl _ _ 22 rfl w.heap.size 23 j0 (.slice none 0 0) 1 24 Try.underlying22 hj hy0 hy1 hy2 rfl (by decide) _ _ _ rfl (howl.alloc _) ⟨wr.heap.size + 1, 0, none⟩ 1 1 [.slice (some ⟨wr.heap.size, 0, none⟩) n n] rfl rfl ?c1 ?c2 ?c3 ?c4 ?c5 ?_))
      case c1 => exact World.news_of_block (cs := #[.slice (some ⟨wr.heap.size, 0, none⟩) n n]) (t := 23) (fr := (0, 0)) (by have := heap_alloc_new (wr.alloc (.cells (madeCells #[.int .i64 0] n) 2)) (.cells #[.slice (some ⟨wr.heap.size, 0, none⟩) n n] 23); rw [World.size_alloc] at this; exact this)
      case c2 => simp [Value.oneCell']
      case c3 => unfold maxLen; omega
      case c4 => omega
      case c5 => simp; omega
      intro v2 w3 hown4 hgrow4 _
      have hB2 := HBLD.out w3 v2 hgrow4 hown4
      have hb4 := (hb2.alloc (by simp; omega) _).grown hgrow4 (by simp; omega) (fun x e => (hB.own.lt x e).1)
      clear hown4 hgrow4
      go_wp2
      go_roundg (n - (k + 1))
      case measure => omega
      case rel => exact ⟨k + 1, l ++ [List.replicate n 0], _, by omega, rfl, by simp, hB2, by (show l ++ [List.replicate n 0] = _; rw [List.replicate_succ', ← HL.out]), by rw [List.length_append, List.length_singleton]; omega, hb4⟩
    · have e : k = n := by omega
      subst e
      have hO := hB.done (by rw [HL.out]; exact zer_fits (n := k) (by omega))
      have hz : l = zer k := HL.out
      rw [hz] at hO
      have hO' := hO
      obtain ⟨⟨-, h0⟩ | ⟨b, cap, N, g, rfl, -⟩, -⟩ := hO'
      · have := congrArg List.length h0; rw [zer_len] at this; simp at this; omega
      · rw [zer_len] at hO ⊢
        clear hB HL hmr
        go_wp2
        go_ret
        exact ⟨⟨b, cap, rfl, hO⟩, hb⟩
end Go.Proofs.Ytnpolmanebmmcaa
