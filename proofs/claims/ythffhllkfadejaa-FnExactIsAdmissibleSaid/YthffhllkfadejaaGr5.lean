/- The program's graph: defendedBy, isConflictFree, defendsItself, setOf. -/
import Derived.Test.YthffhllkfadejaaGr4
import Derived.Test.YthffhllkfadejaaPo3
namespace Go.Proofs.Ythffhllkfadejaa
open Go.ChangeShapes Go.WideShapes Go.ChangeAt Go.RowKit Go.Deep Go.Maps
set_option linter.unusedSimpArgs false
set_option linter.unusedVariables false
/-- The closure of defendedBy. -/
theorem def1_any (n m : Nat) (L : List (List Int)) (s k p q : Nat) (w : World) (h : GrIs w n m L) (hk : k < 10) (hs : s < 65536)
    (c1 : w.cell? ⟨p, 1, none⟩ = some (.map (some m))) (c2 : w.cell? ⟨q, 0, none⟩ = some (.int .u16 (s : Int))) :
    Calls Try.prog 55 (#[.int .i64 (k : Int)] ++ #[.pointer (some ⟨p, 0, none⟩), .pointer (some ⟨q, 0, none⟩)]) w fun e w' => e = .returned (.bool (subB (byF L (k : Int)) s)) ∧ Below w.heap.size w w' := by
  show Calls Try.prog 55 #[.int .i64 (k : Int), .pointer (some ⟨p, 0, none⟩), .pointer (some ⟨q, 0, none⟩)] w _
  have hl := h.look k hk
  have HB := fun w' => isin_any (byF L (k : Int)) s w' (Nat.lt_trans (h.by_lt k) (by decide)) hs
  clear h
  generalize subB (byF L (k : Int)) s = z at HB ⊢
  go_enter Try.func55, Try.ntmps55
  go_wp2_with fail
  refine (HB _).mono ?_
  rintro e w1 ⟨rfl, rfl⟩
  go_wp2
  go_ret
  exact ⟨rfl, Below.refl _ _⟩
set_option maxHeartbeats 1000000 in
theorem def_any (n m : Nat) (L : List (List Int)) (s : Nat) (w : World) (h : GrIs w n m L) (hs : s < 65536) :
    Calls Try.prog 50 #[.agg #[.int .i64 (n : Int), .map (some m)], .int .u16 (s : Int)] w fun e w' => e = .returned (.int .u16 (defB n L s : Int)) ∧ Below w.heap.size w w' := by
  have b0 := (Below.refl w.heap.size w).alloc (Nat.le_refl _) (.cells #[.int .i64 (n : Int), .map (some m)] 42)
  obtain ⟨W, hW⟩ : ∃ W, W = w.alloc (.cells #[.int .i64 (n : Int), .map (some m)] 42) := ⟨_, rfl⟩
  have c1 : W.cell? ⟨w.heap.size, 1, none⟩ = some (.map (some m)) := by rw [hW]; go_simp
  have c0 : W.cell? ⟨w.heap.size, 0, none⟩ = some (.int .i64 (n : Int)) := by rw [hW]; go_simp
  have hsz : w.heap.size < W.heap.size := by rw [hW]; simp
  have bW : Below w.heap.size w W := hW ▸ b0
  have hG := h.below bW
  have HA := att_any n m L s W hG hs
  rw [hW] at HA
  have hw1 : attB n L s < 65536 := Nat.lt_trans (attB_lt10 h.le L s) (by decide)
  have hle := h.le
  have HT := fun (w' : World) (hb : Below W.heap.size W w') (q : Nat) (hq : q < w'.heap.size) (c2 : w'.cell? ⟨q, 0, none⟩ = some (.int .u16 (attB n L s : Int))) =>
    those_any 55 (fun _ _ => rfl) #[.pointer (some ⟨w.heap.size, 0, none⟩), .pointer (some ⟨q, 0, none⟩)] n (.map (some m)) (fun x => subB (byF L (x : Int)) (attB n L s)) w' hle
      (fun k w'' hk hb' => def1_any n m L (attB n L s) k _ _ w'' ((hG.below hb).below hb') (by omega) hw1 ((hb'.cell (p := ⟨w.heap.size, 1, none⟩) (Nat.lt_of_lt_of_le hsz hb.size)).trans ((hb.cell (p := ⟨w.heap.size, 1, none⟩) hsz).trans c1)) ((hb'.cell (p := ⟨q, 0, none⟩) hq).trans c2))
  have HD : those n (fun x => subB (byF L (x : Int)) (attB n L s)) = defB n L s := rfl
  rw [HD] at HT
  have HWH := Lib.hid hW
  have HTH := Lib.hid HT
  generalize attB n L s = a at HA HTH hw1
  generalize defB n L s = d at HTH ⊢
  clear hG hW b0 h HD HT
  go_enter Try.func50, Try.ntmps50
  go_wp2_with fail
  refine HA.mono ?_
  rintro e w1 ⟨rfl, hb1⟩
  rw [← HWH.out] at hb1
  have HX := HTH.out (w1.alloc (.cells #[.int .u16 (a : Int)] 57)) (hb1.alloc (by have := hb1.size; omega) _) w1.heap.size (by simp) (by go_simp)
  have d0 := (hb1.cell (p := ⟨w.heap.size, 0, none⟩) hsz).trans c0
  have d1 := (hb1.cell (p := ⟨w.heap.size, 1, none⟩) hsz).trans c1
  have b1 := bW.trans (hb1.mono bW.size)
  have lt1 : w.heap.size < w1.heap.size := by have := hb1.size; omega
  clear HTH HA c0 c1 hb1
  go_wp2_with fail
  refine HX.mono ?_
  rintro e w2 ⟨rfl, hb2⟩
  go_wp2
  go_ret
  refine ⟨rfl, ?_⟩
  have b2 := b1.alloc (by omega) (.cells #[.int .u16 (a : Int)] 57)
  exact b2.trans (hb2.mono b2.size)
set_option maxHeartbeats 1000000 in
theorem free_any (n m : Nat) (L : List (List Int)) (s : Nat) (w : World) (h : GrIs w n m L) (hs : s < 65536) :
    Calls Try.prog 30 #[.agg #[.int .i64 (n : Int), .map (some m)], .int .u16 (s : Int)] w fun e w' => e = .returned (.bool (freeB n L s)) ∧ Below w.heap.size w w' := by
  have b0 := (Below.refl w.heap.size w).alloc (Nat.le_refl _) (.cells #[.int .i64 (n : Int), .map (some m)] 42)
  have HA := att_any n m L s _ (h.below b0) hs
  have E := Lib.hid (and_eq (attB n L s) s (Nat.lt_trans (attB_lt10 h.le L s) (by decide)) hs)
  have EF : freeB n L s = decide (attB n L s &&& s = 0) := rfl
  rw [EF]
  generalize attB n L s = a at HA E
  generalize decide (a &&& s = 0) = z at E ⊢
  clear h EF
  go_enter Try.func30, Try.ntmps30
  go_wp2_with fail
  refine HA.mono ?_
  rintro e w1 ⟨rfl, hb1⟩
  go_wp2
  go_ret
  exact ⟨by rw [E.out]; rfl, b0.trans (hb1.mono b0.size)⟩
set_option maxHeartbeats 1000000 in
theorem own_any8 (n m : Nat) (L : List (List Int)) (s : Nat) (w : World) (h : GrIs w n m L) (hs : s < 65536) :
    Calls Try.prog 34 #[.agg #[.int .i64 (n : Int), .map (some m)], .int .u16 (s : Int)] w fun e w' => e = .returned (.bool (ownB n L s)) ∧ Below w.heap.size w w' := by
  have b0 := (Below.refl w.heap.size w).alloc (Nat.le_refl _) (.cells #[.int .i64 (n : Int), .map (some m)] 42)
  have HA := def_any n m L s _ (h.below b0) hs
  have HI := fun w' => isin_any s (defB n L s) w' hs (Nat.lt_trans (defB_lt10 h.le L s) (by decide))
  have EF : ownB n L s = subB s (defB n L s) := rfl
  rw [EF]
  generalize defB n L s = a at HA HI ⊢
  generalize subB s a = z at HI ⊢
  clear h EF
  go_enter Try.func34, Try.ntmps34
  go_wp2_with fail
  refine HA.mono ?_
  rintro e w1 ⟨rfl, hb1⟩
  go_wp2_with fail
  refine (HI _).mono ?_
  rintro e w2 ⟨rfl, rfl⟩
  go_wp2
  go_ret
  exact ⟨rfl, b0.trans (hb1.mono b0.size)⟩
end Go.Proofs.Ythffhllkfadejaa
