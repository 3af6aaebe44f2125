/- Deeds: what the program takes out of one. -/
import Derived.Test.YtkaakomiimcbmaaDd5
import Derived.Deep.RegionHeld3
namespace Go.Proofs.Ytkaakomiimcbmaa
open Go.ChangeShapes Go.WideShapes Go.ChangeAt Go.RowKit Go.Deep
set_option linter.unusedSimpArgs false
set_option linter.unusedVariables false
/-- The cells of a deed. -/
def df (X : Dd) (vt vp : Value) : Nat → Value := fun j =>
  if j = 0 then .int .i64 X.k else if j = 1 then .int .i64 X.m else if j = 2 then vt else if j = 3 then .string X.n else if j = 4 then .int .i64 X.v else if j = 5 then vp else if j = 6 then .int .i64 X.f else if j = 7 then .int .i64 X.u else .int .i64 X.c
def Dbx (w : World) (b : Nat) (X : Dd) (vt vp : Value) : Prop := w.rowIs b 30 9 (df X vt vp)
theorem Dbx.made (w : World) (X : Dd) (vt vp : Value) : Dbx (w.alloc (.cells #[.int .i64 X.k, .int .i64 X.m, vt, .string X.n, .int .i64 X.v, vp, .int .i64 X.f, .int .i64 X.u, .int .i64 X.c] 30)) w.heap.size X vt vp := by
  refine ⟨_, heap_alloc_new w _, rfl, fun i hi => ?_⟩
  match i, hi with
  | 0, _ => rfl
  | 1, _ => rfl
  | 2, _ => rfl
  | 3, _ => rfl
  | 4, _ => rfl
  | 5, _ => rfl
  | 6, _ => rfl
  | 7, _ => rfl
  | 8, _ => rfl
theorem Dbx.at' {w : World} {b : Nat} {X : Dd} {vt vp : Value} (h : Dbx w b X vt vp) : DdAt w b X vt vp :=
  ⟨h.cell (i := 0) (by omega), h.cell (i := 1) (by omega), h.cell (i := 2) (by omega), h.cell (i := 3) (by omega), h.cell (i := 4) (by omega), h.cell (i := 5) (by omega), h.cell (i := 6) (by omega), h.cell (i := 7) (by omega), h.cell (i := 8) (by omega), World.rowIs.lt h⟩
theorem Dbx.below {w w' : World} {b : Nat} {X : Dd} {vt vp : Value} (h : Dbx w b X vt vp) (hb : Below w.heap.size w w') : Dbx w' b X vt vp := World.rowIs.of_block h (hb.block b (World.rowIs.lt h))
theorem keptB {w w' : World} {S : Nat → Prop} (h : Below w.heap.size w w') : Kept w w' S := ⟨h.os, h.tape, h.output, h.size, fun b hb _ => h.block b hb⟩
set_option maxHeartbeats 4000000 in
set_option maxRecDepth 100000 in
theorem itake1 (b : Nat) (X : Dd) (ta pa : Option Addr) (tc pc : Nat) (w : World) (h : Dbx w b X (.slice ta X.t.length tc) (.slice pa X.p.length pc)) :
    Calls Try.prog 25 #[.pointer (some ⟨b, 0, none⟩)] w fun e w' => e = .returned (.iface 66 (.agg #[.int .i64 X.m, .slice ta X.t.length tc])) ∧ Dbx w' b { X with m := 0, t := [] } (.slice none 0 0) (.slice pa X.p.length pc) ∧ Kept w w' (fun x => x = b) := by
  have ha := h.at'
  obtain ⟨c0, c1, c2, c3, c4, c5, c6, c7, c8, lb⟩ := ha
  have f1 := h.frozen 1
  have f2 := h.frozen 2
  have HX := Lib.hid h
  have n1 : ¬ b = w.heap.size := by omega
  have n2 : ¬ w.heap.size = b := by omega
  clear h
  go_enter Try.func25, Try.ntmps25
  go_wp2
  go_region
  all_goals go_wp2
  have hb := ((Below.refl ((w.setCell ⟨b, 1, none⟩ (.int .i64 0)).setCell ⟨b, 2, none⟩ (.slice none 0 0)).heap.size ((w.setCell ⟨b, 1, none⟩ (.int .i64 0)).setCell ⟨b, 2, none⟩ (.slice none 0 0))).alloc (Nat.le_refl _) (.cells #[.int .i64 X.m, .slice ta X.t.length tc] 66)).drew
  have hr : ((w.setCell ⟨b, 1, none⟩ (.int .i64 0)).setCell ⟨b, 2, none⟩ (.slice none 0 0)).rowIs b 30 9 (df { X with m := 0, t := [] } (.slice none 0 0) (.slice pa X.p.length pc)) := (World.rowIs.set (World.rowIs.set HX.out 1 (.int .i64 0)) 2 (.slice none 0 0)).congr (fun j hj => by
    match j, hj with
    | 0, _ => rfl
    | 1, _ => rfl
    | 2, _ => rfl
    | 3, _ => rfl
    | 4, _ => rfl
    | 5, _ => rfl
    | 6, _ => rfl
    | 7, _ => rfl
    | 8, _ => rfl
    )
  have hk := Kept.trans (Kept.trans (Kept.trans (Kept.refl w (fun x => x = b)) (Kept.set _ _ _ rfl)) (Kept.set _ _ _ rfl)) (keptB (S := fun x => x = b) hb)
  have HR := Lib.hid (World.rowIs.of_block hr (hb.block b (World.rowIs.lt hr)))
  have HK := Lib.hid hk
  clear hb hr hk
  go_ret
  exact ⟨rfl, HR.out, HK.out⟩
set_option maxHeartbeats 4000000 in
set_option maxRecDepth 100000 in
theorem itake2 (b : Nat) (X : Dd) (ta pa : Option Addr) (tc pc : Nat) (w : World) (h : Dbx w b X (.slice ta X.t.length tc) (.slice pa X.p.length pc)) :
    Calls Try.prog 26 #[.pointer (some ⟨b, 0, none⟩)] w fun e w' => e = .returned (.iface 68 (.agg #[.int .i64 X.m, .string X.n, .int .i64 X.v])) ∧ Dbx w' b { X with m := 0, n := ⟨#[]⟩, v := 0 } (.slice ta X.t.length tc) (.slice pa X.p.length pc) ∧ Kept w w' (fun x => x = b) := by
  have ha := h.at'
  obtain ⟨c0, c1, c2, c3, c4, c5, c6, c7, c8, lb⟩ := ha
  have f1 := h.frozen 1
  have f3 := h.frozen 3
  have f4 := h.frozen 4
  have HX := Lib.hid h
  have n1 : ¬ b = w.heap.size := by omega
  have n2 : ¬ w.heap.size = b := by omega
  clear h
  go_enter Try.func26, Try.ntmps26
  go_wp2
  go_region
  all_goals go_wp2
  have hb := ((Below.refl (((w.setCell ⟨b, 1, none⟩ (.int .i64 0)).setCell ⟨b, 3, none⟩ (.string ⟨#[]⟩)).setCell ⟨b, 4, none⟩ (.int .i64 0)).heap.size (((w.setCell ⟨b, 1, none⟩ (.int .i64 0)).setCell ⟨b, 3, none⟩ (.string ⟨#[]⟩)).setCell ⟨b, 4, none⟩ (.int .i64 0))).alloc (Nat.le_refl _) (.cells #[.int .i64 X.m, .string X.n, .int .i64 X.v] 68)).drew
  have hr : (((w.setCell ⟨b, 1, none⟩ (.int .i64 0)).setCell ⟨b, 3, none⟩ (.string ⟨#[]⟩)).setCell ⟨b, 4, none⟩ (.int .i64 0)).rowIs b 30 9 (df { X with m := 0, n := ⟨#[]⟩, v := 0 } (.slice ta X.t.length tc) (.slice pa X.p.length pc)) := (World.rowIs.set (World.rowIs.set (World.rowIs.set HX.out 1 (.int .i64 0)) 3 (.string ⟨#[]⟩)) 4 (.int .i64 0)).congr (fun j hj => by
    match j, hj with
    | 0, _ => rfl
    | 1, _ => rfl
    | 2, _ => rfl
    | 3, _ => rfl
    | 4, _ => rfl
    | 5, _ => rfl
    | 6, _ => rfl
    | 7, _ => rfl
    | 8, _ => rfl
    )
  have hk := Kept.trans (Kept.trans (Kept.trans (Kept.trans (Kept.refl w (fun x => x = b)) (Kept.set _ _ _ rfl)) (Kept.set _ _ _ rfl)) (Kept.set _ _ _ rfl)) (keptB (S := fun x => x = b) hb)
  have HR := Lib.hid (World.rowIs.of_block hr (hb.block b (World.rowIs.lt hr)))
  have HK := Lib.hid hk
  clear hb hr hk
  go_ret
  exact ⟨rfl, HR.out, HK.out⟩
set_option maxHeartbeats 4000000 in
set_option maxRecDepth 100000 in
theorem itake3 (b : Nat) (X : Dd) (ta pa : Option Addr) (tc pc : Nat) (w : World) (h : Dbx w b X (.slice ta X.t.length tc) (.slice pa X.p.length pc)) :
    Calls Try.prog 27 #[.pointer (some ⟨b, 0, none⟩)] w fun e w' => e = .returned (.iface 72 (.agg #[.string X.n, .int .i64 X.m, .slice pa X.p.length pc, .int .i64 X.f, .int .i64 X.u, .int .i64 X.c, .slice none 0 0, .int .i64 0])) ∧ Dbx w' b { X with m := 0, n := ⟨#[]⟩, p := [], f := 0, u := 0, c := 0 } (.slice ta X.t.length tc) (.slice none 0 0) ∧ Kept w w' (fun x => x = b) := by
  have ha := h.at'
  obtain ⟨c0, c1, c2, c3, c4, c5, c6, c7, c8, lb⟩ := ha
  have f3 := h.frozen 3
  have f1 := h.frozen 1
  have f5 := h.frozen 5
  have f6 := h.frozen 6
  have f7 := h.frozen 7
  have f8 := h.frozen 8
  have HX := Lib.hid h
  have n1 : ¬ b = w.heap.size := by omega
  have n2 : ¬ w.heap.size = b := by omega
  clear h
  go_enter Try.func27, Try.ntmps27
  go_wp2
  go_region
  all_goals go_wp2
  have hb := ((Below.refl ((((((w.setCell ⟨b, 3, none⟩ (.string ⟨#[]⟩)).setCell ⟨b, 1, none⟩ (.int .i64 0)).setCell ⟨b, 5, none⟩ (.slice none 0 0)).setCell ⟨b, 6, none⟩ (.int .i64 0)).setCell ⟨b, 7, none⟩ (.int .i64 0)).setCell ⟨b, 8, none⟩ (.int .i64 0)).heap.size ((((((w.setCell ⟨b, 3, none⟩ (.string ⟨#[]⟩)).setCell ⟨b, 1, none⟩ (.int .i64 0)).setCell ⟨b, 5, none⟩ (.slice none 0 0)).setCell ⟨b, 6, none⟩ (.int .i64 0)).setCell ⟨b, 7, none⟩ (.int .i64 0)).setCell ⟨b, 8, none⟩ (.int .i64 0))).alloc (Nat.le_refl _) (.cells #[.string X.n, .int .i64 X.m, .slice pa X.p.length pc, .int .i64 X.f, .int .i64 X.u, .int .i64 X.c, .slice none 0 0, .int .i64 0] 72)).drew
  have hr : ((((((w.setCell ⟨b, 3, none⟩ (.string ⟨#[]⟩)).setCell ⟨b, 1, none⟩ (.int .i64 0)).setCell ⟨b, 5, none⟩ (.slice none 0 0)).setCell ⟨b, 6, none⟩ (.int .i64 0)).setCell ⟨b, 7, none⟩ (.int .i64 0)).setCell ⟨b, 8, none⟩ (.int .i64 0)).rowIs b 30 9 (df { X with m := 0, n := ⟨#[]⟩, p := [], f := 0, u := 0, c := 0 } (.slice ta X.t.length tc) (.slice none 0 0)) := (World.rowIs.set (World.rowIs.set (World.rowIs.set (World.rowIs.set (World.rowIs.set (World.rowIs.set HX.out 3 (.string ⟨#[]⟩)) 1 (.int .i64 0)) 5 (.slice none 0 0)) 6 (.int .i64 0)) 7 (.int .i64 0)) 8 (.int .i64 0)).congr (fun j hj => by
    match j, hj with
    | 0, _ => rfl
    | 1, _ => rfl
    | 2, _ => rfl
    | 3, _ => rfl
    | 4, _ => rfl
    | 5, _ => rfl
    | 6, _ => rfl
    | 7, _ => rfl
    | 8, _ => rfl
    )
  have hk := Kept.trans (Kept.trans (Kept.trans (Kept.trans (Kept.trans (Kept.trans (Kept.trans (Kept.refl w (fun x => x = b)) (Kept.set _ _ _ rfl)) (Kept.set _ _ _ rfl)) (Kept.set _ _ _ rfl)) (Kept.set _ _ _ rfl)) (Kept.set _ _ _ rfl)) (Kept.set _ _ _ rfl)) (keptB (S := fun x => x = b) hb)
  have HR := Lib.hid (World.rowIs.of_block hr (hb.block b (World.rowIs.lt hr)))
  have HK := Lib.hid hk
  clear hb hr hk
  go_ret
  exact ⟨rfl, HR.out, HK.out⟩
set_option maxHeartbeats 4000000 in
set_option maxRecDepth 100000 in
theorem itake4 (b : Nat) (X : Dd) (ta pa : Option Addr) (tc pc : Nat) (w : World) (h : Dbx w b X (.slice ta X.t.length tc) (.slice pa X.p.length pc)) :
    Calls Try.prog 28 #[.pointer (some ⟨b, 0, none⟩)] w fun e w' => e = .returned (.iface 74 (.agg #[])) ∧ Dbx w' b X (.slice ta X.t.length tc) (.slice pa X.p.length pc) ∧ Kept w w' (fun x => x = b) := by
  have ha := h.at'
  obtain ⟨c0, c1, c2, c3, c4, c5, c6, c7, c8, lb⟩ := ha
  have HX := Lib.hid h
  have n1 : ¬ b = w.heap.size := by omega
  have n2 : ¬ w.heap.size = b := by omega
  clear h
  go_enter Try.func28, Try.ntmps28
  go_wp2
  go_ret
  exact ⟨rfl, HX.out, Kept.refl _ _⟩
end Go.Proofs.Ytkaakomiimcbmaa
