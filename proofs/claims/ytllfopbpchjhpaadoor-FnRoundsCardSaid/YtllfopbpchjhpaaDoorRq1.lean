/- The program's rounds of a graph. -/
import Derived.Test.YtllfopbpchjhpaaDoorRqa
import Derived.Test.YtllfopbpchjhpaaDoorGr8
import Derived.Test.YtllfopbpchjhpaaDoorGa2
import Derived.Test.YtllfopbpchjhpaaDoorRs1
import Derived.WalkMore
import Derived.ScopeJumps
import Derived.Deep.RegionHeld3
namespace Go.Proofs.YtllfopbpchjhpaaDoor
open Go.ChangeShapes Go.WideShapes Go.ChangeAt Go.RowKit Go.Deep
set_option linter.unusedSimpArgs false
set_option linter.unusedVariables false
theorem jump_weak {l : Nat} {J : Act → World → Prop} {μ : Act → World → Nat} {m : Nat} {Q : Exit → Act → World → Prop} : ∀ (e : Exit) (a : Act) (w : World), Exit.jump l (fun a w => J a w ∧ μ a w < m) Q e a w → Exit.jump l J Q e a w := by
  intro e a w h
  cases e <;> first | exact ⟨h.1, h.2.1⟩ | exact h
theorem wp_scope_jumps' {P : Program} {c X : Code} {Q : Exit → Act → World → Prop} {a : Act} {w : World} (l : Nat) (J : Act → World → Prop) (μ : Act → World → Nat) (hf : findLabel c l = some (Code.skip.seq X))
    (pass : ∀ a w, J a w → X.wp P (Exit.jump l (fun a' w' => J a' w' ∧ μ a' w' < μ a w) Q) a w)
    (first : (∀ a w, J a w → X.wp P (Exit.jump l J Q) a w) → c.wp P (Exit.jump l J Q) a w) : (Code.scope c).wp P Q a w :=
  wp_scope_jumps l J μ hf (first (fun a w h => Code.wp_mono jump_weak (pass a w h))) (fun a w h => wp_seq (wp_skip (pass a w h)))
/-- Ten decisions stored at block b. -/
abbrev st10 (w : World) (b : Nat) (d : Nat → Int) : World := ((((((((((w).setCell ⟨b, 0, none⟩ (.int .i64 (d 0))).setCell ⟨b, 1, none⟩ (.int .i64 (d 1))).setCell ⟨b, 2, none⟩ (.int .i64 (d 2))).setCell ⟨b, 3, none⟩ (.int .i64 (d 3))).setCell ⟨b, 4, none⟩ (.int .i64 (d 4))).setCell ⟨b, 5, none⟩ (.int .i64 (d 5))).setCell ⟨b, 6, none⟩ (.int .i64 (d 6))).setCell ⟨b, 7, none⟩ (.int .i64 (d 7))).setCell ⟨b, 8, none⟩ (.int .i64 (d 8))).setCell ⟨b, 9, none⟩ (.int .i64 (d 9))
theorem st10_other (w : World) (b : Nat) (d : Nat → Int) (q o : Nat) (h : q ≠ b) : (st10 w b d).cell? ⟨q, o, none⟩ = w.cell? ⟨q, o, none⟩ := by
  have k : ∀ (w : World) (i : Nat) (v : Value), (w.setCell ⟨b, i, none⟩ v).cell? ⟨q, o, none⟩ = w.cell? ⟨q, o, none⟩ := fun w i v => World.cell?_setCell_other _ _ _ _ (fun e => h (congrArg Addr.block e).symm)
  show (((((((((((w).setCell ⟨b, 0, none⟩ (.int .i64 (d 0))).setCell ⟨b, 1, none⟩ (.int .i64 (d 1))).setCell ⟨b, 2, none⟩ (.int .i64 (d 2))).setCell ⟨b, 3, none⟩ (.int .i64 (d 3))).setCell ⟨b, 4, none⟩ (.int .i64 (d 4))).setCell ⟨b, 5, none⟩ (.int .i64 (d 5))).setCell ⟨b, 6, none⟩ (.int .i64 (d 6))).setCell ⟨b, 7, none⟩ (.int .i64 (d 7))).setCell ⟨b, 8, none⟩ (.int .i64 (d 8))).setCell ⟨b, 9, none⟩ (.int .i64 (d 9))).cell? _ = _
  rw [k, k, k, k, k, k, k, k, k, k]
theorem arr_keep {w : World} (b : Nat) (d : Nat → Int) {q : Nat} {e : Nat → Int} (h : ArrAt w q e) (hq : q ≠ b) : ArrAt (st10 w b d) q e := by
  iterate 10 refine ArrAt.other ?_ (by show q ≠ b; exact hq) _
  exact h
theorem arr_store {w : World} {b : Nat} {e : Nat → Int} (d : Nat → Int) (h : ArrAt w b e) : ArrAt (st10 w b d) b d := by
  have q := (((((((((h.set 0 (d 0)).set 1 (d 1)).set 2 (d 2)).set 3 (d 3)).set 4 (d 4)).set 5 (d 5)).set 6 (d 6)).set 7 (d 7)).set 8 (d 8)).set 9 (d 9)
  refine q.congr (fun i hi => ?_)
  match i, hi with
  | 0, _ => rfl
  | 1, _ => rfl
  | 2, _ => rfl
  | 3, _ => rfl
  | 4, _ => rfl
  | 5, _ => rfl
  | 6, _ => rfl
  | 7, _ => rfl
  | 8, _ => rfl
  | 9, _ => rfl
theorem st10_below {w0 w : World} (b : Nat) (d : Nat → Int) (hb : w0.heap.size ≤ b) (h : Below w0.heap.size w0 w) : Below w0.heap.size w0 (st10 w b d) := by
  iterate 10 refine Below.setCell ?_ (by show _ ≤ b; exact hb) _
  exact h
/-- The round that slot 5 counts. -/
def rndOf : Value → Int | .int _ q => q | _ => 0
/-- What holds at the label: k rounds are done, each has decided something. -/
def RJ (n m : Nat) (L : List (List Int)) (w0 : World) (a : Act) (w : World) : Prop :=
  ∃ (k : Nat) (u6 u7 u8 u9 u10 u11 u12 u13 u14 u15 u16 u17 u18 u19 u20 u21 u22 u23 u24 u25 u26 : Value),
    a = { tmps := #[.agg #[.int .i64 (n : Int), .map (some m)], .pointer (some ⟨w0.heap.size, 0, none⟩), .pointer (some ⟨w0.heap.size + 1, 0, none⟩), .pointer (some ⟨w0.heap.size + 1 + 1, 0, none⟩), .int .u16 (accB n L k : Int), .int .i64 ((k : Int) + 1), u6, u7, u8, u9, u10, u11, u12, u13, u14, u15, u16, u17, u18, u19, u20, u21, u22, u23, u24, u25, u26], defers := [] } ∧
    Hid (ArrAt w (w0.heap.size + 1 + 1) (decD n L k)) ∧ Hid (ArrAt w (w0.heap.size + 1) (fun _ => 0)) ∧ w.cell? ⟨w0.heap.size, 0, none⟩ = some (.int .i64 (n : Int)) ∧ w.cell? ⟨w0.heap.size, 1, none⟩ = some (.map (some m)) ∧ Below w0.heap.size w0 w ∧ Hid (∀ j, j < k → decD n L (j + 1) ≠ decD n L j)
set_option maxHeartbeats 4000000 in
set_option maxRecDepth 100000 in
theorem irounds (n m : Nat) (L : List (List Int)) (w : World) (h : GrIs w n m L) (hT : DBT w) :
    Calls Tryd.prog 13 #[.agg #[.int .i64 (n : Int), .map (some m)]] w fun e w' => e = .returned (arr10 (decD n L n)) ∧ Below w.heap.size w w' := by
  have hle := h.le
  have hok := Lib.hid h.ok
  have HG := Lib.hid h
  have HT := Lib.hid hT
  clear h hT
  go_enter Tryd.func13, Tryd.ntmps13
  go_wp2
  refine wp_scope_jumps' 0 (RJ n m L w) (fun a' _ => 20 - (rndOf (a'.tmps.getD 5 undef)).toNat) rfl ?pass (fun hp => ?first)
  case first =>
    go_wp2
    go_step3
    rename_i K hK
    refine hK _ _ (hp _ _ ?_)
    refine ⟨0, _, _, _, _, _, _, _, _, _, _, _, _, _, _, _, _, _, _, _, _, _, rfl, ?_, ?_, ?_, ?_, ?_, fun j hj => absurd hj (Nat.not_lt_zero _)⟩
    · have q := arr_at ((w.alloc (.cells #[.int .i64 (n : Int), .map (some m)] 40)).alloc (arrC (fun _ => 0))) (fun _ => 0)
      simp only [World.size_alloc] at q
      exact Lib.hid q
    · have q := (arr_at (w.alloc (.cells #[.int .i64 (n : Int), .map (some m)] 40)) (fun _ => 0)).below ((Below.refl _ _).alloc (Nat.le_refl _) (arrC (fun _ => 0)))
      simp only [World.size_alloc] at q
      exact Lib.hid q
    · go_simp
    · go_simp
    · exact (((Below.refl _ _).alloc (Nat.le_refl _) _).alloc (by simp) _).alloc (by simp; omega) _
  case pass =>
    rintro a wr ⟨k, u6, u7, u8, u9, u10, u11, u12, u13, u14, u15, u16, u17, u18, u19, u20, u21, u22, u23, u24, u25, u26, rfl, HD, HR, g0, g1, hb, HK⟩
    have hend := dec_end hok.out hle k HK.out
    have hkn := hend.1
    have c0 := HD.out.c 0 (by omega)
    have c1 := HD.out.c 1 (by omega)
    have c2 := HD.out.c 2 (by omega)
    have c3 := HD.out.c 3 (by omega)
    have c4 := HD.out.c 4 (by omega)
    have c5 := HD.out.c 5 (by omega)
    have c6 := HD.out.c 6 (by omega)
    have c7 := HD.out.c 7 (by omega)
    have c8 := HD.out.c 8 (by omega)
    have c9 := HD.out.c 9 (by omega)
    have hsz := World.rowIs.lt HD.out
    have lt0 : w.heap.size < wr.heap.size := by omega
    have ne0 : w.heap.size ≠ wr.heap.size := by omega
    have lt2 : w.heap.size + 1 + 1 ≠ wr.heap.size := by omega
    have bq := (Below.refl wr.heap.size wr).alloc (Nat.le_refl _) (arrC (decD n L k))
    have HDF : Calls Tryd.prog 24 #[.agg #[.int .i64 (n : Int), .map (some m)], .int .u16 (accB n L k : Int)] (wr.alloc (arrC (decD n L k))) fun e w' => e = .returned (.int .u16 (accB n L (k + 1) : Int)) ∧ Below (wr.alloc (arrC (decD n L k))).heap.size (wr.alloc (arrC (decD n L k))) w' := def_any n m L (accB n L k) _ ((HG.out.below hb).below bq) (Nat.lt_trans (acc_small hle k) (by decide))
    have HBF := Lib.hid ((arr_at wr (decD n L k)))
    have HDQ := Lib.hid (HD.out.below bq)
    have HRQ := Lib.hid (HR.out.below bq)
    have BQ := Lib.hid bq
    have hac := acc_small (L := L) hle (k + 1)
    have hat : attB n L (accB n L (k + 1)) < 1024 := att_small hle _
    have hne := fun w' => neq10 (decD n L (k + 1)) (decD n L k) w'
    obtain ⟨P, hP⟩ : ∃ P, accB n L (k + 1) = P := ⟨_, rfl⟩
    have HW1 := Lib.hid (fun w' (hw : Below w.heap.size w w') => dwith (decD n L k) P ((k : Int) + 1) w' (hP ▸ hac) (HT.out.below hw))
    have HAT := Lib.hid (fun w' (hw : Below w.heap.size w w') => att_any n m L P w' (HG.out.below hw) (Nat.lt_trans (hP ▸ hac) (by decide)))
    have HW2 : Hid (∀ w' (hw : Below w.heap.size w w'), Calls Tryd.prog 25 #[arr10 (withD (decD n L k) P ((k : Int) + 1)), .int .u16 (attB n L P : Int), .int .i64 (-((k : Int) + 1))] w' fun e w'' => e = .returned (arr10 (decD n L (k + 1))) ∧ Below w'.heap.size w' w'') := Lib.hid (fun w' hw => by subst hP; exact dwith _ _ _ w' hat (HT.out.below hw))
    have hwneg : IntKind.i64.wrap (-((k : Int) + 1)) = -((k : Int) + 1) := by rw [IntKind.wrap_i64]; omega
    rw [hP] at HDF
    have HPP := Lib.hid hP
    generalize attB n L P = R at HAT HW2
    clear bq hP hat hac
    go_wp2_with fail
    refine HDF.mono ?_
    rintro e w1 ⟨rfl, hb1⟩
    have bw1 := BQ.out.trans (hb1.mono BQ.out.size)
    have e0 := (bw1.drew.cell (p := ⟨w.heap.size, 0, none⟩) lt0).trans g0
    have e1 := (bw1.drew.cell (p := ⟨w.heap.size, 1, none⟩) lt0).trans g1
    have HDx := Lib.hid ((HDQ.out.below hb1).below (Below.refl w1.heap.size w1).drew)
    have HRx := Lib.hid ((HRQ.out.below hb1).below (Below.refl w1.heap.size w1).drew)
    have HBx := Lib.hid ((HBF.out.below hb1).below (Below.refl w1.heap.size w1).drew)
    have bx := (hb.trans (bw1.mono hb.size)).drew
    clear HDF HDQ HRQ HBF c0 c1 c2 c3 c4 c5 c6 c7 c8 c9
    go_wp2_with fail
    refine wp_region_held_drew (S := fun w' => w'.cell? ⟨w.heap.size, 0, none⟩ = some (.int .i64 (n : Int)) ∧ w'.cell? ⟨w.heap.size, 1, none⟩ = some (.map (some m))) (by kernel_rfl) ⟨e0, e1⟩ (fun hHeld => ?_)
    refine wpAnyH_take8 (i := 1) (v := .int .u16 (P : Int)) 12 rfl rfl (by kernel_rfl) (by kernel_rfl) (by kernel_rfl) (fun _ _ _ h => h) (Or.inl ⟨by rfl, fun w hSw => ?_⟩) hHeld ?_
    · go_simp
    try simp only [Act.put, List.setIfInBounds_toArray, List.set_cons_zero, List.set_cons_succ]
    refine wpAnyH_take8 (i := 2) (v := .int .i64 ((k : Int) + 1)) 13 rfl rfl (by kernel_rfl) (by kernel_rfl) (by kernel_rfl) (fun _ _ _ h => h) (Or.inl ⟨by rfl, fun w hSw => ?_⟩) hHeld ?_
    · go_simp
    try simp only [Act.put, List.setIfInBounds_toArray, List.set_cons_zero, List.set_cons_succ]
    refine wpAnyH_take8 (i := 4) (v := .agg #[.int .i64 (n : Int), .map (some m)]) 15 rfl rfl (by kernel_rfl) (by kernel_rfl) (by kernel_rfl) (fun _ _ _ h => h) (Or.inl ⟨by rfl, fun w hSw => ?_⟩) hHeld ?_
    · obtain ⟨u0, u1⟩ := hSw
      go_simp
    try simp only [Act.put, List.setIfInBounds_toArray, List.set_cons_zero, List.set_cons_succ]
    refine wpAnyH_take8 (i := 5) (v := .int .u16 (P : Int)) 16 rfl rfl (by kernel_rfl) (by kernel_rfl) (by kernel_rfl) (fun _ _ _ h => h) (Or.inl ⟨by rfl, fun w hSw => ?_⟩) hHeld ?_
    · go_simp
    try simp only [Act.put, List.setIfInBounds_toArray, List.set_cons_zero, List.set_cons_succ]
    refine wpAnyH_take8 (i := 7) (v := .int .i64 ((k : Int) + 1)) 18 rfl rfl (by kernel_rfl) (by kernel_rfl) (by kernel_rfl) (fun _ _ _ h => h) (Or.inl ⟨by rfl, fun w hSw => ?_⟩) hHeld ?_
    · go_simp
    try simp only [Act.put, List.setIfInBounds_toArray, List.set_cons_zero, List.set_cons_succ]
    refine wpAnyH_take8 (i := 8) (v := .int .i64 (-((k : Int) + 1))) 19 rfl rfl (by kernel_rfl) (by kernel_rfl) (by kernel_rfl) (fun _ _ _ h => h) (Or.inl ⟨by rfl, fun w hSw => ?_⟩) hHeld ?_
    · go_simp
    try simp only [Act.put, List.setIfInBounds_toArray, List.set_cons_zero, List.set_cons_succ]
    refine wpAnyH_ready (rs := [0]) (by kernel_rfl) (by simp) ?_
    refine AllReadyH.cons rfl (fun K hK => ?_) AllReadyH.nil
    have d0 := HDx.out.c 0 (by omega)
    have d1 := HDx.out.c 1 (by omega)
    have d2 := HDx.out.c 2 (by omega)
    have d3 := HDx.out.c 3 (by omega)
    have d4 := HDx.out.c 4 (by omega)
    have d5 := HDx.out.c 5 (by omega)
    have d6 := HDx.out.c 6 (by omega)
    have d7 := HDx.out.c 7 (by omega)
    have d8 := HDx.out.c 8 (by omega)
    have d9 := HDx.out.c 9 (by omega)
    go_simp
    refine hK.out _ _ ⟨e0, e1⟩ (fun hHeld => ?_)
    clear hK K
    try simp only [Act.put, List.setIfInBounds_toArray, List.set_cons_zero, List.set_cons_succ]
    clear d0 d1 d2 d3 d4 d5 d6 d7 d8 d9
    refine wpAnyH_ready (rs := [3]) (by kernel_rfl) (by simp) ?_
    refine AllReadyH.cons rfl (fun K hK => ?_) AllReadyH.nil
    go_simp
    go_at_call 25
    refine (HW1.out _ bx).mono ?_
    rintro e wn ⟨rfl, hbn⟩
    have HDx := Lib.hid (HDx.out.below hbn)
    have HRx := Lib.hid (HRx.out.below hbn)
    have HBx := Lib.hid (HBx.out.below hbn)
    have e0 := (hbn.cell (p := ⟨w.heap.size, 0, none⟩) (World.block_lt_of_cell? _ _ e0)).trans e0
    have e1 := (hbn.cell (p := ⟨w.heap.size, 1, none⟩) (World.block_lt_of_cell? _ _ e1)).trans e1
    have bx := bx.trans (hbn.mono bx.size)
    clear hbn
    refine hK.out _ _ ⟨e0, e1⟩ (fun hHeld => ?_)
    clear hK K
    try simp only [Act.put, List.setIfInBounds_toArray, List.set_cons_zero, List.set_cons_succ]
    refine wpAnyH_ready (rs := [6]) (by kernel_rfl) (by simp) ?_
    refine AllReadyH.cons rfl (fun K hK => ?_) AllReadyH.nil
    go_simp
    go_at_call 26
    refine (HAT.out _ bx).mono ?_
    rintro e wn ⟨rfl, hbn⟩
    have HDx := Lib.hid (HDx.out.below hbn)
    have HRx := Lib.hid (HRx.out.below hbn)
    have HBx := Lib.hid (HBx.out.below hbn)
    have e0 := (hbn.cell (p := ⟨w.heap.size, 0, none⟩) (World.block_lt_of_cell? _ _ e0)).trans e0
    have e1 := (hbn.cell (p := ⟨w.heap.size, 1, none⟩) (World.block_lt_of_cell? _ _ e1)).trans e1
    have bx := bx.trans (hbn.mono bx.size)
    clear hbn
    refine hK.out _ _ ⟨e0, e1⟩ (fun hHeld => ?_)
    clear hK K
    try simp only [Act.put, List.setIfInBounds_toArray, List.set_cons_zero, List.set_cons_succ]
    refine wpAnyH_ready (rs := [9]) (by kernel_rfl) (by simp) ?_
    refine AllReadyH.cons rfl (fun K hK => ?_) AllReadyH.nil
    go_simp
    go_at_call 25
    refine (HW2.out _ bx).mono ?_
    rintro e wn ⟨rfl, hbn⟩
    have HDx := Lib.hid (HDx.out.below hbn)
    have HRx := Lib.hid (HRx.out.below hbn)
    have HBx := Lib.hid (HBx.out.below hbn)
    have e0 := (hbn.cell (p := ⟨w.heap.size, 0, none⟩) (World.block_lt_of_cell? _ _ e0)).trans e0
    have e1 := (hbn.cell (p := ⟨w.heap.size, 1, none⟩) (World.block_lt_of_cell? _ _ e1)).trans e1
    have bx := bx.trans (hbn.mono bx.size)
    clear hbn
    refine hK.out _ _ ⟨e0, e1⟩ (fun hHeld => ?_)
    clear hK K
    try simp only [Act.put, List.setIfInBounds_toArray, List.set_cons_zero, List.set_cons_succ]
    refine wpAnyH_ready (rs := [10]) (by kernel_rfl) (by simp) ?_
    refine AllReadyH.cons rfl (fun K hK => ?_) AllReadyH.nil
    have d0 := HDx.out.c 0 (by omega)
    have d1 := HDx.out.c 1 (by omega)
    have d2 := HDx.out.c 2 (by omega)
    have d3 := HDx.out.c 3 (by omega)
    have d4 := HDx.out.c 4 (by omega)
    have d5 := HDx.out.c 5 (by omega)
    have d6 := HDx.out.c 6 (by omega)
    have d7 := HDx.out.c 7 (by omega)
    have d8 := HDx.out.c 8 (by omega)
    have d9 := HDx.out.c 9 (by omega)
    have hzz : ∀ i, _ := fun i => HDx.out.z i
    go_simp
    have E0 := (st10_other wn (w.heap.size + 1 + 1) (decD n L (k + 1)) w.heap.size 0 (by omega)).trans e0
    have E1 := (st10_other wn (w.heap.size + 1 + 1) (decD n L (k + 1)) w.heap.size 1 (by omega)).trans e1
    have HDz := arr_store (decD n L (k + 1)) HDx.out
    have HRz := arr_keep (w.heap.size + 1 + 1) (decD n L (k + 1)) HRx.out (by omega)
    have HBz := arr_keep (w.heap.size + 1 + 1) (decD n L (k + 1)) HBx.out (by omega)
    have bz := st10_below (w.heap.size + 1 + 1) (decD n L (k + 1)) (by omega) bx
    refine hK.out _ (st10 wn (w.heap.size + 1 + 1) (decD n L (k + 1))) ⟨E0, E1⟩ (fun hHeld => ?_)
    clear hK K
    try simp only [Act.put, List.setIfInBounds_toArray, List.set_cons_zero, List.set_cons_succ]
    refine wpAnyH_done (by kernel_rfl) ?_ _
    generalize st10 wn (w.heap.size + 1 + 1) (decD n L (k + 1)) = wz at *
    clear d0 d1 d2 d3 d4 d5 d6 d7 d8 d9 hzz
    have d0 := HDz.c 0 (by omega)
    have d1 := HDz.c 1 (by omega)
    have d2 := HDz.c 2 (by omega)
    have d3 := HDz.c 3 (by omega)
    have d4 := HDz.c 4 (by omega)
    have d5 := HDz.c 5 (by omega)
    have d6 := HDz.c 6 (by omega)
    have d7 := HDz.c 7 (by omega)
    have d8 := HDz.c 8 (by omega)
    have d9 := HDz.c 9 (by omega)
    have b0 := HBz.c 0 (by omega)
    have b1 := HBz.c 1 (by omega)
    have b2 := HBz.c 2 (by omega)
    have b3 := HBz.c 3 (by omega)
    have b4 := HBz.c 4 (by omega)
    have b5 := HBz.c 5 (by omega)
    have b6 := HBz.c 6 (by omega)
    have b7 := HBz.c 7 (by omega)
    have b8 := HBz.c 8 (by omega)
    have b9 := HBz.c 9 (by omega)
    obtain ⟨z, hz⟩ : ∃ z, eqFrom 0 (decD n L (k + 1)) (decD n L k) = z := ⟨_, rfl⟩
    rw [hz] at hne
    have HZ := Lib.hid hz
    have HEND := Lib.hid hend.2
    have KD := Lib.hid HDz
    have KR := Lib.hid HRz
    clear hz hend
    cases z with
    | false =>
      go_wp2
      go_step3
      have hPq := HPP.out
      subst hPq
      refine ⟨rfl, ⟨k + 1, _, _, _, _, _, _, _, _, _, _, _, _, _, _, _, _, _, _, _, _, _, rfl, KD, KR, E0, E1, bz, Lib.hid (fun j hj => ?_)⟩, ?_⟩
      · by_cases ej : j = k
        · subst ej
          intro he
          have h1 := HZ.out
          rw [he] at h1
          have h2 : eqFrom 0 (decD n L j) (decD n L j) = true := eqFrom_iff.2 (fun _ _ _ => rfl)
          rw [h2] at h1
          cases h1
        · exact HK.out j (by omega)
      · simp [rndOf]
        omega
    | true =>
      have he : decD n L (k + 1) = decD n L k := by
        funext i
        by_cases hi : i < 10
        · exact eqFrom_iff.1 HZ.out i (by omega) hi
        · rw [dec_out hok.out (k + 1) i (by omega), dec_out hok.out k i (by omega)]
      have HE := Lib.hid (HEND.out he)
      clear he
      have y0 := KR.out.c 0 (by omega)
      have y1 := KR.out.c 1 (by omega)
      have y2 := KR.out.c 2 (by omega)
      have y3 := KR.out.c 3 (by omega)
      have y4 := KR.out.c 4 (by omega)
      have y5 := KR.out.c 5 (by omega)
      have y6 := KR.out.c 6 (by omega)
      have y7 := KR.out.c 7 (by omega)
      have y8 := KR.out.c 8 (by omega)
      have y9 := KR.out.c 9 (by omega)
      have hz2 : ∀ i, wz.frozen? ⟨w.heap.size + 1, i, none⟩ = false := fun i => KR.out.z i
      go_wp2
      (try simp only [Exit.jump])
      refine bodyPost_ret (v := arr10 (decD n L (k + 1))) (by simp [results, Tryd.results13, go_sem, y0, y1, y2, y3, y4, y5, y6, y7, y8, y9]) rfl ⟨by rw [HE.out], ?_⟩
      iterate 10 refine Below.setCell ?_ (by show _ ≤ _ + _; omega) _
      exact bz
end Go.Proofs.YtllfopbpchjhpaaDoor
