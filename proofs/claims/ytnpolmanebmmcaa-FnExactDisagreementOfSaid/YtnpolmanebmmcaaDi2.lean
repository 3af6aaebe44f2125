/- Disagreement: the program's sum, over an iterator. -/
import Derived.Test.YtnpolmanebmmcaaDi1
namespace Go.Proofs.Ytnpolmanebmmcaa
open Go.RowKit Go.Shelf Go.Deep
set_option linter.unusedSimpArgs false
set_option linter.unusedVariables false
attribute [local go_sem] Oper.semAt_some
/-- A store beyond the matrix. -/
theorem IV.storeOut {w W : World} {cs : List (Nat × Nat × Value)} {lo hi : Nat} {v : Value} {M : List (List Int)} (h : IV w cs lo hi v M [] W) {c j : Nat} (u : Value) (h1 : hi ≤ c) (hw : w.heap.size ≤ c) (hcs : ∀ q ∈ cs, q.1 ≠ c) : IV w cs lo hi v M [] (W.setCell ⟨c, j, none⟩ u) :=
  ⟨h.bel.setCell (p := ⟨c, j, none⟩) hw _, fun q hq => (World.cell?_of_block (a := ⟨q.1, q.2.1, none⟩) (heap_setCell_other _ _ _ _ (show q.1 ≠ c from hcs q hq))).trans (h.cl q hq), h.own.at fun d _ h2 _ => heap_setCell_other _ _ _ _ (show d ≠ c by omega), by simp, by simp, by simp, by simp [World.setCell]; exact h.sz⟩
set_option maxHeartbeats 4000000 in
set_option maxRecDepth 100000 in
theorem idis (M : List (List Int)) (n lo b : Nat) (l : List Int) (cl : Nat) (w : World) (hO : OwJ w lo w.heap.size (.slice (some ⟨b, 0, none⟩) n n) M) (hsq : Sq n M) (hbd : Bd 1000000 M) (hn : n ≤ 6) (hn1 : 1 ≤ n) (hl : OwnI w cl l) (hk : rkOk n l) :
    Calls Try.prog 63 #[.slice (some ⟨b, 0, none⟩) n n, .slice (some ⟨cl, 0, none⟩) n n] w fun e w' => e = .returned (.int .i64 (dis M (prs 0 l))) ∧ Below w.heap.size w w' := by
  have HSQ := Lib.hid hsq
  have HBD := Lib.hid hbd
  obtain ⟨hll, hdf⟩ := hk
  have hcl := World.rowIs.lt hl
  have hp36 := prs_len36 hn hll
  have hlm := allDiff_mem hdf
  obtain ⟨rl, rfl⟩ := nums_of l hlm
  rw [List.length_map] at hll
  obtain ⟨d, hd⟩ : ∃ d : Num n, d.1 = 0 := ⟨⟨0, by omega⟩, rfl⟩
  have hpm : prs (0 : Int) (rl.map Subtype.val) = (prs d rl).map (Prod.map Subtype.val Subtype.val) := by have q := prs_map Subtype.val d rl; rw [hd] at q; exact q
  rw [hpm] at hp36 ⊢
  rw [List.length_map] at hp36
  have hcR : ∀ k, k < rl.length → w.cell? ⟨cl, k, none⟩ = some (.int .i64 (rl.getD k d).1) := fun k hk => by
    have q := World.rowIs.cell hl (i := k) (by simpa using hk)
    rw [q]
    simp [List.getD, hk]
  have bel : Below w.heap.size w (((w.alloc (.cells #[.slice (some ⟨b, 0, none⟩) n n] 58)).alloc (.cells #[.int .i64 0] 2)).alloc (.cells #[.slice (some ⟨cl, 0, none⟩) n n] 23)) := (((Below.refl _ _).alloc (Nat.le_refl _) _).alloc (by simp) _).alloc (by simp; omega) _
  have hI0 : IV w [(w.heap.size, 0, .slice (some ⟨b, 0, none⟩) n n)] lo w.heap.size (.slice (some ⟨b, 0, none⟩) n n) M [] (((w.alloc (.cells #[.slice (some ⟨b, 0, none⟩) n n] 58)).alloc (.cells #[.int .i64 0] 2)).alloc (.cells #[.slice (some ⟨cl, 0, none⟩) n n] 23)) :=
    ⟨bel, fun q hq => by simp only [List.mem_cons, List.mem_nil_iff, or_false] at hq; subst hq; go_simp, hO.below bel, by simp, by simp, by simp, by simp; omega⟩
  have hBx : Boxed (((w.alloc (.cells #[.slice (some ⟨b, 0, none⟩) n n] 58)).alloc (.cells #[.int .i64 0] 2)).alloc (.cells #[.slice (some ⟨cl, 0, none⟩) n n] 23)) (w.heap.size + 1) 2 (.int .i64 0) := by
    have := (Boxed.new (w.alloc (.cells #[.slice (some ⟨b, 0, none⟩) n n] 58)) 2 (.int .i64 0)).alloc (.cells #[.slice (some ⟨cl, 0, none⟩) n n] 23)
    rw [World.size_alloc] at this
    exact this
  have hBn : (((w.alloc (.cells #[.slice (some ⟨b, 0, none⟩) n n] 58)).alloc (.cells #[.int .i64 0] 2)).alloc (.cells #[.slice (some ⟨cl, 0, none⟩) n n] 23)).cell? ⟨w.heap.size + 1 + 1, 0, none⟩ = some (.slice (some ⟨cl, 0, none⟩) rl.length n) := by rw [hll]; go_simp
  have hsz : (((w.alloc (.cells #[.slice (some ⟨b, 0, none⟩) n n] 58)).alloc (.cells #[.int .i64 0] 2)).alloc (.cells #[.slice (some ⟨cl, 0, none⟩) n n] 23)).heap.size = w.heap.size + 3 := by simp
  obtain ⟨W0, hW0⟩ : ∃ W0, (((w.alloc (.cells #[.slice (some ⟨b, 0, none⟩) n n] 58)).alloc (.cells #[.int .i64 0] 2)).alloc (.cells #[.slice (some ⟨cl, 0, none⟩) n n] 23)) = W0 := ⟨_, rfl⟩
  have HW0 := Lib.hid hW0
  rw [hW0] at hI0 hBx hBn hsz
  have HI0 := Lib.hid hI0
  have HBX := Lib.hid hBx
  have HBN := Lib.hid hBn
  have HCR := Lib.hid hcR
  clear hsq hbd hdf hlm hl hpm hd hcR hO bel hI0 hBx hBn hW0
  refine (callsIn_wide (n := 20)).1 ?_
  refine callsIn_of_wp_marks Try.func63 rfl trivial ?_ rfl
  simp only [Try.ntmps63, List.size_toArray, List.length_cons, List.length_nil, Nat.reduceAdd, Nat.reduceSub, Array.replicate_succ, Array.replicate_zero, List.push_toArray, List.append_toArray, List.nil_append, List.cons_append]
  gi_wp2_with (refine ⟨trivial, ?_⟩; gi_at_call 69; refine (pairsF Fence.wide _ trivial rfl _ _ _ _).mono ?_; rintro e w2 ⟨rfl, rfl⟩)
  rw [HW0.out]
  refine wpIn_rangeFunc_ownG rfl (by omega) (gf := 72) (lb := #[.pointer (some ⟨w.heap.size + 1 + 1, 0, none⟩)]) rfl trivial (enters_of Try.func72 (by kernel_rfl) rfl)
    (pairs_stops Fence.wide 19 trivial rfl (by omega) (fun x : Num n => x.1) d rl (by omega) (w.heap.size + 1 + 1) w.heap.size cl n (by omega) hcl W0 (by omega) (by omega) HBN.out (fun k hk => (HI0.out.bel.cell (p := ⟨cl, k, none⟩) hcl).trans (HCR.out k hk)))
    Kb.t (Kb.b (by omega) (by omega)) (Below.refl _ _) (fun _ => rfl)
    (fun pre W => IV w [(w.heap.size, 0, .slice (some ⟨b, 0, none⟩) n n)] lo w.heap.size (.slice (some ⟨b, 0, none⟩) n n) M [] W ∧ Boxed W (w.heap.size + 1) 2 (.int .i64 (dis M (pre.map (Prod.map Subtype.val Subtype.val)))))
    (fun _ _ _ => False)
    (OwnFrom.and (HI0.out.own_from (fun pre : List (Num n × Num n) => M)) (Own.from (boxed_own _ _ (fun pre : List (Num n × Num n) => .int .i64 (dis M (pre.map (Prod.map Subtype.val Subtype.val))))) _))
    (fun _ _ _ _ _ hs _ _ => hs)
    ⟨HI0.out, HBX.out⟩
    (fun x => { tmps := #[.slice (some ⟨b, 0, none⟩) n n, .slice (some ⟨cl, 0, none⟩) n n, .pointer (some ⟨w.heap.size, 0, none⟩), undef, .int .i64 0, .pointer (some ⟨w.heap.size + 1, 0, none⟩), .int .i64 x.1.1, .int .i64 x.2.1, .slice (some ⟨cl, 0, none⟩) n n, .func (.func 72) #[] #[.pointer (some ⟨w.heap.size + 1 + 1, 0, none⟩)], .int .i64 x.1.1, .int .i64 x.2.1, undef, undef, undef, undef, undef, undef, undef, undef, undef, undef], defers := [] })
    ?assign ?body ?done ?stop
  case assign =>
    intro l x W K hK
    gi_wp2
    exact hK
  case stop =>
    rintro D c1 pre W hD _ h _
    exact h.elim
  case done =>
    rintro D ys W hD rfl ⟨hIV, hbx⟩ hK
    have hc := hbx.cell
    have HB := Lib.hid hIV.bel
    clear hIV hbx
    gi_wp2
    refine ⟨by simp, .inl ⟨_, _, rfl, run_takeDeferred hK, ?_⟩⟩
    exact ⟨_, results_tmp rfl _ _ _, rfl, HB.out.grown (grownBy_putObj' W D _) HB.out.size (fun k e => by cases e; omega)⟩
  case body =>
    rintro l pre x W ⟨hIV, hbx⟩ hplen
    have hzb := dis_bd HBD.out (pre.map (Prod.map Subtype.val Subtype.val))
    rw [List.length_map] at hzb
    obtain ⟨⟨x1, hx1⟩, x2, hx2⟩ := x
    obtain ⟨xn, rfl⟩ : ∃ xn : Nat, x1 = xn := ⟨x1.toNat, by omega⟩
    obtain ⟨un, rfl⟩ : ∃ un : Nat, x2 = un := ⟨x2.toNat, by omega⟩
    have hxm : xn < n := by omega
    have hum : un < n := by omega
    have hsn : dis M ((pre ++ [((⟨(xn : Int), hx1⟩ : Num n), (⟨(un : Int), hx2⟩ : Num n))]).map (Prod.map Subtype.val Subtype.val)) = dis M (pre.map (Prod.map Subtype.val Subtype.val)) + mg M un xn := by
      rw [List.map_append, List.map_singleton, dis_snoc]
      simp
    obtain ⟨z, hz⟩ : ∃ z, dis M (pre.map (Prod.map Subtype.val Subtype.val)) = z := ⟨_, rfl⟩
    rw [hz] at hzb hsn hbx
    obtain ⟨c', cp, d1, d2, d3, d4⟩ := hIV.own.rdAt HSQ.out hum
    have d5 := d4 xn hxm
    have hqb := HBD.out un xn
    obtain ⟨q, hq2⟩ : ∃ q, mg M un xn = q := ⟨_, rfl⟩
    rw [hq2] at d5 hqb hsn
    have wq : IntKind.i64.wrap (z + q) = z + q := by rw [IntKind.wrap_i64]; omega
    have hbx2 := hbx.set (.int .i64 (z + q))
    rw [← hsn] at hbx2
    have hI4 := (hIV.storeOut (c := w.heap.size + 1) (j := 0) (.int .i64 (dis M ((pre ++ [((⟨(xn : Int), hx1⟩ : Num n), (⟨(un : Int), hx2⟩ : Num n))]).map (Prod.map Subtype.val Subtype.val)))) (by omega) (by omega) (fun q hq => by
      simp only [List.mem_cons, List.mem_nil_iff, or_false] at hq
      subst hq; simp)).drew
    have z0 := hIV.cell (b := w.heap.size) (o := 0) (u := .slice (some ⟨b, 0, none⟩) n n) (by simp)
    have z1 := hbx.cell
    have z2 := hbx.frozen
    have hKF : KeepsFrom W0.heap.size W (W.setCell ⟨w.heap.size + 1, 0, none⟩ (.int .i64 (z + q))).drew := ((KeepsOthers.setCell W ⟨w.heap.size + 1, 0, none⟩ (.int .i64 (z + q))).trans (KeepsOthers.drew _)).from _
    have hKB : Kb w.heap.size (w.heap.size + 1 + 1) W (W.setCell ⟨w.heap.size + 1, 0, none⟩ (.int .i64 (z + q))).drew :=
      ⟨((Below.refl _ W).setCell (p := ⟨w.heap.size + 1, 0, none⟩) (by show _ ≤ w.heap.size + 1; omega) _).drew, fun _ => heap_setCell_other _ _ _ _ (show w.heap.size + 1 + 1 ≠ w.heap.size + 1 by omega)⟩
    have hbx3 : Boxed (W.setCell ⟨w.heap.size + 1, 0, none⟩ (.int .i64 (z + q))).drew (w.heap.size + 1) 2 (.int .i64 (dis M ((pre ++ [((⟨(xn : Int), hx1⟩ : Num n), (⟨(un : Int), hx2⟩ : Num n))]).map (Prod.map Subtype.val Subtype.val)))) := hsn ▸ hbx.set (.int .i64 (z + q))
    rw [hsn] at hI4
    have HFIN := Lib.hid (And.intro hKF (And.intro hKB (And.intro hI4 hbx3)))
    have hmx : Try.prog.follows .mixedOrders = true := by kernel_rfl
    have hbW : b < w.heap.size := by
      obtain ⟨⟨-, h0⟩ | ⟨b0, cap0, N0, f0, e0, q1, q2, -⟩, -⟩ := hIV.own
      · have := HSQ.out.1; rw [h0] at this; simp at this; omega
      · simp only [Value.slice.injEq, Option.some.injEq, Addr.mk.injEq, and_true, true_and] at e0
        omega
    have hcW : c' < w.heap.size := by
      have hMl : M.length = n := HSQ.out.1
      have hO' := hIV.own
      rw [← hMl] at hO'
      obtain ⟨cc, cp2, t1, t2, t3, t4, -⟩ := hO'.setAt (i := un) (by omega) (by rw [HSQ.out.2 un hum]; omega)
      rw [HSQ.out.2 un hum, d1] at t1
      simp only [Option.some.injEq, Value.slice.injEq, Addr.mk.injEq, and_true, true_and] at t1
      omega
    clear hIV hbx hbx2 hbx3 hI4 hKF hKB hsn hz hq2 d4
    rename_i Q1
    clear Q1 HCR HBN HBX HI0 HW0 HSQ HBD hcl hll hp36 hplen
    have hne1 : ¬ w.heap.size + 1 = b := by omega
    have hne2 : ¬ w.heap.size + 1 = c' := by omega
    have hne3 : ¬ b = w.heap.size + 1 := by omega
    have hne4 : ¬ c' = w.heap.size + 1 := by omega
    gi_wp2
    refine wpIn_region_round (fun W' => W'.cell? ⟨w.heap.size, 0, none⟩ = some (.slice (some ⟨b, 0, none⟩) n n) ∧ W'.cell? ⟨b, un, none⟩ = some (.slice (some ⟨c', 0, none⟩) n cp) ∧ W'.cell? ⟨c', xn, none⟩ = some (.int .i64 q)) hmx (by kernel_rfl) (fun ⟨_, _, h⟩ => h) ⟨z0, d1, d5⟩ (fun hHeld => ?_)
    refine wpAnyH_takeD (i := 1) (v := (.slice (some ⟨b, 0, none⟩) n n)) 13 rfl rfl (by kernel_rfl) (by kernel_rfl) (by kernel_rfl) (fun _ _ _ h => h) (Or.inl ⟨by rfl, fun w5 hSw => ?_⟩) hHeld ?_
    · obtain ⟨s1, s2, s3⟩ := hSw; clear hHeld; first | (go_simp; done) | (go_simp; omega)
    try simp only [Act.put, List.setIfInBounds_toArray, List.set_cons_zero, List.set_cons_succ]
    refine wpAnyH_takeD (i := 2) (v := (.int .i64 un)) 14 rfl rfl (by kernel_rfl) (by kernel_rfl) (by kernel_rfl) (fun _ _ _ h => h) (Or.inl ⟨by rfl, fun w5 hSw => ?_⟩) hHeld ?_
    · clear hSw hHeld; first | (go_simp; done) | (go_simp; omega)
    try simp only [Act.put, List.setIfInBounds_toArray, List.set_cons_zero, List.set_cons_succ]
    refine wpAnyH_takeD (i := 3) (v := (.pointer (some ⟨b, un, none⟩))) 15 rfl rfl (by kernel_rfl) (by kernel_rfl) (by kernel_rfl) (fun _ _ _ h => h) (Or.inl ⟨by rfl, fun w5 hSw => ?_⟩) hHeld ?_
    · clear hSw hHeld; first | (go_simp; done) | (go_simp; omega)
    try simp only [Act.put, List.setIfInBounds_toArray, List.set_cons_zero, List.set_cons_succ]
    refine wpAnyH_takeD (i := 4) (v := (.slice (some ⟨c', 0, none⟩) n cp)) 16 rfl rfl (by kernel_rfl) (by kernel_rfl) (by kernel_rfl) (fun _ _ _ h => h) (Or.inl ⟨by rfl, fun w5 hSw => ?_⟩) hHeld ?_
    · obtain ⟨s1, s2, s3⟩ := hSw; clear hHeld; first | (go_simp; done) | (go_simp; omega)
    try simp only [Act.put, List.setIfInBounds_toArray, List.set_cons_zero, List.set_cons_succ]
    refine wpAnyH_takeD (i := 5) (v := (.int .i64 xn)) 17 rfl rfl (by kernel_rfl) (by kernel_rfl) (by kernel_rfl) (fun _ _ _ h => h) (Or.inl ⟨by rfl, fun w5 hSw => ?_⟩) hHeld ?_
    · clear hSw hHeld; first | (go_simp; done) | (go_simp; omega)
    try simp only [Act.put, List.setIfInBounds_toArray, List.set_cons_zero, List.set_cons_succ]
    refine wpAnyH_takeD (i := 6) (v := (.pointer (some ⟨c', xn, none⟩))) 18 rfl rfl (by kernel_rfl) (by kernel_rfl) (by kernel_rfl) (fun _ _ _ h => h) (Or.inl ⟨by rfl, fun w5 hSw => ?_⟩) hHeld ?_
    · clear hSw hHeld; first | (go_simp; done) | (go_simp; omega)
    try simp only [Act.put, List.setIfInBounds_toArray, List.set_cons_zero, List.set_cons_succ]
    refine wpAnyH_takeD (i := 7) (v := (.int .i64 q)) 19 rfl rfl (by kernel_rfl) (by kernel_rfl) (by kernel_rfl) (fun _ _ _ h => h) (Or.inl ⟨by rfl, fun w5 hSw => ?_⟩) hHeld ?_
    · obtain ⟨s1, s2, s3⟩ := hSw; clear hHeld; first | (go_simp; done) | (go_simp; omega)
    try simp only [Act.put, List.setIfInBounds_toArray, List.set_cons_zero, List.set_cons_succ]
    refine wpAnyH_ready (rs := [0]) (by kernel_rfl) (by simp) ?_
    refine AllReadyH.cons rfl (fun K hK => ?_) AllReadyH.nil
    go_simp
    refine hK.out _ _ hHeld (fun hHeld => ?_)
    clear hK K
    try simp only [Act.put, List.setIfInBounds_toArray, List.set_cons_zero, List.set_cons_succ]
    refine wpAnyH_takeD (i := 8) (v := (.int .i64 (z + q))) 20 rfl rfl (by kernel_rfl) (by kernel_rfl) (by kernel_rfl) (fun _ _ _ h => h) (Or.inl ⟨by rfl, fun w5 hSw => ?_⟩) hHeld ?_
    · clear hSw hHeld; first | (go_simp; done) | (go_simp; omega)
    try simp only [Act.put, List.setIfInBounds_toArray, List.set_cons_zero, List.set_cons_succ]
    refine wpAnyH_ready (rs := [9]) (by kernel_rfl) (by simp) ?_
    refine AllReadyH.cons rfl (fun K hK => ?_) AllReadyH.nil
    go_simp
    refine hK.out _ _ ?_ (fun hHeld => ?_)
    · obtain ⟨s1, s2, s3⟩ := hHeld
      exact ⟨by go_simp, by go_simp, by go_simp⟩
    · refine wpAnyH_done (by kernel_rfl) ?_ _
      exact HFIN.out
end Go.Proofs.Ytnpolmanebmmcaa
