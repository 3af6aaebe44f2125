/- The weights by which options stand before one another: the program's. -/
import Derived.Test.YtnpolmanebmmcaaCn1
import Derived.Test.YtnpolmanebmmcaaRp4
import Derived.Test.YtnpolmanebmmcaaIt2
import Derived.Test.YtnpolmanebmmcaaIh
namespace Go.Proofs.Ytnpolmanebmmcaa
open Go.RowKit Go.Shelf Go.Deep
set_option linter.unusedSimpArgs false
set_option linter.unusedVariables false
attribute [local go_sem] Oper.semAt_some
set_option maxRecDepth 100000 in
theorem pairsF (F : Fence) (n : Nat) (hF : F.fn 69) (hro : F.round = none) (a : Option Addr) (len cap : Nat) (w : World) :
    CallsIn F n Try.prog 69 #[.slice a len cap] w fun e w' => e = .returned (.func (.func 72) #[] #[.pointer (some ⟨w.heap.size, 0, none⟩)]) ∧ w' = w.alloc (.cells #[.slice a len cap] 23) := by
  refine callsIn_of_wp Try.func69 rfl hF ?_ hro
  simp only [Try.ntmps69, List.size_toArray, List.length_cons, List.length_nil, Nat.reduceAdd, Nat.reduceSub, Array.replicate_succ, Array.replicate_zero, List.push_toArray, List.append_toArray, List.nil_append, List.cons_append]
  gi_wp2
  go_ret
  exact ⟨rfl, rfl⟩
theorem pairs_stops (F : Fence) (n : Nat) (h80 : F.fn 72) (hro : F.round = none) (hn : 1 ≤ n) {β : Type} (e : β → Int) (d : β) (rl : List β) (hlen : rl.length ≤ 1048576) (Bn n₀ c cap : Nat) (hcap : rl.length ≤ cap) (hcn : c < n₀) (w : World) (hBn : Bn < w.heap.size) (hn0 : n₀ ≤ w.heap.size)
    (hc : w.cell? ⟨Bn, 0, none⟩ = some (.slice (some ⟨c, 0, none⟩) rl.length cap)) (hL : ∀ k, k < rl.length → w.cell? ⟨c, k, none⟩ = some (.int .i64 (e (rl.getD k d)))) :
    SeqStopsK F n Try.prog 72 #[.pointer (some ⟨Bn, 0, none⟩)] (fun x : β × β => #[Value.int .i64 (e x.1), Value.int .i64 (e x.2)]) (Kb n₀ Bn) (fun ys => ys = prs d rl) (fun pre => pre <+: prs d rl) (prs d rl).length w :=
  fun l J Jx W hW _ _ hY h0 => pairs1_in F n h80 hro hn e d rl hlen l Bn n₀ c cap hcap hcn J Jx hY W ((hW.cell (p := ⟨Bn, 0, none⟩) hBn).trans hc) (fun k hk => (hW.cell (p := ⟨c, k, none⟩) (by show c < _; omega)).trans (hL k hk)) h0
set_option maxHeartbeats 4000000 in
set_option maxRecDepth 100000 in
theorem icounts (X : Pr) (b c hi : Nat) (w : World) (h : RfR w b c hi X) (hok : pOk X) :
    Calls Try.prog 45 #[.agg #[.slice (some ⟨b, 0, none⟩) X.1.length X.1.length, .slice (some ⟨c, 0, none⟩) X.2.length X.2.length]] w fun e w' => (∃ b', e = .returned (.slice (some ⟨b', 0, none⟩) (nop X) (nop X)) ∧ OwJ w' w.heap.size w'.heap.size (.slice (some ⟨b', 0, none⟩) (nop X) (nop X)) (cmat X)) ∧ Below w.heap.size w w' := by
  have HOK := Lib.hid hok
  have HX := Lib.hid h
  obtain ⟨m, hm⟩ : ∃ m, nop X = m := ⟨_, rfl⟩
  have hm' : (X.1.getD 0 []).length = m := hm
  have m1 : 1 ≤ m := by rw [← hm']; exact hok.2.2.2.1
  have m6 : m ≤ 6 := by rw [← hm']; exact hok.2.2.2.2.1
  have hA := hok.1
  have hA12 := hok.2.1
  have hCA := hok.2.2.1
  rw [hm]
  have HM := Lib.hid hm
  have b1 := (Below.refl w.heap.size w).alloc (Nat.le_refl _) (.cells #[.slice (some ⟨b, 0, none⟩) X.1.length X.1.length, .slice (some ⟨c, 0, none⟩) X.2.length X.2.length] 28)
  obtain ⟨c0, a1, -⟩ := HX.out.rows.at (k := 0) (by omega)
  rw [hm'] at a1
  have hbl : b < w.heap.size := HX.out.rows.lt
  have a0 := a1
  obtain ⟨A, C⟩ := X
  simp only at hA hA12 hCA a1 b1 ⊢
  have HCA := Lib.hid hCA
  rw [hCA] at b1 ⊢
  clear hok hm hm' h hCA
  refine (callsIn_wide (n := 20)).1 ?_
  refine callsIn_of_wp_marks Try.func45 rfl trivial ?_ rfl
  simp only [Try.ntmps45, List.size_toArray, List.length_cons, List.length_nil, Nat.reduceAdd, Nat.reduceSub, Array.replicate_succ, Array.replicate_zero, List.push_toArray, List.append_toArray, List.nil_append, List.cons_append]
  gi_wp2_with (refine ⟨trivial, ?_⟩; gi_at_call 68; refine (callsIn_wide.2 (isquare m m6 _)).mono ?_; rintro e w1 ⟨rfl, hJ, hb1⟩; have hs1 := hb1.size; have y0 : w1.cell? ⟨w.heap.size, 0, none⟩ = some (.slice (some ⟨b, 0, none⟩) A.length A.length) := (hb1.cell (p := ⟨w.heap.size, 0, none⟩) (by simp)).trans (by go_simp); have y1 : w1.cell? ⟨w.heap.size, 1, none⟩ = some (.slice (some ⟨c, 0, none⟩) A.length A.length) := (hb1.cell (p := ⟨w.heap.size, 1, none⟩) (by simp)).trans (by go_simp); have hs2 : w.heap.size < w1.heap.size := by simp at hs1; omega)
  have hcB : (w1.alloc (.cells #[.slice (some ⟨w.heap.size + 1, 0, none⟩) m m] 58)).cell? ⟨w1.heap.size, 0, none⟩ = some (.slice (some ⟨w.heap.size + 1, 0, none⟩) m m) := by go_simp
  have hJo := hJ.own (Nat.le_refl _) (zer_fits (n := m) (by omega)) m
  rw [zer_len] at hJo
  simp only [World.size_alloc] at hJo
  obtain ⟨B, hB⟩ : ∃ B, w1.heap.size = B := ⟨_, rfl⟩
  obtain ⟨W0, hW0⟩ : ∃ W0, w1.alloc (.cells #[.slice (some ⟨w.heap.size + 1, 0, none⟩) m m] 58) = W0 := ⟨_, rfl⟩
  have hbw : Below w1.heap.size w1 W0 := by rw [← hW0]; exact (Below.refl _ _).alloc (Nat.le_refl _) _
  have hI0 : IV w [(w.heap.size, 0, .slice (some ⟨b, 0, none⟩) A.length A.length), (w.heap.size, 1, .slice (some ⟨c, 0, none⟩) A.length A.length), (B, 0, .slice (some ⟨w.heap.size + 1, 0, none⟩) m m)] (w.heap.size + 1) B (.slice (some ⟨w.heap.size + 1, 0, none⟩) m m) (zer m) [] W0 := by
    refine ⟨b1.trans ((hb1.mono (by simp)).trans (hbw.mono (by omega))), fun q hq => ?_, (hB ▸ hJo).below hbw, by simp, by simp, by simp, by have := hbw.size; omega⟩
    simp only [List.mem_cons, List.mem_nil_iff, or_false] at hq
    rcases hq with rfl | rfl | rfl
    · exact (hbw.cell (p := ⟨w.heap.size, 0, none⟩) hs2).trans y0
    · exact (hbw.cell (p := ⟨w.heap.size, 1, none⟩) hs2).trans y1
    · rw [hW0, hB] at hcB; exact hcB
  have hz : zer m = cmr (A, C) 0 := by show zer m = zer (nop (A, C)); rw [HM.out]
  rw [hz] at hI0
  rw [hW0]
  simp only [hB]
  clear hW0 hbw hJo hJ hb1 y0 y1 hs1 a0 a1 hz b1 hcB
  have hBw : w.heap.size < B := by omega
  clear hs2 hB
  refine wpIn_loop (fun a' w' => ∃ (r : Nat) (ds : List Nat) (u4 u5 u18 u19 u20 u21 u22 u23 u40 : Value), r ≤ A.length ∧
      IV w [(w.heap.size, 0, .slice (some ⟨b, 0, none⟩) A.length A.length), (w.heap.size, 1, .slice (some ⟨c, 0, none⟩) A.length A.length), (B, 0, .slice (some ⟨w.heap.size + 1, 0, none⟩) m m)] (w.heap.size + 1) B (.slice (some ⟨w.heap.size + 1, 0, none⟩) m m) (cmr (A, C) r) ds w' ∧
      a' = { tmps := #[.agg #[.slice (some ⟨b, 0, none⟩) A.length A.length, .slice (some ⟨c, 0, none⟩) A.length A.length], .pointer (some ⟨w.heap.size, 0, none⟩), .slice none 0 0, .pointer (some ⟨B, 0, none⟩), u4, u5, undef, undef,
        .pointer (some ⟨w.heap.size, 0, none⟩), .slice (some ⟨b, 0, none⟩) A.length A.length, .pointer (some ⟨b, 0, none⟩), .slice (some ⟨c0, 0, none⟩) m m, .int .i64 m, .slice (some ⟨w.heap.size + 1, 0, none⟩) m m,
        .pointer (some ⟨w.heap.size, 0, none⟩), .slice (some ⟨b, 0, none⟩) A.length A.length, .int .i64 A.length, .int .i64 r, u18, u19, u20, u21, u22, u23, undef, undef, undef, undef, undef, undef, undef, undef, undef, undef, undef, undef, undef, undef, undef, undef, u40, undef], defers := ds.map mark1 })
    (fun a' _ => A.length - (intOf (a'.tmps.getD 17 undef)).toNat) ?start ?round
  case start => exact ⟨0, [], _, _, _, _, _, _, _, _, _, Nat.zero_le _, hI0, rfl⟩
  case round =>
    clear hI0
    rintro a' w' ⟨r, ds, u4, u5, u18, u19, u20, u21, u22, u23, u40, hr, hI, rfl⟩
    by_cases hlt : r < A.length
    · obtain ⟨c', a1, a2⟩ := HX.out.rows.at (k := r) hlt
      have hrk := (HOK.out.2.2.2.2.2 r hlt).1
      have hwt := (HOK.out.2.2.2.2.2 r hlt).2
      obtain ⟨hs0, hbd0⟩ := cmr_ok HOK.out r hr
      have hdf := hrk.2
      have hll := hrk.1
      have hnx : cmr (A, C) (r + 1) = cad (cmr (A, C) r) (prs 0 (A.getD r [])) (C.getD r 0) := rfl
      have hmm : nop (A, C) = m := HM.out
      have hm0 : (A.getD 0 []).length = m := HM.out
      have hcw := World.rowIs.lt HX.out.wts
      have hcc := HX.out.wts.cell (i := r) (by have := HCA.out; show r < C.length; omega)
      have hp36 := prs_len_le HOK.out (r := r) hlt
      simp only at a1 a2 hdf hll hwt hcc hp36
      rw [hm0] at hdf hll
      rw [hmm] at hs0
      have g1 := (hI.bel.cell (p := ⟨b, r, none⟩) hbl).trans a1
      obtain ⟨l, hl⟩ : ∃ l, A.getD r [] = l := ⟨_, rfl⟩
      obtain ⟨y, hy⟩ : ∃ y, C.getD r 0 = y := ⟨_, rfl⟩
      obtain ⟨M0, hM0⟩ : ∃ M0, cmr (A, C) r = M0 := ⟨_, rfl⟩
      rw [hl] at g1 a2 hdf hll hnx hp36
      rw [hy] at hwt hnx hcc
      rw [hM0] at hI hs0 hbd0 hnx
      have hlm := allDiff_mem hdf
      obtain ⟨rl, rfl⟩ := nums_of l hlm
      rw [List.length_map] at hll
      rw [List.length_map, hll] at g1
      have hcl : c' < w.heap.size := World.rowIs.lt a2
      obtain ⟨d, hd⟩ : ∃ d : Num m, d.1 = 0 := ⟨⟨0, by omega⟩, rfl⟩
      have hpm : prs (0 : Int) (rl.map Subtype.val) = (prs d rl).map (Prod.map Subtype.val Subtype.val) := by have q := prs_map Subtype.val d rl; rw [hd] at q; exact q
      rw [hpm] at hnx hp36
      rw [List.length_map] at hp36
      have hcR : ∀ k, k < rl.length → w.cell? ⟨c', k, none⟩ = some (.int .i64 (rl.getD k d).1) := fun k hk => by
        have q := World.rowIs.cell a2 (i := k) (by simpa using hk)
        rw [q]
        simp [List.getD, hk]
      have HNX := Lib.hid hnx
      have HCR := Lib.hid hcR
      have HS0 := Lib.hid hs0
      have HBD := Lib.hid hbd0
      have hds := hI.dlt
      have hI2 : IV w ((w'.heap.size, 0, .int .i64 r) :: [(w.heap.size, 0, .slice (some ⟨b, 0, none⟩) A.length A.length), (w.heap.size, 1, .slice (some ⟨c, 0, none⟩) A.length A.length), (B, 0, .slice (some ⟨w.heap.size + 1, 0, none⟩) m m)]) (w.heap.size + 1) B (.slice (some ⟨w.heap.size + 1, 0, none⟩) m m) M0 ds ((w'.alloc (.cells #[.int .i64 r] 3)).alloc (.cells #[.slice (some ⟨c', 0, none⟩) m m] 23)) :=
        (hI.below (((Below.refl _ _).alloc (Nat.le_refl _) _).alloc (by simp) _)).more _ (by go_simp)
      have hBn : ((w'.alloc (.cells #[.int .i64 r] 3)).alloc (.cells #[.slice (some ⟨c', 0, none⟩) m m] 23)).cell? ⟨w'.heap.size + 1, 0, none⟩ = some (.slice (some ⟨c', 0, none⟩) rl.length m) := by rw [hll]; go_simp
      have hsz2 : ((w'.alloc (.cells #[.int .i64 r] 3)).alloc (.cells #[.slice (some ⟨c', 0, none⟩) m m] 23)).heap.size = w'.heap.size + 2 := by simp
      have hB2 : B ≤ w'.heap.size := hI.sz
      have hw2 : w.heap.size ≤ w'.heap.size := hI.bel.size
      obtain ⟨W2, hW2⟩ : ∃ W2, ((w'.alloc (.cells #[.int .i64 r] 3)).alloc (.cells #[.slice (some ⟨c', 0, none⟩) m m] 23)) = W2 := ⟨_, rfl⟩
      have HW2 := Lib.hid hW2
      rw [hW2] at hI2 hBn hsz2
      have HI2 := Lib.hid hI2
      have HBN := Lib.hid hBn
      clear a2 hdf hlm hnx hpm hcR hs0 hbd0 hI hI2 hBn hW2 hl hy hM0 hmm hm0 hrk a1 hd
      gi_wp2_with (refine ⟨trivial, ?_⟩; gi_at_call 69; refine (pairsF Fence.wide _ trivial rfl _ _ _ _).mono ?_; rintro e w2 ⟨rfl, rfl⟩)
      rw [HW2.out]
      refine wpIn_rangeFunc_ownG rfl (by omega) (gf := 72) (lb := #[.pointer (some ⟨w'.heap.size + 1, 0, none⟩)]) rfl trivial (enters_of Try.func72 (by kernel_rfl) rfl)
        (pairs_stops Fence.wide 19 trivial rfl (by omega) (fun x : Num m => x.1) d rl (by omega) (w'.heap.size + 1) w.heap.size c' m (by omega) hcl W2 (by omega) (by omega) HBN.out (fun k hk => (HI2.out.bel.cell (p := ⟨c', k, none⟩) hcl).trans (HCR.out k hk)))
        Kb.t (Kb.b (by omega) (by omega)) (Below.refl _ _) (fun _ => rfl)
        (fun pre W => IV w ((w'.heap.size, 0, .int .i64 r) :: [(w.heap.size, 0, .slice (some ⟨b, 0, none⟩) A.length A.length), (w.heap.size, 1, .slice (some ⟨c, 0, none⟩) A.length A.length), (B, 0, .slice (some ⟨w.heap.size + 1, 0, none⟩) m m)]) (w.heap.size + 1) B (.slice (some ⟨w.heap.size + 1, 0, none⟩) m m) (cad M0 (pre.map (Prod.map Subtype.val Subtype.val)) y) ds W)
        (fun _ _ _ => False)
        (HI2.out.own_from (fun pre : List (Num m × Num m) => cad M0 (pre.map (Prod.map Subtype.val Subtype.val)) y))
        (fun _ _ _ _ _ hs _ _ => hs)
        HI2.out
        (fun x => { tmps := #[.agg #[.slice (some ⟨b, 0, none⟩) A.length A.length, .slice (some ⟨c, 0, none⟩) A.length A.length], .pointer (some ⟨w.heap.size, 0, none⟩), .slice none 0 0, .pointer (some ⟨B, 0, none⟩), .pointer (some ⟨w'.heap.size, 0, none⟩), .slice (some ⟨c', 0, none⟩) m m, .int .i64 x.1.1, .int .i64 x.2.1,
        .pointer (some ⟨w.heap.size, 0, none⟩), .slice (some ⟨b, 0, none⟩) A.length A.length, .pointer (some ⟨b, 0, none⟩), .slice (some ⟨c0, 0, none⟩) m m, .int .i64 m, .slice (some ⟨w.heap.size + 1, 0, none⟩) m m,
        .pointer (some ⟨w.heap.size, 0, none⟩), .slice (some ⟨b, 0, none⟩) A.length A.length, .int .i64 A.length, .int .i64 r, .bool true, .int .i64 r, .pointer (some ⟨b, r, none⟩), .slice (some ⟨c', 0, none⟩) m m, .slice (some ⟨c', 0, none⟩) m m, .func (.func 72) #[] #[.pointer (some ⟨w'.heap.size + 1, 0, none⟩)], .int .i64 x.1.1, .int .i64 x.2.1, undef, undef, undef, undef, undef, undef, undef, undef, undef, undef, undef, undef, undef, undef, u40, undef], defers := [] })
        ?assign ?body ?done ?stop
      case assign =>
        intro l x W K hK
        gi_wp2
        exact hK
      case stop =>
        rintro D c1 pre W hD _ h _
        exact h.elim
      case done =>
        rintro D ys W hD rfl hIV hK
        have hI3 := (hIV.sub (cs' := [(w.heap.size, 0, .slice (some ⟨b, 0, none⟩) A.length A.length), (w.heap.size, 1, .slice (some ⟨c, 0, none⟩) A.length A.length), (B, 0, .slice (some ⟨w.heap.size + 1, 0, none⟩) m m)]) (fun q hq => List.mem_cons_of_mem _ hq)).mark hK (fun hm => by have := hds D hm; omega) (by omega)
        rw [← HNX.out] at hI3
        have HI3 := Lib.hid hI3
        clear hIV hI3
        have hr1 : IntKind.i64.wrap ((r : Int) + 1) = ((r + 1 : Nat) : Int) := by rw [IntKind.wrap_i64]; omega
        gi_wp2
        have hcast : ((r + 1 : Nat) : Int) = (r : Int) + 1 := by omega
        refine ⟨⟨r + 1, D :: ds, .pointer (some ⟨w'.heap.size, 0, none⟩), .slice (some ⟨c', 0, none⟩) m m, .bool true, .int .i64 r, .pointer (some ⟨b, r, none⟩), .slice (some ⟨c', 0, none⟩) m m, .slice (some ⟨c', 0, none⟩) m m, .func (.func 72) #[] #[.pointer (some ⟨w'.heap.size + 1, 0, none⟩)], .int .i64 ((r : Int) + 1), by omega, HI3.out, ?_⟩, ?_⟩
        · rw [hcast]; rfl
        · simp [intOf]; omega
      case body =>
        rintro l pre x W hIV hplen
        have hsq := cad_sq HS0.out (pre.map (Prod.map Subtype.val Subtype.val)) y
        have hbd := cad_bd HBD.out HS0.out hwt.1 hwt.2 (pre.map (Prod.map Subtype.val Subtype.val)) (fun p hp => by
          obtain ⟨q, -, rfl⟩ := List.mem_map.1 hp
          exact ⟨q.1.2.1, q.1.2.2, q.2.2.1, q.2.2.2⟩)
        rw [List.length_map] at hbd
        obtain ⟨⟨x1, hx1⟩, x2, hx2⟩ := x
        obtain ⟨xn, rfl⟩ : ∃ xn : Nat, x1 = xn := ⟨x1.toNat, by omega⟩
        obtain ⟨un, rfl⟩ : ∃ un : Nat, x2 = un := ⟨x2.toNat, by omega⟩
        have hxm : xn < m := by omega
        have hum : un < m := by omega
        have hsn : cad M0 ((pre ++ [((⟨(xn : Int), hx1⟩ : Num m), (⟨(un : Int), hx2⟩ : Num m))]).map (Prod.map Subtype.val Subtype.val)) y = madd (cad M0 (pre.map (Prod.map Subtype.val Subtype.val)) y) xn un y := by
          rw [List.map_append, List.map_singleton, cad_snoc]
          simp
        obtain ⟨M, hM⟩ : ∃ M, cad M0 (pre.map (Prod.map Subtype.val Subtype.val)) y = M := ⟨_, rfl⟩
        rw [hM] at hsq hbd hIV hsn
        have hMl : M.length = m := hsq.1
        have hO' := hIV.own
        rw [← hMl] at hO'
        obtain ⟨cc, cp, d1, d2, d3, d4, d5, d6, d7, d8, d9, d10⟩ := hO'.setAt (i := xn) (by omega) (by rw [hsq.2 xn hxm]; omega)
        have hrl := hsq.2 xn hxm
        obtain ⟨e1, e2⟩ := d9 un (by omega)
        have hS := d10 un (mg M xn un + y) (by omega)
        have hmv := hbd xn un
        have emg : (M.getD xn []).getD un 0 = mg M xn un := rfl
        rw [emg] at e1
        rw [hMl] at hS
        have hS2 : OwJ (W.setCell ⟨cc, un, none⟩ (.int .i64 (mg M xn un + y))) (w.heap.size + 1) B (.slice (some ⟨w.heap.size + 1, 0, none⟩) m m) (madd M xn un y) := hS
        obtain ⟨q, hq2⟩ : ∃ q, mg M xn un = q := ⟨_, rfl⟩
        rw [hq2] at e1 hmv hS2
        rw [hrl] at d1
        have wq : IntKind.i64.wrap (q + y) = q + y := by rw [IntKind.wrap_i64]; omega
        have hI4 := (hIV.store (c := cc) (j := un) d2 d3 (by omega) (fun q hq => by
          simp only [List.mem_cons, List.mem_nil_iff, or_false] at hq
          rcases hq with rfl | rfl | rfl | rfl <;> simp <;> omega) hS2).drew
        rw [← hsn] at hI4
        have z0 := hIV.cell (b := B) (o := 0) (u := .slice (some ⟨w.heap.size + 1, 0, none⟩) m m) (by simp)
        have z1 := hIV.cell (b := w.heap.size) (o := 1) (u := .slice (some ⟨c, 0, none⟩) A.length A.length) (by simp)
        have z2 := hIV.cell (b := w'.heap.size) (o := 0) (u := .int .i64 r) (by simp)
        have z3 := (hIV.bel.cell (p := ⟨c, r, none⟩) hcw).trans hcc
        have hKF : KeepsFrom W2.heap.size W (W.setCell ⟨cc, un, none⟩ (.int .i64 (q + y))).drew := ((KeepsOthers.setCell W ⟨cc, un, none⟩ (.int .i64 (q + y))).trans (KeepsOthers.drew _)).from _
        have hKB : Kb w.heap.size (w'.heap.size + 1) W (W.setCell ⟨cc, un, none⟩ (.int .i64 (q + y))).drew :=
          ⟨((Below.refl _ W).setCell (p := ⟨cc, un, none⟩) (by show _ ≤ cc; omega) _).drew, fun _ => heap_setCell_other _ _ _ _ (show w'.heap.size + 1 ≠ cc by omega)⟩
        have HFIN := Lib.hid (And.intro hKF (And.intro hKB hI4))
        have hmx : Try.prog.follows .mixedOrders = true := by kernel_rfl
        clear hsq hbd hIV hsn hO' d9 d10 hS emg hS2 hI4 hM hMl hq2 hKF hKB
        rename_i Q1 K1 A1 Q2 K2 A2
        clear A2 K2 Q2 A1 K1 Q1 HCR HBN HI2 HW2 HNX HS0 HBD HX HOK hcl hll hds hp36 hplen
        have hne1 : ¬ w.heap.size = cc := by omega
        have hne2 : ¬ w.heap.size + 1 = cc := by omega
        have hne3 : ¬ B = cc := by omega
        have hne4 : ¬ w'.heap.size = cc := by omega
        have hne5 : ¬ c = cc := by omega
        gi_wp2
        refine wpIn_region_round (fun W' => W'.cell? ⟨B, 0, none⟩ = some (.slice (some ⟨w.heap.size + 1, 0, none⟩) m m) ∧ W'.cell? ⟨w.heap.size + 1, xn, none⟩ = some (.slice (some ⟨cc, 0, none⟩) m cp) ∧ W'.cell? ⟨w.heap.size, 1, none⟩ = some (.slice (some ⟨c, 0, none⟩) A.length A.length) ∧ W'.cell? ⟨w'.heap.size, 0, none⟩ = some (.int .i64 r) ∧ W'.cell? ⟨c, r, none⟩ = some (.int .i64 y)) hmx (by kernel_rfl) (fun ⟨_, _, h⟩ => h) ⟨z0, d1, z1, z2, z3⟩ (fun hHeld => ?_)
        refine wpAnyH_takeD (i := 0) (v := (.slice (some ⟨w.heap.size + 1, 0, none⟩) m m)) 26 rfl rfl (by kernel_rfl) (by kernel_rfl) (by kernel_rfl) (fun _ _ _ h => h) (Or.inl ⟨by rfl, fun w5 hSw => ?_⟩) hHeld ?_
        · obtain ⟨s1, s2, s3, s4, s5⟩ := hSw; clear hHeld; first | (go_simp; done) | (go_simp; omega)
        try simp only [Act.put, List.setIfInBounds_toArray, List.set_cons_zero, List.set_cons_succ]
        refine wpAnyH_takeD (i := 1) (v := (.int .i64 xn)) 27 rfl rfl (by kernel_rfl) (by kernel_rfl) (by kernel_rfl) (fun _ _ _ h => h) (Or.inl ⟨by rfl, fun w5 hSw => ?_⟩) hHeld ?_
        · clear hSw hHeld; first | (go_simp; done) | (go_simp; omega)
        try simp only [Act.put, List.setIfInBounds_toArray, List.set_cons_zero, List.set_cons_succ]
        refine wpAnyH_takeD (i := 2) (v := (.pointer (some ⟨w.heap.size + 1, xn, none⟩))) 28 rfl rfl (by kernel_rfl) (by kernel_rfl) (by kernel_rfl) (fun _ _ _ h => h) (Or.inl ⟨by rfl, fun w5 hSw => ?_⟩) hHeld ?_
        · clear hSw hHeld; first | (go_simp; done) | (go_simp; omega)
        try simp only [Act.put, List.setIfInBounds_toArray, List.set_cons_zero, List.set_cons_succ]
        refine wpAnyH_takeD (i := 3) (v := (.slice (some ⟨cc, 0, none⟩) m cp)) 29 rfl rfl (by kernel_rfl) (by kernel_rfl) (by kernel_rfl) (fun _ _ _ h => h) (Or.inl ⟨by rfl, fun w5 hSw => ?_⟩) hHeld ?_
        · obtain ⟨s1, s2, s3, s4, s5⟩ := hSw; clear hHeld; first | (go_simp; done) | (go_simp; omega)
        try simp only [Act.put, List.setIfInBounds_toArray, List.set_cons_zero, List.set_cons_succ]
        refine wpAnyH_takeD (i := 4) (v := (.int .i64 un)) 30 rfl rfl (by kernel_rfl) (by kernel_rfl) (by kernel_rfl) (fun _ _ _ h => h) (Or.inl ⟨by rfl, fun w5 hSw => ?_⟩) hHeld ?_
        · clear hSw hHeld; first | (go_simp; done) | (go_simp; omega)
        try simp only [Act.put, List.setIfInBounds_toArray, List.set_cons_zero, List.set_cons_succ]
        refine wpAnyH_takeD (i := 5) (v := (.pointer (some ⟨cc, un, none⟩))) 31 rfl rfl (by kernel_rfl) (by kernel_rfl) (by kernel_rfl) (fun _ _ _ h => h) (Or.inl ⟨by rfl, fun w5 hSw => ?_⟩) hHeld ?_
        · clear hSw hHeld; first | (go_simp; done) | (go_simp; omega)
        try simp only [Act.put, List.setIfInBounds_toArray, List.set_cons_zero, List.set_cons_succ]
        refine wpAnyH_takeD (i := 7) (v := (.pointer (some ⟨w.heap.size, 1, none⟩))) 33 rfl rfl (by kernel_rfl) (by kernel_rfl) (by kernel_rfl) (fun _ _ _ h => h) (Or.inl ⟨by rfl, fun w5 hSw => ?_⟩) hHeld ?_
        · clear hSw hHeld; first | (go_simp; done) | (go_simp; omega)
        try simp only [Act.put, List.setIfInBounds_toArray, List.set_cons_zero, List.set_cons_succ]
        refine wpAnyH_takeD (i := 8) (v := (.slice (some ⟨c, 0, none⟩) A.length A.length)) 34 rfl rfl (by kernel_rfl) (by kernel_rfl) (by kernel_rfl) (fun _ _ _ h => h) (Or.inl ⟨by rfl, fun w5 hSw => ?_⟩) hHeld ?_
        · obtain ⟨s1, s2, s3, s4, s5⟩ := hSw; clear hHeld; first | (go_simp; done) | (go_simp; omega)
        try simp only [Act.put, List.setIfInBounds_toArray, List.set_cons_zero, List.set_cons_succ]
        refine wpAnyH_takeD (i := 9) (v := (.int .i64 r)) 35 rfl rfl (by kernel_rfl) (by kernel_rfl) (by kernel_rfl) (fun _ _ _ h => h) (Or.inl ⟨by rfl, fun w5 hSw => ?_⟩) hHeld ?_
        · obtain ⟨s1, s2, s3, s4, s5⟩ := hSw; clear hHeld; first | (go_simp; done) | (go_simp; omega)
        try simp only [Act.put, List.setIfInBounds_toArray, List.set_cons_zero, List.set_cons_succ]
        refine wpAnyH_takeD (i := 10) (v := (.pointer (some ⟨c, r, none⟩))) 36 rfl rfl (by kernel_rfl) (by kernel_rfl) (by kernel_rfl) (fun _ _ _ h => h) (Or.inl ⟨by rfl, fun w5 hSw => ?_⟩) hHeld ?_
        · clear hSw hHeld; first | (go_simp; done) | (go_simp; omega)
        try simp only [Act.put, List.setIfInBounds_toArray, List.set_cons_zero, List.set_cons_succ]
        refine wpAnyH_takeD (i := 11) (v := (.int .i64 y)) 37 rfl rfl (by kernel_rfl) (by kernel_rfl) (by kernel_rfl) (fun _ _ _ h => h) (Or.inl ⟨by rfl, fun w5 hSw => ?_⟩) hHeld ?_
        · obtain ⟨s1, s2, s3, s4, s5⟩ := hSw; clear hHeld; first | (go_simp; done) | (go_simp; omega)
        try simp only [Act.put, List.setIfInBounds_toArray, List.set_cons_zero, List.set_cons_succ]
        refine wpAnyH_ready (rs := [6]) (by kernel_rfl) (by simp) ?_
        refine AllReadyH.cons rfl (fun K hK => ?_) AllReadyH.nil
        go_simp
        refine hK.out _ _ hHeld (fun hHeld => ?_)
        clear hK K
        try simp only [Act.put, List.setIfInBounds_toArray, List.set_cons_zero, List.set_cons_succ]
        refine wpAnyH_takeD (i := 12) (v := (.int .i64 (q + y))) 38 rfl rfl (by kernel_rfl) (by kernel_rfl) (by kernel_rfl) (fun _ _ _ h => h) (Or.inl ⟨by rfl, fun w5 hSw => ?_⟩) hHeld ?_
        · clear hSw hHeld; first | (go_simp; done) | (go_simp; omega)
        try simp only [Act.put, List.setIfInBounds_toArray, List.set_cons_zero, List.set_cons_succ]
        refine wpAnyH_takeD (i := 13) (v := (.pointer (some ⟨cc, un, none⟩))) 39 rfl rfl (by kernel_rfl) (by kernel_rfl) (by kernel_rfl) (fun _ _ _ h => h) (Or.inl ⟨by rfl, fun w5 hSw => ?_⟩) hHeld ?_
        · clear hSw hHeld; first | (go_simp; done) | (go_simp; omega)
        try simp only [Act.put, List.setIfInBounds_toArray, List.set_cons_zero, List.set_cons_succ]
        refine wpAnyH_ready (rs := [14]) (by kernel_rfl) (by simp) ?_
        refine AllReadyH.cons rfl (fun K hK => ?_) AllReadyH.nil
        go_simp
        refine hK.out _ _ ?_ (fun hHeld => ?_)
        · obtain ⟨s1, s2, s3, s4, s5⟩ := hHeld
          exact ⟨by go_simp, by go_simp, by go_simp, by go_simp, by go_simp⟩
        · refine wpAnyH_done (by kernel_rfl) ?_ _
          exact HFIN.out
    · obtain rfl : r = A.length := by omega
      have hmm : nop (A, C) = m := HM.out
      have z0 := hI.cell (b := B) (o := 0) (u := .slice (some ⟨w.heap.size + 1, 0, none⟩) m m) (by simp)
      have HI := Lib.hid hI
      clear hI
      gi_wp2
      refine HI.out.leaves (by omega) ?_
      rintro W' ⟨j1, j2, j3⟩
      exact ⟨_, results_tmp rfl _ _ _, ⟨_, rfl, j2.mono (by omega) j3⟩, j1⟩
end Go.Proofs.Ytnpolmanebmmcaa
