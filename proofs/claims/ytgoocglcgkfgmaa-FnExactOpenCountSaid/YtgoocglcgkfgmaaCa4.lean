/- OpenCount and AdoptedBy: the specification's. -/
import Derived.Test.YtgoocglcgkfgmaaCa3
import Derived.Test.YtgoocglcgkfgmaaSl4
import Derived.BigQuiet
namespace Go.Proofs.Ytgoocglcgkfgmaa
open Go.ChangeShapes Go.WideShapes Go.ChangeAt Go.RowKit Go.Deep
set_option linter.unusedSimpArgs false
set_option linter.unusedVariables false
theorem svote (n : Int) (w : World) :
    Calls Try.prog 66 #[.int .i64 n] w fun e w' => e = .returned (.bool (vB n)) ∧ w = w' := by
  have P1 := fun w' => in_any n 0 2 w'
  have hs : (decide (0 ≤ n) && decide (n ≤ 2)) = vB n := rfl
  rw [hs] at P1
  clear hs
  generalize vB n = z at P1 ⊢
  go_enter Try.func66, Try.ntmps66
  go_wp2_with fail
  refine (P1 _).mono ?_
  rintro e w1 ⟨rfl, rfl⟩
  go_wp2
  go_ret
  exact ⟨rfl, rfl⟩
set_option maxHeartbeats 1000000 in
theorem svotes (v u : Value) (V W : List Int) (w : World) (h : RowV w v V) (hu : RowV w u W) (hV : V.length ≤ 1048576) (hW : W.length ≤ 1048576) :
    Calls Try.prog 51 #[v, u] w fun e w' => e = .returned (.bool (vwB V W)) ∧ w = w' := by
  have HW := fun w' (hw : Below w.heap.size w w') => swts u W V.length w' (hu.below hw) hW hV
  obtain ⟨a2, cap2, rfl⟩ := hu.shape
  clear hu
  have HE : Hid (vwB V W = (decide (V.length ≤ 30) && (W.all wB && decide (W.length = V.length)) && V.all vB)) := rfl
  by_cases e : V = []
  · subst e
    obtain ⟨a, cap, rfl⟩ := h.shape
    have HW0 : ∀ w' (hw : Below w.heap.size w w'), Calls Try.prog 38 #[.slice a2 W.length cap2, .int .i64 0] w' fun e w'' => e = .returned (.bool (W.all wB && decide (W.length = 0))) ∧ w' = w'' := HW
    have HE0 : Hid (vwB [] W = (W.all wB && decide (W.length = 0))) := Lib.hid (by rw [HE.out]; simp)
    generalize (W.all wB && decide (W.length = 0)) = z at HW0 HE0
    clear h HW HE
    go_enter Try.func51, Try.ntmps51
    go_wp2
    go_loopg [5] 0 (fun g i wr => i = .int .i64 0 ∧ w = wr)
    case atStart => exact ⟨rfl, rfl⟩
    case round =>
      obtain ⟨rfl, rfl⟩ := hrel
      go_wp2_with fail
      refine (HW0 _ (Below.refl _ _)).mono ?_
      rintro e w1 ⟨rfl, rfl⟩
      go_wp2
      go_ret
      exact ⟨by rw [HE0.out]; rfl, rfl⟩
  · obtain ⟨x, cap, rfl, hx, hc⟩ := h.cons e
    clear h
    go_enter Try.func51, Try.ntmps51
    go_wp2
    go_loopg [5] V.length (fun g i wr => ∃ k : Nat, k ≤ V.length ∧ g = V.length - k ∧ i = .int .i64 k ∧ w = wr ∧ Hid (∀ j, j < k → vB (V.getD j 0) = true))
    case atStart => exact ⟨0, Nat.zero_le _, rfl, rfl, rfl, fun j hj => absurd hj (Nat.not_lt_zero _)⟩
    case round =>
      obtain ⟨k, hk, rfl, rfl, rfl, HK⟩ := hrel
      by_cases hlt : k < V.length
      · have c1 := hc k hlt
        obtain ⟨y, hy⟩ : ∃ y, V.getD k 0 = y := ⟨_, rfl⟩
        rw [hy] at c1
        have HC := fun w' => svote y w'
        obtain ⟨z, hz⟩ : ∃ z, vB y = z := ⟨_, rfl⟩
        rw [hz] at HC
        have HY := Lib.hid hy
        have HZ := Lib.hid hz
        clear hy hc hz HW
        cases z with
        | false =>
          go_wp2_with fail
          refine (HC _).mono ?_
          rintro e w1 ⟨rfl, rfl⟩
          go_wp2
          go_ret
          exact ⟨by rw [HE.out, all_no hlt (by rw [HY.out, HZ.out])]; simp, rfl⟩
        | true =>
          go_wp2_with fail
          refine (HC _).mono ?_
          rintro e w1 ⟨rfl, rfl⟩
          go_wp2
          go_roundg (V.length - (k + 1))
          case measure => omega
          case rel =>
            refine ⟨k + 1, by omega, rfl, by simp, rfl, fun j hj => ?_⟩
            by_cases ej : j = k
            · subst ej; rw [HY.out, HZ.out]
            · exact HK.out j (by omega)
      · have e' : k = V.length := by omega
        subst e'
        have HA : Hid (V.all vB = true) := Lib.hid (all_yes HK.out)
        clear hc hlt HK
        by_cases g1 : 30 < V.length
        · have g1' : ¬ (V.length : Int) ≤ 30 := by omega
          have HG : Hid (¬ V.length ≤ 30) := Lib.hid (by omega)
          clear HW
          go_wp2
          go_ret
          exact ⟨by rw [HE.out, decide_eq_false HG.out]; simp, rfl⟩
        · have g1' : (V.length : Int) ≤ 30 := by omega
          have HG : Hid (V.length ≤ 30) := Lib.hid (by omega)
          have HW1 := HW w (Below.refl _ _)
          have HE2 : Hid (vwB V W = (W.all wB && decide (W.length = V.length))) := Lib.hid (by rw [HE.out, decide_eq_true HG.out, HA.out]; simp)
          generalize (W.all wB && decide (W.length = V.length)) = z at HW1 HE2
          clear HW
          go_wp2_with fail
          refine HW1.mono ?_
          rintro e w1 ⟨rfl, rfl⟩
          go_wp2
          go_ret
          exact ⟨by rw [HE2.out]; rfl, rfl⟩
theorem rowIs_lit3 (w : World) (t : TypeId) (V W : List Int) : (w.alloc (.cells #[.int .i64 0, .int .i64 0, .int .i64 0] t)).rowIs w.heap.size t 3 (fun i => .int .i64 (os V W 0 (i : Int))) :=
  ⟨_, blk_alloc_new _ _, rfl, fun i hi => by
    match i, hi with
    | 0, _ => rfl
    | 1, _ => rfl
    | 2, _ => rfl⟩
set_option maxHeartbeats 1000000 in
set_option maxRecDepth 100000 in
theorem sopen (v u : Value) (V W : List Int) (w : World) (h : RowV w v V) (hu : RowV w u W) (ok : vwOk V W) :
    Calls Try.prog 52 #[v, u] w fun e w' => e = .returned (.slice (some ⟨w.heap.size, 0, none⟩) 3 3) ∧ w'.rowIs w.heap.size 2 3 (fun i => .int .i64 (os V W V.length (i : Int))) ∧ Below w.heap.size w w' := by
  have hb0 : Below w.heap.size w (w.alloc (.cells #[.int .i64 0, .int .i64 0, .int .i64 0] 2)) := (Below.refl _ _).alloc (Nat.le_refl _) _
  have hr0 := Lib.hid (rowIs_lit3 w 2 V W)
  have OK := Lib.hid ok
  have hn := ok.1
  have hwv := ok.2.2.1
  clear ok
  by_cases e : V = []
  · subst e
    obtain ⟨a, cap, rfl⟩ := h.shape
    obtain ⟨a2, cap2, rfl⟩ := hu.shape
    have HWV := Lib.hid hwv
    clear h hu hwv
    go_enter Try.func52, Try.ntmps52
    go_wp2
    go_loopg [6] 0 (fun g i wr => i = .int .i64 0 ∧ Below w.heap.size w wr ∧ Hid (wr.rowIs w.heap.size 2 3 (fun i => .int .i64 (os [] W 0 (i : Int)))))
    case atStart => exact ⟨rfl, hb0, hr0⟩
    case round =>
      obtain ⟨rfl, hb, HR⟩ := hrel
      clear hb0 hr0
      go_wp2
      go_ret
      exact ⟨rfl, HR.out, hb⟩
  · obtain ⟨x, cap, rfl, hx, hc⟩ := h.cons e
    obtain ⟨y, cap2, rfl, hy, hd⟩ := hu.cons (by intro q; subst q; exact e (List.eq_nil_of_length_eq_zero hwv.symm))
    have HC := Lib.hid hc
    have HD : Hid (∀ k, k < V.length → w.cell? (y.add k) = some (.int .i64 (W.getD k 0))) := fun k hk => hd k (by rw [hwv]; exact hk)
    rw [hwv]
    clear h hu hwv hc hd
    go_enter Try.func52, Try.ntmps52
    go_wp2
    go_loopg [6] V.length (fun g i wr => ∃ k : Nat, k ≤ V.length ∧ g = V.length - k ∧ i = .int .i64 (k : Int) ∧ Below w.heap.size w wr ∧ w.heap.size < wr.heap.size ∧ Hid (wr.rowIs w.heap.size 2 3 (fun i => .int .i64 (os V W k (i : Int)))))
    case atStart => exact ⟨0, Nat.zero_le _, rfl, rfl, hb0, by simp, hr0⟩
    case round =>
      obtain ⟨k, hk, rfl, rfl, hb, hsz, HR⟩ := hrel
      clear hb0 hr0
      by_cases hlt : k < V.length
      · have c1 := (hb.cell (p := x.add k) (by rw [block_add]; exact hx)).trans (HC.out k hlt)
        have c2 := (hb.cell (p := y.add k) (by rw [block_add]; exact hy)).trans (HD.out k hlt)
        have va := vB_ok (all_at OK.out.2.2.2 hlt)
        have wa := wB_ok (all_at OK.out.2.1 (show k < W.length by rw [OK.out.2.2.1]; exact hlt))
        obtain ⟨a, ha⟩ : ∃ a, V.getD k 0 = a := ⟨_, rfl⟩
        obtain ⟨z, hz⟩ : ∃ z, W.getD k 0 = z := ⟨_, rfl⟩
        rw [ha] at c1 va
        rw [hz] at c2 wa
        obtain ⟨t, rfl⟩ : ∃ t : Nat, a = (t : Int) := ⟨a.toNat, by omega⟩
        have ht : t < 3 := by omega
        have s1 : wr.cell? ⟨w.heap.size, t, none⟩ = some (.int .i64 (os V W k (t : Int))) := HR.out.cell ht
        have z1 : wr.frozen? ⟨w.heap.size, t, none⟩ = false := HR.out.frozen _
        obtain ⟨o1, o2⟩ := os_bd OK.out hk (t : Int)
        have hos : ∀ i : Int, os V W (k + 1) i = os V W k i + if (t : Int) = i then z else 0 := fun i => by rw [← ha, ← hz]; rfl
        obtain ⟨s, hs⟩ : ∃ s, os V W k (t : Int) = s := ⟨_, rfl⟩
        rw [hs] at s1 o1 o2
        have ws : IntKind.i64.wrap (s + z) = s + z := by rw [IntKind.wrap_i64]; omega
        obtain ⟨q, hq⟩ : ∃ q, s + z = q := ⟨_, rfl⟩
        rw [hq] at ws
        have HOS := Lib.hid hos
        have HS := Lib.hid hs
        have HQ := Lib.hid hq
        clear hos hs ha hz
        go_wp2_with fail
        go_region_with (fail)
        all_goals
          go_wp2
          go_roundg (V.length - (k + 1))
          case measure => omega
          case rel =>
            refine ⟨k + 1, by omega, rfl, by simp, (hb.setCell (Nat.le_refl _) _).drew, by simp; exact hsz, Lib.hid ((World.rowIs.of_block (HR.out.set t (.int .i64 q)) rfl).congr (fun i hi => ?_))⟩
            by_cases e : i = t
            · subst e; simp [HOS.out, HS.out, HQ.out]
            · rw [if_neg e, HOS.out, if_neg (by omega)]; simp
      · have e' : k = V.length := by omega
        subst e'
        go_wp2
        go_ret
        exact ⟨rfl, HR.out, hb⟩
set_option maxHeartbeats 1000000 in
theorem sadop (v u : Value) (V W : List Int) (w : World) (h : RowV w v V) (hu : RowV w u W) (ok : vwOk V W) :
    Calls Try.prog 57 #[v, u] w fun e w' => e = .returned (.bool (adB V W)) ∧ Below w.heap.size w w' := by
  have HS := sopen v u V W w h hu ok
  unfold adB
  obtain ⟨a, cap, rfl⟩ := h.shape
  obtain ⟨a2, cap2, rfl⟩ := hu.shape
  clear h hu ok
  go_enter Try.func57, Try.ntmps57
  go_wp2_with fail
  refine HS.mono ?_
  rintro e w1 ⟨rfl, hr, hb⟩
  have c0 : w1.cell? ⟨w.heap.size, 0, none⟩ = some (.int .i64 (os V W V.length 0)) := hr.cell (i := 0) (by omega)
  have c1 : w1.cell? ⟨w.heap.size, 1, none⟩ = some (.int .i64 (os V W V.length 1)) := hr.cell (i := 1) (by omega)
  obtain ⟨x, hx⟩ : ∃ x, os V W V.length 0 = x := ⟨_, rfl⟩
  obtain ⟨y, hy⟩ : ∃ y, os V W V.length 1 = y := ⟨_, rfl⟩
  rw [hx] at c0
  rw [hy] at c1
  have HX := Lib.hid hx
  have HY := Lib.hid hy
  clear hx hy
  clear hr HS
  go_wp2_with fail
  go_quiet (fail)
  go_wp2
  go_ret
  exact ⟨by rw [HX.out, HY.out]; rfl, below_drewN hb _⟩
set_option maxHeartbeats 1000000 in
theorem sOpen (V W : List Int) (w : World) (lo0 hi0 : Nat) (u0 : Value) (c0 : CpI w lo0 hi0 u0 V) (lo1 hi1 : Nat) (u1 : Value) (c1 : CpI w lo1 hi1 u1 W) :
    Calls Try.prog 27 #[u0, u1] w (PIb (mOpen V W) w) := by
  have h := c0.ow.rd.1
  have hu := c1.ow.rd.1
  have HV := svotes u0 u1 V W w h hu c0.2.2.2 c1.2.2.2
  clear c0 c1
  by_cases ok : vwOk V W
  · rw [mOpen_yes ok]
    rw [vwB_iff.2 ok] at HV
    have HO := sopen u0 u1 V W w h hu ok
    obtain ⟨a, cap, rfl⟩ := h.shape
    obtain ⟨a2, cap2, rfl⟩ := hu.shape
    clear h hu ok
    go_enter Try.func27, Try.ntmps27
    go_wp2_with fail
    refine HV.mono ?_
    rintro e w1 ⟨rfl, rfl⟩
    go_wp2_with fail
    refine HO.mono ?_
    rintro e w1 ⟨rfl, hr, hb⟩
    have hl := hr.lt
    go_wp2
    go_ret2
    exact ⟨_, rfl, (osL_ow (Nat.le_refl _) hl hr).rd, hb⟩
  · rw [mOpen_no ok]
    rw [vwB_no ok] at HV
    obtain ⟨a, cap, rfl⟩ := h.shape
    obtain ⟨a2, cap2, rfl⟩ := hu.shape
    clear h hu ok
    go_enter Try.func27, Try.ntmps27
    go_wp2_with fail
    refine HV.mono ?_
    rintro e w1 ⟨rfl, rfl⟩
    go_wp2
    go_ret2
    exact ⟨_, rfl, RdI.nil _ _ _, Below.refl _ _⟩
set_option maxHeartbeats 1000000 in
theorem sAdop (V W : List Int) (w : World) (lo0 hi0 : Nat) (u0 : Value) (c0 : CpI w lo0 hi0 u0 V) (lo1 hi1 : Nat) (u1 : Value) (c1 : CpI w lo1 hi1 u1 W) :
    Calls Try.prog 29 #[u0, u1] w (Pbb (mAdop V W) w) := by
  have h := c0.ow.rd.1
  have hu := c1.ow.rd.1
  have HV := svotes u0 u1 V W w h hu c0.2.2.2 c1.2.2.2
  clear c0 c1
  by_cases ok : vwOk V W
  · rw [mAdop_yes ok]
    rw [vwB_iff.2 ok] at HV
    have HO := sadop u0 u1 V W w h hu ok
    generalize adB V W = z at HO ⊢
    obtain ⟨a, cap, rfl⟩ := h.shape
    obtain ⟨a2, cap2, rfl⟩ := hu.shape
    clear h hu ok
    go_enter Try.func29, Try.ntmps29
    go_wp2_with fail
    refine HV.mono ?_
    rintro e w1 ⟨rfl, rfl⟩
    go_wp2_with fail
    refine HO.mono ?_
    rintro e w1 ⟨rfl, hb⟩
    go_wp2
    go_ret2
    exact ⟨rfl, hb⟩
  · rw [mAdop_no ok]
    rw [vwB_no ok] at HV
    obtain ⟨a, cap, rfl⟩ := h.shape
    obtain ⟨a2, cap2, rfl⟩ := hu.shape
    clear h hu ok
    go_enter Try.func29, Try.ntmps29
    go_wp2_with fail
    refine HV.mono ?_
    rintro e w1 ⟨rfl, rfl⟩
    go_wp2
    go_ret2
    exact ⟨rfl, Below.refl _ _⟩
end Go.Proofs.Ytgoocglcgkfgmaa
