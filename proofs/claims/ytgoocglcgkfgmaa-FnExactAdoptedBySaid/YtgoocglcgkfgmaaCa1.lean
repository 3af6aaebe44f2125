/- Votes with their weights: the program's list. -/
import Derived.Test.YtgoocglcgkfgmaaAt1
import Derived.Test.YtgoocglcgkfgmaaSw1
namespace Go.Proofs.Ytgoocglcgkfgmaa
open Go.ChangeShapes Go.WideShapes Go.ChangeAt Go.RowKit Go.Deep
set_option linter.unusedSimpArgs false
set_option linter.unusedVariables false
/-- A vote. -/
def vB (n : Int) : Bool := decide (0 ≤ n) && decide (n ≤ 2)
theorem vB_ok {n : Int} (h : vB n = true) : 0 ≤ n ∧ n ≤ 2 := by simp [vB] at h; exact h
/-- Votes and weights are as they must be. -/
def vwOk (V W : List Int) : Prop := V.length ≤ 30 ∧ W.all wB = true ∧ W.length = V.length ∧ V.all vB = true
def vwB (V W : List Int) : Bool := decide (V.length ≤ 30) && (W.all wB && decide (W.length = V.length)) && V.all vB
theorem vwB_iff {V W : List Int} : vwB V W = true ↔ vwOk V W := by simp [vwB, vwOk, and_assoc]
theorem vwB_no {V W : List Int} (h : ¬ vwOk V W) : vwB V W = false := by
  cases e : vwB V W with
  | false => rfl
  | true => exact absurd (vwB_iff.1 e) h
theorem ivote (n : Int) (w : World) :
    Calls Try.prog 69 #[.int .i64 n] w fun e w' => e = .returned (.bool (vB n)) ∧ w = w' := by
  have hz : vB n = (decide (0 ≤ n) && decide (n < 3)) := by
    unfold vB
    rw [Bool.eq_iff_iff]
    simp
    omega
  rw [hz]
  clear hz
  by_cases h : 0 ≤ n
  · go_enter Try.func69, Try.ntmps69
    go_wp2
    go_ret
    exact ⟨by simp [h], rfl⟩
  · go_enter Try.func69, Try.ntmps69
    go_wp2
    go_ret
    exact ⟨by simp; omega, rfl⟩
set_option maxRecDepth 100000 in
theorem infoC2 : (Try.prog.info? 65).map (fun i => (i.zero, i.size, i.bytes)) = some (some (.agg #[.int .i64 0, .int .i64 0]), 2, 16) := by kernel_rfl
theorem run_mk2 {P : Program} (t e : TypeId) (z0 z1 : Value) (bytes : Nat) (ht : P.underlying t = some (.slice e)) (hinfo : (P.info? e).map (fun i => (i.zero, i.size, i.bytes)) = some (some (.agg #[z0, z1]), 2, bytes))
    (kl kc : IntKind) (n : Nat) (hbytes : bytes * n ≤ 281474976710656) (h63 : n ≤ 9223372036854775807) (w : World) :
    (Instr.makeSlice t (.int kl (n : Int)) (.int kc (n : Int))).run P w = .ok (.slice (some ⟨w.heap.size, 0, none⟩) n n) (w.alloc (.cells (madeCells #[z0, z1] (n * 2)) e)) := by
  obtain ⟨i, hi, hzz⟩ := Option.map_eq_some_iff.1 hinfo
  simp only [Prod.mk.injEq] at hzz
  obtain ⟨hz, hs, hb⟩ := hzz
  have hb' : (i.bytes : Int) * (n : Int) ≤ 281474976710656 := by
    have h : ((i.bytes * n : Nat) : Int) ≤ 281474976710656 := by rw [hb]; omega
    rwa [Int.natCast_mul] at h
  have hr := run_make (P := P) w t e i _ ht hi hz kl kc n n (by omega) (Int.le_refl _) hb' (by omega)
  have hc : (Value.agg #[z0, z1]).cells = #[z0, z1] := by rfl
  simp only [Int.toNat_natCast, hs, hc] at hr
  exact hr
theorem rowIs_mk2 (w : World) (z0 z1 : Value) (n : Nat) (t : TypeId) : (w.alloc (.cells (madeCells #[z0, z1] (n * 2)) t)).rowIs w.heap.size t (n * 2) (fun j => if j % 2 = 0 then z0 else z1) :=
  ⟨_, blk_alloc_new _ _, size_madeCells _ _, fun i hi => by
    have e : (#[z0, z1] : Array Value).size = 2 := rfl
    simp only [madeCells, Array.getElem?_map, Array.getElem?_range, if_pos hi, e]
    rcases Nat.mod_two_eq_zero_or_one i with h | h <;> simp [h]⟩
/-- What cell j of the row of casts holds when the first k are laid. -/
def cf (V W : List Int) (k : Nat) : Nat → Value := fun j => if j / 2 < k then (if j % 2 = 0 then .int .i64 (V.getD (j / 2) 0) else .int .i64 (W.getD (j / 2) 0)) else .int .i64 0
theorem cf_step (V W : List Int) (k j : Nat) :
    (if j = k * 2 + 1 then Value.int .i64 (W.getD k 0) else if j = k * 2 then .int .i64 (V.getD k 0) else cf V W k j) = cf V W (k + 1) j := by
  unfold cf
  by_cases e1 : j = k * 2 + 1
  · subst e1
    have h1 : (k * 2 + 1) / 2 = k := by omega
    have h2 : (k * 2 + 1) % 2 = 1 := by omega
    simp [h1, h2]
  · by_cases e2 : j = k * 2
    · subst e2
      have h1 : (k * 2) / 2 = k := by omega
      have h2 : (k * 2) % 2 = 0 := by omega
      simp [h1, h2]
    · rw [if_neg e1, if_neg e2]
      by_cases h : j / 2 < k
      · have h4 : j / 2 < k + 1 := by omega
        rw [if_pos h, if_pos h4]
      · have h4 : ¬ j / 2 < k + 1 := by omega
        rw [if_neg h, if_neg h4]
/-- The casts of V and W lie in block b. -/
def CsR (w : World) (b : Nat) (V W : List Int) : Prop := w.rowIs b 65 (V.length * 2) (cf V W V.length)
theorem CsR.below {w w' : World} {b : Nat} {V W : List Int} (h : CsR w b V W) (hb : Below w.heap.size w w') : CsR w' b V W := World.rowIs.of_block h (hb.block b (World.rowIs.lt h))
theorem CsR.at {w : World} {b : Nat} {V W : List Int} (h : CsR w b V W) {k : Nat} (hk : k < V.length) :
    w.cell? ⟨b, k * 2, none⟩ = some (.int .i64 (V.getD k 0)) ∧ w.cell? ⟨b, k * 2 + 1, none⟩ = some (.int .i64 (W.getD k 0)) := by
  constructor
  · have e1 : k * 2 / 2 = k := by omega
    have e2 : k * 2 % 2 = 0 := by omega
    rw [World.rowIs.cell h (i := k * 2) (by omega)]; simp [cf, e1, e2, hk]
  · have e1 : (k * 2 + 1) / 2 = k := by omega
    have e2 : (k * 2 + 1) % 2 = 1 := by omega
    rw [World.rowIs.cell h (i := k * 2 + 1) (by omega)]; simp [cf, e1, e2, hk]
set_option maxHeartbeats 2000000 in
set_option maxRecDepth 100000 in
theorem icasts (v u : Value) (V W : List Int) (w : World) (h : RowV w v V) (hu : RowV w u W) (hV : V.length ≤ 1048576) (hW : W.length ≤ 1048576) :
    Calls Try.prog 55 #[v, u] w fun e w' => Below w.heap.size w w' ∧ ((vwOk V W ∧ e = .returned (.slice (some ⟨w.heap.size, 0, none⟩) V.length V.length) ∧ CsR w' w.heap.size V W) ∨ (¬ vwOk V W ∧ Panics e)) := by
  have HW := iwts u W V.length w hu hW hV
  by_cases g1 : 30 < V.length
  · obtain ⟨a, cap, rfl⟩ := h.shape
    obtain ⟨a2, cap2, rfl⟩ := hu.shape
    have g1' : ¬ (V.length : Int) ≤ 30 := by omega
    have G := Lib.hid g1
    clear h hu HW
    go_enter Try.func55, Try.ntmps55
    go_wp2_with fail
    refine (req_no _).mono ?_
    rintro e w1 ⟨rfl, rfl⟩
    go_wp2
    exact ⟨rfl, Below.refl _ _, .inr ⟨fun ho => by have := ho.1; have := G.out; omega, _, _, rfl⟩⟩
  have g1' : (V.length : Int) ≤ 30 := by omega
  cases e2 : W.all wB && decide (W.length = V.length) with
  | false =>
    rw [e2] at HW
    have HE := Lib.hid e2
    obtain ⟨a, cap, rfl⟩ := h.shape
    obtain ⟨a2, cap2, rfl⟩ := hu.shape
    clear h hu e2
    go_enter Try.func55, Try.ntmps55
    go_wp2_with fail
    refine HW.mono ?_
    rintro e w1 ⟨rfl, rfl⟩
    go_wp2_with fail
    refine (req_no _).mono ?_
    rintro e w1 ⟨rfl, rfl⟩
    go_wp2
    exact ⟨rfl, Below.refl _ _, .inr ⟨fun ho => (by have h9 := HE.out; rw [ho.2.1, decide_eq_true ho.2.2.1] at h9; cases h9), _, _, rfl⟩⟩
  | true =>
    rw [e2] at HW
    simp only [Bool.and_eq_true, decide_eq_true_eq] at e2
    have HE := Lib.hid e2
    have hwv : W.length = V.length := e2.2
    have hmk := run_mk2 (P := Try.prog) 56 65 _ _ 16 Try.underlying56 infoC2 .i64 .i64 V.length (by omega) (by omega)
    have hb0 : Below w.heap.size w (w.alloc (.cells (madeCells #[.int .i64 0, .int .i64 0] (V.length * 2)) 65)) := (Below.refl _ _).alloc (Nat.le_refl _) _
    have hr0 := (rowIs_mk2 w (.int .i64 0) (.int .i64 0) V.length 65).congr (g := cf V W 0) (fun j _ => by simp [cf])
    by_cases e : V = []
    · subst e
      obtain ⟨a, cap, rfl⟩ := h.shape
      obtain ⟨a2, cap2, rfl⟩ := hu.shape
      have HW0 : Calls Try.prog 40 #[.int .i64 0, .slice a2 W.length cap2] w (fun e w' => e = .returned (.bool true) ∧ w = w') := HW
      have hb1 : Below w.heap.size w (w.alloc (.cells (madeCells #[.int .i64 0, .int .i64 0] 0) 65)) := hb0
      have R : Hid ((w.alloc (.cells (madeCells #[.int .i64 0, .int .i64 0] 0) 65)).rowIs w.heap.size 65 0 (cf [] W 0)) := Lib.hid hr0
      have hmk' : ∀ w, (Instr.makeSlice 56 (.int .i64 0) (.int .i64 0)).run Try.prog w = .ok (.slice (some ⟨w.heap.size, 0, none⟩) 0 0) (w.alloc (.cells (madeCells #[.int .i64 0, .int .i64 0] 0) 65)) := hmk
      have e3 : W.length = 0 := e2.2
      have E3 := Lib.hid e3
      clear h hu e2 e3 hmk hr0 hb0 HW hwv g1 g1'
      go_enter Try.func55, Try.ntmps55
      go_wp2_with fail
      refine HW0.mono ?_
      rintro e w1 ⟨rfl, rfl⟩
      go_wp2_with fail
      refine (req_yes _).mono ?_
      rintro e w1 ⟨rfl, rfl⟩
      clear HW0
      go_wp2
      go_loopg [23] 0 (fun g i wr => i = .int .i64 0 ∧ Below w.heap.size w wr ∧ Hid (wr.rowIs w.heap.size 65 0 (cf [] W 0)))
      case atStart => exact ⟨rfl, hb1, R⟩
      case round =>
        obtain ⟨rfl, hb, HR⟩ := hrel
        clear hmk' hb1
        go_wp2
        go_ret
        exact ⟨hb, .inl ⟨⟨by simp, HE.out.1, HE.out.2, rfl⟩, rfl, HR.out⟩⟩
    · obtain ⟨x, cap, rfl, hx, hc⟩ := h.cons e
      obtain ⟨y, cap2, rfl, hy, hd⟩ := hu.cons (by intro q; subst q; exact e (List.eq_nil_of_length_eq_zero hwv.symm))
      have HD : Hid (∀ k, k < V.length → w.cell? (y.add k) = some (.int .i64 (W.getD k 0))) := fun k hk => hd k (by rw [hwv]; exact hk)
      have HC := Lib.hid hc
      have R := Lib.hid hr0
      rw [hwv] at HW ⊢
      clear h hu hwv hd hc e2 hr0
      go_enter Try.func55, Try.ntmps55
      go_wp2_with fail
      refine HW.mono ?_
      rintro e w1 ⟨rfl, rfl⟩
      go_wp2_with fail
      refine (req_yes _).mono ?_
      rintro e w1 ⟨rfl, rfl⟩
      go_wp2
      go_loopg [23] V.length (fun g i wr => ∃ k : Nat, k ≤ V.length ∧ g = V.length - k ∧ i = .int .i64 (k : Int) ∧ Below w.heap.size w wr ∧ w.heap.size < wr.heap.size ∧ Hid (wr.rowIs w.heap.size 65 (V.length * 2) (cf V W k)) ∧ Hid (∀ j, j < k → vB (V.getD j 0) = true))
      case atStart => exact ⟨0, Nat.zero_le _, rfl, rfl, hb0, by simp, R, fun j hj => absurd hj (Nat.not_lt_zero _)⟩
      case round =>
        obtain ⟨k, hk, rfl, rfl, hb, hsz, HR, HK⟩ := hrel
        clear hmk hb0 R
        by_cases hlt : k < V.length
        · have c1 := (hb.cell (p := x.add k) (by rw [block_add]; exact hx)).trans (HC.out k hlt)
          have c2 := (hb.cell (p := y.add k) (by rw [block_add]; exact hy)).trans (HD.out k hlt)
          have s1 : wr.cell? ⟨w.heap.size, k * 2, none⟩ = some (cf V W k (k * 2)) := HR.out.cell (by omega)
          have s2 : wr.cell? ⟨w.heap.size, k * 2 + 1, none⟩ = some (cf V W k (k * 2 + 1)) := HR.out.cell (by omega)
          have f1 : wr.frozen? ⟨w.heap.size, k * 2, none⟩ = false := HR.out.frozen _
          have f2 : wr.frozen? ⟨w.heap.size, k * 2 + 1, none⟩ = false := HR.out.frozen _
          have hst := fun j => cf_step V W k j
          obtain ⟨a, ha⟩ : ∃ a, V.getD k 0 = a := ⟨_, rfl⟩
          obtain ⟨b, hb9⟩ : ∃ b, W.getD k 0 = b := ⟨_, rfl⟩
          rw [ha] at c1
          rw [hb9] at c2
          simp only [ha, hb9] at hst
          have HA := Lib.hid ha
          have HST := Lib.hid hst
          have IV := fun w' => ivote a w'
          obtain ⟨z, hz⟩ : ∃ z, vB a = z := ⟨_, rfl⟩
          rw [hz] at IV
          have HZ := Lib.hid hz
          clear ha hb9 hst hz
          cases z with
          | false =>
            go_wp2_with fail
            refine (IV _).mono ?_
            rintro e w1 ⟨rfl, rfl⟩
            go_wp2_with fail
            refine (req_no _).mono ?_
            rintro e w1 ⟨rfl, rfl⟩
            go_wp2
            exact ⟨rfl, hb, .inr ⟨fun ho => (by have h9 := all_at ho.2.2.2 hlt; rw [HA.out, HZ.out] at h9; cases h9), _, _, rfl⟩⟩
          | true =>
            go_wp2_with fail
            refine (IV _).mono ?_
            rintro e w1 ⟨rfl, rfl⟩
            go_wp2_with fail
            refine (req_yes _).mono ?_
            rintro e w1 ⟨rfl, rfl⟩
            go_wp2
            go_roundg (V.length - (k + 1))
            case measure => omega
            case rel =>
              refine ⟨k + 1, by omega, rfl, by simp, (hb.setCell (Nat.le_refl _) _).setCell (Nat.le_refl _) _, by simp; exact hsz, Lib.hid (((HR.out.set _ _).set _ _).congr (fun j _ => HST.out j)), fun j hj => ?_⟩
              by_cases ej : j = k
              · subst ej; rw [HA.out, HZ.out]
              · exact HK.out j (by omega)
        · have e' : k = V.length := by omega
          subst e'
          go_wp2
          go_ret
          exact ⟨hb, .inl ⟨⟨by omega, HE.out.1, HE.out.2, all_yes HK.out⟩, rfl, HR.out⟩⟩
end Go.Proofs.Ytgoocglcgkfgmaa
