/- Rising lists: the specification's look at one and the program's. -/
import Derived.Test.YthffhllkfadejaaDoorPo2
namespace Go.Proofs.YthffhllkfadejaaDoor
open Go.ChangeShapes Go.WideShapes Go.ChangeAt Go.RowKit Go.Deep
set_option linter.unusedSimpArgs false
set_option linter.unusedVariables false
/-- Element i of a list is within the bounds, and greater than the one before it. -/
def ris1 (l : List Int) (lo hi : Int) (i : Nat) : Prop := lo ≤ l.getD i 0 ∧ l.getD i 0 ≤ hi ∧ (0 < i → l.getD (i - 1) 0 < l.getD i 0)
def ris (l : List Int) (lo hi : Int) : Prop := ∀ i, i < l.length → ris1 l lo hi i
noncomputable def risB (l : List Int) (lo hi : Int) : Bool := @decide (ris l lo hi) (Classical.propDecidable _)
theorem risB_yes {l : List Int} {lo hi : Int} (h : ris l lo hi) : risB l lo hi = true := by simp [risB, h]
theorem risB_no {l : List Int} {lo hi : Int} (h : ¬ ris l lo hi) : risB l lo hi = false := by simp [risB, h]
theorem risB_iff {l : List Int} {lo hi : Int} : risB l lo hi = true ↔ ris l lo hi := by simp [risB]
/-- A world that differs in what was drawn alone. -/
def Drw (w w' : World) : Prop := ∃ m, w' = w.drewN m
theorem Drw.refl (w : World) : Drw w w := ⟨0, rfl⟩
theorem Drw.drewN {w w' : World} (h : Drw w w') (n : Nat) : Drw w (w'.drewN n) := by
  obtain ⟨m, rfl⟩ := h
  exact ⟨m + n, by simp⟩
theorem Drw.trans {a b c : World} (h : Drw a b) (h' : Drw b c) : Drw a c := by
  obtain ⟨m, rfl⟩ := h'
  exact h.drewN m
theorem Drw.below {w w' : World} (h : Drw w w') : Below w.heap.size w w' := by
  obtain ⟨m, rfl⟩ := h
  exact below_drewN (Below.refl _ _) m
theorem Drw.quiet {P : Program} {f : FuncId} {args : Array Value} {w : World} {n : Nat} {v : Value}
    (h : Calls P f args (w.drewN n) fun e w' => e = .returned v ∧ Drw (w.drewN n) w') : Calls P f args (w.drewN n) fun e w'' => e = .returned v ∧ ∃ m, w'' = w.drewN m :=
  h.mono fun _ _ ⟨he, m, hm⟩ => ⟨he, n + m, by rw [hm]; simp⟩
set_option maxHeartbeats 1000000 in
set_option maxRecDepth 100000 in
theorem srises (v : Value) (l : List Int) (lo hi : Int) (w : World) (h : RowV w v l) (hl : l.length ≤ 9223372036854775807) :
    Calls Tryd.prog 67 #[v, .int .i64 lo, .int .i64 hi] w fun e w' => e = .returned (.bool (risB l lo hi)) ∧ Drw w w' := by
  by_cases e : l = []
  · subst e
    obtain ⟨a, cap, rfl⟩ := h.shape
    clear h
    go_enter Tryd.func67, Tryd.ntmps67
    go_wp2
    go_loopg [7] 0 (fun g i wr => i = .int .i64 0 ∧ w = wr)
    case atStart => exact ⟨rfl, rfl⟩
    case round =>
      obtain ⟨rfl, rfl⟩ := hrel
      go_wp2
      go_ret
      exact ⟨by rw [risB_yes (fun i hi => absurd hi (Nat.not_lt_zero _))]; rfl, Drw.refl _⟩
  · obtain ⟨x, cap, rfl, hx, hc⟩ := h.cons e
    clear h
    go_enter Tryd.func67, Tryd.ntmps67
    go_wp2
    go_loopg [7] l.length (fun g i wr => ∃ k : Nat, k ≤ l.length ∧ g = l.length - k ∧ i = .int .i64 k ∧ Drw w wr ∧ Hid (∀ j, j < k → ris1 l lo hi j))
    case atStart => exact ⟨0, Nat.zero_le _, rfl, rfl, Drw.refl _, fun j hj => absurd hj (Nat.not_lt_zero _)⟩
    case round =>
      obtain ⟨k, hk, rfl, rfl, hd, H⟩ := hrel
      have hb := hd.below
      by_cases hlt : k < l.length
      · have c1 := (hb.cell (p := x.add k) (by rw [block_add]; exact hx)).trans (hc k hlt)
        obtain ⟨y, hy⟩ : ∃ y, l.getD k 0 = y := ⟨_, rfl⟩
        rw [hy] at c1
        have HY := Lib.hid hy
        have hno : ¬ ris1 l lo hi k → risB l lo hi = false := fun hn => risB_no (fun ho => hn (ho k hlt))
        have HN := Lib.hid hno
        clear hy hno
        by_cases hin : lo ≤ y ∧ y ≤ hi
        · have i2 := inB_yes hin.1 hin.2
          have HIN := Lib.hid hin
          by_cases hk0 : k = 0
          · have hk1 : ¬ 0 < k := by omega
            have HK0 := Lib.hid hk0
            clear hk0 hc
            go_wp2_with fail
            go_quiet ((first | (go_at_call 62; exact quiet_left (in_val _ _ _ _))))
            go_wp2
            go_roundg (l.length - (k + 1))
            case measure => omega
            case rel =>
              refine ⟨k + 1, by omega, rfl, by simp, hd.drewN _, fun j hj => ?_⟩
              by_cases ej : j = k
              · subst ej
                unfold ris1
                rw [HY.out]
                exact ⟨HIN.out.1, HIN.out.2, fun h => absurd h (by omega)⟩
              · exact H.out j (by omega)
          · obtain ⟨k', hkk'⟩ : ∃ k', k = k' + 1 := ⟨k - 1, by omega⟩
            have c2 := (hb.cell (p := x.add k') (by rw [block_add]; exact hx)).trans (hc k' (by omega))
            obtain ⟨y', hy'⟩ : ∃ y, l.getD k' 0 = y := ⟨_, rfl⟩
            rw [hy'] at c2
            have HY2 := Lib.hid hy'
            have hlk : k' < l.length := by omega
            have wk1 : IntKind.i64.wrap ((k : Int) - 1) = k' := by rw [IntKind.wrap_i64]; omega
            have wk2 : (k : Int) - 1 = k' := by omega
            have wk3 : IntKind.i64.wrap (k' : Int) = k' := by rw [IntKind.wrap_i64]; omega
            have hpk : 0 < k := by omega
            have HKK := Lib.hid hkk'
            clear hy' hk0 hkk' hc
            by_cases hle : y ≤ y'
            · have HLE := Lib.hid hle
              go_wp2_with fail
              go_quiet ((first | (go_at_call 62; exact quiet_left (in_val _ _ _ _))))
              go_wp2
              go_ret
              refine ⟨?_, hd.drewN _⟩
              rw [HN.out (fun ho => by unfold ris1 at ho; rw [HY.out] at ho; have h3 := ho.2.2 hpk; have e1 : k - 1 = k' := by have := HKK.out; omega
                                       rw [e1, HY2.out] at h3; have := HLE.out; omega)]; rfl
            · have HLE := Lib.hid hle
              go_wp2_with fail
              go_quiet ((first | (go_at_call 62; exact quiet_left (in_val _ _ _ _))))
              go_wp2
              go_roundg (l.length - (k + 1))
              case measure => omega
              case rel =>
                refine ⟨k + 1, by omega, rfl, by simp, hd.drewN _, fun j hj => ?_⟩
                by_cases ej : j = k
                · subst ej
                  unfold ris1
                  rw [HY.out]
                  refine ⟨HIN.out.1, HIN.out.2, fun _ => ?_⟩
                  have e1 : j - 1 = k' := by have := HKK.out; omega
                  rw [e1, HY2.out]
                  have := HLE.out
                  omega
                · exact H.out j (by omega)
        · have i2 := inB_no hin
          have HIN := Lib.hid hin
          clear hin hc
          go_wp2_with fail
          go_quiet ((first | (go_at_call 62; exact quiet_left (in_val _ _ _ _))))
          go_wp2
          go_ret
          refine ⟨?_, hd.drewN _⟩
          rw [HN.out (fun ho => by unfold ris1 at ho; rw [HY.out] at ho; exact HIN.out ⟨ho.1, ho.2.1⟩)]; rfl
      · have e : k = l.length := by omega
        subst e
        go_wp2
        go_ret
        exact ⟨by rw [risB_yes H.out]; rfl, hd⟩
set_option maxHeartbeats 1000000 in
set_option maxRecDepth 100000 in
theorem isetb (v : Value) (l : List Int) (bd : Int) (w : World) (h : RowV w v l) (hl : l.length ≤ 9223372036854775807) :
    Calls Tryd.prog 71 #[v, .int .i64 bd] w fun e w' => e = .returned (.bool (risB l 0 (bd - 1))) ∧ w = w' := by
  by_cases e : l = []
  · subst e
    obtain ⟨a, cap, rfl⟩ := h.shape
    clear h
    go_enter Tryd.func71, Tryd.ntmps71
    go_wp2
    go_loopg [5, 10] 0 (fun g b i wr => b = .int .i64 (-1) ∧ i = .int .i64 0 ∧ w = wr)
    case atStart => exact ⟨rfl, rfl, rfl⟩
    case round =>
      obtain ⟨rfl, rfl, rfl⟩ := hrel
      go_wp2
      go_ret
      exact ⟨by rw [risB_yes (fun i hi => absurd hi (Nat.not_lt_zero _))]; rfl, rfl⟩
  · obtain ⟨x, cap, rfl, hx, hc⟩ := h.cons e
    clear h
    go_enter Tryd.func71, Tryd.ntmps71
    go_wp2
    go_loopg [5, 10] l.length (fun g b i wr => ∃ (k : Nat) (z : Int), k ≤ l.length ∧ g = l.length - k ∧ b = .int .i64 z ∧ i = .int .i64 k ∧ w = wr ∧ -1 ≤ z ∧ Hid (z = if k = 0 then -1 else l.getD (k - 1) 0) ∧ Hid (∀ j, j < k → ris1 l 0 (bd - 1) j))
    case atStart => exact ⟨0, -1, Nat.zero_le _, rfl, rfl, rfl, rfl, by omega, Lib.hid rfl, fun j hj => absurd hj (Nat.not_lt_zero _)⟩
    case round =>
      obtain ⟨k, z, hk, rfl, rfl, rfl, rfl, z0, HZ, H⟩ := hrel
      by_cases hlt : k < l.length
      · have c1 := hc k hlt
        obtain ⟨y, hy⟩ : ∃ y, l.getD k 0 = y := ⟨_, rfl⟩
        have hno : ¬ ris1 l 0 (bd - 1) k → risB l 0 (bd - 1) = false := fun hn => risB_no (fun ho => hn (ho k hlt))
        rw [hy] at c1
        have HY := Lib.hid hy
        have HN := Lib.hid hno
        clear hy hno hc
        by_cases h1 : y ≤ z
        · have H1 := Lib.hid h1
          go_wp2
          go_ret
          refine ⟨?_, rfl⟩
          rw [HN.out (fun ho => by
            unfold ris1 at ho; rw [HY.out] at ho
            have h9 := HZ.out; have h8 := H1.out
            by_cases hk0 : k = 0
            · rw [if_pos hk0] at h9; omega
            · rw [if_neg hk0] at h9; have := ho.2.2 (by omega); omega)]; rfl
        · by_cases h2 : bd ≤ y
          · have H2 := Lib.hid h2
            go_wp2
            go_ret
            refine ⟨?_, rfl⟩
            rw [HN.out (fun ho => by unfold ris1 at ho; rw [HY.out] at ho; have := H2.out; omega)]; rfl
          · have H1 := Lib.hid h1
            have H2 := Lib.hid h2
            go_wp2
            go_roundg (l.length - (k + 1))
            case measure => omega
            case rel =>
              refine ⟨k + 1, y, by omega, rfl, rfl, by simp, rfl, by omega, Lib.hid (by rw [if_neg (by omega)]; exact HY.out.symm), fun j hj => ?_⟩
              by_cases ej : j = k
              · subst ej
                unfold ris1
                rw [HY.out]
                have h9 := HZ.out
                have h8 := H1.out
                have h7 := H2.out
                refine ⟨by omega, by omega, fun hp => ?_⟩
                rw [if_neg (by omega)] at h9
                omega
              · exact H.out j (by omega)
      · have e : k = l.length := by omega
        subst e
        go_wp2
        go_ret
        exact ⟨by rw [risB_yes H.out]; rfl, rfl⟩
end Go.Proofs.YthffhllkfadejaaDoor
