/- The order of an audit: the specification's. -/
import Derived.Test.YtgoocglcgkfgmaaAu0
import Derived.Test.YtgoocglcgkfgmaaCt1
namespace Go.Proofs.Ytgoocglcgkfgmaa
open Go.ChangeShapes Go.WideShapes Go.ChangeAt Go.RowKit Go.Deep
set_option linter.unusedSimpArgs false
set_option linter.unusedVariables false
set_option maxHeartbeats 1000000 in
set_option maxRecDepth 100000 in
theorem sfirst (n : Nat) (w : World) (hn : n ≤ 1000) :
    Calls Try.prog 65 #[.int .i64 (n : Int)] w fun e w' => (∃ v, e = .returned v ∧ OwI w' w.heap.size w'.heap.size v (iota n)) ∧ Below w.heap.size w w' := by
  obtain ⟨i0, hi, hz0, hz1, hz2⟩ := info_parts infoI
  have hown0 : (w.alloc (.cells #[] 2)).ownsRow w.heap.size 2 1 (.slice (some ⟨w.heap.size, 0, none⟩) 0 0) 0 (([] : List Int).map (Value.int .i64)) := World.ownsRow_lit w #[] 0 (Nat.le_refl _) (by unfold maxLen; omega) rfl
  have hb0 := (Below.refl w.heap.size w).alloc (Nat.le_refl _) (.cells #[] 2)
  go_enter Try.func65, Try.ntmps65
  go_wp2
  go_loopg [3, 4] n (fun g v i wr => ∃ (k : Nat) (l : List Int), k ≤ n ∧ g = n - k ∧ i = .int .i64 k ∧ l.length ≤ k ∧ Hid (l = iota k) ∧ wr.ownsRow w.heap.size 2 1 v l.length (l.map (Value.int .i64)) ∧ Below w.heap.size w wr)
  case atStart => exact ⟨0, [], Nat.zero_le _, rfl, rfl, Nat.le_refl _, rfl, hown0, hb0⟩
  case round =>
    clear hown0 hb0
    obtain ⟨k, l, hk, rfl, rfl, hll, HL, hown, hb⟩ := hrel
    by_cases hkn : k < n
    · have HE : Hid (l ++ [(k : Int)] = iota (k + 1)) := by show l ++ [(k : Int)] = _; rw [iota_succ, ← HL.out]
      have sw := hb.size
      go_wp2_with (first
        | (at_builtin; refine wpList_append_own _ rfl _ _ 26 rfl w.heap.size 2 i0 (.int .i64 0) 1 8 Try.underlying26 hi hz0 hz1 hz2 rfl (by decide) _ _ _ rfl (hown.alloc _) ⟨wr.heap.size, 0, none⟩ 1 1 [.int .i64 (k : Int)] rfl rfl ?c1 ?c2 ?c3 ?c4 ?c5 ?_))
      case c1 => exact World.news_of_block (cs := #[.int .i64 (k : Int)]) (t := 2) (fr := (0, 0)) (heap_alloc_new wr _)
      case c2 => simp [Value.oneCell']
      case c3 => unfold maxLen; omega
      case c4 => omega
      case c5 => simp; omega
      intro v' w3 hown3 hgrow _
      have hb3 := (hb.alloc (by omega) _).grown hgrow (by simp; omega) (fun x e => (hown.lt x e).1)
      have HO : Hid (w3.ownsRow w.heap.size 2 1 v' (l ++ [(k : Int)]).length ((l ++ [(k : Int)]).map (Value.int .i64))) := by rw [snoc_len', snoc_map']; exact hown3
      have HLN := Lib.hid (snoc_len' l (k : Int))
      clear hown3 hgrow
      go_wp2
      go_roundg (n - (k + 1))
      case measure => omega
      case rel => exact ⟨k + 1, l ++ [(k : Int)], by omega, rfl, by simp, by rw [HLN.out]; omega, HE, HO.out, hb3⟩
    · have e : k = n := by omega
      subst e
      go_wp2
      go_ret
      refine ⟨⟨_, rfl, ?_⟩, hb⟩
      rw [← HL.out]
      exact ow_of_own hown (Nat.le_refl _) (by omega)
/-- What is left of a row of the call's own when the order is made. -/
theorem ow_of_rowF {w : World} {lo hi c cap N n : Nat} {s : Int} {f : Nat → Int} {g : Nat → Value} (hc1 : lo ≤ c) (hc2 : c < hi) (hN : n ≤ N) (hn : n ≤ 1000)
    (h : w.rowIs c 2 N (rowF n f g)) (hf : f = shF s (fun j => (j : Int)) (n - 1)) : OwI w lo hi (.slice (some ⟨c, 0, none⟩) n cap) (shL s n) := by
  refine ⟨.inr ⟨c, cap, N, _, by rw [shL_len], hc1, hc2, by rw [shL_len]; exact hN, h, fun i hi => ?_⟩, by rw [shL_len]; omega⟩
  rw [shL_len] at hi
  rw [rowF_at hi, shL_at hi, hf]
theorem sh_nil (s : Int) : shL s 0 = iota 0 := rfl
set_option maxHeartbeats 1000000 in
set_option maxRecDepth 100000 in
theorem sshuf (s : Int) (n : Nat) (w : World) (hs : sdOk s) (hn : n ≤ 30) :
    Calls Try.prog 50 #[.int .i64 s, .int .i64 (n : Int)] w fun e w' => (∃ v, e = .returned v ∧ OwI w' w.heap.size w'.heap.size v (shL s n)) ∧ Below w.heap.size w w' := by
  have HF := sfirst n w (by omega)
  have HS := Lib.hid hs
  clear hs
  by_cases h0 : n = 0
  · subst h0
    rw [sh_nil]
    go_enter Try.func50, Try.ntmps50
    go_wp2_with fail
    refine HF.mono ?_
    rintro e w1 ⟨⟨v, rfl, ho⟩, hb⟩
    go_wp2
    go_loopg [0, 6] 0 (fun g u i wr => i = .int .i64 (-1) ∧ w1 = wr)
    case atStart => exact ⟨rfl, rfl⟩
    case round =>
      obtain ⟨rfl, rfl⟩ := hrel
      go_wp2
      go_ret
      exact ⟨⟨_, rfl, ho⟩, hb⟩
  · obtain ⟨m, rfl⟩ : ∃ m, n = m + 1 := ⟨n - 1, by omega⟩
    have wm : IntKind.i64.wrap (((m + 1 : Nat) : Int) - 1) = (m : Int) := by rw [IntKind.wrap_i64]; omega
    have wm2 : ((m + 1 : Nat) : Int) - 1 = (m : Int) := by omega
    go_enter Try.func50, Try.ntmps50
    go_wp2_with fail
    refine HF.mono ?_
    rintro e w1 ⟨⟨v, rfl, ho⟩, hb⟩
    obtain ⟨⟨-, hnil⟩ | ⟨c, cap, N, F, rfl, q1, q2, q3, q4, q5⟩, -⟩ := ho
    · exact absurd (congrArg List.length hnil) (by rw [iota_len]; simp)
    rw [iota_len] at q3 q5 ⊢
    have hrow : Hid (w1.rowIs c 2 N (rowF (m + 1) (fun j => (j : Int)) F)) := Lib.hid (q4.congr (fun k _ => by
      unfold rowF
      by_cases hk : k < m + 1
      · rw [if_pos hk, q5 k hk, iota_at hk]
      · rw [if_neg hk]))
    clear q4 q5 HF
    go_wp2
    go_loopg [0, 6] m (fun g u i wr => ∃ (j : Nat) (x : Int) (f : Nat → Int), j ≤ m ∧ g = j ∧ u = .int .i64 x ∧ i = .int .i64 (j : Int) ∧ Hid (sdOk x) ∧ Hid (wr.rowIs c 2 N (rowF (m + 1) f F)) ∧ Below w.heap.size w wr ∧ w1.heap.size ≤ wr.heap.size ∧ Hid (shF x f j = shF s (fun j => (j : Int)) m))
    case atStart => exact ⟨m, s, _, Nat.le_refl _, rfl, rfl, by first | rfl | (rw [wm]) | simp, HS, hrow, hb, Nat.le_refl _, rfl⟩
    case round =>
      clear hrow hb wm wm2 HS
      obtain ⟨i, x, f, hj, hg, rfl, rfl, HX, HR, hb, hsz, HH⟩ := hrel
      have hg' := hg.symm
      subst hg'
      clear hg
      by_cases hi0 : i = 0
      · subst hi0
        go_wp2
        go_ret
        exact ⟨⟨_, rfl, ow_of_rowF q1 (by omega) q3 (by omega) HR.out HH.out⟩, hb⟩
      · obtain ⟨j, hij⟩ : ∃ j, i = j + 1 := ⟨i - 1, by omega⟩
        obtain ⟨p, q, r, a, b, t, f1, f2, f3, f4, f5, f6, f7, f8, f9, f10, f11, f12, f13, f14, f15, f16, f17, f18, f19⟩ := au_step x j HX.out (by omega)
        have hib : (i : Int) + 1 = b := by omega
        have wi : IntKind.i64.wrap ((i : Int) - 1) = (j : Int) := by rw [IntKind.wrap_i64]; omega
        have wi2 : (i : Int) - 1 = (j : Int) := by omega
        have hi1 : (1 : Int) ≤ (i : Int) := by omega
        have c1 : wr.cell? ⟨c, t, none⟩ = some (.int .i64 (f t)) := (HR.out.cell (i := t) (by omega)).trans (by rw [rowF_at (by omega)])
        have c2 : wr.cell? ⟨c, i, none⟩ = some (.int .i64 (f i)) := (HR.out.cell (i := i) (by omega)).trans (by rw [rowF_at (by omega)])
        have z1 : wr.frozen? ⟨c, t, none⟩ = false := HR.out.frozen t
        have z2 : wr.frozen? ⟨c, i, none⟩ = false := HR.out.frozen i
        have tle : t < m + 1 := by omega
        have ile : i < m + 1 := by omega
        have c3 : (wr.setCell ⟨c, t, none⟩ (.int .i64 (f i))).cell? ⟨c, i, none⟩ = some (.int .i64 (f i)) := ((HR.out.set t _).cell (i := i) (by omega)).trans (by
          by_cases e : i = t
          · rw [if_pos e]
          · rw [if_neg e, rowF_at (by omega)])
        have z3 : (wr.setCell ⟨c, t, none⟩ (.int .i64 (f i))).frozen? ⟨c, i, none⟩ = false := (HR.out.set t _).frozen i
        have HSW := Lib.hid (rowF_sw (m + 1) f F (i := i) (j := t) ile tle)
        have HNX : Hid (sdOk r) := Lib.hid (by rw [f18]; exact nxt_ok _)
        have HST : Hid (shF r (swF f i t) j = shF s (fun j => (j : Int)) m) := Lib.hid (by
          rw [← HH.out, hij]
          show _ = shF (nxt x) (swF f (j + 1) (nxt x % ((j : Int) + 2)).toNat) j
          rw [f19, ← f18])
        have HIJ := Lib.hid hij
        have fi : f i = f i := rfl
        generalize hfi : f i = fi' at c2 c3 z3
        generalize hft : f t = ft' at c1
        have HFI := Lib.hid hfi
        have HFT := Lib.hid hft
        subst f16
        clear hfi hft f18 f19 hij fi f10 hi0
        go_wp2
        go_roundg j
        case measure => have := HIJ.out; omega
        case rel =>
          refine ⟨j, r, swF f i t, by have := HIJ.out; omega, rfl, by simp [f1, f2, f3, f4, f6, f7, f8], by simp [wi, wi2], HNX, Lib.hid (((HR.out.set t _).set i _).congr (fun k _ => ?_)), (hb.setCell q1 _).setCell q1 _, by simp; exact hsz, HST⟩
          rw [← HSW.out k, ← HFI.out, ← HFT.out]
end Go.Proofs.Ytgoocglcgkfgmaa
