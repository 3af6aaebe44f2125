/- JoinSeals: both sides. -/
import Derived.Test.YtjfkkmfbgmejbabSl5
namespace Go.Proofs.Ytjfkkmfbgmejbab
open Go.ChangeShapes Go.WideShapes Go.ChangeAt Go.RowKit Go.Deep
set_option linter.unusedSimpArgs false
set_option linter.unusedVariables false
theorem isl1 (c : Int) (w : World) :
    Calls Try.prog 67 (#[.int .i64 c] ++ #[]) w fun e w' => e = .returned (.bool (!isSl c)) ∧ Below w.heap.size w w' := by
  show Calls Try.prog 67 #[.int .i64 c] w _
  have P1 := fun w' => isl_any c w'
  generalize isSl c = z at P1 ⊢
  go_enter Try.func67, Try.ntmps67
  go_wp2_with fail
  refine (P1 _).mono ?_
  rintro e w1 ⟨rfl, rfl⟩
  go_wp2
  go_ret
  exact ⟨by first | rfl | (cases z <;> rfl), Below.refl _ _⟩
set_option maxRecDepth 100000 in
theorem isls (v : Value) (l : List Int) (w : World) (h : RowV w v l) (hl : l.length ≤ 1048576) :
    Calls Try.prog 32 #[v] w fun e w' => e = .returned (.bool (l.all isSl)) ∧ Below w.heap.size w w' := by
  have HC := contI 67 (fun _ _ => rfl) #[] l (fun k => !isSl (l.getD k 0)) v w h hl (fun k w' _ _ => isl1 _ w')
  obtain ⟨a, cap, rfl⟩ := h.shape
  clear h
  go_enter Try.func32, Try.ntmps32
  go_wp2_with fail
  refine HC.mono ?_
  rintro e w1 ⟨⟨z, rfl, hz⟩, hb⟩
  have HZ := Lib.hid hz
  clear hz HC
  go_wp2
  go_ret
  refine ⟨?_, hb⟩
  cases z with
  | false => rw [all_yes (fun k hk => by have := HZ.out.1 rfl k hk; simpa using this)]; rfl
  | true =>
    have : ¬ ∀ k, k < l.length → (!isSl (l.getD k 0)) = false := fun h9 => by have := HZ.out.2 h9; cases this
    cases e : l.all isSl with
    | false => rfl
    | true => exact absurd (fun k hk => by rw [all_at e hk]; rfl) this
noncomputable def mJoinS (S W : List Int) : Int × Bool := if S.length ≤ 12 ∧ S.all isSl = true ∧ W.all wB = true ∧ W.length = S.length then (jn S W S.length, true) else (0, false)
theorem mJoinS_no {S W : List Int} (h : ¬ (S.length ≤ 12 ∧ S.all isSl = true ∧ W.all wB = true ∧ W.length = S.length)) : mJoinS S W = (0, false) := by unfold mJoinS; rw [if_neg h]
theorem mJoinS_yes {S W : List Int} (h : S.length ≤ 12 ∧ S.all isSl = true ∧ W.all wB = true ∧ W.length = S.length) : mJoinS S W = (jn S W S.length, true) := by unfold mJoinS; rw [if_pos h]
set_option maxHeartbeats 1000000 in
theorem iJoinSR (S W : List Int) (w : World) (u0 u1 : Value) (h : RowV w u0 S) (hu : RowV w u1 W) (l0 : S.length ≤ 1048576) (l1 : W.length ≤ 1048576) :
    Calls Try.prog 12 #[u0, u1] w (Pnb (mJoinS S W) w) := by
  have HB := iwts u1 W S.length w hu l1 l0
  have HA := isls u0 S w h l0
  cases e2 : W.all wB && decide (W.length = S.length) with
  | false =>
    rw [mJoinS_no (by intro hh; rw [hh.2.2.1, decide_eq_true hh.2.2.2] at e2; cases e2)]
    rw [e2] at HB
    obtain ⟨a, cap, rfl⟩ := h.shape
    obtain ⟨a2, cap2, rfl⟩ := hu.shape
    clear h hu HA
    go_enter Try.func12, Try.ntmps12
    go_wp2_with fail
    refine HB.mono ?_
    rintro e w1 ⟨rfl, rfl⟩
    go_wp2
    go_ret2
    exact ⟨rfl, Below.refl _ _⟩
  | true =>
    rw [e2] at HB
    simp only [Bool.and_eq_true, decide_eq_true_eq] at e2
    by_cases g1 : 12 < S.length
    · rw [mJoinS_no (by omega)]
      obtain ⟨a, cap, rfl⟩ := h.shape
      obtain ⟨a2, cap2, rfl⟩ := hu.shape
      have g1' : (12 : Int) < (S.length : Int) := by omega
      clear h hu HA e2
      go_enter Try.func12, Try.ntmps12
      go_wp2_with fail
      refine HB.mono ?_
      rintro e w1 ⟨rfl, rfl⟩
      go_wp2
      go_ret2
      exact ⟨rfl, Below.refl _ _⟩
    have g1' : ¬ (12 : Int) < (S.length : Int) := by omega
    cases e1 : S.all isSl with
    | false =>
      rw [mJoinS_no (by rw [e1]; simp)]
      rw [e1] at HA
      obtain ⟨a, cap, rfl⟩ := h.shape
      obtain ⟨a2, cap2, rfl⟩ := hu.shape
      clear h hu e2
      go_enter Try.func12, Try.ntmps12
      go_wp2_with fail
      refine HB.mono ?_
      rintro e w1 ⟨rfl, rfl⟩
      go_wp2_with fail
      refine HA.mono ?_
      rintro e w1 ⟨rfl, hb⟩
      go_wp2
      go_ret2
      exact ⟨rfl, hb⟩
    | true =>
      rw [e1] at HA
      rw [mJoinS_yes ⟨by omega, e1, e2⟩]
      have HS : Hid (∀ k, k < S.length → sOk (S.getD k 0)) := fun k hk => isSl_ok (all_at e1 hk)
      have HW : Hid (∀ k, k < S.length → wB (W.getD k 0) = true) := fun k hk => all_at e2.1 (by rw [e2.2]; exact hk)
      have he := e2.2
      clear e1 e2
      by_cases e : S = []
      · subst e
        obtain ⟨a, cap, rfl⟩ := h.shape
        obtain ⟨a2, cap2, rfl⟩ := hu.shape
        clear h hu HS HW he
        go_enter Try.func12, Try.ntmps12
        go_wp2_with fail
        refine HB.mono ?_
        rintro e w1 ⟨rfl, rfl⟩
        go_wp2_with fail
        refine HA.mono ?_
        rintro e w1 ⟨rfl, hb⟩
        clear HA HB
        go_wp2
        go_loopg [6, 26] 0 (fun g s i wr => s = .int .i64 1 ∧ i = .int .i64 0 ∧ w1 = wr)
        case atStart => exact ⟨rfl, rfl, rfl⟩
        case round =>
          obtain ⟨rfl, rfl, rfl⟩ := hrel
          go_wp2
          go_ret2
          exact ⟨rfl, hb⟩
      · obtain ⟨x, cap, rfl, hx, hc⟩ := h.cons e
        obtain ⟨y, cap2, rfl, hy, hd⟩ := hu.cons (by intro q; subst q; exact e (List.eq_nil_of_length_eq_zero he.symm))
        have HD : Hid (∀ k, k < S.length → w.cell? (y.add k) = some (.int .i64 (W.getD k 0))) := fun k hk => hd k (by rw [he]; exact hk)
        have HCC := Lib.hid hc
        rw [he] at HB ⊢
        clear h hu he hd hc
        go_enter Try.func12, Try.ntmps12
        go_wp2_with fail
        refine HB.mono ?_
        rintro e w1 ⟨rfl, rfl⟩
        go_wp2_with fail
        refine HA.mono ?_
        rintro e w1 ⟨rfl, hb⟩
        clear HA HB
        go_wp2
        go_loopg [6, 26] S.length (fun g s i wr => ∃ (k : Nat) (z : Int), k ≤ S.length ∧ g = S.length - k ∧ s = .int .i64 z ∧ i = .int .i64 k ∧ w1 = wr ∧ Hid (sOk z) ∧ Hid (jn S W k = z))
        case atStart => exact ⟨0, 1, Nat.zero_le _, rfl, rfl, rfl, rfl, Lib.hid ⟨by omega, by omega⟩, Lib.hid rfl⟩
        case round =>
          obtain ⟨k, z, hk, rfl, rfl, rfl, rfl, HZ, HJ⟩ := hrel
          by_cases hlt : k < S.length
          · have c1 := (hb.cell (p := x.add k) (by rw [block_add]; exact hx)).trans (HCC.out k hlt)
            have c2 := (hb.cell (p := y.add k) (by rw [block_add]; exact hy)).trans (HD.out k hlt)
            obtain ⟨n, hn, hn1, hn2⟩ := wB_nat (HW.out k hlt)
            have sk := HS.out k hlt
            have hj : jn S W (k + 1) = z * pw (S.getD k 0) n % 1000000007 := by rw [← HJ.out, ← hn2]; rfl
            rw [hn] at c2
            obtain ⟨s, hs⟩ : ∃ s, S.getD k 0 = s := ⟨_, rfl⟩
            rw [hs] at c1 hj sk
            have P1 := fun w' => ipow s n w' sk (by omega)
            have T := fun w' => itimes z (pw s n) w' HZ.out (pw_ok _ _)
            rw [← hj] at T
            have so := jn_ok S W (k + 1)
            generalize hpj : jn S W (k + 1) = p at T so
            generalize pw s n = q at P1 T
            have HP := Lib.hid hpj
            have HO := Lib.hid so
            clear hj hs hn hn2 sk so hpj
            go_wp2_with fail
            refine (P1 _).mono ?_
            rintro e w2 ⟨rfl, rfl⟩
            go_wp2_with fail
            refine (T _).mono ?_
            rintro e w2 ⟨rfl, rfl⟩
            go_wp2
            go_roundg (S.length - (k + 1))
            case measure => omega
            case rel => exact ⟨k + 1, p, by omega, rfl, by first | rfl | simp, by simp, rfl, HO, HP⟩
          · have e' : k = S.length := by omega
            subst e'
            go_wp2
            go_ret2
            exact ⟨by rw [HJ.out]; rfl, hb⟩
theorem iJoinS (S W : List Int) (w : World) (lo0 hi0 : Nat) (u0 : Value) (c0 : CpI w lo0 hi0 u0 S) (lo1 hi1 : Nat) (u1 : Value) (c1 : CpI w lo1 hi1 u1 W) :
    Calls Try.prog 12 #[u0, u1] w (Pnb (mJoinS S W) w) :=
  iJoinSR S W w u0 u1 c0.ow.rd.1 c1.ow.rd.1 c0.2.2.2 c1.2.2.2
end Go.Proofs.Ytjfkkmfbgmejbab
