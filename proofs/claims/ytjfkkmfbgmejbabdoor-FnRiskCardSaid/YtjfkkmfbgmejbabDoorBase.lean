/- Contracts of the functions that several laws go through. -/
import Derived.Test.YtjfkkmfbgmejbabDoorProg
import Derived.Test.YtjfkkmfbgmejbabDoorPure
import Derived.WalkKit
import Derived.WalkLawsBesides
import Derived.ProofKit
import Derived.Outline
import Derived.Lib.Hide
import Derived.LoopTactic
import Derived.RegionTactic
import Derived.Deep.QuietTactic
import Derived.BigQuiet
import Derived.Deep.RegionWith
namespace Go.Proofs.YtjfkkmfbgmejbabDoor
open Go.ChangeShapes Go.WideShapes Go.ChangeAt Go.RowKit
theorem bcell {W w1 : World} (hb : Below W.heap.size W w1) : (∀ b o, b < W.heap.size → w1.cell? ⟨b, o, none⟩ = W.cell? ⟨b, o, none⟩) ∧ (∀ b o, b < W.heap.size → w1.frozen? ⟨b, o, none⟩ = W.frozen? ⟨b, o, none⟩) :=
  ⟨fun b o h => hb.cell (p := ⟨b, o, none⟩) h, fun b o h => hb.frozen (p := ⟨b, o, none⟩) h⟩
theorem in_any (n a b : Int) (w : World) :
    Calls Tryd.prog 28 #[.int .i64 n, .int .i64 a, .int .i64 b] w fun e w' => e = .returned (.bool (decide (a ≤ n) && decide (n ≤ b))) ∧ w = w' := by
  by_cases h1 : a ≤ n
  · go_enter Tryd.func28, Tryd.ntmps28
    go_wp2
    go_ret
    simp [h1]
  · go_enter Tryd.func28, Tryd.ntmps28
    go_wp2
    go_ret
    simp; omega

theorem max_any (a b : Int) (w : World) :
    Calls Tryd.prog 31 #[.int .i64 a, .int .i64 b] w fun e w' => e = .returned (.int .i64 (max a b)) ∧ w = w' := by
  go_enter Tryd.func31, Tryd.ntmps31
  go_wp2
  all_goals go_ret
  all_goals simp
  all_goals omega

theorem abs_any (a : Int) (w : World) (h1 : -4000000000000000000 ≤ a) (h2 : a ≤ 4000000000000000000) :
    Calls Tryd.prog 61 #[.int .i64 a] w fun e w' => e = .returned (.int .i64 a.natAbs) ∧ w = w' := by
  go_enter Tryd.func61, Tryd.ntmps61
  go_wp2_with (go_at_call 31; refine (max_any _ _ _).mono ?_; rintro e w' ⟨rfl, rfl⟩)
  go_ret
  simp
  omega

theorem gcd_any (a b : Int) (w : World) (h1 : 0 ≤ a) (h2 : a ≤ 4000000000000000000) (h3 : 0 ≤ b) (h4 : b ≤ 4000000000000000000) :
    Calls Tryd.prog 60 #[.int .i64 a, .int .i64 b] w fun e w' => e = .returned (.int .i64 (Int.gcd a b)) ∧ w = w' := by
  go_enter Tryd.func60, Tryd.ntmps60
  go_wp2
  go_loop [0, 1, 5] (fun x y _ => ∃ m n : Int, 0 ≤ m ∧ m ≤ 4000000000000000000 ∧ 0 ≤ n ∧ n ≤ 4000000000000000000 ∧ x = .int .i64 m ∧ y = .int .i64 n ∧ Hid (Int.gcd m n = Int.gcd a b)) (fun _ y _ => (intOf y).toNat)
  case atStart => exact ⟨a, b, h1, h2, h3, h4, rfl, rfl, rfl⟩
  case round =>
    obtain ⟨m, n, m1, m2, n1, n2, rfl, rfl, H⟩ := hrel
    by_cases hn : 0 < n
    · have r1 := Int.emod_nonneg m (by omega : n ≠ 0)
      have r2 := Int.emod_lt_of_pos m hn
      have H2 : Hid (Int.gcd n (m % n) = Int.gcd a b) := by
        show _ = _
        rw [← H.out, gcd_em m n m1]
      go_wp2
      exact ⟨⟨n, m % n, by omega, by omega, r1, by omega, rfl, rfl, H2⟩, by simp [intOf]; omega⟩
    · obtain rfl : n = 0 := by omega
      go_wp2
      go_ret
      refine ⟨?_, rfl⟩
      rw [← H.out]
      simp
      omega

theorem div_any (a b : Int) (w : World) (h1 : -4000000000000000000 ≤ a) (h2 : a ≤ 4000000000000000000) (h3 : -4000000000000000000 ≤ b) (h4 : b ≤ 4000000000000000000) :
    Calls Tryd.prog 82 #[.int .i64 a, .int .i64 b] w fun e w' => e = .returned (.int .i64 (Int.gcd a b)) ∧ ∃ k, w' = w.drewN k := by
  go_enter Tryd.func82, Tryd.ntmps82
  go_wp2
  go_loopw [0, 1] (fun x y wr => ∃ m n : Int, -4000000000000000000 ≤ m ∧ m ≤ 4000000000000000000 ∧ -4000000000000000000 ≤ n ∧ n ≤ 4000000000000000000 ∧ x = .int .i64 m ∧ y = .int .i64 n ∧ Hid (Int.gcd m n = Int.gcd a b) ∧ ∃ k, wr = w.drewN k) (fun _ y _ => (intOf y).natAbs)
  case atStart => exact ⟨a, b, h1, h2, h3, h4, rfl, rfl, rfl, 0, rfl⟩
  case round =>
    obtain ⟨m, n, m1, m2, n1, n2, rfl, rfl, H, k, rfl⟩ := hrel
    by_cases hn : n = 0
    · subst hn
      have g := gcd_zr m
      rw [H.out] at g
      have G := Lib.hid g
      clear g
      go_wp2
      all_goals go_ret
      all_goals (refine ⟨?_, k, rfl⟩; rw [G.out]; simp; omega)
    · have hn' : (n != 0) = true := by simp [hn]
      have t := tm_lt m n hn
      have H2 : Hid (Int.gcd n (m.tmod n) = Int.gcd a b) := by
        show _ = _
        rw [← H.out, gcd_tm m n]
      go_wp2
      go_quiet (fail)
      go_wp2
      refine ⟨⟨n, m.tmod n, by omega, by omega, by omega, by omega, rfl, rfl, H2, _, World.drewN_drewN _ _ _⟩, t⟩
theorem quiet_left {P : Program} {f : FuncId} {args : Array Value} {w : World} {n : Nat} {v : Value}
    (h : Calls P f args (w.drewN n) fun e w' => e = .returned v ∧ w.drewN n = w') : Calls P f args (w.drewN n) fun e w'' => e = .returned v ∧ ∃ m, w'' = w.drewN m :=
  h.mono fun _ _ ⟨he, hm⟩ => ⟨he, n, hm.symm⟩
theorem in_val (n a b : Int) (w : World) :
    Calls Tryd.prog 28 #[.int .i64 n, .int .i64 a, .int .i64 b] w fun e w' => e = .returned (.bool (inB n a b)) ∧ w = w' := in_any n a b w
theorem gcd_abs (n d : Int) (w : World) (h1 : -4000000000000000000 ≤ n) (h2 : n ≤ 4000000000000000000) (h3 : 0 ≤ d) (h4 : d ≤ 4000000000000000000) :
    Calls Tryd.prog 60 #[.int .i64 n.natAbs, .int .i64 d] w fun e w' => e = .returned (.int .i64 (Int.gcd n d)) ∧ w = w' :=
  (gcd_any n.natAbs d w (by omega) (by omega) h3 h4).mono fun e w' ⟨he, hw⟩ => ⟨by rw [he, natAbs_gcd], hw⟩

theorem ok_yes (n d : Int) (w : World) (h : okF n d) :
    Calls Tryd.prog 29 #[.agg #[.int .i64 n, .int .i64 d]] w fun e w' => e = .returned (.bool true) ∧ Below w.heap.size w w' := by
  obtain ⟨h1, h2, h3, h4, h5⟩ := h
  have g : ((Int.gcd n d : Int) == 1) = true := by rw [h5]; rfl
  have i1 := inB_yes h1 h2
  have i2 := inB_yes h3 h4
  clear h5
  go_enter Tryd.func29, Tryd.ntmps29
  go_wp2
  go_quiet ((first
    | (go_at_call 28; exact quiet_left (in_val _ _ _ _))
    | (go_at_call 61; exact quiet_left (abs_any _ _ (by omega) (by omega)))
    | (go_at_call 60; exact quiet_left (gcd_abs n _ _ (by omega) (by omega) (by omega) (by omega)))))
  go_wp2
  go_ret
  exact ⟨rfl, below_drewN ((Below.refl _ _).alloc (Nat.le_refl _) _) _⟩

set_option maxHeartbeats 1000000 in
theorem ok_no (n d : Int) (w : World) (h : ¬ okF n d) :
    Calls Tryd.prog 29 #[.agg #[.int .i64 n, .int .i64 d]] w fun e w' => e = .returned (.bool false) ∧ Below w.heap.size w w' := by
  by_cases hd : 1 ≤ d ∧ d ≤ 1000000000
  · obtain ⟨d1, d2⟩ := hd
    have i1 := inB_yes d1 d2
    by_cases hn : -1000000000 ≤ n ∧ n ≤ 1000000000
    · obtain ⟨n1, n2⟩ := hn
      have i2 := inB_yes n1 n2
      have g : ((Int.gcd n d : Int) == 1) = false := by
        rw [beq_eq_false_iff_ne]
        intro e
        exact h ⟨d1, d2, n1, n2, by omega⟩
      clear h
      go_enter Tryd.func29, Tryd.ntmps29
      go_wp2
      go_quiet ((first
        | (go_at_call 28; exact quiet_left (in_val _ _ _ _))
        | (go_at_call 61; exact quiet_left (abs_any _ _ (by omega) (by omega)))
        | (go_at_call 60; exact quiet_left (gcd_abs n _ _ (by omega) (by omega) (by omega) (by omega)))))
      go_wp2
      go_ret
      exact ⟨rfl, below_drewN ((Below.refl _ _).alloc (Nat.le_refl _) _) _⟩
    · have i2 := inB_no hn
      clear h hn
      go_enter Tryd.func29, Tryd.ntmps29
      go_wp2
      go_quiet ((go_at_call 28; exact quiet_left (in_val _ _ _ _)))
      go_wp2
      go_ret
      exact ⟨rfl, below_drewN ((Below.refl _ _).alloc (Nat.le_refl _) _) _⟩
  · have i1 := inB_no hd
    clear h hd
    go_enter Tryd.func29, Tryd.ntmps29
    go_wp2
    go_quiet ((go_at_call 28; exact quiet_left (in_val _ _ _ _)))
    go_wp2
    go_ret
    exact ⟨rfl, below_drewN ((Below.refl _ _).alloc (Nat.le_refl _) _) _⟩
theorem ok_any (n d : Int) (w : World) :
    Calls Tryd.prog 29 #[.agg #[.int .i64 n, .int .i64 d]] w fun e w' => e = .returned (.bool (okB n d)) ∧ Below w.heap.size w w' := by
  by_cases h : okF n d
  · rw [okB_yes h]; exact ok_yes n d w h
  · rw [okB_no h]; exact ok_no n d w h
end Go.Proofs.YtjfkkmfbgmejbabDoor
