/- Seals: the specification's and the program's. -/
import Derived.Test.YtjfkkmfbgmejbabSl1
import Derived.Test.YtjfkkmfbgmejbabK2v
import Derived.Deep.RegionHeld3
namespace Go.Proofs.Ytjfkkmfbgmejbab
open Go.ChangeShapes Go.WideShapes Go.ChangeAt Go.RowKit Go.Deep
set_option linter.unusedSimpArgs false
set_option linter.unusedVariables false
theorem four_ok : sOk 4 := ⟨by omega, by omega⟩
theorem nine_ok : sOk 9 := ⟨by omega, by omega⟩
theorem exof {n : Int} (h : isEx n = true) : ∃ k : Nat, n = (k : Int) ∧ k ≤ 500000002 ∧ n.toNat = k := by
  simp [isEx] at h
  exact ⟨n.toNat, by omega, by omega, rfl⟩
set_option maxHeartbeats 1000000 in
theorem iof_any (v k : Nat) (w : World) (hv : v ≤ 500000002) (hk : k ≤ 500000002) :
    Calls Try.prog 29 #[.int .i64 (v : Int), .int .i64 (k : Int)] w fun e w' => e = .returned (.int .i64 (seal9 v k)) ∧ w = w' := by
  have P1 := fun w' => ipow 4 v w' four_ok (by omega)
  have P2 := fun w' => ipow 9 k w' nine_ok (by omega)
  have T := fun w' => itimes (pw 4 v) (pw 9 k) w' (pw_ok _ _) (pw_ok _ _)
  have hs : pw 4 v * pw 9 k % 1000000007 = seal9 v k := rfl
  rw [hs] at T
  clear hs
  generalize pw 4 v = x at P1 T
  generalize pw 9 k = y at P2 T
  generalize seal9 v k = z at T ⊢
  go_enter Try.func29, Try.ntmps29
  go_wp2_with fail
  refine (P1 _).mono ?_
  rintro e w1 ⟨rfl, rfl⟩
  go_wp2_with fail
  refine (P2 _).mono ?_
  rintro e w1 ⟨rfl, rfl⟩
  go_wp2_with fail
  refine (T _).mono ?_
  rintro e w1 ⟨rfl, rfl⟩
  go_wp2
  go_ret
  exact ⟨rfl, rfl⟩
set_option maxHeartbeats 1000000 in
set_option maxRecDepth 100000 in
theorem isl_any (c : Int) (w : World) :
    Calls Try.prog 11 #[.int .i64 c] w fun e w' => e = .returned (.bool (isSl c)) ∧ w = w' := by
  by_cases h1 : c < 1
  · rw [isSl_no1 h1]
    go_enter Try.func11, Try.ntmps11
    go_wp2
    go_ret
    exact ⟨rfl, rfl⟩
  by_cases h2 : 1000000006 < c
  · rw [isSl_no2 h2]
    go_enter Try.func11, Try.ntmps11
    go_wp2
    go_ret
    exact ⟨rfl, rfl⟩
  · rw [isSl_mid (by omega) (by omega)]
    have P2 : ∀ w', Calls Try.prog 30 #[.int .i64 c, .int .i64 500000003] w' fun r w'' => r = .returned (.int .i64 (pw c 500000003)) ∧ w' = w'' := fun w' => ipow c 500000003 w' ⟨by omega, by omega⟩ (by omega)
    generalize pw c 500000003 = y at P2 ⊢
    go_enter Try.func11, Try.ntmps11
    go_wp2_with fail
    refine (P2 _).mono ?_
    rintro e w1 ⟨rfl, rfl⟩
    go_wp2
    go_ret
    exact ⟨by simp; rfl, rfl⟩
theorem iIsS (c : Int) (w : World) (wf : (Lit.int .i64 c).wf = true) :
    Calls Try.prog 11 #[.int .i64 c] w (Pb (isSl c) w) :=
  (isl_any c w).mono fun _ _ ⟨he, hw⟩ => ⟨he, hw ▸ Below.refl _ _⟩
end Go.Proofs.Ytjfkkmfbgmejbab
