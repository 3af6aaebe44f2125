/- The product of seals with weights: the specification's loop. -/
import Derived.Test.YtjfkkmfbgmejbaaSl4
namespace Go.Proofs.Ytjfkkmfbgmejbaa
open Go.ChangeShapes Go.WideShapes Go.ChangeAt Go.RowKit Go.Deep
set_option linter.unusedSimpArgs false
set_option linter.unusedVariables false
/-- The product of the first k seals, each to the power of its weight. -/
def jn (S W : List Int) : Nat → Int
  | 0 => 1
  | k + 1 => jn S W k * pw (S.getD k 0) (W.getD k 0).toNat % 1000000007
theorem jn_ok (S W : List Int) (k : Nat) : sOk (jn S W k) := by
  cases k with
  | zero => exact ⟨by show (0 : Int) ≤ 1; omega, by show (1 : Int) < _; omega⟩
  | succ k => exact sOk_mod _
theorem isSl_ok {c : Int} (h : isSl c = true) : sOk c := by
  simp [isSl] at h
  exact ⟨by omega, by omega⟩
theorem wB_nat {n : Int} (h : wB n = true) : ∃ k : Nat, n = (k : Int) ∧ k ≤ 1000 ∧ n.toNat = k := by
  simp [wB] at h
  exact ⟨n.toNat, by omega, by omega, rfl⟩
set_option maxHeartbeats 1000000 in
theorem sjoin (v u : Value) (S W : List Int) (w : World) (h : RowV w v S) (hu : RowV w u W) (hl : S.length ≤ 1048576) (he : W.length = S.length)
    (hS : ∀ k, k < S.length → sOk (S.getD k 0)) (hW : ∀ k, k < S.length → wB (W.getD k 0) = true) :
    Calls Try.prog 116 #[v, u] w fun e w' => e = .returned (.int .i64 (jn S W S.length)) ∧ Drw w w' := by
  have HS := Lib.hid hS
  have HW := Lib.hid hW
  clear hS hW
  by_cases e : S = []
  · subst e
    obtain ⟨a, cap, rfl⟩ := h.shape
    obtain ⟨a2, cap2, rfl⟩ := hu.shape
    clear h hu HS HW
    go_enter Try.func116, Try.ntmps116
    go_wp2
    go_loopg [5, 6] 0 (fun g s i wr => s = .int .i64 1 ∧ i = .int .i64 0 ∧ w = wr)
    case atStart => exact ⟨rfl, rfl, rfl⟩
    case round =>
      obtain ⟨rfl, rfl, rfl⟩ := hrel
      go_wp2
      go_ret
      exact ⟨rfl, Drw.refl _⟩
  · obtain ⟨x, cap, rfl, hx, hc⟩ := h.cons e
    obtain ⟨y, cap2, rfl, hy, hd⟩ := hu.cons (by intro q; subst q; exact e (List.eq_nil_of_length_eq_zero he.symm))
    have HE := Lib.hid he
    have HD : Hid (∀ k, k < S.length → w.cell? (y.add k) = some (.int .i64 (W.getD k 0))) := fun k hk => hd k (by rw [he]; exact hk)
    rw [he]
    clear h hu he hd
    go_enter Try.func116, Try.ntmps116
    go_wp2
    go_loopg [5, 6] S.length (fun g s i wr => ∃ (k : Nat) (z : Int), k ≤ S.length ∧ g = S.length - k ∧ s = .int .i64 z ∧ i = .int .i64 k ∧ Drw w wr ∧ Hid (sOk z) ∧ Hid (jn S W k = z))
    case atStart => exact ⟨0, 1, Nat.zero_le _, rfl, rfl, rfl, Drw.refl _, Lib.hid ⟨by omega, by omega⟩, Lib.hid rfl⟩
    case round =>
      obtain ⟨k, z, hk, rfl, rfl, rfl, hdr, HZ, HJ⟩ := hrel
      have hb := hdr.below
      by_cases hlt : k < S.length
      · have c1 := (hb.cell (p := x.add k) (by rw [block_add]; exact hx)).trans (hc k hlt)
        have c2 := (hb.cell (p := y.add k) (by rw [block_add]; exact hy)).trans (HD.out k hlt)
        obtain ⟨n, hn, hn1, hn2⟩ := wB_nat (HW.out k hlt)
        have sk := HS.out k hlt
        have hj : jn S W (k + 1) = z * pw (S.getD k 0) n % 1000000007 := by rw [← HJ.out, ← hn2]; rfl
        rw [hn] at c2
        obtain ⟨s, hs⟩ : ∃ s, S.getD k 0 = s := ⟨_, rfl⟩
        rw [hs] at c1 hj sk
        have P1 := fun w' => spow s n w' sk (by omega)
        have T := fun w' => stimes z (pw s n) w' HZ.out (pw_ok _ _)
        rw [← hj] at T
        have so := jn_ok S W (k + 1)
        generalize hpj : jn S W (k + 1) = p at T so
        generalize pw s n = q at P1 T
        have HP := Lib.hid hpj
        have HO := Lib.hid so
        clear hj hs hn hn2 hc sk so hpj
        go_wp2_with fail
        go_quiet ((first | (go_at_call 93; exact quiet_left (P1 _)) | (go_at_call 92; exact quiet_left (T _))))
        go_wp2
        go_roundg (S.length - (k + 1))
        case measure => omega
        case rel => exact ⟨k + 1, p, by omega, rfl, by first | rfl | simp, by simp, hdr.drewN _, HO, HP⟩
      · have e' : k = S.length := by omega
        subst e'
        go_wp2
        go_ret
        exact ⟨by rw [HJ.out]; rfl, hdr⟩
end Go.Proofs.Ytjfkkmfbgmejbaa
