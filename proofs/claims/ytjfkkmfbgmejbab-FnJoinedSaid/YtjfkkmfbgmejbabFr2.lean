/- A drawn fraction, by its contract. -/
import Derived.Test.YtjfkkmfbgmejbabFr1
import Derived.Test.YtjfkkmfbgmejbabVb
namespace Go.Proofs.Ytjfkkmfbgmejbab
open Go.ChangeShapes Go.WideShapes Go.ChangeAt Go.RowKit
set_option linter.unusedSimpArgs false
set_option linter.unusedVariables false
theorem pick_any (B b len k : Nat) (v : Value) (s : Int) (n : Int) (w : World) (hB : B ≤ b) (hs : Src w b v k s) (hv : ByteV B w v len) (hk2 : k ≤ 900) (hl : len ≤ 1048576) (hn : 200 < n) (hn2 : n ≤ 1000) :
    Calls Try.prog 55 #[.pointer (some ⟨b, 0, none⟩), .int .i64 n] w fun e w' => ∃ x s', e = .returned (.int .i64 x) ∧ 0 ≤ x ∧ x < n ∧ Src w' b v (k + 2) s' ∧ Below B w w' := by
  have HN := Lib.hid (fun k s w (hs : Src w b v k s) (hv : ByteV B w v len) (hk : k ≤ 1000) => next_any B b len k v s w hB hs hv hk hl)
  have HS := Lib.hid hs
  have hn0 : (n == 0) = false := by simp; omega
  clear hs
  go_enter Try.func55, Try.ntmps55
  go_wp2_with fail
  refine (HN.out k s _ HS.out hv (by omega)).mono ?_
  rintro e w1 ⟨x1, s1, rfl, p1, p2, hs1, hb1⟩
  have HS1 := Lib.hid hs1
  clear hs1
  go_wp2_with fail
  refine (HN.out (k + 1) s1 _ HS1.out (hv.below hb1) (by omega)).mono ?_
  rintro e w2 ⟨x2, s2, rfl, p3, p4, hs2, hb2⟩
  have wx1 : IntKind.i64.wrap (x1 * 256) = x1 * 256 := by rw [IntKind.wrap_i64]; omega
  have wx2 : IntKind.i64.wrap (x1 * 256 + x2) = x1 * 256 + x2 := by rw [IntKind.wrap_i64]; omega
  have HS2 := Lib.hid hs2
  clear hs2
  go_wp2
  go_ret
  exact ⟨_, _, rfl, Int.emod_nonneg _ (by omega), Int.emod_lt_of_pos _ (by omega), HS2.out, hb1.trans hb2⟩
theorem from_any (a : Option Addr) (len cap : Nat) (w : World) :
    Calls Try.prog 26 #[.slice a len cap] w fun e w' => e = .returned (.pointer (some ⟨w.heap.size, 0, none⟩)) ∧ Src w' w.heap.size (.slice a len cap) 0 0 ∧ Below w.heap.size w w' := by
  go_enter Try.func26, Try.ntmps26
  go_wp2
  go_ret
  refine ⟨rfl, ⟨?_, ?_, ?_, ?_, ?_⟩, (Below.refl _ _).alloc (Nat.le_refl _) _⟩
  all_goals go_simp
end Go.Proofs.Ytjfkkmfbgmejbab
