/- The source of choices, by contracts. -/
import Derived.Test.YtjfkkmfbgmejbabVb
namespace Go.Proofs.Ytjfkkmfbgmejbab
open Go.ChangeShapes Go.WideShapes Go.ChangeAt Go.RowKit
set_option linter.unusedSimpArgs false
set_option linter.unusedVariables false
/-- A slice of bytes that lies below block B. -/
def ByteV (B : Nat) (w : World) (v : Value) (len : Nat) : Prop :=
  (v = .slice none 0 0 ∧ len = 0) ∨ ∃ (x : Addr) (cap : Nat), v = .slice (some x) len cap ∧ (0 < len → x.block < B) ∧ ∀ i, i < len → ∃ c : Int, w.cell? (x.add i) = some (.int .u8 c) ∧ 0 ≤ c ∧ c ≤ 255
theorem ByteV.below {B : Nat} {w w' : World} {v : Value} {len : Nat} (h : ByteV B w v len) (hb : Below B w w') : ByteV B w' v len := by
  rcases h with h | ⟨x, cap, rfl, hx, hc⟩
  · exact .inl h
  · refine .inr ⟨x, cap, rfl, hx, fun i hi => ?_⟩
    obtain ⟨c, h1, h2⟩ := hc i hi
    exact ⟨c, (hb.cell (p := x.add i) (by rw [block_add]; exact hx (by omega))).trans h1, h2⟩
theorem ByteV.shape {B : Nat} {w : World} {v : Value} {len : Nat} (h : ByteV B w v len) : ∃ a cap, v = .slice a len cap := by
  rcases h with ⟨rfl, rfl⟩ | ⟨x, cap, rfl, -, -⟩
  · exact ⟨none, 0, rfl⟩
  · exact ⟨_, cap, rfl⟩
/-- A source lies in block b. -/
structure Src (w : World) (b : Nat) (v : Value) (k : Nat) (s : Int) : Prop where
  code : w.cell? ⟨b, 0, none⟩ = some v
  at_ : w.cell? ⟨b, 1, none⟩ = some (.int .i64 k)
  seed : w.cell? ⟨b, 2, none⟩ = some (.int .u64 s)
  f1 : w.frozen? ⟨b, 1, none⟩ = false
  f2 : w.frozen? ⟨b, 2, none⟩ = false
theorem Src.step {w : World} {b k : Nat} {v : Value} {s : Int} (h : Src w b v k s) (u : Int) (m n : Nat) : Src ((((w.drewN m).setCell ⟨b, 1, none⟩ (.int .i64 ((k : Int) + 1))).setCell ⟨b, 2, none⟩ (.int .u64 u)).drewN n) b v (k + 1) u := by
  obtain ⟨q1, q2, q3, q4, q5⟩ := h
  refine ⟨?_, ?_, ?_, ?_, ?_⟩
  · go_simp
  · go_simp
  · go_simp
  · go_simp
  · go_simp
set_option maxHeartbeats 1000000 in
theorem next_hit (B b len k : Nat) (v : Value) (s : Int) (w : World) (hB : B ≤ b) (hs : Src w b v k s) (hv : ByteV B w v len) (hk : k < len) (hk2 : k ≤ 1000) (hl : len ≤ 1048576) :
    Calls Try.prog 77 #[.pointer (some ⟨b, 0, none⟩)] w fun e w' => ∃ x s', e = .returned (.int .i64 x) ∧ 0 ≤ x ∧ x ≤ 255 ∧ Src w' b v (k + 1) s' ∧ Below B w w' := by
  rcases hv with ⟨_, h0⟩ | ⟨x, cap, rfl, hx, hc⟩
  · omega
  · obtain ⟨c, c1, c2, c3⟩ := hc k hk
    obtain ⟨q1, q2, q3, q4, q5⟩ := hs
    have hne : x.block ≠ b := by have := hx (by omega); omega
    clear hc
    go_enter Try.func77, Try.ntmps77
    go_wp2_with fail
    go_quiet (fail)
    go_wp2_with fail
    go_quiet (fail)
    go_wp2_with fail
    go_quiet (fail)
    go_wp2
    go_ret
    exact ⟨c, _, rfl, c2, c3, Src.step ⟨q1, q2, q3, q4, q5⟩ _ _ _, below_drewN (Below.setCell (Below.setCell (below_drewN (Below.refl _ _) _) (by exact hB) _) (by exact hB) _) _⟩
theorem low_byte (t : Int) : 0 ≤ wrap64 (bits .and .u64 (IntKind.u64.wrap t / 1099511627776) 255) ∧ wrap64 (bits .and .u64 (IntKind.u64.wrap t / 1099511627776) 255) ≤ 255 := by
  have h0 : 0 ≤ IntKind.u64.wrap t ∧ IntKind.u64.wrap t < 18446744073709551616 := by
    rw [IntKind.wrap_u64]; omega
  rw [u64_and _ _ (by omega) (by omega) (by omega) (by omega)]
  have h1 : ((IntKind.u64.wrap t / 1099511627776).toNat &&& (255 : Int).toNat) ≤ 255 := Nat.and_le_right
  unfold wrap64
  omega
set_option maxHeartbeats 1000000 in
theorem next_miss (B b len k : Nat) (v : Value) (s : Int) (w : World) (hB : B ≤ b) (hs : Src w b v k s) (hv : ByteV B w v len) (hk : ¬ k < len) (hk2 : k ≤ 1000) (hl : len ≤ 1048576) :
    Calls Try.prog 77 #[.pointer (some ⟨b, 0, none⟩)] w fun e w' => ∃ x s', e = .returned (.int .i64 x) ∧ 0 ≤ x ∧ x ≤ 255 ∧ Src w' b v (k + 1) s' ∧ Below B w w' := by
  obtain ⟨a, cap, rfl⟩ := hv.shape
  obtain ⟨q1, q2, q3, q4, q5⟩ := hs
  clear hv
  go_enter Try.func77, Try.ntmps77
  go_wp2_with fail
  go_quiet (fail)
  go_wp2_with fail
  go_quiet (fail)
  go_wp2
  go_ret
  exact ⟨_, _, rfl, (low_byte _).1, (low_byte _).2, Src.step ⟨q1, q2, q3, q4, q5⟩ _ _ _, below_drewN (Below.setCell (Below.setCell (below_drewN (Below.refl _ _) _) (by exact hB) _) (by exact hB) _) _⟩
theorem next_any (B b len k : Nat) (v : Value) (s : Int) (w : World) (hB : B ≤ b) (hs : Src w b v k s) (hv : ByteV B w v len) (hk2 : k ≤ 1000) (hl : len ≤ 1048576) :
    Calls Try.prog 77 #[.pointer (some ⟨b, 0, none⟩)] w fun e w' => ∃ x s', e = .returned (.int .i64 x) ∧ 0 ≤ x ∧ x ≤ 255 ∧ Src w' b v (k + 1) s' ∧ Below B w w' := by
  by_cases hk : k < len
  · exact next_hit B b len k v s w hB hs hv hk hk2 hl
  · exact next_miss B b len k v s w hB hs hv hk hk2 hl
end Go.Proofs.Ytjfkkmfbgmejbab
