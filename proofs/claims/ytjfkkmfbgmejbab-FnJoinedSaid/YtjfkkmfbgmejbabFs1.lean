/- Drawn weights, by their contract. -/
import Derived.Test.YtjfkkmfbgmejbabFr2
import Derived.Test.YtjfkkmfbgmejbabKpD
namespace Go.Proofs.Ytjfkkmfbgmejbab
open Go.ChangeShapes Go.WideShapes Go.ChangeAt Go.RowKit Go.Deep
set_option linter.unusedSimpArgs false
set_option linter.unusedVariables false
theorem kept_next (w : World) (b : Nat) (x y : Value) (m n : Nat) : Kept w ((((w.drewN m).setCell ⟨b, 1, none⟩ x).setCell ⟨b, 2, none⟩ y).drewN n) (fun z => z = b) := by
  refine Kept.trans (Kept.trans (Kept.trans (keptD m) (Kept.set (w.drewN m) ⟨b, 1, none⟩ x rfl)) (Kept.set ((w.drewN m).setCell ⟨b, 1, none⟩ x) ⟨b, 2, none⟩ y rfl)) (keptD n)
set_option maxHeartbeats 1000000 in
theorem next_hitK (B b len k : Nat) (v : Value) (s : Int) (w : World) (hB : B ≤ b) (hs : Src w b v k s) (hv : ByteV B w v len) (hk : k < len) (hk2 : k ≤ 1000) (hl : len ≤ 1048576) :
    Calls Try.prog 77 #[.pointer (some ⟨b, 0, none⟩)] w fun e w' => ∃ x s', e = .returned (.int .i64 x) ∧ 0 ≤ x ∧ x ≤ 255 ∧ Src w' b v (k + 1) s' ∧ Kept w w' (fun x => x = b) := by
  rcases hv with ⟨_, h0⟩ | ⟨x, cap, rfl, hx, hc⟩
  · omega
  · obtain ⟨c, c1, c2, c3⟩ := hc k hk
    obtain ⟨q1, q2, q3, q4, q5⟩ := hs
    have hne : x.block ≠ b := by have := hx (by omega); omega
    clear hc
    go_enter Try.func77, Try.ntmps77
    go_wp2_with fail
    go_quiet (fail)
    go_wp2_with fail
    go_quiet (fail)
    go_wp2_with fail
    go_quiet (fail)
    go_wp2
    go_ret
    exact ⟨c, _, rfl, c2, c3, Src.step ⟨q1, q2, q3, q4, q5⟩ _ _ _, kept_next w b _ _ _ _⟩
set_option maxHeartbeats 1000000 in
theorem next_missK (B b len k : Nat) (v : Value) (s : Int) (w : World) (hB : B ≤ b) (hs : Src w b v k s) (hv : ByteV B w v len) (hk : ¬ k < len) (hk2 : k ≤ 1000) (hl : len ≤ 1048576) :
    Calls Try.prog 77 #[.pointer (some ⟨b, 0, none⟩)] w fun e w' => ∃ x s', e = .returned (.int .i64 x) ∧ 0 ≤ x ∧ x ≤ 255 ∧ Src w' b v (k + 1) s' ∧ Kept w w' (fun x => x = b) := by
  obtain ⟨a, cap, rfl⟩ := hv.shape
  obtain ⟨q1, q2, q3, q4, q5⟩ := hs
  clear hv
  go_enter Try.func77, Try.ntmps77
  go_wp2_with fail
  go_quiet (fail)
  go_wp2_with fail
  go_quiet (fail)
  go_wp2
  go_ret
  exact ⟨_, _, rfl, (low_byte _).1, (low_byte _).2, Src.step ⟨q1, q2, q3, q4, q5⟩ _ _ _, kept_next w b _ _ _ _⟩
theorem next_anyK (B b len k : Nat) (v : Value) (s : Int) (w : World) (hB : B ≤ b) (hs : Src w b v k s) (hv : ByteV B w v len) (hk2 : k ≤ 1000) (hl : len ≤ 1048576) :
    Calls Try.prog 77 #[.pointer (some ⟨b, 0, none⟩)] w fun e w' => ∃ x s', e = .returned (.int .i64 x) ∧ 0 ≤ x ∧ x ≤ 255 ∧ Src w' b v (k + 1) s' ∧ Kept w w' (fun x => x = b) := by
  by_cases hk : k < len
  · exact next_hitK B b len k v s w hB hs hv hk hk2 hl
  · exact next_missK B b len k v s w hB hs hv hk hk2 hl
theorem ByteV.kept {B b : Nat} {w w' : World} {v : Value} {len : Nat} (h : ByteV B w v len) (hk : Kept w w' (fun x => x = b)) (hB : B ≤ b) (hw : B ≤ w.heap.size) : ByteV B w' v len := h.below (hk.below hw (fun x e => by omega))
theorem pick_low (B b len k : Nat) (v : Value) (s : Int) (n : Int) (w : World) (hB : B ≤ b) (hs : Src w b v k s) (hv : ByteV B w v len) (hk2 : k ≤ 900) (hl : len ≤ 1048576) (hn : 1 < n) (hn2 : n ≤ 200) :
    Calls Try.prog 55 #[.pointer (some ⟨b, 0, none⟩), .int .i64 n] w fun e w' => ∃ x s', e = .returned (.int .i64 x) ∧ 0 ≤ x ∧ x < n ∧ Src w' b v (k + 1) s' ∧ Kept w w' (fun x => x = b) := by
  have HN := Lib.hid (fun k s w (hs : Src w b v k s) (hv : ByteV B w v len) (hk : k ≤ 1000) => next_anyK B b len k v s w hB hs hv hk hl)
  have HS := Lib.hid hs
  have hn0 : (n == 0) = false := by simp; omega
  clear hs
  go_enter Try.func55, Try.ntmps55
  go_wp2_with fail
  refine (HN.out k s _ HS.out hv (by omega)).mono ?_
  rintro e w1 ⟨x1, s1, rfl, p1, p2, hs1, hb1⟩
  have HS1 := Lib.hid hs1
  clear hs1
  go_wp2
  go_ret
  exact ⟨_, _, rfl, Int.emod_nonneg _ (by omega), Int.emod_lt_of_pos _ (by omega), HS1.out, hb1⟩
theorem pick_high (B b len k : Nat) (v : Value) (s : Int) (n : Int) (w : World) (hB : B ≤ b) (hbw : B ≤ w.heap.size) (hs : Src w b v k s) (hv : ByteV B w v len) (hk2 : k ≤ 900) (hl : len ≤ 1048576) (hn : 200 < n) (hn2 : n ≤ 1000) :
    Calls Try.prog 55 #[.pointer (some ⟨b, 0, none⟩), .int .i64 n] w fun e w' => ∃ x s', e = .returned (.int .i64 x) ∧ 0 ≤ x ∧ x < n ∧ Src w' b v (k + 2) s' ∧ Kept w w' (fun x => x = b) := by
  have HN := Lib.hid (fun k s w (hs : Src w b v k s) (hv : ByteV B w v len) (hk : k ≤ 1000) => next_anyK B b len k v s w hB hs hv hk hl)
  have HS := Lib.hid hs
  have hn0 : (n == 0) = false := by simp; omega
  clear hs
  go_enter Try.func55, Try.ntmps55
  go_wp2_with fail
  refine (HN.out k s _ HS.out hv (by omega)).mono ?_
  rintro e w1 ⟨x1, s1, rfl, p1, p2, hs1, hb1⟩
  have HS1 := Lib.hid hs1
  clear hs1
  go_wp2_with fail
  refine (HN.out (k + 1) s1 _ HS1.out (hv.kept hb1 hB hbw) (by omega)).mono ?_
  rintro e w2 ⟨x2, s2, rfl, p3, p4, hs2, hb2⟩
  have wx1 : IntKind.i64.wrap (x1 * 256) = x1 * 256 := by rw [IntKind.wrap_i64]; omega
  have wx2 : IntKind.i64.wrap (x1 * 256 + x2) = x1 * 256 + x2 := by rw [IntKind.wrap_i64]; omega
  have HS2 := Lib.hid hs2
  clear hs2
  go_wp2
  go_ret
  exact ⟨_, _, rfl, Int.emod_nonneg _ (by omega), Int.emod_lt_of_pos _ (by omega), HS2.out, hb1.trans hb2⟩
theorem Src.belowB {w w' : World} {B b k : Nat} {v : Value} {s : Int} (h : Src w b v k s) (hb : Below B w w') (hB : b < B) : Src w' b v k s :=
  ⟨(hb.cell (p := ⟨b, 0, none⟩) hB).trans h.code, (hb.cell (p := ⟨b, 1, none⟩) hB).trans h.at_, (hb.cell (p := ⟨b, 2, none⟩) hB).trans h.seed, (hb.frozen (p := ⟨b, 1, none⟩) hB).trans h.f1, (hb.frozen (p := ⟨b, 2, none⟩) hB).trans h.f2⟩
/-- What drawn weights are. -/
def drawn (t : Int) (W : List Int) : Prop := 0 ≤ t ∧ t < 300 ∧ 1 ≤ W.length ∧ W.length ≤ 7 ∧ 1 ≤ W.getD 0 0 ∧ ∀ k, k < W.length → 0 ≤ W.getD k 0 ∧ W.getD k 0 ≤ 11
theorem drawn_one {y : Int} (h1 : 1 ≤ y) (h2 : y ≤ 11) : 1 ≤ ([y] : List Int).getD 0 0 ∧ ∀ k, k < [y].length → 0 ≤ ([y] : List Int).getD k 0 ∧ ([y] : List Int).getD k 0 ≤ 11 := by
  refine ⟨by simpa using h1, fun k hk => ?_⟩
  obtain rfl : k = 0 := by simpa using hk
  simp; omega
theorem drawn_snoc {l : List Int} {y : Int} (hl : 1 ≤ l.length) (h1 : 0 ≤ y) (h2 : y ≤ 11) (h : 1 ≤ l.getD 0 0 ∧ ∀ k, k < l.length → 0 ≤ l.getD k 0 ∧ l.getD k 0 ≤ 11) :
    1 ≤ (l ++ [y]).getD 0 0 ∧ ∀ k, k < (l ++ [y]).length → 0 ≤ (l ++ [y]).getD k 0 ∧ (l ++ [y]).getD k 0 ≤ 11 := by
  have hat : ∀ k, k < l.length → (l ++ [y]).getD k 0 = l.getD k 0 := fun k hk => by simp [List.getD, List.getElem?_append_left hk]
  refine ⟨by rw [hat 0 (by omega)]; exact h.1, fun k hk => ?_⟩
  by_cases q : k < l.length
  · rw [hat k q]; exact h.2 k q
  · have : k = l.length := by simp at hk; omega
    subst this
    simp [List.getD]; omega
end Go.Proofs.Ytjfkkmfbgmejbab
