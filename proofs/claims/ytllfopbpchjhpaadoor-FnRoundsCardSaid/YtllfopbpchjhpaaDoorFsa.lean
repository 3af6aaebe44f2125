/- Several of this claim's texts in one: KpE, Fr1, Fr2, Fs1, Dj0. -/
import Derived.Test.YtllfopbpchjhpaaDoorEl2
import Derived.Test.YtllfopbpchjhpaaDoorVb
import Derived.Test.YtllfopbpchjhpaaDoorKJ
/- Draws change no block (in a seat with elections' or frames' chain). -/
namespace Go.Proofs.YtllfopbpchjhpaaDoor
open Go.ChangeShapes Go.WideShapes Go.ChangeAt Go.RowKit Go.Deep
theorem keptD {w : World} {S : Nat → Prop} (n : Nat) : Kept w (w.drewN n) S := Kept.ofBelow (below_drewN (Below.refl _ _) n)
end Go.Proofs.YtllfopbpchjhpaaDoor
/- The source of choices, by contracts. -/
namespace Go.Proofs.YtllfopbpchjhpaaDoor
open Go.ChangeShapes Go.WideShapes Go.ChangeAt Go.RowKit
set_option linter.unusedSimpArgs false
set_option linter.unusedVariables false
/-- A slice of bytes that lies below block B. -/
def ByteV (B : Nat) (w : World) (v : Value) (len : Nat) : Prop :=
  (v = .slice none 0 0 ∧ len = 0) ∨ ∃ (x : Addr) (cap : Nat), v = .slice (some x) len cap ∧ (0 < len → x.block < B) ∧ ∀ i, i < len → ∃ c : Int, w.cell? (x.add i) = some (.int .u8 c) ∧ 0 ≤ c ∧ c ≤ 255
theorem ByteV.below {B : Nat} {w w' : World} {v : Value} {len : Nat} (h : ByteV B w v len) (hb : Below B w w') : ByteV B w' v len := by
  rcases h with h | ⟨x, cap, rfl, hx, hc⟩
  · exact .inl h
  · refine .inr ⟨x, cap, rfl, hx, fun i hi => ?_⟩
    obtain ⟨c, h1, h2⟩ := hc i hi
    exact ⟨c, (hb.cell (p := x.add i) (by rw [block_add]; exact hx (by omega))).trans h1, h2⟩
theorem ByteV.shape {B : Nat} {w : World} {v : Value} {len : Nat} (h : ByteV B w v len) : ∃ a cap, v = .slice a len cap := by
  rcases h with ⟨rfl, rfl⟩ | ⟨x, cap, rfl, -, -⟩
  · exact ⟨none, 0, rfl⟩
  · exact ⟨_, cap, rfl⟩
/-- A source lies in block b. -/
structure Src (w : World) (b : Nat) (v : Value) (k : Nat) (s : Int) : Prop where
  code : w.cell? ⟨b, 0, none⟩ = some v
  at_ : w.cell? ⟨b, 1, none⟩ = some (.int .i64 k)
  seed : w.cell? ⟨b, 2, none⟩ = some (.int .u64 s)
  f1 : w.frozen? ⟨b, 1, none⟩ = false
  f2 : w.frozen? ⟨b, 2, none⟩ = false
theorem Src.step {w : World} {b k : Nat} {v : Value} {s : Int} (h : Src w b v k s) (u : Int) (m n : Nat) : Src ((((w.drewN m).setCell ⟨b, 1, none⟩ (.int .i64 ((k : Int) + 1))).setCell ⟨b, 2, none⟩ (.int .u64 u)).drewN n) b v (k + 1) u := by
  obtain ⟨q1, q2, q3, q4, q5⟩ := h
  refine ⟨?_, ?_, ?_, ?_, ?_⟩
  · go_simp
  · go_simp
  · go_simp
  · go_simp
  · go_simp
set_option maxHeartbeats 1000000 in
theorem next_hit (B b len k : Nat) (v : Value) (s : Int) (w : World) (hB : B ≤ b) (hs : Src w b v k s) (hv : ByteV B w v len) (hk : k < len) (hk2 : k ≤ 1000) (hl : len ≤ 1048576) :
    Calls Tryd.prog 28 #[.pointer (some ⟨b, 0, none⟩)] w fun e w' => ∃ x s', e = .returned (.int .i64 x) ∧ 0 ≤ x ∧ x ≤ 255 ∧ Src w' b v (k + 1) s' ∧ Below B w w' := by
  rcases hv with ⟨_, h0⟩ | ⟨x, cap, rfl, hx, hc⟩
  · omega
  · obtain ⟨c, c1, c2, c3⟩ := hc k hk
    obtain ⟨q1, q2, q3, q4, q5⟩ := hs
    have hne : x.block ≠ b := by have := hx (by omega); omega
    clear hc
    go_enter Tryd.func28, Tryd.ntmps28
    go_wp2_with fail
    go_quiet (fail)
    go_wp2_with fail
    go_quiet (fail)
    go_wp2_with fail
    go_quiet (fail)
    go_wp2
    go_ret
    exact ⟨c, _, rfl, c2, c3, Src.step ⟨q1, q2, q3, q4, q5⟩ _ _ _, below_drewN (Below.setCell (Below.setCell (below_drewN (Below.refl _ _) _) (by exact hB) _) (by exact hB) _) _⟩
theorem low_byte (t : Int) : 0 ≤ wrap64 (bits .and .u64 (IntKind.u64.wrap t / 1099511627776) 255) ∧ wrap64 (bits .and .u64 (IntKind.u64.wrap t / 1099511627776) 255) ≤ 255 := by
  have h0 : 0 ≤ IntKind.u64.wrap t ∧ IntKind.u64.wrap t < 18446744073709551616 := by
    rw [IntKind.wrap_u64]; omega
  rw [u64_and _ _ (by omega) (by omega) (by omega) (by omega)]
  have h1 : ((IntKind.u64.wrap t / 1099511627776).toNat &&& (255 : Int).toNat) ≤ 255 := Nat.and_le_right
  unfold wrap64
  omega
set_option maxHeartbeats 1000000 in
theorem next_miss (B b len k : Nat) (v : Value) (s : Int) (w : World) (hB : B ≤ b) (hs : Src w b v k s) (hv : ByteV B w v len) (hk : ¬ k < len) (hk2 : k ≤ 1000) (hl : len ≤ 1048576) :
    Calls Tryd.prog 28 #[.pointer (some ⟨b, 0, none⟩)] w fun e w' => ∃ x s', e = .returned (.int .i64 x) ∧ 0 ≤ x ∧ x ≤ 255 ∧ Src w' b v (k + 1) s' ∧ Below B w w' := by
  obtain ⟨a, cap, rfl⟩ := hv.shape
  obtain ⟨q1, q2, q3, q4, q5⟩ := hs
  clear hv
  go_enter Tryd.func28, Tryd.ntmps28
  go_wp2_with fail
  go_quiet (fail)
  go_wp2_with fail
  go_quiet (fail)
  go_wp2
  go_ret
  exact ⟨_, _, rfl, (low_byte _).1, (low_byte _).2, Src.step ⟨q1, q2, q3, q4, q5⟩ _ _ _, below_drewN (Below.setCell (Below.setCell (below_drewN (Below.refl _ _) _) (by exact hB) _) (by exact hB) _) _⟩
theorem next_any (B b len k : Nat) (v : Value) (s : Int) (w : World) (hB : B ≤ b) (hs : Src w b v k s) (hv : ByteV B w v len) (hk2 : k ≤ 1000) (hl : len ≤ 1048576) :
    Calls Tryd.prog 28 #[.pointer (some ⟨b, 0, none⟩)] w fun e w' => ∃ x s', e = .returned (.int .i64 x) ∧ 0 ≤ x ∧ x ≤ 255 ∧ Src w' b v (k + 1) s' ∧ Below B w w' := by
  by_cases hk : k < len
  · exact next_hit B b len k v s w hB hs hv hk hk2 hl
  · exact next_miss B b len k v s w hB hs hv hk hk2 hl
end Go.Proofs.YtllfopbpchjhpaaDoor
/- A drawn fraction, by its contract. -/
namespace Go.Proofs.YtllfopbpchjhpaaDoor
open Go.ChangeShapes Go.WideShapes Go.ChangeAt Go.RowKit
set_option linter.unusedSimpArgs false
set_option linter.unusedVariables false
theorem pick_any (B b len k : Nat) (v : Value) (s : Int) (n : Int) (w : World) (hB : B ≤ b) (hs : Src w b v k s) (hv : ByteV B w v len) (hk2 : k ≤ 900) (hl : len ≤ 1048576) (hn : 200 < n) (hn2 : n ≤ 1000) :
    Calls Tryd.prog 19 #[.pointer (some ⟨b, 0, none⟩), .int .i64 n] w fun e w' => ∃ x s', e = .returned (.int .i64 x) ∧ 0 ≤ x ∧ x < n ∧ Src w' b v (k + 2) s' ∧ Below B w w' := by
  have HN := Lib.hid (fun k s w (hs : Src w b v k s) (hv : ByteV B w v len) (hk : k ≤ 1000) => next_any B b len k v s w hB hs hv hk hl)
  have HS := Lib.hid hs
  have hn0 : (n == 0) = false := by simp; omega
  clear hs
  go_enter Tryd.func19, Tryd.ntmps19
  go_wp2_with fail
  refine (HN.out k s _ HS.out hv (by omega)).mono ?_
  rintro e w1 ⟨x1, s1, rfl, p1, p2, hs1, hb1⟩
  have HS1 := Lib.hid hs1
  clear hs1
  go_wp2_with fail
  refine (HN.out (k + 1) s1 _ HS1.out (hv.below hb1) (by omega)).mono ?_
  rintro e w2 ⟨x2, s2, rfl, p3, p4, hs2, hb2⟩
  have wx1 : IntKind.i64.wrap (x1 * 256) = x1 * 256 := by rw [IntKind.wrap_i64]; omega
  have wx2 : IntKind.i64.wrap (x1 * 256 + x2) = x1 * 256 + x2 := by rw [IntKind.wrap_i64]; omega
  have HS2 := Lib.hid hs2
  clear hs2
  go_wp2
  go_ret
  exact ⟨_, _, rfl, Int.emod_nonneg _ (by omega), Int.emod_lt_of_pos _ (by omega), HS2.out, hb1.trans hb2⟩
theorem from_any (a : Option Addr) (len cap : Nat) (w : World) :
    Calls Tryd.prog 8 #[.slice a len cap] w fun e w' => e = .returned (.pointer (some ⟨w.heap.size, 0, none⟩)) ∧ Src w' w.heap.size (.slice a len cap) 0 0 ∧ Below w.heap.size w w' := by
  go_enter Tryd.func8, Tryd.ntmps8
  go_wp2
  go_ret
  refine ⟨rfl, ⟨?_, ?_, ?_, ?_, ?_⟩, (Below.refl _ _).alloc (Nat.le_refl _) _⟩
  all_goals go_simp
end Go.Proofs.YtllfopbpchjhpaaDoor
/- Drawn weights, by their contract. -/
namespace Go.Proofs.YtllfopbpchjhpaaDoor
open Go.ChangeShapes Go.WideShapes Go.ChangeAt Go.RowKit Go.Deep
set_option linter.unusedSimpArgs false
set_option linter.unusedVariables false
theorem kept_next (w : World) (b : Nat) (x y : Value) (m n : Nat) : Kept w ((((w.drewN m).setCell ⟨b, 1, none⟩ x).setCell ⟨b, 2, none⟩ y).drewN n) (fun z => z = b) := by
  refine Kept.trans (Kept.trans (Kept.trans (keptD m) (Kept.set (w.drewN m) ⟨b, 1, none⟩ x rfl)) (Kept.set ((w.drewN m).setCell ⟨b, 1, none⟩ x) ⟨b, 2, none⟩ y rfl)) (keptD n)
set_option maxHeartbeats 1000000 in
theorem next_hitK (B b len k : Nat) (v : Value) (s : Int) (w : World) (hB : B ≤ b) (hs : Src w b v k s) (hv : ByteV B w v len) (hk : k < len) (hk2 : k ≤ 1000) (hl : len ≤ 1048576) :
    Calls Tryd.prog 28 #[.pointer (some ⟨b, 0, none⟩)] w fun e w' => ∃ x s', e = .returned (.int .i64 x) ∧ 0 ≤ x ∧ x ≤ 255 ∧ Src w' b v (k + 1) s' ∧ Kept w w' (fun x => x = b) := by
  rcases hv with ⟨_, h0⟩ | ⟨x, cap, rfl, hx, hc⟩
  · omega
  · obtain ⟨c, c1, c2, c3⟩ := hc k hk
    obtain ⟨q1, q2, q3, q4, q5⟩ := hs
    have hne : x.block ≠ b := by have := hx (by omega); omega
    clear hc
    go_enter Tryd.func28, Tryd.ntmps28
    go_wp2_with fail
    go_quiet (fail)
    go_wp2_with fail
    go_quiet (fail)
    go_wp2_with fail
    go_quiet (fail)
    go_wp2
    go_ret
    exact ⟨c, _, rfl, c2, c3, Src.step ⟨q1, q2, q3, q4, q5⟩ _ _ _, kept_next w b _ _ _ _⟩
set_option maxHeartbeats 1000000 in
theorem next_missK (B b len k : Nat) (v : Value) (s : Int) (w : World) (hB : B ≤ b) (hs : Src w b v k s) (hv : ByteV B w v len) (hk : ¬ k < len) (hk2 : k ≤ 1000) (hl : len ≤ 1048576) :
    Calls Tryd.prog 28 #[.pointer (some ⟨b, 0, none⟩)] w fun e w' => ∃ x s', e = .returned (.int .i64 x) ∧ 0 ≤ x ∧ x ≤ 255 ∧ Src w' b v (k + 1) s' ∧ Kept w w' (fun x => x = b) := by
  obtain ⟨a, cap, rfl⟩ := hv.shape
  obtain ⟨q1, q2, q3, q4, q5⟩ := hs
  clear hv
  go_enter Tryd.func28, Tryd.ntmps28
  go_wp2_with fail
  go_quiet (fail)
  go_wp2_with fail
  go_quiet (fail)
  go_wp2
  go_ret
  exact ⟨_, _, rfl, (low_byte _).1, (low_byte _).2, Src.step ⟨q1, q2, q3, q4, q5⟩ _ _ _, kept_next w b _ _ _ _⟩
theorem next_anyK (B b len k : Nat) (v : Value) (s : Int) (w : World) (hB : B ≤ b) (hs : Src w b v k s) (hv : ByteV B w v len) (hk2 : k ≤ 1000) (hl : len ≤ 1048576) :
    Calls Tryd.prog 28 #[.pointer (some ⟨b, 0, none⟩)] w fun e w' => ∃ x s', e = .returned (.int .i64 x) ∧ 0 ≤ x ∧ x ≤ 255 ∧ Src w' b v (k + 1) s' ∧ Kept w w' (fun x => x = b) := by
  by_cases hk : k < len
  · exact next_hitK B b len k v s w hB hs hv hk hk2 hl
  · exact next_missK B b len k v s w hB hs hv hk hk2 hl
theorem ByteV.kept {B b : Nat} {w w' : World} {v : Value} {len : Nat} (h : ByteV B w v len) (hk : Kept w w' (fun x => x = b)) (hB : B ≤ b) (hw : B ≤ w.heap.size) : ByteV B w' v len := h.below (hk.below hw (fun x e => by omega))
theorem pick_low (B b len k : Nat) (v : Value) (s : Int) (n : Int) (w : World) (hB : B ≤ b) (hs : Src w b v k s) (hv : ByteV B w v len) (hk2 : k ≤ 900) (hl : len ≤ 1048576) (hn : 1 < n) (hn2 : n ≤ 200) :
    Calls Tryd.prog 19 #[.pointer (some ⟨b, 0, none⟩), .int .i64 n] w fun e w' => ∃ x s', e = .returned (.int .i64 x) ∧ 0 ≤ x ∧ x < n ∧ Src w' b v (k + 1) s' ∧ Kept w w' (fun x => x = b) := by
  have HN := Lib.hid (fun k s w (hs : Src w b v k s) (hv : ByteV B w v len) (hk : k ≤ 1000) => next_anyK B b len k v s w hB hs hv hk hl)
  have HS := Lib.hid hs
  have hn0 : (n == 0) = false := by simp; omega
  clear hs
  go_enter Tryd.func19, Tryd.ntmps19
  go_wp2_with fail
  refine (HN.out k s _ HS.out hv (by omega)).mono ?_
  rintro e w1 ⟨x1, s1, rfl, p1, p2, hs1, hb1⟩
  have HS1 := Lib.hid hs1
  clear hs1
  go_wp2
  go_ret
  exact ⟨_, _, rfl, Int.emod_nonneg _ (by omega), Int.emod_lt_of_pos _ (by omega), HS1.out, hb1⟩
theorem pick_high (B b len k : Nat) (v : Value) (s : Int) (n : Int) (w : World) (hB : B ≤ b) (hbw : B ≤ w.heap.size) (hs : Src w b v k s) (hv : ByteV B w v len) (hk2 : k ≤ 900) (hl : len ≤ 1048576) (hn : 200 < n) (hn2 : n ≤ 1000) :
    Calls Tryd.prog 19 #[.pointer (some ⟨b, 0, none⟩), .int .i64 n] w fun e w' => ∃ x s', e = .returned (.int .i64 x) ∧ 0 ≤ x ∧ x < n ∧ Src w' b v (k + 2) s' ∧ Kept w w' (fun x => x = b) := by
  have HN := Lib.hid (fun k s w (hs : Src w b v k s) (hv : ByteV B w v len) (hk : k ≤ 1000) => next_anyK B b len k v s w hB hs hv hk hl)
  have HS := Lib.hid hs
  have hn0 : (n == 0) = false := by simp; omega
  clear hs
  go_enter Tryd.func19, Tryd.ntmps19
  go_wp2_with fail
  refine (HN.out k s _ HS.out hv (by omega)).mono ?_
  rintro e w1 ⟨x1, s1, rfl, p1, p2, hs1, hb1⟩
  have HS1 := Lib.hid hs1
  clear hs1
  go_wp2_with fail
  refine (HN.out (k + 1) s1 _ HS1.out (hv.kept hb1 hB hbw) (by omega)).mono ?_
  rintro e w2 ⟨x2, s2, rfl, p3, p4, hs2, hb2⟩
  have wx1 : IntKind.i64.wrap (x1 * 256) = x1 * 256 := by rw [IntKind.wrap_i64]; omega
  have wx2 : IntKind.i64.wrap (x1 * 256 + x2) = x1 * 256 + x2 := by rw [IntKind.wrap_i64]; omega
  have HS2 := Lib.hid hs2
  clear hs2
  go_wp2
  go_ret
  exact ⟨_, _, rfl, Int.emod_nonneg _ (by omega), Int.emod_lt_of_pos _ (by omega), HS2.out, hb1.trans hb2⟩
theorem Src.belowB {w w' : World} {B b k : Nat} {v : Value} {s : Int} (h : Src w b v k s) (hb : Below B w w') (hB : b < B) : Src w' b v k s :=
  ⟨(hb.cell (p := ⟨b, 0, none⟩) hB).trans h.code, (hb.cell (p := ⟨b, 1, none⟩) hB).trans h.at_, (hb.cell (p := ⟨b, 2, none⟩) hB).trans h.seed, (hb.frozen (p := ⟨b, 1, none⟩) hB).trans h.f1, (hb.frozen (p := ⟨b, 2, none⟩) hB).trans h.f2⟩
/-- What drawn weights are. -/
def drawn (t : Int) (W : List Int) : Prop := 0 ≤ t ∧ t < 300 ∧ 1 ≤ W.length ∧ W.length ≤ 7 ∧ 1 ≤ W.getD 0 0 ∧ ∀ k, k < W.length → 0 ≤ W.getD k 0 ∧ W.getD k 0 ≤ 11
theorem drawn_one {y : Int} (h1 : 1 ≤ y) (h2 : y ≤ 11) : 1 ≤ ([y] : List Int).getD 0 0 ∧ ∀ k, k < [y].length → 0 ≤ ([y] : List Int).getD k 0 ∧ ([y] : List Int).getD k 0 ≤ 11 := by
  refine ⟨by simpa using h1, fun k hk => ?_⟩
  obtain rfl : k = 0 := by simpa using hk
  simp; omega
theorem drawn_snoc {l : List Int} {y : Int} (hl : 1 ≤ l.length) (h1 : 0 ≤ y) (h2 : y ≤ 11) (h : 1 ≤ l.getD 0 0 ∧ ∀ k, k < l.length → 0 ≤ l.getD k 0 ∧ l.getD k 0 ≤ 11) :
    1 ≤ (l ++ [y]).getD 0 0 ∧ ∀ k, k < (l ++ [y]).length → 0 ≤ (l ++ [y]).getD k 0 ∧ (l ++ [y]).getD k 0 ≤ 11 := by
  have hat : ∀ k, k < l.length → (l ++ [y]).getD k 0 = l.getD k 0 := fun k hk => by simp [List.getD, List.getElem?_append_left hk]
  refine ⟨by rw [hat 0 (by omega)]; exact h.1, fun k hk => ?_⟩
  by_cases q : k < l.length
  · rw [hat k q]; exact h.2 k q
  · have : k = l.length := by simp at hk; omega
    subst this
    simp [List.getD]; omega
end Go.Proofs.YtllfopbpchjhpaaDoor
/- What is drawn from a source. -/
namespace Go.Proofs.YtllfopbpchjhpaaDoor
open Go.ChangeShapes Go.WideShapes Go.ChangeAt Go.RowKit Go.Deep
set_option linter.unusedSimpArgs false
set_option linter.unusedVariables false
/-- A source in block b that has drawn k bytes so far at most. -/
def So (w : World) (b : Nat) (v : Value) (len k : Nat) : Prop := (∃ j s, j ≤ k ∧ Src w b v j s) ∧ ByteV b w v len ∧ b < w.heap.size
theorem So.mono {w : World} {b len k k' : Nat} {v : Value} (h : So w b v len k) (hk : k ≤ k') : So w b v len k' := by
  obtain ⟨⟨j, s, h1, h2⟩, h3, h4⟩ := h
  exact ⟨⟨j, s, by omega, h2⟩, h3, h4⟩
theorem So.belowB {w w' : World} {B b len k : Nat} {v : Value} (h : So w b v len k) (hb : Below B w w') (hB : b < B) (hs : w.heap.size ≤ w'.heap.size) : So w' b v len k := by
  obtain ⟨⟨j, s, h1, h2⟩, h3, h4⟩ := h
  exact ⟨⟨j, s, h1, h2.belowB hb hB⟩, h3.below (hb.mono (by omega)), by omega⟩
/-- What a draw answers. -/
def Drn (b : Nat) (v : Value) (len k : Nat) (P : Int → Prop) (w : World) (e : Ending) (w' : World) : Prop := ∃ x, e = .returned (.int .i64 x) ∧ P x ∧ So w' b v len k ∧ Kept w w' (fun x => x = b)
theorem draw_low (b len k : Nat) (v : Value) (n : Int) (w : World) (h : So w b v len k) (hk : k ≤ 900) (hl : len ≤ 1048576) (hn : 1 < n) (hn2 : n ≤ 200) :
    Calls Tryd.prog 19 #[.pointer (some ⟨b, 0, none⟩), .int .i64 n] w (Drn b v len (k + 1) (fun x => 0 ≤ x ∧ x < n) w) := by
  obtain ⟨⟨j, s, h1, h2⟩, h3, h4⟩ := h
  refine (pick_low b b len j v s n w (Nat.le_refl _) h2 h3 (by omega) hl hn hn2).mono ?_
  rintro e w' ⟨x, s', rfl, x0, x1, hs, hk'⟩
  exact ⟨x, rfl, ⟨x0, x1⟩, ⟨⟨j + 1, s', by omega, hs⟩, h3.kept hk' (Nat.le_refl _) (by omega), by have := hk'.size; omega⟩, hk'⟩
set_option maxHeartbeats 1000000 in
theorem draw_high (b len k : Nat) (v : Value) (n : Int) (w : World) (h : So w b v len k) (hk2 : k ≤ 900) (hl : len ≤ 1048576) (hn : 200 < n) (hn2 : n ≤ 100000) :
    Calls Tryd.prog 19 #[.pointer (some ⟨b, 0, none⟩), .int .i64 n] w (Drn b v len (k + 2) (fun x => 0 ≤ x ∧ x < n) w) := by
  obtain ⟨⟨j, s, h1, h2⟩, hv, h4⟩ := h
  have HN := Lib.hid (fun k s w (hs : Src w b v k s) (hv : ByteV b w v len) (hk : k ≤ 1000) => next_anyK b b len k v s w (Nat.le_refl _) hs hv hk hl)
  have HS := Lib.hid h2
  have hn0 : (n == 0) = false := by simp; omega
  clear h2
  go_enter Tryd.func19, Tryd.ntmps19
  go_wp2_with fail
  refine (HN.out j s _ HS.out hv (by omega)).mono ?_
  rintro e w1 ⟨x1, s1, rfl, p1, p2, hs1, hb1⟩
  have HS1 := Lib.hid hs1
  have hv1 := hv.kept hb1 (Nat.le_refl _) (by omega)
  have z1 := hb1.size
  clear hs1
  go_wp2_with fail
  refine (HN.out (j + 1) s1 _ HS1.out hv1 (by omega)).mono ?_
  rintro e w2 ⟨x2, s2, rfl, p3, p4, hs2, hb2⟩
  have wx1 : IntKind.i64.wrap (x1 * 256) = x1 * 256 := by rw [IntKind.wrap_i64]; omega
  have wx2 : IntKind.i64.wrap (x1 * 256 + x2) = x1 * 256 + x2 := by rw [IntKind.wrap_i64]; omega
  have HS2 := Lib.hid hs2
  have z2 := hb2.size
  have hv2 := hv1.kept hb2 (Nat.le_refl _) (by omega)
  clear hs2
  go_wp2
  go_ret
  exact ⟨_, rfl, ⟨Int.emod_nonneg _ (by omega), Int.emod_lt_of_pos _ (by omega)⟩, ⟨⟨j + 1 + 1, s2, by omega, HS2.out⟩, hv2, by omega⟩, hb1.trans hb2⟩
end Go.Proofs.YtllfopbpchjhpaaDoor
