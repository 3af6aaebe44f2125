/- Drawn weights, by their contract. -/
import Derived.Test.YtbbdilpbblijaaaFr2
import Derived.Test.YtbbdilpbblijaaaSo5
namespace Go.Proofs.Ytbbdilpbblijaaa
open Go.ChangeShapes Go.WideShapes Go.ChangeAt Go.RowKit Go.Deep
set_option linter.unusedSimpArgs false
set_option linter.unusedVariables false
theorem kept_next (w : World) (b : Nat) (x y : Value) (m n : Nat) : Kept w ((((w.drewN m).setCell ⟨b, 1, none⟩ x).setCell ⟨b, 2, none⟩ y).drewN n) (fun z => z = b) := by
  refine Kept.trans (Kept.trans (Kept.trans (keptD m) (Kept.set (w.drewN m) ⟨b, 1, none⟩ x rfl)) (Kept.set ((w.drewN m).setCell ⟨b, 1, none⟩ x) ⟨b, 2, none⟩ y rfl)) (keptD n)
set_option maxHeartbeats 1000000 in
theorem next_hitK (B b len k : Nat) (v : Value) (s : Int) (w : World) (hB : B ≤ b) (hs : Src w b v k s) (hv : ByteV B w v len) (hk : k < len) (hk2 : k ≤ 1000) (hl : len ≤ 1048576) :
    Calls Try.prog 12 #[.pointer (some ⟨b, 0, none⟩)] w fun e w' => ∃ x s', e = .returned (.int .i64 x) ∧ 0 ≤ x ∧ x ≤ 255 ∧ Src w' b v (k + 1) s' ∧ Kept w w' (fun x => x = b) := by
  rcases hv with ⟨_, h0⟩ | ⟨x, cap, rfl, hx, hc⟩
  · omega
  · obtain ⟨c, c1, c2, c3⟩ := hc k hk
    obtain ⟨q1, q2, q3, q4, q5⟩ := hs
    have hne : x.block ≠ b := by have := hx (by omega); omega
    clear hc
    go_enter Try.func12, Try.ntmps12
    go_wp2_with fail
    go_quiet (fail)
    go_wp2_with fail
    go_quiet (fail)
    go_wp2_with fail
    go_quiet (fail)
    go_wp2
    go_ret
    exact ⟨c, _, rfl, c2, c3, Src.step ⟨q1, q2, q3, q4, q5⟩ _ _ _, kept_next w b _ _ _ _⟩
set_option maxHeartbeats 1000000 in
theorem next_missK (B b len k : Nat) (v : Value) (s : Int) (w : World) (hB : B ≤ b) (hs : Src w b v k s) (hv : ByteV B w v len) (hk : ¬ k < len) (hk2 : k ≤ 1000) (hl : len ≤ 1048576) :
    Calls Try.prog 12 #[.pointer (some ⟨b, 0, none⟩)] w fun e w' => ∃ x s', e = .returned (.int .i64 x) ∧ 0 ≤ x ∧ x ≤ 255 ∧ Src w' b v (k + 1) s' ∧ Kept w w' (fun x => x = b) := by
  obtain ⟨a, cap, rfl⟩ := hv.shape
  obtain ⟨q1, q2, q3, q4, q5⟩ := hs
  clear hv
  go_enter Try.func12, Try.ntmps12
  go_wp2_with fail
  go_quiet (fail)
  go_wp2_with fail
  go_quiet (fail)
  go_wp2
  go_ret
  exact ⟨_, _, rfl, (low_byte _).1, (low_byte _).2, Src.step ⟨q1, q2, q3, q4, q5⟩ _ _ _, kept_next w b _ _ _ _⟩
theorem next_anyK (B b len k : Nat) (v : Value) (s : Int) (w : World) (hB : B ≤ b) (hs : Src w b v k s) (hv : ByteV B w v len) (hk2 : k ≤ 1000) (hl : len ≤ 1048576) :
    Calls Try.prog 12 #[.pointer (some ⟨b, 0, none⟩)] w fun e w' => ∃ x s', e = .returned (.int .i64 x) ∧ 0 ≤ x ∧ x ≤ 255 ∧ Src w' b v (k + 1) s' ∧ Kept w w' (fun x => x = b) := by
  by_cases hk : k < len
  · exact next_hitK B b len k v s w hB hs hv hk hk2 hl
  · exact next_missK B b len k v s w hB hs hv hk hk2 hl
theorem ByteV.kept {B b : Nat} {w w' : World} {v : Value} {len : Nat} (h : ByteV B w v len) (hk : Kept w w' (fun x => x = b)) (hB : B ≤ b) (hw : B ≤ w.heap.size) : ByteV B w' v len := h.below (hk.below hw (fun x e => by omega))
theorem pick_low (B b len k : Nat) (v : Value) (s : Int) (n : Int) (w : World) (hB : B ≤ b) (hs : Src w b v k s) (hv : ByteV B w v len) (hk2 : k ≤ 900) (hl : len ≤ 1048576) (hn : 1 < n) (hn2 : n ≤ 200) :
    Calls Try.prog 8 #[.pointer (some ⟨b, 0, none⟩), .int .i64 n] w fun e w' => ∃ x s', e = .returned (.int .i64 x) ∧ 0 ≤ x ∧ x < n ∧ Src w' b v (k + 1) s' ∧ Kept w w' (fun x => x = b) := by
  have HN := Lib.hid (fun k s w (hs : Src w b v k s) (hv : ByteV B w v len) (hk : k ≤ 1000) => next_anyK B b len k v s w hB hs hv hk hl)
  have HS := Lib.hid hs
  have hn0 : (n == 0) = false := by simp; omega
  clear hs
  go_enter Try.func8, Try.ntmps8
  go_wp2_with fail
  refine (HN.out k s _ HS.out hv (by omega)).mono ?_
  rintro e w1 ⟨x1, s1, rfl, p1, p2, hs1, hb1⟩
  have HS1 := Lib.hid hs1
  clear hs1
  go_wp2
  go_ret
  exact ⟨_, _, rfl, Int.emod_nonneg _ (by omega), Int.emod_lt_of_pos _ (by omega), HS1.out, hb1⟩
theorem pick_high (B b len k : Nat) (v : Value) (s : Int) (n : Int) (w : World) (hB : B ≤ b) (hbw : B ≤ w.heap.size) (hs : Src w b v k s) (hv : ByteV B w v len) (hk2 : k ≤ 900) (hl : len ≤ 1048576) (hn : 200 < n) (hn2 : n ≤ 1000) :
    Calls Try.prog 8 #[.pointer (some ⟨b, 0, none⟩), .int .i64 n] w fun e w' => ∃ x s', e = .returned (.int .i64 x) ∧ 0 ≤ x ∧ x < n ∧ Src w' b v (k + 2) s' ∧ Kept w w' (fun x => x = b) := by
  have HN := Lib.hid (fun k s w (hs : Src w b v k s) (hv : ByteV B w v len) (hk : k ≤ 1000) => next_anyK B b len k v s w hB hs hv hk hl)
  have HS := Lib.hid hs
  have hn0 : (n == 0) = false := by simp; omega
  clear hs
  go_enter Try.func8, Try.ntmps8
  go_wp2_with fail
  refine (HN.out k s _ HS.out hv (by omega)).mono ?_
  rintro e w1 ⟨x1, s1, rfl, p1, p2, hs1, hb1⟩
  have HS1 := Lib.hid hs1
  clear hs1
  go_wp2_with fail
  refine (HN.out (k + 1) s1 _ HS1.out (hv.kept hb1 hB hbw) (by omega)).mono ?_
  rintro e w2 ⟨x2, s2, rfl, p3, p4, hs2, hb2⟩
  have wx1 : IntKind.i64.wrap (x1 * 256) = x1 * 256 := by rw [IntKind.wrap_i64]; omega
  have wx2 : IntKind.i64.wrap (x1 * 256 + x2) = x1 * 256 + x2 := by rw [IntKind.wrap_i64]; omega
  have HS2 := Lib.hid hs2
  clear hs2
  go_wp2
  go_ret
  exact ⟨_, _, rfl, Int.emod_nonneg _ (by omega), Int.emod_lt_of_pos _ (by omega), HS2.out, hb1.trans hb2⟩
theorem Src.belowB {w w' : World} {B b k : Nat} {v : Value} {s : Int} (h : Src w b v k s) (hb : Below B w w') (hB : b < B) : Src w' b v k s :=
  ⟨(hb.cell (p := ⟨b, 0, none⟩) hB).trans h.code, (hb.cell (p := ⟨b, 1, none⟩) hB).trans h.at_, (hb.cell (p := ⟨b, 2, none⟩) hB).trans h.seed, (hb.frozen (p := ⟨b, 1, none⟩) hB).trans h.f1, (hb.frozen (p := ⟨b, 2, none⟩) hB).trans h.f2⟩
/-- What drawn weights are. -/
def drawn (t : Int) (W : List Int) : Prop := 0 ≤ t ∧ t < 300 ∧ 1 ≤ W.length ∧ W.length ≤ 7 ∧ 1 ≤ W.getD 0 0 ∧ ∀ k, k < W.length → 0 ≤ W.getD k 0 ∧ W.getD k 0 ≤ 11
theorem drawn_one {y : Int} (h1 : 1 ≤ y) (h2 : y ≤ 11) : 1 ≤ ([y] : List Int).getD 0 0 ∧ ∀ k, k < [y].length → 0 ≤ ([y] : List Int).getD k 0 ∧ ([y] : List Int).getD k 0 ≤ 11 := by
  refine ⟨by simpa using h1, fun k hk => ?_⟩
  obtain rfl : k = 0 := by simpa using hk
  simp; omega
theorem drawn_snoc {l : List Int} {y : Int} (hl : 1 ≤ l.length) (h1 : 0 ≤ y) (h2 : y ≤ 11) (h : 1 ≤ l.getD 0 0 ∧ ∀ k, k < l.length → 0 ≤ l.getD k 0 ∧ l.getD k 0 ≤ 11) :
    1 ≤ (l ++ [y]).getD 0 0 ∧ ∀ k, k < (l ++ [y]).length → 0 ≤ (l ++ [y]).getD k 0 ∧ (l ++ [y]).getD k 0 ≤ 11 := by
  have hat : ∀ k, k < l.length → (l ++ [y]).getD k 0 = l.getD k 0 := fun k hk => by simp [List.getD, List.getElem?_append_left hk]
  refine ⟨by rw [hat 0 (by omega)]; exact h.1, fun k hk => ?_⟩
  by_cases q : k < l.length
  · rw [hat k q]; exact h.2 k q
  · have : k = l.length := by simp at hk; omega
    subst this
    simp [List.getD]; omega
set_option maxHeartbeats 2000000 in
set_option maxRecDepth 100000 in
theorem b10w (v : Value) (len : Nat) (w : World) (hv : ByteV w.heap.size w v len) (hl : len ≤ 1048576) :
    Calls Try.prog 5 #[v] w fun e w' => (∃ t W lo cap, e = .returned (.tuple #[.int .i64 t, .slice (some ⟨lo, 0, none⟩) W.length cap]) ∧ drawn t W ∧ lo < w'.heap.size ∧ ∀ i, i < W.length → w'.cell? ⟨lo, i, none⟩ = some (.int .i64 (W.getD i 0))) ∧ Below w.heap.size w w' := by
  obtain ⟨i0, hinf, hz0, hz1, hz2⟩ := info_parts infoI
  obtain ⟨a, cap, rfl⟩ := hv.shape
  have HV := Lib.hid hv
  clear hv
  go_enter Try.func5, Try.ntmps5
  go_wp2_with fail
  refine (from_any a len cap _).mono ?_
  rintro e w1 ⟨rfl, hs1, hb1⟩
  obtain ⟨b, hb⟩ : ∃ b, w.heap.size = b := ⟨_, rfl⟩
  have hvb := HV.out.below hb1
  rw [hb] at hs1 hvb
  have hbl : b < w1.heap.size := World.block_lt_of_cell? _ _ hs1.code
  have HS := Lib.hid hs1
  have HW := Lib.hid hvb
  have HBB := Lib.hid hb
  clear hs1 hvb
  rw [hb]
  go_wp2_with fail
  refine (pick_low b b len 0 _ 0 9 w1 (Nat.le_refl _) HS.out HW.out (by omega) hl (by omega) (by omega)).mono ?_
  rintro e w2 ⟨x1, s1, rfl, p1, p2, hs2, hk2⟩
  obtain ⟨y, hy⟩ : ∃ y, 1 + x1 = y := ⟨_, rfl⟩
  have wy : IntKind.i64.wrap (1 + x1) = y := by rw [IntKind.wrap_i64]; omega
  have z2 := hk2.size
  have HS2 := Lib.hid hs2
  have HW2 := Lib.hid (HW.out.kept hk2 (Nat.le_refl _) (by omega))
  have B2 := hb1.trans ((hk2.below (B := w.heap.size) hb1.size (fun x e => by omega)))
  clear hs2
  have hown0 : (w2.alloc (.cells #[.int .i64 y] 2)).ownsRow (b + 1) 2 1 (.slice (some ⟨w2.heap.size, 0, none⟩) 1 1) 1 (([y] : List Int).map (Value.int .i64)) := World.ownsRow_lit w2 #[.int .i64 y] 1 (by omega) (by unfold maxLen; omega) rfl
  have ba := (Below.refl w2.heap.size w2).alloc (Nat.le_refl _) (.cells #[.int .i64 y] 2)
  have B3 := B2.trans (ba.mono B2.size)
  have HS3 := Lib.hid (HS2.out.belowB ba (by omega))
  have HW3 := Lib.hid (HW2.out.below (ba.mono (by omega)))
  have HO0 := Lib.hid hown0
  have HD1 := Lib.hid (drawn_one (y := y) (by omega) (by omega))
  have z3 : b < (w2.alloc (.cells #[.int .i64 y] 2)).heap.size := by simp; omega
  have HB3 := Lib.hid B3
  clear hown0 ba B2 B3 hb1
  go_wp2_with fail
  refine (pick_low b b len 1 _ s1 7 _ (Nat.le_refl _) HS3.out HW3.out (by omega) hl (by omega) (by omega)).mono ?_
  rintro e w4 ⟨x2, s2, rfl, p3, p4, hs4, hk4⟩
  have z4 := hk4.size
  have HS4 := Lib.hid hs4
  have HW4 := Lib.hid (HW3.out.kept hk4 (Nat.le_refl _) (by omega))
  have B4 := HB3.out.trans (hk4.below (B := w.heap.size) (by rw [HBB.out]; omega) (fun x e => by rw [HBB.out]; omega))
  have HO4 := Lib.hid (own_blockJ HO0.out (fun g hg hlt => hk4.block g hlt (fun q => by have := (HO0.out.lt g hg).1; omega)))
  have HB4 := Lib.hid B4
  obtain ⟨j0, hj0⟩ : ∃ j : Nat, x2 = j := ⟨x2.toNat, by omega⟩
  subst hj0
  clear hs4 hk4 B4
  go_wp2
  go_loopg [5, 6] j0 (fun g v nv wr => ∃ (j k : Nat) (l : List Int) (s : Int), j = g ∧ nv = .int .i64 (j : Int) ∧ 1 ≤ l.length ∧ l.length + j ≤ 7 ∧ k + j ≤ 20 ∧ Hid (1 ≤ l.getD 0 0 ∧ ∀ k, k < l.length → 0 ≤ l.getD k 0 ∧ l.getD k 0 ≤ 11) ∧ b < wr.heap.size ∧ Hid (Src wr b (.slice a len cap) k s) ∧ Hid (ByteV b wr (.slice a len cap) len) ∧ wr.ownsRow (b + 1) 2 1 v l.length (l.map (Value.int .i64)) ∧ Below w.heap.size w wr)
  case atStart => exact ⟨j0, 2, [y], s2, rfl, rfl, by simp, by simp; omega, by omega, HD1, by omega, HS4, HW4, HO4.out, HB4.out⟩
  case round =>
    clear HO4 HB4 HS4 HW4 HO0 HB3 HS3 HW3 HS2 HW2 HS HW
    obtain ⟨j, k, l, s, rfl, rfl, l1, l2, k1, HD, hbw, HSr, HWr, hown, hb⟩ := hrel
    have hbb := HBB.out
    by_cases hj : 0 < j
    · go_wp2_with fail
      refine (pick_low b b len k _ s 12 _ (Nat.le_refl _) HSr.out HWr.out (by omega) hl (by omega) (by omega)).mono ?_
      rintro e w5 ⟨x3, s3, rfl, p5, p6, hs5, hk5⟩
      have z5 := hk5.size
      have HS5 := Lib.hid hs5
      have HW5 := Lib.hid (HWr.out.kept hk5 (Nat.le_refl _) (by omega))
      have B5 := hb.trans (hk5.below (B := w.heap.size) hb.size (fun x e => by omega))
      have hown5 := own_blockJ hown (fun g hg hlt => hk5.block g hlt (fun q => by have := (hown.lt g hg).1; omega))
      have HB5 := Lib.hid B5
      have HD2 := Lib.hid (drawn_snoc l1 p5 (by omega) HD.out)
      have sl : (l ++ [x3]).length = l.length + 1 := by simp
      have HSL := Lib.hid sl
      obtain ⟨j', hj'⟩ : ∃ j', j = j' + 1 := ⟨j - 1, by omega⟩
      have wj : IntKind.i64.wrap ((j : Int) - 1) = j' := by rw [IntKind.wrap_i64]; omega
      have wj2 : (j : Int) - 1 = j' := by omega
      have hj'2 : j' < j := by omega
      have hj'3 : l.length + 1 + j' ≤ 7 := by omega
      have hj'4 : k + 1 + j' ≤ 20 := by omega
      clear hs5 hk5 B5 hj' sl
      go_wp2_with (first
        | (at_builtin; refine wpList_append_own _ rfl _ _ 24 rfl (b + 1) 2 i0 (.int .i64 0) 1 8 Try.underlying24 hinf hz0 hz1 hz2 rfl (by decide) _ _ _ rfl (hown5.alloc _) ⟨w5.heap.size, 0, none⟩ 1 1 [.int .i64 x3] rfl rfl ?c1 ?c2 ?c3 ?c4 ?c5 ?_))
      case c1 => exact World.news_of_block (cs := #[.int .i64 x3]) (t := 2) (fr := (0, 0)) (heap_alloc_new w5 _)
      case c2 => simp [Value.oneCell']
      case c3 => unfold maxLen; omega
      case c4 => omega
      case c5 => simp; omega
      intro v' w6 hown6 hgrow _
      have hB6 : Below (b + 1) w5 w6 := ((Below.refl (b + 1) w5).alloc (by omega) _).grown hgrow (by simp; omega) (fun x e => (hown5.lt x e).1)
      have HS6 := Lib.hid (HS5.out.belowB hB6 (by omega))
      have HW6 := Lib.hid (HW5.out.below (hB6.mono (by omega)))
      have hb6 := HB5.out.trans (hB6.mono (by omega))
      have z6 : b < w6.heap.size := by have := hB6.size; omega
      have HO6 : Hid (w6.ownsRow (b + 1) 2 1 v' (l ++ [x3]).length ((l ++ [x3]).map (Value.int .i64))) := by rw [HSL.out, List.map_append]; exact hown6
      clear hown6 hgrow hB6
      go_wp2
      go_roundg j'
      case measure => omega
      case rel => exact ⟨j', k + 1, l ++ [x3], s3, rfl, by first | rfl | rw [wj2], by rw [HSL.out]; omega, by rw [HSL.out]; omega, hj'4, HD2, z6, HS6, HW6, HO6.out, hb6⟩
    · have e0 : j = 0 := by omega
      go_wp2_with fail
      refine (pick_high b b len k _ s 300 _ (Nat.le_refl _) (by omega) HSr.out HWr.out (by omega) hl (by omega) (by omega)).mono ?_
      rintro e w5 ⟨x3, s3, rfl, p5, p6, hs5, hk5⟩
      have z5 := hk5.size
      have B5 := hb.trans (hk5.below (B := w.heap.size) hb.size (fun x e => by omega))
      have hown5 := own_blockJ hown (fun g hg hlt => hk5.block g hlt (fun q => by have := (hown.lt g hg).1; omega))
      obtain ⟨⟨-, h0⟩ | ⟨c, cp, N, f, hv, q1, q2, q3, q4, q5⟩, -⟩ := ow_of_own hown5 (Nat.le_refl _) (by omega)
      · rw [h0] at l1; simp at l1
      · subst hv
        have HQ := Lib.hid q5
        clear hs5 hk5 hown hown5 q5
        go_wp2
        go_ret2
        refine ⟨⟨x3, l, c, cp, rfl, ⟨p5, p6, l1, by omega, HD.out.1, HD.out.2⟩, q4.lt, fun i hi => ?_⟩, B5⟩
        rw [q4.cell (i := i) (by omega), HQ.out i hi]
end Go.Proofs.Ytbbdilpbblijaaa
