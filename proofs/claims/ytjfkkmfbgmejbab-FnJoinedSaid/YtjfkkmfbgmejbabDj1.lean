/- Keys that are drawn, and rows of three of them. -/
import Derived.Test.YtjfkkmfbgmejbabFs1
import Derived.Test.YtjfkkmfbgmejbabSl7
import Derived.Test.YtjfkkmfbgmejbabKJ
namespace Go.Proofs.Ytjfkkmfbgmejbab
open Go.ChangeShapes Go.WideShapes Go.ChangeAt Go.RowKit Go.Deep
set_option linter.unusedSimpArgs false
set_option linter.unusedVariables false
/-- A source in block b that has drawn k bytes so far at most. -/
def So (w : World) (b : Nat) (v : Value) (len k : Nat) : Prop := (∃ j s, j ≤ k ∧ Src w b v j s) ∧ ByteV b w v len ∧ b < w.heap.size
theorem So.mono {w : World} {b len k k' : Nat} {v : Value} (h : So w b v len k) (hk : k ≤ k') : So w b v len k' := by
  obtain ⟨⟨j, s, h1, h2⟩, h3, h4⟩ := h
  exact ⟨⟨j, s, by omega, h2⟩, h3, h4⟩
theorem So.belowB {w w' : World} {B b len k : Nat} {v : Value} (h : So w b v len k) (hb : Below B w w') (hB : b < B) (hs : w.heap.size ≤ w'.heap.size) : So w' b v len k := by
  obtain ⟨⟨j, s, h1, h2⟩, h3, h4⟩ := h
  exact ⟨⟨j, s, h1, h2.belowB hb hB⟩, h3.below (hb.mono (by omega)), by omega⟩
/-- What a draw answers. -/
def Drn (b : Nat) (v : Value) (len k : Nat) (P : Int → Prop) (w : World) (e : Ending) (w' : World) : Prop := ∃ x, e = .returned (.int .i64 x) ∧ P x ∧ So w' b v len k ∧ Kept w w' (fun x => x = b)
theorem draw_low (b len k : Nat) (v : Value) (n : Int) (w : World) (h : So w b v len k) (hk : k ≤ 900) (hl : len ≤ 1048576) (hn : 1 < n) (hn2 : n ≤ 200) :
    Calls Try.prog 55 #[.pointer (some ⟨b, 0, none⟩), .int .i64 n] w (Drn b v len (k + 1) (fun x => 0 ≤ x ∧ x < n) w) := by
  obtain ⟨⟨j, s, h1, h2⟩, h3, h4⟩ := h
  refine (pick_low b b len j v s n w (Nat.le_refl _) h2 h3 (by omega) hl hn hn2).mono ?_
  rintro e w' ⟨x, s', rfl, x0, x1, hs, hk'⟩
  exact ⟨x, rfl, ⟨x0, x1⟩, ⟨⟨j + 1, s', by omega, hs⟩, h3.kept hk' (Nat.le_refl _) (by omega), by have := hk'.size; omega⟩, hk'⟩
set_option maxHeartbeats 1000000 in
theorem draw_high (b len k : Nat) (v : Value) (n : Int) (w : World) (h : So w b v len k) (hk2 : k ≤ 900) (hl : len ≤ 1048576) (hn : 200 < n) (hn2 : n ≤ 100000) :
    Calls Try.prog 55 #[.pointer (some ⟨b, 0, none⟩), .int .i64 n] w (Drn b v len (k + 2) (fun x => 0 ≤ x ∧ x < n) w) := by
  obtain ⟨⟨j, s, h1, h2⟩, hv, h4⟩ := h
  have HN := Lib.hid (fun k s w (hs : Src w b v k s) (hv : ByteV b w v len) (hk : k ≤ 1000) => next_anyK b b len k v s w (Nat.le_refl _) hs hv hk hl)
  have HS := Lib.hid h2
  have hn0 : (n == 0) = false := by simp; omega
  clear h2
  go_enter Try.func55, Try.ntmps55
  go_wp2_with fail
  refine (HN.out j s _ HS.out hv (by omega)).mono ?_
  rintro e w1 ⟨x1, s1, rfl, p1, p2, hs1, hb1⟩
  have HS1 := Lib.hid hs1
  have hv1 := hv.kept hb1 (Nat.le_refl _) (by omega)
  have z1 := hb1.size
  clear hs1
  go_wp2_with fail
  refine (HN.out (j + 1) s1 _ HS1.out hv1 (by omega)).mono ?_
  rintro e w2 ⟨x2, s2, rfl, p3, p4, hs2, hb2⟩
  have wx1 : IntKind.i64.wrap (x1 * 256) = x1 * 256 := by rw [IntKind.wrap_i64]; omega
  have wx2 : IntKind.i64.wrap (x1 * 256 + x2) = x1 * 256 + x2 := by rw [IntKind.wrap_i64]; omega
  have HS2 := Lib.hid hs2
  have z2 := hb2.size
  have hv2 := hv1.kept hb2 (Nat.le_refl _) (by omega)
  clear hs2
  go_wp2
  go_ret
  exact ⟨_, rfl, ⟨Int.emod_nonneg _ (by omega), Int.emod_lt_of_pos _ (by omega)⟩, ⟨⟨j + 1 + 1, s2, by omega, HS2.out⟩, hv2, by omega⟩, hb1.trans hb2⟩
theorem draw_one8 (b len k : Nat) (v : Value) (w : World) (h : So w b v len k) (hk : k ≤ 900) (hl : len ≤ 1048576) :
    Calls Try.prog 82 #[.pointer (some ⟨b, 0, none⟩), .int .i64 8] w fun e w' => ∃ z : Bool, e = .returned (.bool z) ∧ So w' b v len (k + 1) ∧ Kept w w' (fun x => x = b) := by
  have HP := draw_low b len k v 8 w h hk hl (by omega) (by omega)
  clear h
  go_enter Try.func82, Try.ntmps82
  go_wp2_with fail
  refine HP.mono ?_
  rintro e w1 ⟨x, rfl, _, hs, hk1⟩
  go_wp2
  go_ret
  exact ⟨_, rfl, hs, hk1⟩
theorem draw_among (b len k : Nat) (v : Value) (c : Nat) (x y z : Int) (w : World) (h : So w b v len k) (hk : k ≤ 900) (hl : len ≤ 1048576) (hc : c ≠ b) (hcl : c < w.heap.size)
    (c0 : w.cell? ⟨c, 0, none⟩ = some (.int .i64 x)) (c1 : w.cell? ⟨c, 1, none⟩ = some (.int .i64 y)) (c2 : w.cell? ⟨c, 2, none⟩ = some (.int .i64 z)) :
    Calls Try.prog 83 #[.pointer (some ⟨b, 0, none⟩), .slice (some ⟨c, 0, none⟩) 3 3] w (Drn b v len (k + 1) (fun u => u = x ∨ u = y ∨ u = z) w) := by
  have HP := draw_low b len k v 3 w h hk hl (by omega) (by omega)
  have HC : ∀ i, i < 3 → w.cell? ⟨c, i, none⟩ = some (.int .i64 (([x, y, z] : List Int).getD i 0)) := fun i hi => by
    match i, hi with
    | 0, _ => exact c0
    | 1, _ => exact c1
    | 2, _ => exact c2
  have HCC := Lib.hid HC
  clear h HC c0 c1 c2
  go_enter Try.func83, Try.ntmps83
  go_wp2_with fail
  refine HP.mono ?_
  rintro e w1 ⟨t, rfl, ⟨t0, t1⟩, hs, hk1⟩
  obtain ⟨i, rfl⟩ : ∃ i : Nat, t = (i : Int) := ⟨t.toNat, by omega⟩
  have hi : i < 3 := by omega
  have cc := (hk1.cell (p := ⟨c, i, none⟩) hcl (fun e => hc e)).trans (HCC.out i hi)
  have HV : Hid (([x, y, z] : List Int).getD i 0 = x ∨ ([x, y, z] : List Int).getD i 0 = y ∨ ([x, y, z] : List Int).getD i 0 = z) := Lib.hid (by
    match i, hi with
    | 0, _ => exact .inl rfl
    | 1, _ => exact .inr (.inl rfl)
    | 2, _ => exact .inr (.inr rfl))
  generalize ([x, y, z] : List Int).getD i 0 = u at cc HV
  have HS := Lib.hid hs
  clear hs
  go_wp2
  go_ret
  exact ⟨u, rfl, HV.out, HS.out, hk1⟩
set_option maxHeartbeats 1000000 in
theorem draw_key (b len k : Nat) (v : Value) (w : World) (h : So w b v len k) (hk : k ≤ 890) (hl : len ≤ 1048576) :
    Calls Try.prog 65 #[.pointer (some ⟨b, 0, none⟩)] w (fun e w' => ∃ x, e = .returned (.int .i64 x) ∧ qOk x ∧ So w' b v len (k + 5) ∧ (∀ B, B ≤ b → B ≤ w.heap.size → Below B w w') ∧ (∀ c, c < w.heap.size → c ≠ b → w'.heap[c]? = w.heap[c]?) ∧ w.heap.size ≤ w'.heap.size) := by
  have H1 := draw_one8 b len k v w h (by omega) hl
  clear h
  go_enter Try.func65, Try.ntmps65
  go_wp2_with fail
  refine H1.mono ?_
  rintro e w1 ⟨z, rfl, hs, hk1⟩
  have z1 := hk1.size
  have HK1 := Lib.hid hk1
  cases z with
  | true =>
    have hb1 : b < w1.heap.size := hs.2.2
    have ba := (Below.refl w1.heap.size w1).alloc (Nat.le_refl _) (.cells #[.int .i64 0, .int .i64 1, .int .i64 500000002] 2)
    have hs2 := hs.belowB ba hb1 ba.size
    have HA := draw_among b len (k + 1) v w1.heap.size 0 1 500000002 (w1.alloc (.cells #[.int .i64 0, .int .i64 1, .int .i64 500000002] 2)) hs2 (by omega) hl (by omega) (by simp) (by go_simp) (by go_simp) (by go_simp)
    have BA := Lib.hid ba
    clear hs hs2 hk1 ba H1
    go_wp2_with fail
    refine HA.mono ?_
    rintro e w2 ⟨x, rfl, hx, hs3, hk3⟩
    have HX := Lib.hid hx
    have HS3 := Lib.hid hs3
    have HK3 := Lib.hid hk3
    have z3 := hk3.size
    clear hx hs3 hk3 HA
    go_wp2
    go_ret
    refine ⟨x, rfl, by have := HX.out; unfold qOk; omega, HS3.out.mono (by omega), fun B hB hB2 => ?_, fun c hc hcb => ?_, by simp at z3; omega⟩
    · exact ((HK1.out.below hB2 (fun x e => by omega)).trans (BA.out.mono (by omega))).trans (HK3.out.below (by simp; omega) (fun x e => by omega))
    · rw [HK3.out.block c (by simp; omega) (fun e => hcb e), BA.out.block c (by omega), HK1.out.block c hc (fun e => hcb e)]
  | false =>
    have HP := draw_high b len (k + 1) v 30000 w1 hs (by omega) hl (by omega) (by omega)
    clear hs hk1 H1
    go_wp2_with fail
    refine HP.mono ?_
    rintro e w2 ⟨x, rfl, ⟨x0, x1⟩, hs2, hk2⟩
    have z2 := hk2.size
    have HP2 := draw_high b len (k + 1 + 2) v 16666 w2 hs2 (by omega) hl (by omega) (by omega)
    have HK2 := Lib.hid hk2
    have wx : IntKind.i64.wrap (16666 * x) = 16666 * x := by rw [IntKind.wrap_i64]; omega
    clear hs2 hk2 HP
    go_wp2_with fail
    refine HP2.mono ?_
    rintro e w3 ⟨y, rfl, ⟨y0, y1⟩, hs3, hk3⟩
    have z3 := hk3.size
    have HK3 := Lib.hid hk3
    have HS3 := Lib.hid hs3
    have wy : IntKind.i64.wrap (16666 * x + y) = 16666 * x + y := by rw [IntKind.wrap_i64]; omega
    clear hs3 hk3 HP2
    go_wp2
    go_ret
    refine ⟨16666 * x + y, by first | rfl | simp [wx, wy], ⟨by omega, by omega⟩, HS3.out.mono (by omega), fun B hB hB2 => ?_, fun c hc hcb => ?_, by omega⟩
    · exact ((HK1.out.below hB2 (fun x e => by omega)).trans (HK2.out.below (by omega) (fun x e => by omega))).trans (HK3.out.below (by omega) (fun x e => by omega))
    · rw [HK3.out.block c (by omega) (fun e => hcb e), HK2.out.block c (by omega) (fun e => hcb e), HK1.out.block c hc (fun e => hcb e)]
end Go.Proofs.Ytjfkkmfbgmejbab
