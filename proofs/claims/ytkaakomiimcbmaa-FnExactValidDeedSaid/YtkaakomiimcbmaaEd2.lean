/- Edits: their size; two lists of them compared. -/
import Derived.Test.YtkaakomiimcbmaaEd1
namespace Go.Proofs.Ytkaakomiimcbmaa
open Go.ChangeShapes Go.WideShapes Go.ChangeAt Go.RowKit Go.Deep
set_option linter.unusedSimpArgs false
set_option linter.unusedVariables false
def RoomE (L : List Ed) : Prop := L.length ≤ 9223372036854775807 ∧ ∀ k, k < L.length → (L.getD k e0).2.2.1.size ≤ 9223372036854775807 ∧ (L.getD k e0).2.2.2.size ≤ 9223372036854775807
def FitsE (L : List Ed) : Prop := L.length ≤ 1048576 ∧ ∀ k, k < L.length → (L.getD k e0).2.2.1.size ≤ 1048576 ∧ (L.getD k e0).2.2.2.size ≤ 1048576
def szE2 (m n : Nat) (left : Int) : Int := if left - m < 0 then -1 else if left - m - n < 0 then -1 else left - m - n
theorem szE (k i : Int) (a b : ByteArray) (left : Int) (w : World) (ha : a.size ≤ 9223372036854775807) (hb : b.size ≤ 9223372036854775807) (h1 : 0 ≤ left) (h2 : left ≤ 1048576) :
    Calls Try.prog 17 #[.agg #[.int .i64 k, .int .i64 i, .string a, .string b], .int .i64 left] w fun e w' => e = .returned (.int .i64 (szE2 a.size b.size left)) ∧ Below w.heap.size w w' := by
  have b1 := (Below.refl w.heap.size w).alloc (Nat.le_refl _) (.cells #[.int .i64 k, .int .i64 i, .string a, .string b] 49)
  unfold szE2
  by_cases c1 : left - a.size < 0
  · rw [if_pos c1]
    go_enter Try.func17, Try.ntmps17
    go_wp2
    go_ret
    exact ⟨rfl, b1⟩
  · rw [if_neg c1]
    by_cases c2 : left - a.size - b.size < 0
    · rw [if_pos c2]
      go_enter Try.func17, Try.ntmps17
      go_wp2
      go_ret
      exact ⟨rfl, b1⟩
    · rw [if_neg c2]
      go_enter Try.func17, Try.ntmps17
      go_wp2
      go_ret
      exact ⟨rfl, b1⟩
set_option maxHeartbeats 1000000 in
set_option maxRecDepth 100000 in
theorem szES (v : Value) (L : List Ed) (z : Int) (w : World) (h : ListE w v L) (hr : RoomE L) (hz1 : 0 ≤ z) (hz2 : z ≤ 1048576) :
    Calls Try.prog 10 #[v, .int .i64 z] w fun e w' => (∃ r, e = .returned (.int .i64 r) ∧ -1 ≤ r ∧ r ≤ 1048576 ∧ (0 ≤ r → FitsE L)) ∧ Below w.heap.size w w' := by
  obtain ⟨hr1, hr2⟩ := hr
  rcases h with ⟨rfl, rfl⟩ | ⟨x, cap, rfl, hx, h⟩
  · go_enter Try.func10, Try.ntmps10
    go_wp2
    go_loopg [1, 5] 0 (fun g y i wr => y = .int .i64 z ∧ i = .int .i64 0 ∧ wr = w)
    case atStart => exact ⟨by simp, rfl, rfl⟩
    case round =>
      obtain ⟨rfl, rfl, rfl⟩ := hrel
      go_wp2
      go_ret
      exact ⟨⟨_, rfl, by omega, by omega, fun _ => ⟨by simp, fun k hk => absurd hk (Nat.not_lt_zero _)⟩⟩, Below.refl _ _⟩
  · by_cases hbig : z - L.length < 0
    · go_enter Try.func10, Try.ntmps10
      go_wp2
      go_ret
      exact ⟨⟨_, rfl, by omega, by omega, fun h => absurd h (by omega)⟩, Below.refl _ _⟩
    · go_enter Try.func10, Try.ntmps10
      go_wp2
      go_loopg [1, 5] L.length (fun g y i wr => ∃ (k : Nat) (r : Int), k ≤ L.length ∧ g = L.length - k ∧ y = .int .i64 r ∧ i = .int .i64 k ∧ 0 ≤ r ∧ r ≤ 1048576 ∧ Below w.heap.size w wr ∧ Hid (∀ j, j < k → (L.getD j e0).2.2.1.size ≤ 1048576 ∧ (L.getD j e0).2.2.2.size ≤ 1048576))
      case atStart => exact ⟨0, _, Nat.zero_le _, rfl, rfl, rfl, by omega, by omega, Below.refl _ _, fun j hj => absurd hj (Nat.not_lt_zero _)⟩
      case round =>
        obtain ⟨k, r, hk, rfl, rfl, rfl, q1, q2, hb, H⟩ := hrel
        by_cases hlt : k < L.length
        · obtain ⟨a1, a2, a3, a4⟩ := (h.below hx hb) k hlt
          obtain ⟨l1, l2⟩ := hr2 k hlt
          obtain ⟨q, hq⟩ : ∃ q, L.getD k e0 = q := ⟨_, rfl⟩
          rw [hq] at a1 a2 a3 a4 l1 l2
          have HQ := Lib.hid hq
          clear hq
          obtain ⟨n, d, sa, sb⟩ := q
          simp only at a1 a2 a3 a4 l1 l2
          have HZ := szE n d sa sb r wr l1 l2 q1 q2
          obtain ⟨y, hy⟩ : ∃ y, szE2 sa.size sb.size r = y := ⟨_, rfl⟩
          have hzr : -1 ≤ y ∧ y ≤ 1048576 ∧ (y < 0 → y = -1) ∧ (0 ≤ y → sa.size ≤ 1048576 ∧ sb.size ≤ 1048576) := by rw [← hy]; unfold szE2; (repeat' split) <;> omega
          obtain ⟨z1, z2, z3, z4⟩ := hzr
          rw [hy] at HZ
          clear hy
          have Z4 := Lib.hid z4
          clear z4
          by_cases hneg : y < 0
          · obtain rfl := z3 hneg
            go_wp2_with fail
            refine HZ.mono ?_
            rintro e w1 ⟨rfl, hb1⟩
            go_wp2
            go_ret
            exact ⟨⟨_, rfl, by omega, by omega, fun h => absurd h (by omega)⟩, hb.trans (hb1.mono hb.size)⟩
          · go_wp2_with fail
            refine HZ.mono ?_
            rintro e w1 ⟨rfl, hb1⟩
            go_wp2
            go_roundg (L.length - (k + 1))
            case measure => omega
            case rel =>
              refine ⟨k + 1, y, by omega, rfl, rfl, by simp, by omega, by omega, hb.trans (hb1.mono hb.size), fun j hj => ?_⟩
              by_cases e : j = k
              · subst e; rw [HQ.out]; exact Z4.out (by omega)
              · exact H.out j (by omega)
        · have e : k = L.length := by omega
          subst e
          go_wp2
          go_ret
          exact ⟨⟨_, rfl, by omega, by omega, fun _ => ⟨by omega, H.out⟩⟩, hb⟩
theorem eqE (k i : Int) (a b : ByteArray) (w : World) :
    Calls Try.prog 30 #[.agg #[.int .i64 k, .int .i64 i, .string a, .string b], .agg #[.int .i64 k, .int .i64 i, .string a, .string b]] w fun e w' => e = .returned (.bool true) ∧ Below w.heap.size w w' := by
  have b1 := ((Below.refl w.heap.size w).alloc (Nat.le_refl _) (.cells #[.int .i64 k, .int .i64 i, .string a, .string b] 54)).alloc (by simp) (.cells #[.int .i64 k, .int .i64 i, .string a, .string b] 54)
  go_enter Try.func30, Try.ntmps30
  go_wp2_with fail
  go_ret
  exact ⟨rfl, b1⟩
set_option maxRecDepth 100000 in
theorem eqES (L : List Ed) (b b' cap cap' : Nat) (w : World) (h : Es w b L) (h' : Es w b' L) (hf : L.length ≤ 1048576) :
    Calls Try.prog 16 #[.slice (some ⟨b, 0, none⟩) L.length cap, .slice (some ⟨b', 0, none⟩) L.length cap'] w fun e w' => e = .returned (.bool true) ∧ Below w.heap.size w w' := by
  go_enter Try.func16, Try.ntmps16
  go_wp2
  go_loopg [5] L.length (fun g i wr => ∃ k : Nat, k ≤ L.length ∧ g = L.length - k ∧ i = .int .i64 k ∧ Below w.heap.size w wr)
  case atStart => exact ⟨0, Nat.zero_le _, rfl, rfl, Below.refl _ _⟩
  case round =>
    obtain ⟨k, hk, rfl, rfl, hb⟩ := hrel
    by_cases hlt : k < L.length
    · obtain ⟨a1, a2, a3, a4⟩ := (h.below hb).at hlt
      obtain ⟨d1, d2, d3, d4⟩ := (h'.below hb).at hlt
      have bd : Below wr.heap.size wr wr.drew := (Below.refl _ _).drew
      generalize L.getD k e0 = q at a1 a2 a3 a4 d1 d2 d3 d4
      obtain ⟨n, d, sa, sb⟩ := q
      simp only at a1 a2 a3 a4 d1 d2 d3 d4
      have HE := eqE n d sa sb wr.drew
      go_wp2_with fail
      go_still_tail 8, (by kernel_rfl)
      change wpList _ _ _ _ _ wr.drew
      go_wp2_with fail
      refine HE.mono ?_
      rintro e w1 ⟨rfl, hb1⟩
      go_wp2
      go_roundg (L.length - (k + 1))
      case measure => omega
      case rel => exact ⟨k + 1, by omega, rfl, by simp, hb.trans (bd.trans hb1 |>.mono hb.size)⟩
    · have e : k = L.length := by omega
      subst e
      go_wp2
      go_ret
      exact ⟨rfl, hb⟩
end Go.Proofs.Ytkaakomiimcbmaa
