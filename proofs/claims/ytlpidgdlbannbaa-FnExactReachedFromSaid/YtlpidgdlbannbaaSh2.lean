/- Lists of lists of shares: their size, compared. -/
import Derived.Test.YtlpidgdlbannbaaSh1
import Derived.StillTailTactics
namespace Go.Proofs.Ytlpidgdlbannbaa
open Go.ChangeShapes Go.WideShapes Go.ChangeAt Go.RowKit Go.Deep
set_option linter.unusedSimpArgs false
set_option linter.unusedVariables false
theorem szS (v : Value) (l : List Sq) (left : Int) (w : World) (h : ListS w v l) (hl : l.length ≤ 9223372036854775807) (h1 : 0 ≤ left) (h2 : left ≤ 1048576) :
    Calls Try.prog 77 #[v, .int .i64 left] w fun e w' => e = .returned (.int .i64 (szOf l.length left)) ∧ w = w' := by
  obtain ⟨a, cap, rfl⟩ := h.shape
  unfold szOf
  by_cases hc : left - l.length < 0
  · go_enter Try.func77, Try.ntmps77
    go_wp2
    go_ret
    simp [hc]
  · go_enter Try.func77, Try.ntmps77
    go_wp2
    go_ret
    simp [hc]
/-- What the law's size test lets through. -/
def FitsS (L : List (List Sq)) : Prop := L.length ≤ 1048576 ∧ ∀ k, k < L.length → (L.getD k []).length ≤ 1048576
def RoomS (L : List (List Sq)) : Prop := L.length ≤ 9223372036854775807 ∧ ∀ k, k < L.length → (L.getD k []).length ≤ 9223372036854775807
set_option maxRecDepth 100000 in
theorem szSS (v : Value) (L : List (List Sq)) (w : World) (h : ListSS w v L) (hr : RoomS L) :
    Calls Try.prog 44 #[v, .int .i64 1048576] w fun e w' => (∃ r, e = .returned (.int .i64 r) ∧ -1 ≤ r ∧ r ≤ 1048576 ∧ (0 ≤ r → FitsS L)) ∧ Below w.heap.size w w' := by
  obtain ⟨hr1, hr2⟩ := hr
  rcases h with ⟨rfl, rfl⟩ | ⟨x, cap, rfl, hx, h⟩
  · go_enter Try.func44, Try.ntmps44
    go_wp2
    go_loopg [1, 5] 0 (fun g z i wr => z = .int .i64 1048576 ∧ i = .int .i64 0 ∧ wr = w)
    case atStart => exact ⟨rfl, rfl, rfl⟩
    case round =>
      obtain ⟨rfl, rfl, rfl⟩ := hrel
      go_wp2
      go_ret
      exact ⟨⟨_, rfl, by omega, by omega, fun _ => ⟨by simp, fun k hk => absurd hk (Nat.not_lt_zero _)⟩⟩, Below.refl _ _⟩
  · by_cases hbig : 1048576 < L.length
    · go_enter Try.func44, Try.ntmps44
      go_wp2
      go_ret
      exact ⟨⟨_, rfl, by omega, by omega, fun h => absurd h (by omega)⟩, Below.refl _ _⟩
    · go_enter Try.func44, Try.ntmps44
      go_wp2
      go_loopg [1, 5] L.length (fun g z i wr => ∃ (k : Nat) (r : Int), k ≤ L.length ∧ g = L.length - k ∧ z = .int .i64 r ∧ i = .int .i64 k ∧ 0 ≤ r ∧ r ≤ 1048576 ∧ w = wr ∧ Hid (∀ j, j < k → (L.getD j []).length ≤ 1048576))
      case atStart => exact ⟨0, _, Nat.zero_le _, rfl, rfl, rfl, by omega, by omega, rfl, fun j hj => absurd hj (Nat.not_lt_zero _)⟩
      case round =>
        obtain ⟨k, r, hk, rfl, rfl, rfl, q1, q2, rfl, H⟩ := hrel
        by_cases hlt : k < L.length
        · obtain ⟨v, a1, a3⟩ := h k hlt
          have eg : L.getD k [] = L[k] := by simp [List.getD, hlt]
          have hlen := hr2 k hlt
          have HZ := szS v _ r w a3 hlen q1 q2
          obtain ⟨z, hz⟩ : ∃ z, szOf (L.getD k []).length r = z := ⟨_, rfl⟩
          have hzr : -1 ≤ z ∧ z ≤ 1048576 ∧ (z < 0 → z = -1) ∧ (0 ≤ z → (L.getD k []).length ≤ 1048576) := by rw [← hz]; unfold szOf; split <;> omega
          obtain ⟨z1, z2, z3, z4⟩ := hzr
          rw [hz] at HZ
          clear hz hlen a3
          have Z4 := Lib.hid z4
          clear z4
          by_cases hneg : z < 0
          · obtain rfl := z3 hneg
            go_wp2_with fail
            refine HZ.mono ?_
            rintro e w1 ⟨rfl, rfl⟩
            go_wp2
            go_ret
            exact ⟨⟨_, rfl, by omega, by omega, fun h => absurd h (by omega)⟩, Below.refl _ _⟩
          · go_wp2_with fail
            refine HZ.mono ?_
            rintro e w1 ⟨rfl, rfl⟩
            go_wp2
            go_roundg (L.length - (k + 1))
            case measure => omega
            case rel =>
              refine ⟨k + 1, z, by omega, rfl, rfl, by simp, by omega, by omega, rfl, fun j hj => ?_⟩
              by_cases e : j = k
              · subst e; exact Z4.out (by omega)
              · exact H.out j (by omega)
        · have e : k = L.length := by omega
          subst e
          go_wp2
          go_ret
          exact ⟨⟨_, rfl, by omega, by omega, fun _ => ⟨by omega, H.out⟩⟩, Below.refl _ _⟩
theorem ListS.cons {w : World} {v : Value} {l : List Sq} (h : ListS w v l) (hl : l ≠ []) : ∃ x cap, v = .slice (some x) l.length cap ∧ x.block < w.heap.size ∧ ArgS w x l := by
  rcases h with ⟨_, h⟩ | h
  · exact absurd h hl
  · obtain ⟨x, cap, e, hx, hc⟩ := h
    exact ⟨x, cap, e, hx (List.length_pos_iff.2 hl), hc⟩
theorem ListSS.cons {w : World} {v : Value} {l : List (List Sq)} (h : ListSS w v l) (hl : l ≠ []) : ∃ x cap, v = .slice (some x) l.length cap ∧ x.block < w.heap.size ∧ ArgSS w x l := by
  rcases h with ⟨_, h⟩ | h
  · exact absurd h hl
  · obtain ⟨x, cap, e, hx, hc⟩ := h
    exact ⟨x, cap, e, hx (List.length_pos_iff.2 hl), hc⟩
theorem ListSS.shape {w : World} {v : Value} {L : List (List Sq)} (h : ListSS w v L) : ∃ a cap, v = .slice a L.length cap := by
  rcases h with ⟨rfl, rfl⟩ | ⟨x, cap, rfl, -, -⟩
  · exact ⟨none, 0, rfl⟩
  · exact ⟨_, cap, rfl⟩
theorem eqSh (n d : Int) (w : World) : Calls Try.prog 106 #[.agg #[.int .i64 n, .int .i64 d], .agg #[.int .i64 n, .int .i64 d]] w fun e w' => e = .returned (.bool true) ∧ Below w.heap.size w w' := by
  have b1 := ((Below.refl w.heap.size w).alloc (Nat.le_refl _) (.cells #[.int .i64 n, .int .i64 d] 86)).alloc (by simp) (.cells #[.int .i64 n, .int .i64 d] 86)
  go_enter Try.func106, Try.ntmps106
  go_wp2
  go_ret
  exact ⟨rfl, b1⟩
set_option maxRecDepth 100000 in
theorem eqShS (v v' : Value) (L : List Sq) (w : World) (h : ListS w v L) (h' : ListS w v' L) (hf : L.length ≤ 9223372036854775807) :
    Calls Try.prog 74 #[v, v'] w fun e w' => e = .returned (.bool true) ∧ Below w.heap.size w w' := by
  by_cases e : L = []
  · subst e
    obtain ⟨a, cap, rfl⟩ := h.shape
    obtain ⟨a', cap', rfl⟩ := h'.shape
    clear h h'
    go_enter Try.func74, Try.ntmps74
    go_wp2
    go_loopg [5] 0 (fun g i wr => i = .int .i64 0 ∧ w = wr)
    case atStart => exact ⟨rfl, rfl⟩
    case round =>
      obtain ⟨rfl, rfl⟩ := hrel
      go_wp2
      go_ret
      exact ⟨rfl, Below.refl _ _⟩
  · obtain ⟨x, cap, rfl, hx, hc⟩ := h.cons e
    obtain ⟨x', cap', rfl, hx', hc'⟩ := h'.cons e
    clear h h'
    go_enter Try.func74, Try.ntmps74
    go_wp2
    go_loopg [5] L.length (fun g i wr => ∃ k : Nat, k ≤ L.length ∧ g = L.length - k ∧ i = .int .i64 k ∧ Below w.heap.size w wr)
    case atStart => exact ⟨0, Nat.zero_le _, rfl, rfl, Below.refl _ _⟩
    case round =>
      obtain ⟨k, hk, rfl, rfl, hb⟩ := hrel
      by_cases hlt : k < L.length
      · obtain ⟨a1, a2⟩ := (hc.below (fun _ => hx) hb) k hlt
        obtain ⟨d1, d2⟩ := (hc'.below (fun _ => hx') hb) k hlt
        have bd : Below wr.heap.size wr wr.drew := (Below.refl _ _).drew
        generalize L.getD k (0, 0) = q at a1 a2 d1 d2
        obtain ⟨n, d⟩ := q
        simp only at a1 a2 d1 d2
        have HE := eqSh n d wr.drew
        clear hc hc'
        go_wp2_with fail
        go_still_tail 8, (by kernel_rfl)
        change wpList _ _ _ _ _ wr.drew
        go_wp2_with fail
        refine HE.mono ?_
        rintro e w1 ⟨rfl, hb1⟩
        go_wp2
        go_roundg (L.length - (k + 1))
        case measure => omega
        case rel => exact ⟨k + 1, by omega, rfl, by simp, hb.trans (bd.trans hb1 |>.mono hb.size)⟩
      · have e : k = L.length := by omega
        subst e
        go_wp2
        go_ret
        exact ⟨rfl, hb⟩
set_option maxRecDepth 100000 in
theorem eqSS (v v' : Value) (L : List (List Sq)) (w : World) (h : ListSS w v L) (h' : ListSS w v' L) (hf : FitsS L) :
    Calls Try.prog 41 #[v, v'] w fun e w' => e = .returned (.bool true) ∧ Below w.heap.size w w' := by
  obtain ⟨hf1, hf2⟩ := hf
  by_cases e : L = []
  · subst e
    obtain ⟨a, cap, rfl⟩ := h.shape
    obtain ⟨a', cap', rfl⟩ := h'.shape
    clear h h'
    go_enter Try.func41, Try.ntmps41
    go_wp2
    go_loopg [5] 0 (fun g i wr => i = .int .i64 0 ∧ w = wr)
    case atStart => exact ⟨rfl, rfl⟩
    case round =>
      obtain ⟨rfl, rfl⟩ := hrel
      go_wp2
      go_ret
      exact ⟨rfl, Below.refl _ _⟩
  · obtain ⟨x, cap, rfl, hx, hc⟩ := h.cons e
    obtain ⟨x', cap', rfl, hx', hc'⟩ := h'.cons e
    clear h h'
    go_enter Try.func41, Try.ntmps41
    go_wp2
    go_loopg [5] L.length (fun g i wr => ∃ k : Nat, k ≤ L.length ∧ g = L.length - k ∧ i = .int .i64 k ∧ Below w.heap.size w wr)
    case atStart => exact ⟨0, Nat.zero_le _, rfl, rfl, Below.refl _ _⟩
    case round =>
      obtain ⟨k, hk, rfl, rfl, hb⟩ := hrel
      by_cases hlt : k < L.length
      · obtain ⟨u, a1, a3⟩ := (hc.below (fun _ => hx) hb) k hlt
        obtain ⟨u', d1, d3⟩ := (hc'.below (fun _ => hx') hb) k hlt
        have hlen := hf2 k hlt
        have bd : Below wr.heap.size wr wr.drew := (Below.refl _ _).drew
        generalize L.getD k [] = q at a3 d3 hlen
        have HE := eqShS _ _ q wr.drew (a3.below bd) (d3.below bd) (by omega)
        clear a3 d3 hlen hc hc'
        go_wp2_with fail
        go_still_tail 8, (by kernel_rfl)
        change wpList _ _ _ _ _ wr.drew
        go_wp2_with fail
        refine HE.mono ?_
        rintro e w1 ⟨rfl, hb1⟩
        go_wp2
        go_roundg (L.length - (k + 1))
        case measure => omega
        case rel => exact ⟨k + 1, by omega, rfl, by simp, hb.trans (bd.trans hb1 |>.mono hb.size)⟩
      · have e : k = L.length := by omega
        subst e
        go_wp2
        go_ret
        exact ⟨rfl, hb⟩
theorem Shs.list {w : World} {c : Nat} {l : List Sq} (h : Shs w c l) (cap : Nat) : ListS w (.slice (some ⟨c, 0, none⟩) l.length cap) l :=
  .inr ⟨_, cap, rfl, fun _ => World.rowIs.lt h, fun k hk => by
    obtain ⟨h1, h2⟩ := h.at hk
    rw [Addr.add_lit, Nat.zero_add]
    exact ⟨h1, h2⟩⟩
theorem SS.list {w : World} {base b : Nat} {L : List (List Sq)} (h : SS w base b L) (cap : Nat) : ListSS w (.slice (some ⟨b, 0, none⟩) L.length cap) L :=
  .inr ⟨_, cap, rfl, fun _ => h.lt, fun k hk => by
    obtain ⟨c, h1, h2⟩ := h.at hk
    rw [Addr.add_lit, Nat.zero_add]
    exact ⟨_, h1, h2.list _⟩⟩
end Go.Proofs.Ytlpidgdlbannbaa
