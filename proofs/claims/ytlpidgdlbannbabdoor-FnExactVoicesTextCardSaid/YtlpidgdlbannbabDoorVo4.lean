/- The size of what came in; lists of numbers asked for a number; lists of voices compared. -/
import Derived.Test.YtlpidgdlbannbabDoorVo3
namespace Go.Proofs.YtlpidgdlbannbabDoor
open Go.ChangeShapes Go.WideShapes Go.ChangeAt Go.RowKit Go.Deep
set_option linter.unusedSimpArgs false
set_option linter.unusedVariables false
theorem RowV.shape {w : World} {v : Value} {l : List Int} (h : RowV w v l) : ∃ a cap, v = .slice a l.length cap := by
  rcases h with ⟨rfl, rfl⟩ | ⟨x, cap, rfl, -, -⟩
  · exact ⟨none, 0, rfl⟩
  · exact ⟨_, cap, rfl⟩
def szOf (n : Nat) (left : Int) : Int := if left - n < 0 then -1 else left - n
theorem szI (v : Value) (l : List Int) (left : Int) (w : World) (h : RowV w v l) (hl : l.length ≤ 9223372036854775807) (h1 : 0 ≤ left) (h2 : left ≤ 1048576) :
    Calls Tryd.prog 17 #[v, .int .i64 left] w fun e w' => e = .returned (.int .i64 (szOf l.length left)) ∧ w = w' := by
  obtain ⟨a, cap, rfl⟩ := h.shape
  unfold szOf
  by_cases hc : left - l.length < 0
  · go_enter Tryd.func17, Tryd.ntmps17
    go_wp2
    go_ret
    simp [hc]
  · go_enter Tryd.func17, Tryd.ntmps17
    go_wp2
    go_ret
    simp [hc]
theorem szV (s : Bool) (v : Value) (l : List Int) (left : Int) (w : World) (h : RowV w v l) (hl : l.length ≤ 9223372036854775807) (h1 : 0 ≤ left) (h2 : left ≤ 1048576) :
    Calls Tryd.prog 9 #[.agg #[.bool s, v], .int .i64 left] w fun e w' => e = .returned (.int .i64 (szOf l.length left)) ∧ Below w.heap.size w w' := by
  obtain ⟨z, hz⟩ : ∃ z, szOf l.length left = z := ⟨_, rfl⟩
  have b1 := (Below.refl w.heap.size w).alloc (Nat.le_refl _) (.cells #[.bool s, v] 33)
  have HI := fun w h => szI v l left w h hl h1 h2
  rw [hz] at HI ⊢
  have hr : -1 ≤ z ∧ z ≤ 1048576 ∧ (z < 0 → z = -1) := by rw [← hz]; unfold szOf; split <;> omega
  obtain ⟨r1, r2, r3⟩ := hr
  by_cases hc : z < 0
  · obtain rfl := r3 hc
    go_enter Tryd.func9, Tryd.ntmps9
    go_wp2_with fail
    refine (HI _ (h.below b1)).mono ?_
    rintro e w1 ⟨rfl, rfl⟩
    go_wp2
    go_ret
    exact ⟨rfl, b1⟩
  · go_enter Tryd.func9, Tryd.ntmps9
    go_wp2_with fail
    refine (HI _ (h.below b1)).mono ?_
    rintro e w1 ⟨rfl, rfl⟩
    go_wp2
    go_ret
    exact ⟨rfl, b1⟩
/-- What the law's size test lets through. -/
def Fits (L : List Vc) : Prop := L.length ≤ 1048576 ∧ ∀ k, k < L.length → (L.getD k (false, [])).2.length ≤ 1048576
def Room (L : List Vc) : Prop := L.length ≤ 9223372036854775807 ∧ ∀ k, k < L.length → (L.getD k (false, [])).2.length ≤ 9223372036854775807
set_option maxRecDepth 100000 in
theorem szVS (v : Value) (L : List Vc) (w : World) (h : ListV w v L) (hr : Room L) :
    Calls Tryd.prog 4 #[v, .int .i64 1048576] w fun e w' => (∃ r, e = .returned (.int .i64 r) ∧ -1 ≤ r ∧ r ≤ 1048576 ∧ (0 ≤ r → Fits L)) ∧ Below w.heap.size w w' := by
  obtain ⟨hr1, hr2⟩ := hr
  rcases h with ⟨rfl, rfl⟩ | ⟨x, cap, rfl, hx, h⟩
  · go_enter Tryd.func4, Tryd.ntmps4
    go_wp2
    go_loopg [1, 5] 0 (fun g z i wr => z = .int .i64 1048576 ∧ i = .int .i64 0 ∧ wr = w)
    case atStart => exact ⟨rfl, rfl, rfl⟩
    case round =>
      obtain ⟨rfl, rfl, rfl⟩ := hrel
      go_wp2
      go_ret
      exact ⟨⟨_, rfl, by omega, by omega, fun _ => ⟨by simp, fun k hk => absurd hk (Nat.not_lt_zero _)⟩⟩, Below.refl _ _⟩
  · by_cases hbig : 1048576 < L.length
    · go_enter Tryd.func4, Tryd.ntmps4
      go_wp2
      go_ret
      exact ⟨⟨_, rfl, by omega, by omega, fun h => absurd h (by omega)⟩, Below.refl _ _⟩
    · go_enter Tryd.func4, Tryd.ntmps4
      go_wp2
      go_loopg [1, 5] L.length (fun g z i wr => ∃ (k : Nat) (r : Int), k ≤ L.length ∧ g = L.length - k ∧ z = .int .i64 r ∧ i = .int .i64 k ∧ 0 ≤ r ∧ r ≤ 1048576 ∧ Below w.heap.size w wr ∧ Hid (∀ j, j < k → (L.getD j (false, [])).2.length ≤ 1048576))
      case atStart => exact ⟨0, _, Nat.zero_le _, rfl, rfl, rfl, by omega, by omega, Below.refl _ _, fun j hj => absurd hj (Nat.not_lt_zero _)⟩
      case round =>
        obtain ⟨k, r, hk, rfl, rfl, rfl, q1, q2, hb, H⟩ := hrel
        by_cases hlt : k < L.length
        · have ha := (h.below hx hb) k hlt
          obtain ⟨v, a1, a2, a3⟩ := ha
          have eg : L.getD k (false, []) = L[k] := by simp [List.getD, hlt]
          have hlen := hr2 k hlt
          have HZ := fun s => szV s v _ r wr a3 hlen q1 q2
          obtain ⟨z, hz⟩ : ∃ z, szOf (L.getD k (false, [])).2.length r = z := ⟨_, rfl⟩
          have hzr : -1 ≤ z ∧ z ≤ 1048576 ∧ (z < 0 → z = -1) ∧ (0 ≤ z → (L.getD k (false, [])).2.length ≤ 1048576) := by rw [← hz]; unfold szOf; split <;> omega
          obtain ⟨z1, z2, z3, z4⟩ := hzr
          rw [hz] at HZ
          clear hz hlen a3
          have Z4 := Lib.hid z4
          clear z4
          by_cases hneg : z < 0
          · obtain rfl := z3 hneg
            go_wp2_with fail
            refine (HZ _).mono ?_
            rintro e w1 ⟨rfl, hb1⟩
            go_wp2
            go_ret
            exact ⟨⟨_, rfl, by omega, by omega, fun h => absurd h (by omega)⟩, hb.trans (hb1.mono hb.size)⟩
          · go_wp2_with fail
            refine (HZ _).mono ?_
            rintro e w1 ⟨rfl, hb1⟩
            go_wp2
            go_roundg (L.length - (k + 1))
            case measure => omega
            case rel =>
              refine ⟨k + 1, z, by omega, rfl, rfl, by simp, by omega, by omega, hb.trans (hb1.mono hb.size), fun j hj => ?_⟩
              by_cases e : j = k
              · subst e; exact Z4.out (by omega)
              · exact H.out j (by omega)
        · have e : k = L.length := by omega
          subst e
          go_wp2
          go_ret
          exact ⟨⟨_, rfl, by omega, by omega, fun _ => ⟨by omega, H.out⟩⟩, hb⟩
end Go.Proofs.YtlpidgdlbannbabDoor
