/- Whether a profile is valid: the program's look. -/
import Derived.Test.YtnpolmanebmmcaaDoorRp2
import Derived.Test.YtnpolmanebmmcaaDoorCt1
namespace Go.Proofs.YtnpolmanebmmcaaDoor
open Go.ChangeShapes Go.WideShapes Go.ChangeAt Go.RowKit Go.Deep
set_option linter.unusedSimpArgs false
set_option linter.unusedVariables false
set_option maxHeartbeats 1000000 in
theorem irank (v : Value) (l : List Int) (n : Nat) (w : World) (h : RowV w v l) (hl : l.length ≤ 1048576) (hn : n ≤ 1048576) :
    Calls Tryd.prog 27 #[.int .i64 (n : Int), v] w fun e w' => e = .returned (.bool (rkB n l)) ∧ Below w.heap.size w w' := by
  obtain ⟨a, cap, hv⟩ := h.shape
  have HD := diffI a l.length cap v l w h hl hl
  subst hv
  clear h
  obtain ⟨z, hz⟩ : ∃ z, allDiffB l.length l = z := ⟨_, rfl⟩
  rw [hz] at HD
  have HZ := Lib.hid hz
  clear hz
  by_cases hne : l.length = n
  · subst hne
    go_enter Tryd.func27, Tryd.ntmps27
    go_wp2_with fail
    refine HD.mono ?_
    rintro e w1 ⟨rfl, hb⟩
    go_wp2
    go_ret
    refine ⟨?_, hb⟩
    cases z with
    | true => rw [rkB_yes ⟨rfl, by have := HZ.out; unfold allDiffB at this; exact @of_decide_eq_true _ (_) this⟩]; rfl
    | false => rw [rkB_no (fun ho => by have := HZ.out; rw [allDiffB_yes ho.2] at this; cases this)]; rfl
  · have HE := Lib.hid hne
    have hne' : ¬ (l.length : Int) = (n : Int) := by omega
    clear HD
    go_enter Tryd.func27, Tryd.ntmps27
    go_wp2
    go_ret
    exact ⟨by rw [rkB_no (fun ho => HE.out ho.1)]; rfl, Below.refl _ _⟩
theorem ival1 (n p : Nat) (u : Value) (l : List Int) (w : World) (hu : RowV w u l) (hl : l.length ≤ 1048576) (hn : n ≤ 1048576) (hc : w.cell? ⟨p, 0, none⟩ = some (.int .i64 (n : Int))) :
    Calls Tryd.prog 26 (#[u] ++ #[.pointer (some ⟨p, 0, none⟩)]) w fun e w' => e = .returned (.bool (!rkB n l)) ∧ Below w.heap.size w w' := by
  show Calls Tryd.prog 26 #[u, .pointer (some ⟨p, 0, none⟩)] w _
  have HS := irank u l n w hu hl hn
  generalize rkB n l = z at HS ⊢
  clear hu
  go_enter Tryd.func26, Tryd.ntmps26
  go_wp2_with fail
  refine HS.mono ?_
  rintro e w1 ⟨rfl, hb⟩
  go_wp2
  go_ret
  exact ⟨by first | rfl | (cases z <;> rfl), hb⟩
/-- All numbers of a list are 0 to 1000. -/
def wIn (l : List Int) : Prop := ∀ k, k < l.length → 0 ≤ l.getD k 0 ∧ l.getD k 0 ≤ 1000
def SumK (l : List Int) (w : World) (e : Ending) (w' : World) : Prop := ∃ (x : Int) (z : Bool), e = .returned (.tuple #[.int .i64 x, .bool z]) ∧ w = w' ∧ (z = true ↔ wIn l)
set_option maxHeartbeats 1000000 in
theorem isumk (v : Value) (l : List Int) (w : World) (h : RowV w v l) (hl : l.length ≤ 1048576) :
    Calls Tryd.prog 31 #[v, .int .i64 1000] w (SumK l w) := by
  by_cases e : l = []
  · subst e
    obtain ⟨a, cap, rfl⟩ := h.shape
    clear h
    go_enter Tryd.func31, Tryd.ntmps31
    go_wp2
    go_loopg [6, 11] 0 (fun g s i wr => s = .int .i64 0 ∧ i = .int .i64 0 ∧ w = wr)
    case atStart => exact ⟨rfl, rfl, rfl⟩
    case round =>
      obtain ⟨rfl, rfl, rfl⟩ := hrel
      go_wp2
      go_ret2
      exact ⟨_, _, rfl, rfl, ⟨fun _ k hk => absurd hk (Nat.not_lt_zero _), fun _ => rfl⟩⟩
  · obtain ⟨x, cap, rfl, hx, hc⟩ := h.cons e
    clear h
    go_enter Tryd.func31, Tryd.ntmps31
    go_wp2
    go_loopg [6, 11] l.length (fun g s i wr => ∃ (k : Nat) (z : Int), k ≤ l.length ∧ g = l.length - k ∧ s = .int .i64 z ∧ i = .int .i64 k ∧ w = wr ∧ 0 ≤ z ∧ z ≤ 1000 * k ∧ Hid (∀ j, j < k → 0 ≤ l.getD j 0 ∧ l.getD j 0 ≤ 1000))
    case atStart => exact ⟨0, 0, Nat.zero_le _, rfl, rfl, rfl, rfl, by omega, by omega, fun j hj => absurd hj (Nat.not_lt_zero _)⟩
    case round =>
      obtain ⟨k, z, hk, rfl, rfl, rfl, rfl, z1, z2, HK⟩ := hrel
      by_cases hlt : k < l.length
      · have c1 := hc k hlt
        obtain ⟨y, hy⟩ : ∃ y, l.getD k 0 = y := ⟨_, rfl⟩
        rw [hy] at c1
        have HY := Lib.hid hy
        clear hy hc
        by_cases h1 : y < 0
        · go_wp2
          go_ret2
          exact ⟨_, _, rfl, rfl, ⟨fun h => (by cases h), fun h => by have := h k hlt; rw [HY.out] at this; omega⟩⟩
        · by_cases h2 : 1000 < y
          · go_wp2
            go_ret2
            exact ⟨_, _, rfl, rfl, ⟨fun h => (by cases h), fun h => by have := h k hlt; rw [HY.out] at this; omega⟩⟩
          · have wz : IntKind.i64.wrap (z + y) = z + y := by rw [IntKind.wrap_i64]; omega
            go_wp2
            go_roundg (l.length - (k + 1))
            case measure => omega
            case rel =>
              refine ⟨k + 1, z + y, by omega, rfl, by first | rfl | rw [wz], by simp, rfl, by omega, by omega, fun j hj => ?_⟩
              by_cases e : j = k
              · subst e; rw [HY.out]; exact ⟨by omega, by omega⟩
              · exact HK.out j (by omega)
      · obtain rfl : k = l.length := by omega
        go_wp2
        go_ret2
        exact ⟨_, _, rfl, rfl, ⟨fun _ => HK.out, fun _ => rfl⟩⟩
end Go.Proofs.YtnpolmanebmmcaaDoor
