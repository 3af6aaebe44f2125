/- Sums of ranks and ranks compared: the specification's l02Sum and l02Less by contracts. -/
import Derived.Test.YtlpidgdlbannbaaVr2
namespace Go.Proofs.Ytlpidgdlbannbaa
open Go.ChangeShapes Go.WideShapes Go.ChangeAt Go.RowKit Go.Deep
set_option linter.unusedSimpArgs false
set_option linter.unusedVariables false
/-- The sum of the first k numbers of l. -/
def sumTo (l : List Int) : Nat → Int
  | 0 => 0
  | k + 1 => sumTo l k + l.getD k 0
theorem sumTo_bd {l : List Int} (h : ∀ n ∈ l, -2000000 ≤ n ∧ n ≤ 2000000) : ∀ k, k ≤ l.length → -(2000000 * (k : Int)) ≤ sumTo l k ∧ sumTo l k ≤ 2000000 * (k : Int) := by
  intro k
  induction k with
  | zero => intro _; simp [sumTo]
  | succ k ih =>
    intro hk
    have h1 := ih (by omega)
    have h2 : l.getD k 0 ∈ l := by rw [getD_of (by omega)]; exact List.getElem_mem _
    have h3 := h _ h2
    simp only [sumTo]
    omega
set_option maxRecDepth 100000 in
theorem ssum_any (v : Value) (l : List Int) (w : World) (h : RowV w v l) (hl : l.length ≤ 1048576) (hb : ∀ n ∈ l, -2000000 ≤ n ∧ n ≤ 2000000) :
    Calls Try.prog 90 #[v] w fun e w' => e = .returned (.int .i64 (sumTo l l.length)) ∧ w = w' := by
  have HB := Lib.hid (sumTo_bd hb)
  clear hb
  by_cases e : l = []
  · subst e
    obtain ⟨a, cap, rfl⟩ := h.shape
    clear h
    go_enter Try.func90, Try.ntmps90
    go_wp2
    go_loopg [3, 4] 0 (fun g s i wr => s = .int .i64 0 ∧ i = .int .i64 0 ∧ w = wr)
    case atStart => exact ⟨rfl, rfl, rfl⟩
    case round =>
      obtain ⟨rfl, rfl, rfl⟩ := hrel
      go_wp2
      go_ret
      exact ⟨rfl, rfl⟩
  · obtain ⟨x, cap, rfl, hx, hc⟩ := h.cons e
    clear h
    go_enter Try.func90, Try.ntmps90
    go_wp2
    go_loopg [3, 4] l.length (fun g s i wr => ∃ (k : Nat) (z : Int), k ≤ l.length ∧ g = l.length - k ∧ s = .int .i64 z ∧ i = .int .i64 k ∧ w = wr ∧ Hid (sumTo l k = z))
    case atStart => exact ⟨0, 0, Nat.zero_le _, rfl, rfl, rfl, rfl, rfl⟩
    case round =>
      obtain ⟨k, z, hk, rfl, rfl, rfl, rfl, H⟩ := hrel
      by_cases hlt : k < l.length
      · have c1 := hc k hlt
        have b1 := HB.out k hk
        have b2 := HB.out (k + 1) (by omega)
        simp only [sumTo] at b2
        rw [H.out] at b1 b2
        obtain ⟨y, hy⟩ : ∃ y, l.getD k 0 = y := ⟨_, rfl⟩
        rw [hy] at c1 b2
        have HY := Lib.hid hy
        have wz : IntKind.i64.wrap (z + y) = z + y := by rw [IntKind.wrap_i64]; omega
        clear hy hc b1 b2
        go_wp2
        go_roundg (l.length - (k + 1))
        case measure => omega
        case rel => exact ⟨k + 1, z + y, by omega, rfl, by first | rfl | simp, by simp, rfl, by show sumTo l (k + 1) = _; simp only [sumTo]; rw [H.out, HY.out]⟩
      · have e : k = l.length := by omega
        subst e
        go_wp2
        go_ret
        exact ⟨by rw [H.out]; rfl, rfl⟩
/-- Lists of numbers compared. -/
def lessL : List Int → List Int → Int
  | [], [] => 0
  | [], _ :: _ => -1
  | _ :: _, [] => 1
  | x :: a, y :: b => if x < y then -1 else if y < x then 1 else lessL a b
theorem lessL_step {a b : List Int} {k : Nat} (h1 : k < a.length) (h2 : k < b.length) : lessL (a.drop k) (b.drop k) = if a.getD k 0 < b.getD k 0 then -1 else if b.getD k 0 < a.getD k 0 then 1 else lessL (a.drop (k + 1)) (b.drop (k + 1)) := by
  rw [List.drop_eq_getElem_cons h1, List.drop_eq_getElem_cons h2, lessL, getD_of h1, getD_of h2]
theorem lessL_done {a b : List Int} {k : Nat} (h1 : k ≤ a.length) (h2 : k ≤ b.length) (h3 : ¬ (k < a.length ∧ k < b.length)) : lessL (a.drop k) (b.drop k) = if a.length < b.length then -1 else if b.length < a.length then 1 else 0 := by
  by_cases ha : k < a.length
  · have hb : k = b.length := by omega
    rw [List.drop_eq_getElem_cons ha, List.drop_of_length_le (by omega : b.length ≤ k), lessL, if_neg (by omega), if_pos (by omega)]
  · by_cases hb : k < b.length
    · rw [List.drop_eq_getElem_cons hb, List.drop_of_length_le (by omega : a.length ≤ k), lessL, if_pos (by omega)]
    · rw [List.drop_of_length_le (by omega : a.length ≤ k), List.drop_of_length_le (by omega : b.length ≤ k), lessL, if_neg (by omega), if_neg (by omega)]
set_option maxHeartbeats 600000 in
set_option maxRecDepth 100000 in
theorem sless_any (x x' : Addr) (cap cap' : Nat) (a b : List Int) (w : World) (h : RowV w (.slice (some x) a.length cap) a) (h' : RowV w (.slice (some x') b.length cap') b) (hl : a.length ≤ 1048576) (hl' : b.length ≤ 1048576) :
    Calls Try.prog 91 #[.slice (some x) a.length cap, .slice (some x') b.length cap'] w fun e w' => e = .returned (.int .i64 (lessL a b)) ∧ Below w.heap.size w w' := by
  have cells : ∀ {w : World} {x : Addr} {l : List Int} {c : Nat}, RowV w (.slice (some x) l.length c) l → ∀ i, i < l.length → x.block < w.heap.size ∧ w.cell? (x.add i) = some (.int .i64 (l.getD i 0)) := by
    intro w x l c q i hi
    rcases q with ⟨q, _⟩ | ⟨y, c', q, hy, hc⟩
    · cases q
    · simp only [Value.slice.injEq, Option.some.injEq] at q
      obtain ⟨rfl, -, -⟩ := q
      exact ⟨hy (by omega), hc i hi⟩
  have hA := Lib.hid (cells h)
  have hB := Lib.hid (cells h')
  clear h h' cells
  go_enter Try.func91, Try.ntmps91
  go_wp2
  go_loopg [5] a.length (fun g i wr => ∃ k : Nat, k ≤ a.length ∧ k ≤ b.length ∧ g = a.length - k ∧ i = .int .i64 k ∧ Below w.heap.size w wr ∧ Hid (lessL a b = lessL (a.drop k) (b.drop k)))
  case atStart => exact ⟨0, Nat.zero_le _, Nat.zero_le _, rfl, rfl, Below.refl _ _, by show _ = _; simp⟩
  case round =>
    obtain ⟨k, hk, hk', rfl, rfl, hb, H⟩ := hrel
    by_cases h1 : k < a.length
    · by_cases h2 : k < b.length
      · obtain ⟨u1, c1⟩ := hA.out k h1
        obtain ⟨u2, c2⟩ := hB.out k h2
        have c1' := (hb.cell (p := x.add k) (by rw [block_add]; exact u1)).trans c1
        have c2' := (hb.cell (p := x'.add k) (by rw [block_add]; exact u2)).trans c2
        have hs := lessL_step h1 h2
        obtain ⟨y, hy⟩ : ∃ y, a.getD k 0 = y := ⟨_, rfl⟩
        obtain ⟨z, hz⟩ : ∃ z, b.getD k 0 = z := ⟨_, rfl⟩
        rw [hy] at c1' hs
        rw [hz] at c2' hs
        have HS := Lib.hid hs
        clear c1 c2 hy hz hs u1 u2
        rcases Int.lt_trichotomy y z with q | q | q
        · go_wp2_with fail
          go_quiet (fail)
          go_wp2
          go_ret
          exact ⟨by rw [H.out, HS.out, if_pos q]; rfl, below_drewN hb _⟩
        · subst q
          go_wp2_with fail
          go_quiet (fail)
          go_wp2_with fail
          go_quiet (fail)
          go_wp2
          go_roundg (a.length - (k + 1))
          case measure => omega
          case rel => exact ⟨k + 1, by omega, by omega, rfl, by simp, by first | exact below_drewN hb _ | exact below_drewN (below_drewN hb _) _, by show _ = _; rw [H.out, HS.out, if_neg (by omega), if_neg (by omega)]⟩
        · go_wp2_with fail
          go_quiet (fail)
          go_wp2_with fail
          go_quiet (fail)
          go_wp2
          go_ret
          exact ⟨by rw [H.out, HS.out, if_neg (by omega), if_pos q]; rfl, by first | exact below_drewN hb _ | exact below_drewN (below_drewN hb _) _⟩
      · have hd := lessL_done hk hk' (by omega)
        have HD := Lib.hid hd
        have e : k = b.length := by omega
        clear hd
        have q1 : b.length < a.length := by omega
        subst e
        go_wp2
        go_ret
        exact ⟨by rw [H.out, HD.out, if_neg (by omega), if_pos q1]; rfl, hb⟩
    · have hd := lessL_done hk hk' (by omega)
      have HD := Lib.hid hd
      have e : k = a.length := by omega
      clear hd
      subst e
      by_cases q1 : a.length < b.length
      · go_wp2
        go_ret
        exact ⟨by rw [H.out, HD.out, if_pos q1]; rfl, hb⟩
      · have q2 : b.length = a.length := by omega
        go_wp2
        go_ret
        exact ⟨by rw [H.out, HD.out, if_neg (by omega), if_neg (by omega)]; rfl, hb⟩
set_option maxHeartbeats 600000 in
set_option maxRecDepth 100000 in
theorem sless_gen (v v' : Value) (a b : List Int) (w : World) (h : RowV w v a) (h' : RowV w v' b) (hl : a.length ≤ 1048576) (hl' : b.length ≤ 1048576) :
    Calls Try.prog 91 #[v, v'] w fun e w' => e = .returned (.int .i64 (lessL a b)) ∧ Below w.heap.size w w' := by
  by_cases hab : a = [] ∨ b = []
  · obtain ⟨x, c, rfl⟩ := h.shape
    obtain ⟨x', c', rfl⟩ := h'.shape
    have hd := lessL_done (a := a) (b := b) (k := 0) (Nat.zero_le _) (Nat.zero_le _) (by rcases hab with q | q <;> (subst q; simp))
    simp only [List.drop_zero] at hd
    have hno : ¬ (0 < a.length ∧ 0 < b.length) := by rcases hab with q | q <;> (subst q; simp)
    have HD := Lib.hid hd
    clear hd hab h h'
    by_cases ha : 0 < a.length
    · have hb0 : b.length = 0 := by omega
      go_enter Try.func91, Try.ntmps91
      go_wp2
      go_loopg [5] 0 (fun g i wr => i = .int .i64 0 ∧ w = wr)
      case atStart => exact ⟨rfl, rfl⟩
      case round =>
        obtain ⟨rfl, rfl⟩ := hrel
        go_wp2
        go_ret
        exact ⟨by rw [HD.out, if_neg (by omega), if_pos (by omega)]; rfl, Below.refl _ _⟩
    · have ha0 : a.length = 0 := by omega
      by_cases hb : 0 < b.length
      · go_enter Try.func91, Try.ntmps91
        go_wp2
        go_loopg [5] 0 (fun g i wr => i = .int .i64 0 ∧ w = wr)
        case atStart => exact ⟨rfl, rfl⟩
        case round =>
          obtain ⟨rfl, rfl⟩ := hrel
          go_wp2
          go_ret
          exact ⟨by rw [HD.out, if_pos (by omega)]; rfl, Below.refl _ _⟩
      · have hb0 : b.length = 0 := by omega
        go_enter Try.func91, Try.ntmps91
        go_wp2
        go_loopg [5] 0 (fun g i wr => i = .int .i64 0 ∧ w = wr)
        case atStart => exact ⟨rfl, rfl⟩
        case round =>
          obtain ⟨rfl, rfl⟩ := hrel
          go_wp2
          go_ret
          exact ⟨by rw [HD.out, if_neg (by omega), if_neg (by omega)]; rfl, Below.refl _ _⟩
  · obtain ⟨x, c, rfl, _, _⟩ := h.cons (fun q => hab (.inl q))
    obtain ⟨x', c', rfl, _, _⟩ := h'.cons (fun q => hab (.inr q))
    exact sless_any x x' c c' a b w h h' hl hl'
end Go.Proofs.Ytlpidgdlbannbaa
