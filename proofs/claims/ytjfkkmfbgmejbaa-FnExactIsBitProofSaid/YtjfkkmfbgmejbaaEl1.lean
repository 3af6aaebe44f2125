/- Lists of lists of numbers that came in: copied, their size. -/
import Derived.Test.YtjfkkmfbgmejbaaKJ
namespace Go.Proofs.Ytjfkkmfbgmejbaa
open Go.ChangeShapes Go.WideShapes Go.ChangeAt Go.RowKit Go.Deep
set_option linter.unusedSimpArgs false
set_option linter.unusedVariables false
theorem ListJ.below {w w' : World} {v : Value} {L : List (List Int)} (h : ListJ w v L) (hb : Below w.heap.size w w') : ListJ w' v L := by
  rcases h with h | ⟨x, cap, rfl, hx, h⟩
  · exact .inl h
  · exact .inr ⟨x, cap, rfl, fun h => Nat.lt_of_lt_of_le (hx h) hb.size, h.below hx hb⟩
/-- What cell j of the new row holds when the first k lists are laid. -/
def jjf (L : List (List Int)) (c : Nat → Nat) (k : Nat) : Nat → Value := fun j => if j < k then .slice (some ⟨c j, 0, none⟩) (L.getD j []).length (L.getD j []).length else .slice none 0 0
/-- The first k lists of L lie copied, their row in block b, they themselves in blocks above base, each in one of its own. -/
structure CopyJ (base b : Nat) (wr : World) (L : List (List Int)) (n k : Nat) (c : Nat → Nat) : Prop where
  row : wr.rowIs b 22 n (jjf L c k)
  own : ∀ j, j < k → base < c j ∧ OwnI wr (c j) (L.getD j [])
  inj : ∀ i j, i < j → j < k → c i ≠ c j
theorem copyJ_step {base b : Nat} {wr w1 : World} {L : List (List Int)} {n k : Nat} {c : Nat → Nat} {c' : Nat} (h : CopyJ base b wr L n k c) (hb : Below wr.heap.size wr w1) (hbb : b ≤ base) (hlt : base < c') (hnew : wr.heap.size ≤ c') (ho : OwnI w1 c' (L.getD k [])) :
    CopyJ base b (w1.setCell ⟨b, k, none⟩ (.slice (some ⟨c', 0, none⟩) (L.getD k []).length (L.getD k []).length)) L n (k + 1) (fun i => if i = k then c' else c i) := by
  refine ⟨((World.rowIs.of_block h.row (hb.block b h.row.lt)).set k _).congr (fun j _ => ?_), fun j hj => ?_, fun i j hij hj => ?_⟩
  · unfold jjf
    by_cases e : j = k
    · subst e; simp
    · rw [if_neg e]
      by_cases hlt : j < k
      · rw [if_pos hlt, if_pos (by omega)]; simp [e]
      · rw [if_neg hlt, if_neg (by omega)]
  · by_cases e : j = k
    · subst e
      simp only [if_pos rfl]
      exact ⟨hlt, World.rowIs.setOther ho (by show c' ≠ b; omega) _⟩
    · rw [if_neg e]
      obtain ⟨q1, q2⟩ := h.own j (by omega)
      exact ⟨q1, World.rowIs.setOther (q2.below hb) (by show c j ≠ b; omega) _⟩
  · have hi : i ≠ k := by omega
    rw [if_neg hi]
    by_cases e : j = k
    · rw [if_pos e]
      have := World.rowIs.lt (h.own i (by omega)).2
      omega
    · rw [if_neg e]; exact h.inj i j hij (by omega)
set_option maxRecDepth 100000 in
theorem toJ_some (x : Addr) (L : List (List Int)) (cap : Nat) (w : World) (hx : 0 < L.length → x.block < w.heap.size) (h : ArgJ w x L) (hn : L.length ≤ 1048576) (hl : ∀ k, k < L.length → (L.getD k []).length ≤ 1048576) :
    Calls Try.prog 25 #[.slice (some x) L.length cap] w fun e w' => e = .returned (.slice (some ⟨w.heap.size, 0, none⟩) L.length L.length) ∧ (∃ c, CopyJ w.heap.size w.heap.size w' L L.length L.length c) ∧ Below w.heap.size w w' := by
  have hmk := run_make_row' (P := Try.prog) 38 22 (.slice none 0 0) 24 Try.underlying38 infoIS rfl .i64 .i64 L.length (by omega) (by omega)
  go_enter Try.func25, Try.ntmps25
  go_wp2
  go_loopg [4] L.length (fun g i wr => ∃ k : Nat, k ≤ L.length ∧ g = L.length - k ∧ i = .int .i64 k ∧ Below w.heap.size w wr ∧ w.heap.size < wr.heap.size ∧ ∃ c, CopyJ w.heap.size w.heap.size wr L L.length k c)
  case atStart => exact ⟨0, Nat.zero_le _, rfl, rfl, (Below.refl _ _).alloc (Nat.le_refl _) _, by simp, fun _ => 0, (World.rowIs_made _ _ _ _).congr (fun j _ => by simp [jjf]), fun j hj => absurd hj (Nat.not_lt_zero _), fun i j _ hj => absurd hj (Nat.not_lt_zero _)⟩
  case round =>
    obtain ⟨k, hk, rfl, rfl, hb, hsz, c, hC⟩ := hrel
    clear hmk
    by_cases hlt : k < L.length
    · have ha := (h.below hx hb) k hlt
      obtain ⟨v, a1, a3⟩ := ha
      have s1 : wr.cell? ⟨w.heap.size, k, none⟩ = some (jjf L c k k) := hC.row.cell (by omega)
      have f1 : wr.frozen? ⟨w.heap.size, k, none⟩ = false := hC.row.frozen _
      go_wp2_with fail
      refine (toI v _ wr a3 (hl k hlt)).mono ?_
      rintro e w1 ⟨rfl, ho, hb1⟩
      obtain ⟨hc1, hf1⟩ := bcell hb1
      rw [← hc1 _ _ hsz] at s1
      rw [← hf1 _ _ hsz] at f1
      clear hc1 hf1 a1
      go_wp2
      go_roundg (L.length - (k + 1))
      case measure => omega
      case rel =>
        have hS := copyJ_step hC hb1 (Nat.le_refl _) (by omega) (Nat.le_refl _) ho
        have eg : L.getD k [] = L[k] := by simp [List.getD, hlt]
        rw [eg] at hS
        refine ⟨k + 1, by omega, rfl, by simp, ?_, ?_, _, hS⟩
        · exact (hb.trans (hb1.mono (by omega))).setCell (Nat.le_refl _) _
        · have := hb1.size; simp [World.setCell]; omega
    · have e : k = L.length := by omega
      subst e
      go_wp2
      go_ret
      exact ⟨rfl, ⟨_, hC⟩, hb⟩
set_option maxRecDepth 100000 in
theorem toJ_nil (w : World) :
    Calls Try.prog 25 #[.slice none 0 0] w fun e w' => e = .returned (.slice (some ⟨w.heap.size, 0, none⟩) 0 0) ∧ (∃ c, CopyJ w.heap.size w.heap.size w' [] 0 0 c) ∧ Below w.heap.size w w' := by
  have hmk : ∀ w, (Instr.makeSlice 38 (.int .i64 0) (.int .i64 0)).run Try.prog w = .ok (.slice (some ⟨w.heap.size, 0, none⟩) 0 0) (w.alloc (.cells (madeCells #[.slice none 0 0] 0) 22)) :=
    run_make_row' (P := Try.prog) 38 22 (.slice none 0 0) 24 Try.underlying38 infoIS rfl .i64 .i64 0 (by omega) (by omega)
  have hC : CopyJ w.heap.size w.heap.size (w.alloc (.cells (madeCells #[.slice none 0 0] 0) 22)) [] 0 0 (fun _ => 0) :=
    ⟨(World.rowIs_made w _ _ _).congr (fun j hj => by omega), fun j hj => absurd hj (Nat.not_lt_zero _), fun i j _ hj => absurd hj (Nat.not_lt_zero _)⟩
  have hB : Below w.heap.size w (w.alloc (.cells (madeCells #[.slice none 0 0] 0) 22)) := (Below.refl _ _).alloc (Nat.le_refl _) _
  go_enter Try.func25, Try.ntmps25
  go_wp2
  go_loopg [4] 0 (fun g i wr => i = .int .i64 0 ∧ Below w.heap.size w wr ∧ CopyJ w.heap.size w.heap.size wr [] 0 0 (fun _ => 0))
  case atStart => exact ⟨rfl, hB, hC⟩
  case round =>
    obtain ⟨rfl, hB, hC⟩ := hrel
    clear hmk
    go_wp2
    go_ret
    exact ⟨rfl, ⟨_, hC⟩, hB⟩
/-- L lies copied in block b, its lists in blocks above base. -/
def Js (w : World) (base b : Nat) (L : List (List Int)) : Prop := ∃ c, CopyJ base b w L L.length L.length c
theorem Js.below {w w' : World} {base b : Nat} {L : List (List Int)} (h : Js w base b L) (hb : Below w.heap.size w w') : Js w' base b L := by
  obtain ⟨c, h⟩ := h
  exact ⟨c, World.rowIs.of_block h.row (hb.block b h.row.lt), fun j hj => ⟨(h.own j hj).1, (h.own j hj).2.below hb⟩, h.inj⟩
theorem Js.lt {w : World} {base b : Nat} {L : List (List Int)} (h : Js w base b L) : b < w.heap.size := by
  obtain ⟨c, h⟩ := h
  exact h.row.lt
/-- What is read of list k. -/
theorem Js.at {w : World} {base b : Nat} {L : List (List Int)} (h : Js w base b L) {k : Nat} (hk : k < L.length) :
    ∃ c, w.cell? ⟨b, k, none⟩ = some (.slice (some ⟨c, 0, none⟩) (L.getD k []).length (L.getD k []).length) ∧ OwnI w c (L.getD k []) := by
  obtain ⟨c, h⟩ := h
  refine ⟨c k, ?_, (h.own k hk).2⟩
  rw [h.row.cell (i := k) (by omega)]; simp [jjf, hk]
theorem toJ_any (v : Value) (L : List (List Int)) (w : World) (h : ListJ w v L) (hn : L.length ≤ 1048576) (hl : ∀ k, k < L.length → (L.getD k []).length ≤ 1048576) :
    Calls Try.prog 25 #[v] w fun e w' => e = .returned (.slice (some ⟨w.heap.size, 0, none⟩) L.length L.length) ∧ Js w' w.heap.size w.heap.size L ∧ Below w.heap.size w w' := by
  rcases h with ⟨rfl, rfl⟩ | ⟨x, cap, rfl, hx, h⟩
  · exact toJ_nil w
  · exact toJ_some x L cap w hx h hn hl
def RoomJ (L : List (List Int)) : Prop := L.length ≤ 9223372036854775807 ∧ ∀ k, k < L.length → (L.getD k []).length ≤ 9223372036854775807
set_option maxRecDepth 100000 in
theorem szJ (v : Value) (L : List (List Int)) (w : World) (left : Int) (l0 : 0 ≤ left) (l1 : left ≤ 1048576) (h : ListJ w v L) (hr : RoomJ L) :
    Calls Try.prog 23 #[v, .int .i64 left] w fun e w' => (∃ r, e = .returned (.int .i64 r) ∧ -1 ≤ r ∧ r ≤ 1048576 ∧ (0 ≤ r → FitsJ L)) ∧ Below w.heap.size w w' := by
  obtain ⟨hr1, hr2⟩ := hr
  rcases h with ⟨rfl, rfl⟩ | ⟨x, cap, rfl, hx, h⟩
  · go_enter Try.func23, Try.ntmps23
    go_wp2
    go_loopg [1, 5] 0 (fun g z i wr => z = .int .i64 left ∧ i = .int .i64 0 ∧ wr = w)
    case atStart => exact ⟨rfl, rfl, rfl⟩
    case round =>
      obtain ⟨rfl, rfl, rfl⟩ := hrel
      go_wp2
      go_ret
      exact ⟨⟨_, rfl, by omega, by omega, fun _ => ⟨by simp, fun k hk => absurd hk (Nat.not_lt_zero _)⟩⟩, Below.refl _ _⟩
  · by_cases hbig : left < L.length
    · go_enter Try.func23, Try.ntmps23
      go_wp2
      go_ret
      exact ⟨⟨_, rfl, by omega, by omega, fun h => absurd h (by omega)⟩, Below.refl _ _⟩
    · go_enter Try.func23, Try.ntmps23
      go_wp2
      go_loopg [1, 5] L.length (fun g z i wr => ∃ (k : Nat) (r : Int), k ≤ L.length ∧ g = L.length - k ∧ z = .int .i64 r ∧ i = .int .i64 k ∧ 0 ≤ r ∧ r ≤ 1048576 ∧ w = wr ∧ Hid (∀ j, j < k → (L.getD j []).length ≤ 1048576))
      case atStart => exact ⟨0, _, Nat.zero_le _, rfl, rfl, rfl, by omega, by omega, rfl, fun j hj => absurd hj (Nat.not_lt_zero _)⟩
      case round =>
        obtain ⟨k, r, hk, rfl, rfl, rfl, q1, q2, rfl, H⟩ := hrel
        by_cases hlt : k < L.length
        · obtain ⟨v, a1, a3⟩ := h k hlt
          have eg : L.getD k [] = L[k] := by simp [List.getD, hlt]
          have hlen := hr2 k hlt
          have HZ := szI v _ r w a3 hlen q1 q2
          obtain ⟨z, hz⟩ : ∃ z, szOf (L.getD k []).length r = z := ⟨_, rfl⟩
          have hzr : -1 ≤ z ∧ z ≤ 1048576 ∧ (z < 0 → z = -1) ∧ (0 ≤ z → (L.getD k []).length ≤ 1048576) := by rw [← hz]; unfold szOf; split <;> omega
          obtain ⟨z1, z2, z3, z4⟩ := hzr
          rw [hz] at HZ
          clear hz hlen a3
          have Z4 := Lib.hid z4
          clear z4
          by_cases hneg : z < 0
          · obtain rfl := z3 hneg
            go_wp2_with fail
            refine HZ.mono ?_
            rintro e w1 ⟨rfl, rfl⟩
            go_wp2
            go_ret
            exact ⟨⟨_, rfl, by omega, by omega, fun h => absurd h (by omega)⟩, Below.refl _ _⟩
          · go_wp2_with fail
            refine HZ.mono ?_
            rintro e w1 ⟨rfl, rfl⟩
            go_wp2
            go_roundg (L.length - (k + 1))
            case measure => omega
            case rel =>
              refine ⟨k + 1, z, by omega, rfl, rfl, by simp, by omega, by omega, rfl, fun j hj => ?_⟩
              by_cases e : j = k
              · subst e; exact Z4.out (by omega)
              · exact H.out j (by omega)
        · have e : k = L.length := by omega
          subst e
          go_wp2
          go_ret
          exact ⟨⟨_, rfl, by omega, by omega, fun _ => ⟨by omega, H.out⟩⟩, Below.refl _ _⟩
theorem Js.list {w : World} {base b : Nat} {L : List (List Int)} (h : Js w base b L) (cap : Nat) : ListJ w (.slice (some ⟨b, 0, none⟩) L.length cap) L :=
  .inr ⟨_, cap, rfl, fun _ => h.lt, fun k hk => by
    obtain ⟨c, h1, h2⟩ := h.at hk
    rw [Addr.add_lit, Nat.zero_add]
    exact ⟨_, h1, h2.row _⟩⟩
theorem Js.own {w : World} {b hi : Nat} {L : List (List Int)} (h : Js w b b L) (hh : w.heap.size ≤ hi) (hf : FitsJ L) (cap : Nat) : OwJ w b hi (.slice (some ⟨b, 0, none⟩) L.length cap) L := by
  have hlt := h.lt
  obtain ⟨c, h⟩ := h
  have hf' := hf
  obtain ⟨hf1, hf2⟩ := hf'
  refine ⟨.inr ⟨b, cap, L.length, _, rfl, Nat.le_refl _, by omega, Nat.le_refl _, h.row, fun i hi => ?_, fun i hi => ?_, fun i j d hij hj => ?_⟩, hf⟩
  · obtain ⟨q1, q2⟩ := h.own i hi
    have := World.rowIs.lt q2
    simp only [jjf, hi, if_true]
    exact q2.ow _ _ _ (by omega) (by omega) (hf2 i hi)
  · obtain ⟨q1, q2⟩ := h.own i hi
    simp only [jjf, hi, if_true, Value.ownBlock]
    intro e
    have : c i = b := by simpa using e
    omega
  · have hi : i < L.length := by omega
    simp only [jjf, hi, hj, if_true, Value.ownBlock]
    intro e1 e2
    have e1 : c i = d := by simpa using e1
    have e2 : c j = d := by simpa using e2
    exact h.inj i j hij hj (by omega)
end Go.Proofs.Ytjfkkmfbgmejbaa
