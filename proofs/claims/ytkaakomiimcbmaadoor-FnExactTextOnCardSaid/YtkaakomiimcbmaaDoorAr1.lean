/- Articles in a world: what came in, copied, sized, compared. -/
import Derived.Test.YtkaakomiimcbmaaDoorEd2
namespace Go.Proofs.YtkaakomiimcbmaaDoor
open Go.ChangeShapes Go.WideShapes Go.ChangeAt Go.RowKit Go.Deep
set_option linter.unusedSimpArgs false
set_option linter.unusedVariables false
abbrev Ar := Int × ByteArray
abbrev a0 : Ar := (0, ⟨#[]⟩)
set_option maxRecDepth 100000 in
theorem infoAr : (Tryd.prog.info? 72).map (fun i => (i.zero, i.size, i.bytes)) = some (some (.agg #[.int .i64 0, .string ⟨#[]⟩]), 2, 24) := by kernel_rfl
def ArAt (w : World) (b o : Nat) (e : Ar) : Prop := w.cell? ⟨b, o, none⟩ = some (.int .i64 e.1) ∧ w.cell? ⟨b, o + 1, none⟩ = some (.string e.2)
/-- Element k of a list of articles that lies at x, each of two cells. -/
def ArgA (w : World) (x : Addr) (L : List Ar) : Prop :=
  ∀ k, k < L.length → w.cell? (x.add (k * 2)) = some (.int .i64 (L.getD k a0).1) ∧ w.cell? ⟨(x.add (k * 2)).block, (x.add (k * 2)).off + 1, none⟩ = some (.string (L.getD k a0).2)
theorem ArgA.below {w w' : World} {x : Addr} {L : List Ar} (h : ArgA w x L) (hx : 0 < L.length → x.block < w.heap.size) (hb : Below w.heap.size w w') : ArgA w' x L := fun k hk => by
  have hx := hx (by omega)
  obtain ⟨h1, h2⟩ := h k hk
  exact ⟨(hb.cell (by rw [block_add]; exact hx)).trans h1, (hb.cell (by show (x.add (k * 2)).block < _; rw [block_add]; exact hx)).trans h2⟩
def ListA (w : World) (v : Value) (L : List Ar) : Prop := (v = .slice none 0 0 ∧ L = []) ∨ ∃ (x : Addr) (cap : Nat), v = .slice (some x) L.length cap ∧ (0 < L.length → x.block < w.heap.size) ∧ ArgA w x L
theorem ListA.below {w w' : World} {v : Value} {L : List Ar} (h : ListA w v L) (hb : Below w.heap.size w w') : ListA w' v L := by
  rcases h with h | ⟨x, cap, rfl, hx, h⟩
  · exact .inl h
  · exact .inr ⟨x, cap, rfl, fun h => Nat.lt_of_lt_of_le (hx h) hb.size, h.below hx hb⟩
theorem ListA.shape {w : World} {v : Value} {L : List Ar} (h : ListA w v L) : ∃ a cap, v = .slice a L.length cap := by
  rcases h with ⟨rfl, rfl⟩ | ⟨x, cap, rfl, -, -⟩
  · exact ⟨none, 0, rfl⟩
  · exact ⟨_, cap, rfl⟩
/-- What cell j of a new row holds when the first k articles are laid. -/
def af (L : List Ar) (k : Nat) : Nat → Value := fun j =>
  if j / 2 < k then (if j % 2 = 0 then .int .i64 (L.getD (j / 2) a0).1 else .string (L.getD (j / 2) a0).2)
  else (if j % 2 = 0 then .int .i64 0 else .string ⟨#[]⟩)
/-- L lies in block b, which is the call's own. -/
def As (w : World) (b : Nat) (L : List Ar) : Prop := w.rowIs b 72 (L.length * 2) (af L L.length)
theorem As.below {w w' : World} {b : Nat} {L : List Ar} (h : As w b L) (hb : Below w.heap.size w w') : As w' b L := World.rowIs.of_block h (hb.block b (World.rowIs.lt h))
theorem As.lt {w : World} {b : Nat} {L : List Ar} (h : As w b L) : b < w.heap.size := World.rowIs.lt h
theorem As.at {w : World} {b : Nat} {L : List Ar} (h : As w b L) {k : Nat} (hk : k < L.length) : ArAt w b (k * 2) (L.getD k a0) := by
  refine ⟨?_, ?_⟩
  · have e1 : k * 2 / 2 = k := by omega
    have e2 : k * 2 % 2 = 0 := by omega
    rw [World.rowIs.cell h (i := k * 2) (by omega)]; simp [af, e1, e2, hk]
  · have e1 : (k * 2 + 1) / 2 = k := by omega
    have e2 : (k * 2 + 1) % 2 = 1 := by omega
    rw [World.rowIs.cell h (i := k * 2 + 1) (by omega)]; simp [af, e1, e2, hk]
theorem As.list {w : World} {b : Nat} {L : List Ar} (h : As w b L) (cap : Nat) : ListA w (.slice (some ⟨b, 0, none⟩) L.length cap) L :=
  .inr ⟨_, cap, rfl, fun _ => h.lt, fun k hk => by
    obtain ⟨h1, h2⟩ := h.at hk
    rw [Addr.add_lit, Nat.zero_add]
    exact ⟨h1, h2⟩⟩
/-- Articles that are read in a block, if there are any. -/
def Ax (w : World) (a : Option Addr) (L : List Ar) : Prop := 0 < L.length → ∃ b, a = some ⟨b, 0, none⟩ ∧ b < w.heap.size ∧ ∀ k, k < L.length → ArAt w b (k * 2) (L.getD k a0)
theorem Ax.below {w w' : World} {a : Option Addr} {L : List Ar} (h : Ax w a L) (hb : Below w.heap.size w w') : Ax w' a L := fun h0 => by
  obtain ⟨b, e, h1, h2⟩ := h h0
  exact ⟨b, e, Nat.lt_of_lt_of_le h1 hb.size, fun k hk => ⟨(hb.cell (p := ⟨b, k * 2, none⟩) h1).trans (h2 k hk).1, (hb.cell (p := ⟨b, k * 2 + 1, none⟩) h1).trans (h2 k hk).2⟩⟩
theorem As.ax {w : World} {b : Nat} {L : List Ar} (h : As w b L) : Ax w (some ⟨b, 0, none⟩) L := fun _ => ⟨b, rfl, h.lt, fun _ hk => h.at hk⟩
theorem af_step (L : List Ar) (k j : Nat) :
    (if j = k * 2 + 1 then Value.string (L.getD k a0).2 else if j = k * 2 then .int .i64 (L.getD k a0).1 else af L k j) = af L (k + 1) j := by
  unfold af
  by_cases q1 : j = k * 2 + 1
  · subst q1
    have h1 : (k * 2 + 1) / 2 = k := by omega
    have h2 : (k * 2 + 1) % 2 = 1 := by omega
    simp [h1, h2]
  by_cases q0 : j = k * 2
  · subst q0
    have h1 : (k * 2) / 2 = k := by omega
    have h2 : (k * 2) % 2 = 0 := by omega
    simp [h1, h2]
  rw [if_neg q1, if_neg q0]
  by_cases h : j / 2 < k
  · have h4 : j / 2 < k + 1 := by omega
    rw [if_pos h, if_pos h4]
  · have h4 : ¬ j / 2 < k + 1 := by omega
    rw [if_neg h, if_neg h4]
theorem toAr (i : Int) (a : ByteArray) (w : World) :
    Calls Tryd.prog 41 #[.agg #[.int .i64 i, .string a]] w fun e w' => e = .returned (.agg #[.int .i64 i, .string a]) ∧ Below w.heap.size w w' := by
  go_enter Tryd.func41, Tryd.ntmps41
  go_wp2
  refine bodyPost_ret (v := .agg #[.int .i64 i, .string a]) (by simp [results, Tryd.results41, go_sem]) rfl ⟨rfl, ?_⟩
  exact ((((Below.refl _ _).alloc (Nat.le_refl _) _).alloc (by simp) _).alloc (by simp; omega) _)
set_option maxHeartbeats 1000000 in
set_option maxRecDepth 100000 in
theorem toAS_some (x : Addr) (L : List Ar) (cap : Nat) (w : World) (hx : 0 < L.length → x.block < w.heap.size) (h : ArgA w x L) (hn : L.length ≤ 1048576) :
    Calls Tryd.prog 19 #[.slice (some x) L.length cap] w fun e w' => e = .returned (.slice (some ⟨w.heap.size, 0, none⟩) L.length L.length) ∧ As w' w.heap.size L ∧ Below w.heap.size w w' := by
  have hmk := run_make2 (P := Tryd.prog) 38 72 _ _ 24 Tryd.underlying38 infoAr rfl rfl .i64 .i64 L.length (by omega) (by omega)
  go_enter Tryd.func19, Tryd.ntmps19
  go_wp2
  go_loopg [4] L.length (fun g i wr => ∃ k : Nat, k ≤ L.length ∧ g = L.length - k ∧ i = .int .i64 k ∧ Below w.heap.size w wr ∧ w.heap.size < wr.heap.size ∧ wr.rowIs w.heap.size 72 (L.length * 2) (af L k))
  case atStart => exact ⟨0, Nat.zero_le _, rfl, rfl, (Below.refl _ _).alloc (Nat.le_refl _) _, by simp, (rowIs_made2 _ _ _ _ _).congr (fun j _ => by simp [af])⟩
  case round =>
    obtain ⟨k, hk, rfl, rfl, hb, hsz, hC⟩ := hrel
    clear hmk
    by_cases hlt : k < L.length
    · obtain ⟨a1, a2⟩ := (h.below hx hb) k hlt
      have s1 : wr.cell? ⟨w.heap.size, k * 2, none⟩ = some (af L k (k * 2)) := hC.cell (by omega)
      have s2 : wr.cell? ⟨w.heap.size, k * 2 + 1, none⟩ = some (af L k (k * 2 + 1)) := hC.cell (by omega)
      have f1 : wr.frozen? ⟨w.heap.size, k * 2, none⟩ = false := hC.frozen _
      have f2 : wr.frozen? ⟨w.heap.size, k * 2 + 1, none⟩ = false := hC.frozen _
      obtain ⟨q, hq⟩ : ∃ q, L.getD k a0 = q := ⟨_, rfl⟩
      rw [hq] at a1 a2
      obtain ⟨n, sa⟩ := q
      have HQ := Lib.hid hq
      simp only at a1 a2
      clear hq
      go_wp2_with fail
      refine (toAr n sa wr).mono ?_
      rintro e w1 ⟨rfl, hb1⟩
      obtain ⟨hc1, hf1⟩ := bcell hb1
      rw [← hc1 _ _ hsz] at s1 s2
      rw [← hf1 _ _ hsz] at f1 f2
      clear hc1 hf1 a1 a2
      go_wp2
      go_roundg (L.length - (k + 1))
      case measure => omega
      case rel =>
        refine ⟨k + 1, by omega, rfl, by simp, ((hb.trans (hb1.mono (by omega))).setCell (Nat.le_refl _) _).setCell (Nat.le_refl _) _, by have := hb1.size; simp [World.setCell]; omega, ?_⟩
        refine (((hC.of_block (hb1.block _ hsz)).set (k * 2) _).set (k * 2 + 1) _).congr (fun j _ => ?_)
        rw [← af_step L k j, HQ.out]
    · have e : k = L.length := by omega
      subst e
      go_wp2
      go_ret
      exact ⟨rfl, hC, hb⟩
set_option maxRecDepth 100000 in
theorem toAS_nil (w : World) :
    Calls Tryd.prog 19 #[.slice none 0 0] w fun e w' => e = .returned (.slice (some ⟨w.heap.size, 0, none⟩) 0 0) ∧ As w' w.heap.size [] ∧ Below w.heap.size w w' := by
  have hmk : ∀ w, (Instr.makeSlice 38 (.int .i64 0) (.int .i64 0)).run Tryd.prog w = .ok (.slice (some ⟨w.heap.size, 0, none⟩) 0 0) (w.alloc (.cells (madeCells #[.int .i64 0, .string ⟨#[]⟩] 0) 72)) :=
    run_make2 (P := Tryd.prog) 38 72 _ _ 24 Tryd.underlying38 infoAr rfl rfl .i64 .i64 0 (by omega) (by omega)
  have hC : As (w.alloc (.cells (madeCells #[.int .i64 0, .string ⟨#[]⟩] 0) 72)) w.heap.size [] := (rowIs_made2 w (.int .i64 0) (.string ⟨#[]⟩) 0 72).congr (fun j hj => by omega)
  have hB : Below w.heap.size w (w.alloc (.cells (madeCells #[.int .i64 0, .string ⟨#[]⟩] 0) 72)) := (Below.refl _ _).alloc (Nat.le_refl _) _
  go_enter Tryd.func19, Tryd.ntmps19
  go_wp2
  go_loopg [4] 0 (fun g i wr => i = .int .i64 0 ∧ Below w.heap.size w wr ∧ As wr w.heap.size [])
  case atStart => exact ⟨rfl, hB, hC⟩
  case round =>
    obtain ⟨rfl, hB, hC⟩ := hrel
    clear hmk
    go_wp2
    go_ret
    exact ⟨rfl, hC, hB⟩
theorem toAS (v : Value) (L : List Ar) (w : World) (h : ListA w v L) (hn : L.length ≤ 1048576) :
    Calls Tryd.prog 19 #[v] w fun e w' => e = .returned (.slice (some ⟨w.heap.size, 0, none⟩) L.length L.length) ∧ As w' w.heap.size L ∧ Below w.heap.size w w' := by
  rcases h with ⟨rfl, rfl⟩ | ⟨x, cap, rfl, hx, h⟩
  · exact toAS_nil w
  · exact toAS_some x L cap w hx h hn
def RoomA (L : List Ar) : Prop := L.length ≤ 9223372036854775807 ∧ ∀ k, k < L.length → (L.getD k a0).2.size ≤ 9223372036854775807
def FitsA (L : List Ar) : Prop := L.length ≤ 1048576 ∧ ∀ k, k < L.length → (L.getD k a0).2.size ≤ 1048576
def szA1 (m : Nat) (left : Int) : Int := if left - m < 0 then -1 else left - m
theorem szAr (i : Int) (a : ByteArray) (left : Int) (w : World) (ha : a.size ≤ 9223372036854775807) (h1 : 0 ≤ left) (h2 : left ≤ 1048576) :
    Calls Tryd.prog 38 #[.agg #[.int .i64 i, .string a], .int .i64 left] w fun e w' => e = .returned (.int .i64 (szA1 a.size left)) ∧ Below w.heap.size w w' := by
  have b1 := (Below.refl w.heap.size w).alloc (Nat.le_refl _) (.cells #[.int .i64 i, .string a] 70)
  unfold szA1
  by_cases c1 : left - a.size < 0
  · rw [if_pos c1]
    go_enter Tryd.func38, Tryd.ntmps38
    go_wp2
    go_ret
    exact ⟨rfl, by first | exact b1 | exact Below.refl _ _⟩
  · rw [if_neg c1]
    go_enter Tryd.func38, Tryd.ntmps38
    go_wp2
    go_ret
    exact ⟨rfl, by first | exact b1 | exact Below.refl _ _⟩
set_option maxHeartbeats 1000000 in
set_option maxRecDepth 100000 in
theorem szAS (v : Value) (L : List Ar) (z : Int) (w : World) (h : ListA w v L) (hr : RoomA L) (hz1 : 0 ≤ z) (hz2 : z ≤ 1048576) :
    Calls Tryd.prog 17 #[v, .int .i64 z] w fun e w' => (∃ r, e = .returned (.int .i64 r) ∧ -1 ≤ r ∧ r ≤ 1048576 ∧ (0 ≤ r → FitsA L)) ∧ Below w.heap.size w w' := by
  obtain ⟨hr1, hr2⟩ := hr
  rcases h with ⟨rfl, rfl⟩ | ⟨x, cap, rfl, hx, h⟩
  · go_enter Tryd.func17, Tryd.ntmps17
    go_wp2
    go_loopg [1, 5] 0 (fun g y i wr => y = .int .i64 z ∧ i = .int .i64 0 ∧ wr = w)
    case atStart => exact ⟨by simp, rfl, rfl⟩
    case round =>
      obtain ⟨rfl, rfl, rfl⟩ := hrel
      go_wp2
      go_ret
      exact ⟨⟨_, rfl, by omega, by omega, fun _ => ⟨by simp, fun k hk => absurd hk (Nat.not_lt_zero _)⟩⟩, Below.refl _ _⟩
  · by_cases hbig : z - L.length < 0
    · go_enter Tryd.func17, Tryd.ntmps17
      go_wp2
      go_ret
      exact ⟨⟨_, rfl, by omega, by omega, fun h => absurd h (by omega)⟩, Below.refl _ _⟩
    · go_enter Tryd.func17, Tryd.ntmps17
      go_wp2
      go_loopg [1, 5] L.length (fun g y i wr => ∃ (k : Nat) (r : Int), k ≤ L.length ∧ g = L.length - k ∧ y = .int .i64 r ∧ i = .int .i64 k ∧ 0 ≤ r ∧ r ≤ 1048576 ∧ Below w.heap.size w wr ∧ Hid (∀ j, j < k → (L.getD j a0).2.size ≤ 1048576))
      case atStart => exact ⟨0, _, Nat.zero_le _, rfl, rfl, rfl, by omega, by omega, Below.refl _ _, fun j hj => absurd hj (Nat.not_lt_zero _)⟩
      case round =>
        obtain ⟨k, r, hk, rfl, rfl, rfl, q1, q2, hb, H⟩ := hrel
        by_cases hlt : k < L.length
        · obtain ⟨a1, a2⟩ := (h.below hx hb) k hlt
          have l1 := hr2 k hlt
          obtain ⟨q, hq⟩ : ∃ q, L.getD k a0 = q := ⟨_, rfl⟩
          rw [hq] at a1 a2 l1
          have HQ := Lib.hid hq
          clear hq
          obtain ⟨n, sa⟩ := q
          simp only at a1 a2 l1
          have HZ := szAr n sa r wr l1 q1 q2
          obtain ⟨y, hy⟩ : ∃ y, szA1 sa.size r = y := ⟨_, rfl⟩
          have hzr : -1 ≤ y ∧ y ≤ 1048576 ∧ (y < 0 → y = -1) ∧ (0 ≤ y → sa.size ≤ 1048576) := by rw [← hy]; unfold szA1; (repeat' split) <;> omega
          obtain ⟨z1, z2, z3, z4⟩ := hzr
          rw [hy] at HZ
          clear hy
          have Z4 := Lib.hid z4
          clear z4
          by_cases hneg : y < 0
          · obtain rfl := z3 hneg
            go_wp2_with fail
            refine HZ.mono ?_
            rintro e w1 ⟨rfl, hb1⟩
            go_wp2
            go_ret
            exact ⟨⟨_, rfl, by omega, by omega, fun h => absurd h (by omega)⟩, hb.trans (hb1.mono hb.size)⟩
          · go_wp2_with fail
            refine HZ.mono ?_
            rintro e w1 ⟨rfl, hb1⟩
            go_wp2
            go_roundg (L.length - (k + 1))
            case measure => omega
            case rel =>
              refine ⟨k + 1, y, by omega, rfl, rfl, by simp, by omega, by omega, hb.trans (hb1.mono hb.size), fun j hj => ?_⟩
              by_cases e : j = k
              · subst e; rw [HQ.out]; exact Z4.out (by omega)
              · exact H.out j (by omega)
        · have e : k = L.length := by omega
          subst e
          go_wp2
          go_ret
          exact ⟨⟨_, rfl, by omega, by omega, fun _ => ⟨by omega, H.out⟩⟩, hb⟩
theorem eqAr (i : Int) (a : ByteArray) (w : World) :
    Calls Tryd.prog 43 #[.agg #[.int .i64 i, .string a], .agg #[.int .i64 i, .string a]] w fun e w' => e = .returned (.bool true) ∧ Below w.heap.size w w' := by
  have b1 := ((Below.refl w.heap.size w).alloc (Nat.le_refl _) (.cells #[.int .i64 i, .string a] 72)).alloc (by simp) (.cells #[.int .i64 i, .string a] 72)
  go_enter Tryd.func43, Tryd.ntmps43
  go_wp2_with fail
  go_ret
  exact ⟨rfl, b1⟩
set_option maxRecDepth 100000 in
theorem eqAS (L : List Ar) (b b' cap cap' : Nat) (w : World) (h : As w b L) (h' : As w b' L) (hf : L.length ≤ 1048576) :
    Calls Tryd.prog 21 #[.slice (some ⟨b, 0, none⟩) L.length cap, .slice (some ⟨b', 0, none⟩) L.length cap'] w fun e w' => e = .returned (.bool true) ∧ Below w.heap.size w w' := by
  go_enter Tryd.func21, Tryd.ntmps21
  go_wp2
  go_loopg [5] L.length (fun g i wr => ∃ k : Nat, k ≤ L.length ∧ g = L.length - k ∧ i = .int .i64 k ∧ Below w.heap.size w wr)
  case atStart => exact ⟨0, Nat.zero_le _, rfl, rfl, Below.refl _ _⟩
  case round =>
    obtain ⟨k, hk, rfl, rfl, hb⟩ := hrel
    by_cases hlt : k < L.length
    · obtain ⟨a1, a2⟩ := (h.below hb).at hlt
      obtain ⟨d1, d2⟩ := (h'.below hb).at hlt
      have bd : Below wr.heap.size wr wr.drew := (Below.refl _ _).drew
      generalize L.getD k a0 = q at a1 a2 d1 d2
      obtain ⟨n, sa⟩ := q
      simp only at a1 a2 d1 d2
      have HE := eqAr n sa wr.drew
      go_wp2_with fail
      go_still_tail 8, (by kernel_rfl)
      change wpList _ _ _ _ _ wr.drew
      go_wp2_with fail
      refine HE.mono ?_
      rintro e w1 ⟨rfl, hb1⟩
      go_wp2
      go_roundg (L.length - (k + 1))
      case measure => omega
      case rel => exact ⟨k + 1, by omega, rfl, by simp, hb.trans (bd.trans hb1 |>.mono hb.size)⟩
    · have e : k = L.length := by omega
      subst e
      go_wp2
      go_ret
      exact ⟨rfl, hb⟩
end Go.Proofs.YtkaakomiimcbmaaDoor
