/- Lists of lists of shares in a world: what came in, copied. -/
import Derived.Test.YtlpidgdlbannbaaVq4
namespace Go.Proofs.Ytlpidgdlbannbaa
open Go.ChangeShapes Go.WideShapes Go.ChangeAt Go.RowKit Go.Deep
set_option linter.unusedSimpArgs false
set_option linter.unusedVariables false
set_option maxRecDepth 100000 in
theorem infoSh : (Try.prog.info? 86).map (fun i => (i.zero, i.size, i.bytes)) = some (some (.agg #[.int .i64 0, .int .i64 0]), 2, 16) := by kernel_rfl
set_option maxRecDepth 100000 in
theorem infoShS : (Try.prog.info? 84).map (fun i => (i.zero, i.size, i.bytes)) = some (some (.slice none 0 0), 1, 24) := by kernel_rfl
abbrev Sq := Int × Int
/-- The shares that lie at x, each of two cells. -/
def ArgS (w : World) (x : Addr) (L : List Sq) : Prop :=
  ∀ k, k < L.length → w.cell? (x.add (k * 2)) = some (.int .i64 (L.getD k (0, 0)).1) ∧ w.cell? ⟨(x.add (k * 2)).block, (x.add (k * 2)).off + 1, none⟩ = some (.int .i64 (L.getD k (0, 0)).2)
theorem ArgS.below {w w' : World} {x : Addr} {L : List Sq} (h : ArgS w x L) (hx : 0 < L.length → x.block < w.heap.size) (hb : Below w.heap.size w w') : ArgS w' x L := fun k hk => by
  have hx := hx (by omega)
  obtain ⟨h1, h2⟩ := h k hk
  exact ⟨(hb.cell (by rw [block_add]; exact hx)).trans h1, (hb.cell (by show (x.add (k * 2)).block < _; rw [block_add]; exact hx)).trans h2⟩
def ListS (w : World) (v : Value) (L : List Sq) : Prop := (v = .slice none 0 0 ∧ L = []) ∨ ∃ (x : Addr) (cap : Nat), v = .slice (some x) L.length cap ∧ (0 < L.length → x.block < w.heap.size) ∧ ArgS w x L
theorem ListS.below {w w' : World} {v : Value} {L : List Sq} (h : ListS w v L) (hb : Below w.heap.size w w') : ListS w' v L := by
  rcases h with h | ⟨x, cap, rfl, hx, h⟩
  · exact .inl h
  · exact .inr ⟨x, cap, rfl, fun h => Nat.lt_of_lt_of_le (hx h) hb.size, h.below hx hb⟩
theorem ListS.shape {w : World} {v : Value} {L : List Sq} (h : ListS w v L) : ∃ a cap, v = .slice a L.length cap := by
  rcases h with ⟨rfl, rfl⟩ | ⟨x, cap, rfl, -, -⟩
  · exact ⟨none, 0, rfl⟩
  · exact ⟨_, cap, rfl⟩
/-- What cell j of a row of shares holds when the first k of them are laid. -/
def shf (L : List Sq) (k : Nat) : Nat → Value := fun j => if j / 2 < k then (if j % 2 = 0 then .int .i64 (L.getD (j / 2) (0, 0)).1 else .int .i64 (L.getD (j / 2) (0, 0)).2) else .int .i64 0
/-- L lies copied in block b. -/
def Shs (w : World) (b : Nat) (L : List Sq) : Prop := w.rowIs b 86 (L.length * 2) (shf L L.length)
theorem Shs.below {w w' : World} {b : Nat} {L : List Sq} (h : Shs w b L) (hb : Below w.heap.size w w') : Shs w' b L := World.rowIs.of_block h (hb.block b (World.rowIs.lt h))
theorem Shs.at {w : World} {b : Nat} {L : List Sq} (h : Shs w b L) {k : Nat} (hk : k < L.length) :
    w.cell? ⟨b, k * 2, none⟩ = some (.int .i64 (L.getD k (0, 0)).1) ∧ w.cell? ⟨b, k * 2 + 1, none⟩ = some (.int .i64 (L.getD k (0, 0)).2) := by
  constructor
  · have e1 : k * 2 / 2 = k := by omega
    have e2 : k * 2 % 2 = 0 := by omega
    rw [World.rowIs.cell h (i := k * 2) (by omega)]; simp [shf, e1, e2, hk]
  · have e1 : (k * 2 + 1) / 2 = k := by omega
    have e2 : (k * 2 + 1) % 2 = 1 := by omega
    rw [World.rowIs.cell h (i := k * 2 + 1) (by omega)]; simp [shf, e1, e2, hk]
theorem shf_step (L : List Sq) (k j : Nat) :
    (if j = k * 2 + 1 then Value.int .i64 (L.getD k (0, 0)).2 else if j = k * 2 then .int .i64 (L.getD k (0, 0)).1 else shf L k j) = shf L (k + 1) j := by
  unfold shf
  by_cases e1 : j = k * 2 + 1
  · subst e1
    have h1 : (k * 2 + 1) / 2 = k := by omega
    have h2 : (k * 2 + 1) % 2 = 1 := by omega
    simp [h1, h2]
  · by_cases e2 : j = k * 2
    · subst e2
      have h1 : (k * 2) / 2 = k := by omega
      have h2 : (k * 2) % 2 = 0 := by omega
      simp [h1, h2]
    · rw [if_neg e1, if_neg e2]
      by_cases h : j / 2 < k
      · have h4 : j / 2 < k + 1 := by omega
        rw [if_pos h, if_pos h4]
      · have h4 : ¬ j / 2 < k + 1 := by omega
        rw [if_neg h, if_neg h4]
theorem toSh (n d : Int) (w : World) :
    Calls Try.prog 108 #[.agg #[.int .i64 n, .int .i64 d]] w fun e w' => e = .returned (.agg #[.int .i64 n, .int .i64 d]) ∧ Below w.heap.size w w' := by
  go_enter Try.func108, Try.ntmps108
  go_wp2
  refine bodyPost_ret (v := .agg #[.int .i64 n, .int .i64 d]) (by simp [results, Try.results108, go_sem]) rfl ⟨rfl, ?_⟩
  exact ((((Below.refl _ _).alloc (Nat.le_refl _) _).alloc (by simp) _).alloc (by simp; omega) _)
set_option maxRecDepth 100000 in
theorem toShS_some (x : Addr) (L : List Sq) (cap : Nat) (w : World) (hx : 0 < L.length → x.block < w.heap.size) (h : ArgS w x L) (hn : L.length ≤ 1048576) :
    Calls Try.prog 82 #[.slice (some x) L.length cap] w fun e w' => e = .returned (.slice (some ⟨w.heap.size, 0, none⟩) L.length L.length) ∧ Shs w' w.heap.size L ∧ Below w.heap.size w w' := by
  have hmk := run_make2 (P := Try.prog) 84 86 _ _ 16 Try.underlying84 infoSh rfl rfl .i64 .i64 L.length (by omega) (by omega)
  go_enter Try.func82, Try.ntmps82
  go_wp2
  go_loopg [4] L.length (fun g i wr => ∃ k : Nat, k ≤ L.length ∧ g = L.length - k ∧ i = .int .i64 k ∧ Below w.heap.size w wr ∧ w.heap.size < wr.heap.size ∧ wr.rowIs w.heap.size 86 (L.length * 2) (shf L k))
  case atStart => exact ⟨0, Nat.zero_le _, rfl, rfl, (Below.refl _ _).alloc (Nat.le_refl _) _, by simp, (rowIs_made2 _ _ _ _ _).congr (fun j _ => by simp [shf])⟩
  case round =>
    obtain ⟨k, hk, rfl, rfl, hb, hsz, hC⟩ := hrel
    clear hmk
    by_cases hlt : k < L.length
    · obtain ⟨a1, a2⟩ := (h.below hx hb) k hlt
      have s1 : wr.cell? ⟨w.heap.size, k * 2, none⟩ = some (shf L k (k * 2)) := hC.cell (by omega)
      have s2 : wr.cell? ⟨w.heap.size, k * 2 + 1, none⟩ = some (shf L k (k * 2 + 1)) := hC.cell (by omega)
      have f1 : wr.frozen? ⟨w.heap.size, k * 2, none⟩ = false := hC.frozen _
      have f2 : wr.frozen? ⟨w.heap.size, k * 2 + 1, none⟩ = false := hC.frozen _
      obtain ⟨q, hq⟩ : ∃ q, L.getD k (0, 0) = q := ⟨_, rfl⟩
      rw [hq] at a1 a2
      obtain ⟨n, d⟩ := q
      have HQ := Lib.hid hq
      simp only at a1 a2
      clear hq
      go_wp2_with fail
      refine (toSh n d wr).mono ?_
      rintro e w1 ⟨rfl, hb1⟩
      obtain ⟨hc1, hf1⟩ := bcell hb1
      rw [← hc1 _ _ hsz] at s1 s2
      rw [← hf1 _ _ hsz] at f1 f2
      clear hc1 hf1 a1 a2
      go_wp2
      go_roundg (L.length - (k + 1))
      case measure => omega
      case rel =>
        refine ⟨k + 1, by omega, rfl, by simp, ((hb.trans (hb1.mono (by omega))).setCell (Nat.le_refl _) _).setCell (Nat.le_refl _) _, by have := hb1.size; simp [World.setCell]; omega, ?_⟩
        refine (((hC.of_block (hb1.block _ hsz)).set (k * 2) _).set (k * 2 + 1) _).congr (fun j _ => ?_)
        rw [← shf_step L k j, HQ.out]
    · have e : k = L.length := by omega
      subst e
      go_wp2
      go_ret
      exact ⟨rfl, hC, hb⟩
set_option maxRecDepth 100000 in
theorem toShS_nil (w : World) :
    Calls Try.prog 82 #[.slice none 0 0] w fun e w' => e = .returned (.slice (some ⟨w.heap.size, 0, none⟩) 0 0) ∧ Shs w' w.heap.size [] ∧ Below w.heap.size w w' := by
  have hmk : ∀ w, (Instr.makeSlice 84 (.int .i64 0) (.int .i64 0)).run Try.prog w = .ok (.slice (some ⟨w.heap.size, 0, none⟩) 0 0) (w.alloc (.cells (madeCells #[.int .i64 0, .int .i64 0] 0) 86)) :=
    run_make2 (P := Try.prog) 84 86 _ _ 16 Try.underlying84 infoSh rfl rfl .i64 .i64 0 (by omega) (by omega)
  have hC : Shs (w.alloc (.cells (madeCells #[.int .i64 0, .int .i64 0] 0) 86)) w.heap.size [] := (rowIs_made2 w (.int .i64 0) (.int .i64 0) 0 86).congr (fun j hj => by omega)
  have hB : Below w.heap.size w (w.alloc (.cells (madeCells #[.int .i64 0, .int .i64 0] 0) 86)) := (Below.refl _ _).alloc (Nat.le_refl _) _
  go_enter Try.func82, Try.ntmps82
  go_wp2
  go_loopg [4] 0 (fun g i wr => i = .int .i64 0 ∧ Below w.heap.size w wr ∧ Shs wr w.heap.size [])
  case atStart => exact ⟨rfl, hB, hC⟩
  case round =>
    obtain ⟨rfl, hB, hC⟩ := hrel
    clear hmk
    go_wp2
    go_ret
    exact ⟨rfl, hC, hB⟩
theorem toShS (v : Value) (L : List Sq) (w : World) (h : ListS w v L) (hn : L.length ≤ 1048576) :
    Calls Try.prog 82 #[v] w fun e w' => e = .returned (.slice (some ⟨w.heap.size, 0, none⟩) L.length L.length) ∧ Shs w' w.heap.size L ∧ Below w.heap.size w w' := by
  rcases h with ⟨rfl, rfl⟩ | ⟨x, cap, rfl, hx, h⟩
  · exact toShS_nil w
  · exact toShS_some x L cap w hx h hn
/-- The lists that lie at x, one cell each. -/
def ArgSS (w : World) (x : Addr) (L : List (List Sq)) : Prop := ∀ k, k < L.length → ∃ v, w.cell? (x.add k) = some v ∧ ListS w v (L.getD k [])
theorem ArgSS.below {w w' : World} {x : Addr} {L : List (List Sq)} (h : ArgSS w x L) (hx : 0 < L.length → x.block < w.heap.size) (hb : Below w.heap.size w w') : ArgSS w' x L := fun k hk => by
  have hx := hx (by omega)
  obtain ⟨v, h1, h2⟩ := h k hk
  exact ⟨v, (hb.cell (by rw [block_add]; exact hx)).trans h1, h2.below hb⟩
def ListSS (w : World) (v : Value) (L : List (List Sq)) : Prop := (v = .slice none 0 0 ∧ L = []) ∨ ∃ (x : Addr) (cap : Nat), v = .slice (some x) L.length cap ∧ (0 < L.length → x.block < w.heap.size) ∧ ArgSS w x L
theorem ListSS.below {w w' : World} {v : Value} {L : List (List Sq)} (h : ListSS w v L) (hb : Below w.heap.size w w') : ListSS w' v L := by
  rcases h with h | ⟨x, cap, rfl, hx, h⟩
  · exact .inl h
  · exact .inr ⟨x, cap, rfl, fun h => Nat.lt_of_lt_of_le (hx h) hb.size, h.below hx hb⟩
/-- What cell j of the new row holds when the first k lists are laid. -/
def ssf (L : List (List Sq)) (c : Nat → Nat) (k : Nat) : Nat → Value := fun j => if j < k then .slice (some ⟨c j, 0, none⟩) (L.getD j []).length (L.getD j []).length else .slice none 0 0
/-- The first k lists of L lie copied, their row in block b, they themselves in blocks above base, each in one of its own. -/
structure CopySS (base b : Nat) (wr : World) (L : List (List Sq)) (n k : Nat) (c : Nat → Nat) : Prop where
  row : wr.rowIs b 84 n (ssf L c k)
  own : ∀ j, j < k → base < c j ∧ Shs wr (c j) (L.getD j [])
  inj : ∀ i j, i < j → j < k → c i ≠ c j
theorem copySS_step {base b : Nat} {wr w1 : World} {L : List (List Sq)} {n k : Nat} {c : Nat → Nat} {c' : Nat} (h : CopySS base b wr L n k c) (hb : Below wr.heap.size wr w1) (hbb : b ≤ base) (hlt : base < c') (hnew : wr.heap.size ≤ c') (ho : Shs w1 c' (L.getD k [])) :
    CopySS base b (w1.setCell ⟨b, k, none⟩ (.slice (some ⟨c', 0, none⟩) (L.getD k []).length (L.getD k []).length)) L n (k + 1) (fun i => if i = k then c' else c i) := by
  refine ⟨((World.rowIs.of_block h.row (hb.block b h.row.lt)).set k _).congr (fun j _ => ?_), fun j hj => ?_, fun i j hij hj => ?_⟩
  · unfold ssf
    by_cases e : j = k
    · subst e; simp
    · rw [if_neg e]
      by_cases hlt : j < k
      · rw [if_pos hlt, if_pos (by omega)]; simp [e]
      · rw [if_neg hlt, if_neg (by omega)]
  · by_cases e : j = k
    · subst e
      simp only [if_pos rfl]
      exact ⟨hlt, World.rowIs.setOther ho (by show c' ≠ b; omega) _⟩
    · rw [if_neg e]
      obtain ⟨q1, q2⟩ := h.own j (by omega)
      exact ⟨q1, World.rowIs.setOther (q2.below hb) (by show c j ≠ b; omega) _⟩
  · have hi : i ≠ k := by omega
    rw [if_neg hi]
    by_cases e : j = k
    · rw [if_pos e]
      have := World.rowIs.lt (h.own i (by omega)).2
      omega
    · rw [if_neg e]; exact h.inj i j hij (by omega)
set_option maxRecDepth 100000 in
theorem toSS_some (x : Addr) (L : List (List Sq)) (cap : Nat) (w : World) (hx : 0 < L.length → x.block < w.heap.size) (h : ArgSS w x L) (hn : L.length ≤ 1048576) (hl : ∀ k, k < L.length → (L.getD k []).length ≤ 1048576) :
    Calls Try.prog 46 #[.slice (some x) L.length cap] w fun e w' => e = .returned (.slice (some ⟨w.heap.size, 0, none⟩) L.length L.length) ∧ (∃ c, CopySS w.heap.size w.heap.size w' L L.length L.length c) ∧ Below w.heap.size w w' := by
  have hmk := run_make_row' (P := Try.prog) 50 84 (.slice none 0 0) 24 Try.underlying50 infoShS rfl .i64 .i64 L.length (by omega) (by omega)
  go_enter Try.func46, Try.ntmps46
  go_wp2
  go_loopg [4] L.length (fun g i wr => ∃ k : Nat, k ≤ L.length ∧ g = L.length - k ∧ i = .int .i64 k ∧ Below w.heap.size w wr ∧ w.heap.size < wr.heap.size ∧ ∃ c, CopySS w.heap.size w.heap.size wr L L.length k c)
  case atStart => exact ⟨0, Nat.zero_le _, rfl, rfl, (Below.refl _ _).alloc (Nat.le_refl _) _, by simp, fun _ => 0, (World.rowIs_made _ _ _ _).congr (fun j _ => by simp [ssf]), fun j hj => absurd hj (Nat.not_lt_zero _), fun i j _ hj => absurd hj (Nat.not_lt_zero _)⟩
  case round =>
    obtain ⟨k, hk, rfl, rfl, hb, hsz, c, hC⟩ := hrel
    clear hmk
    by_cases hlt : k < L.length
    · have ha := (h.below hx hb) k hlt
      obtain ⟨v, a1, a3⟩ := ha
      have s1 : wr.cell? ⟨w.heap.size, k, none⟩ = some (ssf L c k k) := hC.row.cell (by omega)
      have f1 : wr.frozen? ⟨w.heap.size, k, none⟩ = false := hC.row.frozen _
      go_wp2_with fail
      refine (toShS v _ wr a3 (hl k hlt)).mono ?_
      rintro e w1 ⟨rfl, ho, hb1⟩
      obtain ⟨hc1, hf1⟩ := bcell hb1
      rw [← hc1 _ _ hsz] at s1
      rw [← hf1 _ _ hsz] at f1
      clear hc1 hf1 a1
      go_wp2
      go_roundg (L.length - (k + 1))
      case measure => omega
      case rel =>
        have hS := copySS_step hC hb1 (Nat.le_refl _) (by omega) (Nat.le_refl _) ho
        have eg : L.getD k [] = L[k] := by simp [List.getD, hlt]
        rw [eg] at hS
        refine ⟨k + 1, by omega, rfl, by simp, ?_, ?_, _, hS⟩
        · exact (hb.trans (hb1.mono (by omega))).setCell (Nat.le_refl _) _
        · have := hb1.size; simp [World.setCell]; omega
    · have e : k = L.length := by omega
      subst e
      go_wp2
      go_ret
      exact ⟨rfl, ⟨_, hC⟩, hb⟩
set_option maxRecDepth 100000 in
theorem toSS_nil (w : World) :
    Calls Try.prog 46 #[.slice none 0 0] w fun e w' => e = .returned (.slice (some ⟨w.heap.size, 0, none⟩) 0 0) ∧ (∃ c, CopySS w.heap.size w.heap.size w' [] 0 0 c) ∧ Below w.heap.size w w' := by
  have hmk : ∀ w, (Instr.makeSlice 50 (.int .i64 0) (.int .i64 0)).run Try.prog w = .ok (.slice (some ⟨w.heap.size, 0, none⟩) 0 0) (w.alloc (.cells (madeCells #[.slice none 0 0] 0) 84)) :=
    run_make_row' (P := Try.prog) 50 84 (.slice none 0 0) 24 Try.underlying50 infoShS rfl .i64 .i64 0 (by omega) (by omega)
  have hC : CopySS w.heap.size w.heap.size (w.alloc (.cells (madeCells #[.slice none 0 0] 0) 84)) [] 0 0 (fun _ => 0) :=
    ⟨(World.rowIs_made w _ _ _).congr (fun j hj => by omega), fun j hj => absurd hj (Nat.not_lt_zero _), fun i j _ hj => absurd hj (Nat.not_lt_zero _)⟩
  have hB : Below w.heap.size w (w.alloc (.cells (madeCells #[.slice none 0 0] 0) 84)) := (Below.refl _ _).alloc (Nat.le_refl _) _
  go_enter Try.func46, Try.ntmps46
  go_wp2
  go_loopg [4] 0 (fun g i wr => i = .int .i64 0 ∧ Below w.heap.size w wr ∧ CopySS w.heap.size w.heap.size wr [] 0 0 (fun _ => 0))
  case atStart => exact ⟨rfl, hB, hC⟩
  case round =>
    obtain ⟨rfl, hB, hC⟩ := hrel
    clear hmk
    go_wp2
    go_ret
    exact ⟨rfl, ⟨_, hC⟩, hB⟩
/-- L lies copied in block b, its lists in blocks above base. -/
def SS (w : World) (base b : Nat) (L : List (List Sq)) : Prop := ∃ c, CopySS base b w L L.length L.length c
theorem SS.below {w w' : World} {base b : Nat} {L : List (List Sq)} (h : SS w base b L) (hb : Below w.heap.size w w') : SS w' base b L := by
  obtain ⟨c, h⟩ := h
  exact ⟨c, World.rowIs.of_block h.row (hb.block b h.row.lt), fun j hj => ⟨(h.own j hj).1, (h.own j hj).2.below hb⟩, h.inj⟩
theorem SS.lt {w : World} {base b : Nat} {L : List (List Sq)} (h : SS w base b L) : b < w.heap.size := by
  obtain ⟨c, h⟩ := h
  exact h.row.lt
/-- What is read of list k. -/
theorem SS.at {w : World} {base b : Nat} {L : List (List Sq)} (h : SS w base b L) {k : Nat} (hk : k < L.length) :
    ∃ c, w.cell? ⟨b, k, none⟩ = some (.slice (some ⟨c, 0, none⟩) (L.getD k []).length (L.getD k []).length) ∧ Shs w c (L.getD k []) := by
  obtain ⟨c, h⟩ := h
  refine ⟨c k, ?_, (h.own k hk).2⟩
  rw [h.row.cell (i := k) (by omega)]; simp [ssf, hk]
theorem toSS_any (v : Value) (L : List (List Sq)) (w : World) (h : ListSS w v L) (hn : L.length ≤ 1048576) (hl : ∀ k, k < L.length → (L.getD k []).length ≤ 1048576) :
    Calls Try.prog 46 #[v] w fun e w' => e = .returned (.slice (some ⟨w.heap.size, 0, none⟩) L.length L.length) ∧ SS w' w.heap.size w.heap.size L ∧ Below w.heap.size w w' := by
  rcases h with ⟨rfl, rfl⟩ | ⟨x, cap, rfl, hx, h⟩
  · exact toSS_nil w
  · exact toSS_some x L cap w hx h hn hl
end Go.Proofs.Ytlpidgdlbannbaa
