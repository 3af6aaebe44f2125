/- toVoiceS by its contract. -/
import Derived.Test.YtlpidgdlbannbabDoorVo2
namespace Go.Proofs.YtlpidgdlbannbabDoor
open Go.ChangeShapes Go.WideShapes Go.ChangeAt Go.RowKit Go.Deep
set_option linter.unusedSimpArgs false
set_option linter.unusedVariables false
theorem run_make2 {P : Program} (t e : TypeId) (z0 z1 : Value) (bytes : Nat) (ht : P.underlying t = some (.slice e)) (hinfo : (P.info? e).map (fun i => (i.zero, i.size, i.bytes)) = some (some (.agg #[z0, z1]), 2, bytes)) (h0 : z0.cells = #[z0]) (h1 : z1.cells = #[z1])
    (kl kc : IntKind) (n : Nat) (hbytes : bytes * n ≤ 281474976710656) (h63 : n ≤ 9223372036854775807) (w : World) :
    (Instr.makeSlice t (.int kl (n : Int)) (.int kc (n : Int))).run P w = .ok (.slice (some ⟨w.heap.size, 0, none⟩) n n) (w.alloc (.cells (madeCells #[z0, z1] (n * 2)) e)) := by
  obtain ⟨i, hi, hzz⟩ := Option.map_eq_some_iff.1 hinfo
  simp only [Prod.mk.injEq] at hzz
  obtain ⟨hz, hs, hb⟩ := hzz
  have hb' : (i.bytes : Int) * (n : Int) ≤ 281474976710656 := by
    have h : ((i.bytes * n : Nat) : Int) ≤ 281474976710656 := by rw [hb]; omega
    rwa [Int.natCast_mul] at h
  have hr := run_make (P := P) w t e i _ ht hi hz kl kc n n (by omega) (Int.le_refl _) hb' (by omega)
  have hc : (Value.agg #[z0, z1]).cells = #[z0, z1] := by rfl
  simp only [Int.toNat_natCast, hs, hc] at hr
  exact hr
theorem rowIs_made2 (w : World) (z0 z1 : Value) (n : Nat) (t : TypeId) : (w.alloc (.cells (madeCells #[z0, z1] (n * 2)) t)).rowIs w.heap.size t (n * 2) (fun j => if j % 2 = 0 then z0 else z1) :=
  ⟨_, blk_alloc_new _ _, size_madeCells _ _, fun i hi => by
    have e : (#[z0, z1] : Array Value).size = 2 := rfl
    simp only [madeCells, Array.getElem?_map, Array.getElem?_range, if_pos hi, e]
    rcases Nat.mod_two_eq_zero_or_one i with h | h <;> simp [h]⟩
/-- What cell j of the new row holds when the first k voices are laid. -/
def vf (L : List Vc) (c : Nat → Nat) (k : Nat) : Nat → Value := fun j =>
  if j / 2 < k then (if j % 2 = 0 then .bool (L.getD (j / 2) (false, [])).1 else .slice (some ⟨c (j / 2), 0, none⟩) (L.getD (j / 2) (false, [])).2.length (L.getD (j / 2) (false, [])).2.length)
  else (if j % 2 = 0 then .bool false else .slice none 0 0)
/-- The first k voices of L lie copied in block b, their lists in blocks from base on. -/
structure CopyV (base : Nat) (b : Nat) (wr : World) (L : List Vc) (n k : Nat) (c : Nat → Nat) : Prop where
  row : wr.rowIs b 36 (n * 2) (vf L c k)
  own : ∀ j, j < k → base < c j ∧ OwnI wr (c j) (L.getD j (false, [])).2
theorem vf_step (L : List Vc) (c : Nat → Nat) (k c' : Nat) (j : Nat) :
    (if j = k * 2 + 1 then Value.slice (some ⟨c', 0, none⟩) (L.getD k (false, [])).2.length (L.getD k (false, [])).2.length else if j = k * 2 then .bool (L.getD k (false, [])).1 else vf L c k j) =
      vf L (fun i => if i = k then c' else c i) (k + 1) j := by
  unfold vf
  by_cases e1 : j = k * 2 + 1
  · subst e1
    have h1 : (k * 2 + 1) / 2 = k := by omega
    have h2 : (k * 2 + 1) % 2 = 1 := by omega
    simp [h1, h2]
  · by_cases e2 : j = k * 2
    · subst e2
      have h1 : (k * 2) / 2 = k := by omega
      have h2 : (k * 2) % 2 = 0 := by omega
      simp [h1, h2]
    · have h3 : j / 2 ≠ k := by omega
      rw [if_neg e1, if_neg e2]
      by_cases h : j / 2 < k
      · have h4 : j / 2 < k + 1 := by omega
        rw [if_pos h, if_pos h4]; simp [h3]
      · have h4 : ¬ j / 2 < k + 1 := by omega
        rw [if_neg h, if_neg h4]
theorem copyV_step {base b : Nat} {wr w1 : World} {L : List Vc} {n k : Nat} {c : Nat → Nat} {c' : Nat} (h : CopyV base b wr L n k c) (hb : Below wr.heap.size wr w1) (hbb : b ≤ base) (hlt : base < c') (ho : OwnI w1 c' (L.getD k (false, [])).2) :
    CopyV base b ((w1.setCell ⟨b, k * 2, none⟩ (.bool (L.getD k (false, [])).1)).setCell ⟨b, k * 2 + 1, none⟩ (.slice (some ⟨c', 0, none⟩) (L.getD k (false, [])).2.length (L.getD k (false, [])).2.length)) L n (k + 1) (fun i => if i = k then c' else c i) := by
  refine ⟨(((World.rowIs.of_block h.row (hb.block b h.row.lt)).set (k * 2) _).set (k * 2 + 1) _).congr (fun j _ => vf_step L c k c' j), fun j hj => ?_⟩
  by_cases e : j = k
  · subst e
    simp only [if_pos rfl]
    exact ⟨hlt, World.rowIs.setOther (World.rowIs.setOther ho (by show c' ≠ b; omega) _) (by show c' ≠ b; omega) _⟩
  · rw [if_neg e]
    obtain ⟨q1, q2⟩ := h.own j (by omega)
    exact ⟨q1, World.rowIs.setOther (World.rowIs.setOther (q2.below hb) (by show c j ≠ b; omega) _) (by show c j ≠ b; omega) _⟩
theorem ArgV.below {w w' : World} {x : Addr} {L : List Vc} (h : ArgV w x L) (hx : 0 < L.length → x.block < w.heap.size) (hb : Below w.heap.size w w') : ArgV w' x L := fun k hk => by
  have hx := hx (by omega)
  obtain ⟨v, h1, h2, h3⟩ := h k hk
  exact ⟨v, (hb.cell (by rw [block_add]; exact hx)).trans h1, (hb.cell (by show (x.add (k * 2)).block < _; rw [block_add]; exact hx)).trans h2, h3.below hb⟩
set_option maxRecDepth 100000 in
theorem toVS (x : Addr) (L : List Vc) (cap : Nat) (w : World) (hx : 0 < L.length → x.block < w.heap.size) (h : ArgV w x L) (hn : L.length ≤ 1048576) (hl : ∀ k, k < L.length → (L.getD k (false, [])).2.length ≤ 1048576) :
    Calls Tryd.prog 6 #[.slice (some x) L.length cap] w fun e w' => e = .returned (.slice (some ⟨w.heap.size, 0, none⟩) L.length L.length) ∧ (∃ c, CopyV w.heap.size w.heap.size w' L L.length L.length c) ∧ Below w.heap.size w w' := by
  have hmk := run_make2 (P := Tryd.prog) 26 36 _ _ 32 Tryd.underlying26 infoV rfl rfl .i64 .i64 L.length (by omega) (by omega)
  go_enter Tryd.func6, Tryd.ntmps6
  go_wp2
  go_loopg [4] L.length (fun g i wr => ∃ k : Nat, k ≤ L.length ∧ g = L.length - k ∧ i = .int .i64 k ∧ Below w.heap.size w wr ∧ w.heap.size < wr.heap.size ∧ ∃ c, CopyV w.heap.size w.heap.size wr L L.length k c)
  case atStart => exact ⟨0, Nat.zero_le _, rfl, rfl, (Below.refl _ _).alloc (Nat.le_refl _) _, by simp, fun _ => 0, (rowIs_made2 _ _ _ _ _).congr (fun j _ => by simp [vf]), fun j hj => absurd hj (Nat.not_lt_zero _)⟩
  case round =>
    obtain ⟨k, hk, rfl, rfl, hb, hsz, c, hC⟩ := hrel
    clear hmk
    by_cases hlt : k < L.length
    · have ha := (h.below hx hb) k hlt
      obtain ⟨v, a1, a2, a3⟩ := ha
      have s1 : wr.cell? ⟨w.heap.size, k * 2, none⟩ = some (vf L c k (k * 2)) := hC.row.cell (by omega)
      have s2 : wr.cell? ⟨w.heap.size, k * 2 + 1, none⟩ = some (vf L c k (k * 2 + 1)) := hC.row.cell (by omega)
      have f1 : wr.frozen? ⟨w.heap.size, k * 2, none⟩ = false := hC.row.frozen _
      have f2 : wr.frozen? ⟨w.heap.size, k * 2 + 1, none⟩ = false := hC.row.frozen _
      go_wp2_with fail
      refine (toV _ v _ wr a3 (hl k hlt)).mono ?_
      rintro e w1 ⟨c', rfl, hc', ho, hb1⟩
      obtain ⟨hc1, hf1⟩ := bcell hb1
      rw [← hc1 _ _ hsz] at s1 s2
      rw [← hf1 _ _ hsz] at f1 f2
      clear hc1 hf1 a1 a2
      go_wp2
      go_roundg (L.length - (k + 1))
      case measure => omega
      case rel =>
        have hS := copyV_step hC hb1 (Nat.le_refl _) (by omega) ho
        have eg : L.getD k (false, []) = L[k] := by simp [List.getD, hlt]
        rw [eg] at hS
        refine ⟨k + 1, by omega, rfl, by simp, ?_, ?_, _, hS⟩
        · exact ((hb.trans (hb1.mono (by omega))).setCell (Nat.le_refl _) _).setCell (Nat.le_refl _) _
        · have := hb1.size; simp [World.setCell]; omega
    · have e : k = L.length := by omega
      subst e
      go_wp2
      go_ret
      exact ⟨rfl, ⟨_, hC⟩, hb⟩
set_option maxRecDepth 100000 in
theorem toVS_nil (w : World) :
    Calls Tryd.prog 6 #[.slice none 0 0] w fun e w' => e = .returned (.slice (some ⟨w.heap.size, 0, none⟩) 0 0) ∧ (∃ c, CopyV w.heap.size w.heap.size w' [] 0 0 c) ∧ Below w.heap.size w w' := by
  have hmk : ∀ w, (Instr.makeSlice 26 (.int .i64 0) (.int .i64 0)).run Tryd.prog w = .ok (.slice (some ⟨w.heap.size, 0, none⟩) 0 0) (w.alloc (.cells (madeCells #[.bool false, .slice none 0 0] 0) 36)) :=
    run_make2 (P := Tryd.prog) 26 36 _ _ 32 Tryd.underlying26 infoV rfl rfl .i64 .i64 0 (by omega) (by omega)
  have hC : CopyV w.heap.size w.heap.size (w.alloc (.cells (madeCells #[.bool false, .slice none 0 0] 0) 36)) [] 0 0 (fun _ => 0) :=
    ⟨(rowIs_made2 w (.bool false) (.slice none 0 0) 0 36).congr (fun j hj => by omega), fun j hj => absurd hj (Nat.not_lt_zero _)⟩
  have hB : Below w.heap.size w (w.alloc (.cells (madeCells #[.bool false, .slice none 0 0] 0) 36)) := (Below.refl _ _).alloc (Nat.le_refl _) _
  go_enter Tryd.func6, Tryd.ntmps6
  go_wp2
  go_loopg [4] 0 (fun g i wr => i = .int .i64 0 ∧ Below w.heap.size w wr ∧ CopyV w.heap.size w.heap.size wr [] 0 0 (fun _ => 0))
  case atStart => exact ⟨rfl, hB, hC⟩
  case round =>
    obtain ⟨rfl, hB, hC⟩ := hrel
    clear hmk
    go_wp2
    go_ret
    exact ⟨rfl, ⟨_, hC⟩, hB⟩
/-- A list of voices that lies at value v. -/
def ListV (w : World) (v : Value) (L : List Vc) : Prop := (v = .slice none 0 0 ∧ L = []) ∨ ∃ (x : Addr) (cap : Nat), v = .slice (some x) L.length cap ∧ (0 < L.length → x.block < w.heap.size) ∧ ArgV w x L
theorem ListV.below {w w' : World} {v : Value} {L : List Vc} (h : ListV w v L) (hb : Below w.heap.size w w') : ListV w' v L := by
  rcases h with h | ⟨x, cap, rfl, hx, h⟩
  · exact .inl h
  · exact .inr ⟨x, cap, rfl, fun h => Nat.lt_of_lt_of_le (hx h) hb.size, h.below hx hb⟩
/-- L lies copied in block b, its lists in blocks above base. -/
def Vs (w : World) (base b : Nat) (L : List Vc) : Prop := ∃ c, CopyV base b w L L.length L.length c
theorem Vs.below {w w' : World} {base b : Nat} {L : List Vc} (h : Vs w base b L) (hb : Below w.heap.size w w') : Vs w' base b L := by
  obtain ⟨c, h⟩ := h
  exact ⟨c, World.rowIs.of_block h.row (hb.block b h.row.lt), fun j hj => ⟨(h.own j hj).1, (h.own j hj).2.below hb⟩⟩
theorem Vs.lt {w : World} {base b : Nat} {L : List Vc} (h : Vs w base b L) : b < w.heap.size := by
  obtain ⟨c, h⟩ := h
  exact h.row.lt
theorem OwnI.row {w : World} {c : Nat} {l : List Int} (h : OwnI w c l) (cap : Nat) : RowV w (.slice (some ⟨c, 0, none⟩) l.length cap) l :=
  .inr ⟨_, cap, rfl, fun _ => h.lt, fun i hi => by rw [Addr.add_lit, Nat.zero_add]; exact World.rowIs.cell h hi⟩
/-- What is read of voice k. -/
theorem Vs.at {w : World} {base b : Nat} {L : List Vc} (h : Vs w base b L) {k : Nat} (hk : k < L.length) :
    ∃ c, w.cell? ⟨b, k * 2, none⟩ = some (.bool (L.getD k (false, [])).1) ∧ w.cell? ⟨b, k * 2 + 1, none⟩ = some (.slice (some ⟨c, 0, none⟩) (L.getD k (false, [])).2.length (L.getD k (false, [])).2.length) ∧
      RowV w (.slice (some ⟨c, 0, none⟩) (L.getD k (false, [])).2.length (L.getD k (false, [])).2.length) (L.getD k (false, [])).2 := by
  obtain ⟨c, h⟩ := h
  refine ⟨c k, ?_, ?_, (h.own k hk).2.row _⟩
  · have e1 : k * 2 / 2 = k := by omega
    have e2 : k * 2 % 2 = 0 := by omega
    have := h.row.cell (i := k * 2) (by omega)
    rw [this]; simp [vf, e1, e2, hk]
  · have e1 : (k * 2 + 1) / 2 = k := by omega
    have e2 : (k * 2 + 1) % 2 = 1 := by omega
    have := h.row.cell (i := k * 2 + 1) (by omega)
    rw [this]; simp [vf, e1, e2, hk]
theorem toVS_any (v : Value) (L : List Vc) (w : World) (h : ListV w v L) (hn : L.length ≤ 1048576) (hl : ∀ k, k < L.length → (L.getD k (false, [])).2.length ≤ 1048576) :
    Calls Tryd.prog 6 #[v] w fun e w' => e = .returned (.slice (some ⟨w.heap.size, 0, none⟩) L.length L.length) ∧ Vs w' w.heap.size w.heap.size L ∧ Below w.heap.size w w' := by
  rcases h with ⟨rfl, rfl⟩ | ⟨x, cap, rfl, hx, h⟩
  · exact toVS_nil w
  · exact toVS x L cap w hx h hn hl
end Go.Proofs.YtlpidgdlbannbabDoor
