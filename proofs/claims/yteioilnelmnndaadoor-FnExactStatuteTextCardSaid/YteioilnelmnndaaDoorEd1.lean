/- Edits in a world: what came in, copied, sized, compared. -/
import Derived.Test.YteioilnelmnndaaDoorVo5
namespace Go.Proofs.YteioilnelmnndaaDoor
open Go.ChangeShapes Go.WideShapes Go.ChangeAt Go.RowKit Go.Deep
set_option linter.unusedSimpArgs false
set_option linter.unusedVariables false
abbrev Ed := Int × Int × ByteArray × ByteArray
abbrev e0 : Ed := (0, 0, ⟨#[]⟩, ⟨#[]⟩)
set_option maxRecDepth 100000 in
theorem infoE : (Tryd.prog.info? 57).map (fun i => (i.zero, i.size, i.bytes)) = some (some (.agg #[.int .i64 0, .int .i64 0, .string ⟨#[]⟩, .string ⟨#[]⟩]), 4, 48) := by kernel_rfl
theorem run_make4 {P : Program} (t e : TypeId) (z0 z1 z2 z3 : Value) (bytes : Nat) (ht : P.underlying t = some (.slice e)) (hinfo : (P.info? e).map (fun i => (i.zero, i.size, i.bytes)) = some (some (.agg #[z0, z1, z2, z3]), 4, bytes)) (h0 : (Value.agg #[z0, z1, z2, z3]).cells = #[z0, z1, z2, z3])
    (kl kc : IntKind) (n : Nat) (hbytes : bytes * n ≤ 281474976710656) (h63 : n ≤ 9223372036854775807) (w : World) :
    (Instr.makeSlice t (.int kl (n : Int)) (.int kc (n : Int))).run P w = .ok (.slice (some ⟨w.heap.size, 0, none⟩) n n) (w.alloc (.cells (madeCells #[z0, z1, z2, z3] (n * 4)) e)) := by
  obtain ⟨i, hi, hzz⟩ := Option.map_eq_some_iff.1 hinfo
  simp only [Prod.mk.injEq] at hzz
  obtain ⟨hz, hs, hb⟩ := hzz
  have hb' : (i.bytes : Int) * (n : Int) ≤ 281474976710656 := by
    have h : ((i.bytes * n : Nat) : Int) ≤ 281474976710656 := by rw [hb]; omega
    rwa [Int.natCast_mul] at h
  have hr := run_make (P := P) w t e i _ ht hi hz kl kc n n (by omega) (Int.le_refl _) hb' (by omega)
  simp only [Int.toNat_natCast, hs, h0] at hr
  exact hr
theorem rowIs_made4 (w : World) (z0 z1 z2 z3 : Value) (n : Nat) (t : TypeId) : (w.alloc (.cells (madeCells #[z0, z1, z2, z3] (n * 4)) t)).rowIs w.heap.size t (n * 4) (fun j => if j % 4 = 0 then z0 else if j % 4 = 1 then z1 else if j % 4 = 2 then z2 else z3) :=
  ⟨_, blk_alloc_new _ _, size_madeCells _ _, fun i hi => by
    have e : (#[z0, z1, z2, z3] : Array Value).size = 4 := rfl
    simp only [madeCells, Array.getElem?_map, Array.getElem?_range, if_pos hi, e]
    have : i % 4 = 0 ∨ i % 4 = 1 ∨ i % 4 = 2 ∨ i % 4 = 3 := by omega
    rcases this with h | h | h | h <;> simp [h]⟩
/-- An edit that lies at a block and an offset. -/
def EdAt (w : World) (b o : Nat) (e : Ed) : Prop :=
  w.cell? ⟨b, o, none⟩ = some (.int .i64 e.1) ∧ w.cell? ⟨b, o + 1, none⟩ = some (.int .i64 e.2.1) ∧ w.cell? ⟨b, o + 2, none⟩ = some (.string e.2.2.1) ∧ w.cell? ⟨b, o + 3, none⟩ = some (.string e.2.2.2)
/-- Element k of a list of edits that lies at x, each of four cells. -/
def ArgE (w : World) (x : Addr) (L : List Ed) : Prop :=
  ∀ k, k < L.length → w.cell? (x.add (k * 4)) = some (.int .i64 (L.getD k e0).1) ∧ w.cell? ⟨(x.add (k * 4)).block, (x.add (k * 4)).off + 1, none⟩ = some (.int .i64 (L.getD k e0).2.1) ∧ w.cell? ⟨(x.add (k * 4)).block, (x.add (k * 4)).off + 2, none⟩ = some (.string (L.getD k e0).2.2.1) ∧ w.cell? ⟨(x.add (k * 4)).block, (x.add (k * 4)).off + 3, none⟩ = some (.string (L.getD k e0).2.2.2)
theorem ArgE.below {w w' : World} {x : Addr} {L : List Ed} (h : ArgE w x L) (hx : 0 < L.length → x.block < w.heap.size) (hb : Below w.heap.size w w') : ArgE w' x L := fun k hk => by
  have hx := hx (by omega)
  obtain ⟨h1, h2, h3, h4⟩ := h k hk
  exact ⟨(hb.cell (by rw [block_add]; exact hx)).trans h1, (hb.cell (by show (x.add (k * 4)).block < _; rw [block_add]; exact hx)).trans h2, (hb.cell (by show (x.add (k * 4)).block < _; rw [block_add]; exact hx)).trans h3, (hb.cell (by show (x.add (k * 4)).block < _; rw [block_add]; exact hx)).trans h4⟩
def ListE (w : World) (v : Value) (L : List Ed) : Prop := (v = .slice none 0 0 ∧ L = []) ∨ ∃ (x : Addr) (cap : Nat), v = .slice (some x) L.length cap ∧ (0 < L.length → x.block < w.heap.size) ∧ ArgE w x L
theorem ListE.below {w w' : World} {v : Value} {L : List Ed} (h : ListE w v L) (hb : Below w.heap.size w w') : ListE w' v L := by
  rcases h with h | ⟨x, cap, rfl, hx, h⟩
  · exact .inl h
  · exact .inr ⟨x, cap, rfl, fun h => Nat.lt_of_lt_of_le (hx h) hb.size, h.below hx hb⟩
theorem ListE.shape {w : World} {v : Value} {L : List Ed} (h : ListE w v L) : ∃ a cap, v = .slice a L.length cap := by
  rcases h with ⟨rfl, rfl⟩ | ⟨x, cap, rfl, -, -⟩
  · exact ⟨none, 0, rfl⟩
  · exact ⟨_, cap, rfl⟩
/-- What cell j of a new row holds when the first k edits are laid. -/
def ef (L : List Ed) (k : Nat) : Nat → Value := fun j =>
  if j / 4 < k then (if j % 4 = 0 then .int .i64 (L.getD (j / 4) e0).1 else if j % 4 = 1 then .int .i64 (L.getD (j / 4) e0).2.1 else if j % 4 = 2 then .string (L.getD (j / 4) e0).2.2.1 else .string (L.getD (j / 4) e0).2.2.2)
  else (if j % 4 = 0 then .int .i64 0 else if j % 4 = 1 then .int .i64 0 else if j % 4 = 2 then .string ⟨#[]⟩ else .string ⟨#[]⟩)
/-- L lies in block b, which is the call's own. -/
def Es (w : World) (b : Nat) (L : List Ed) : Prop := w.rowIs b 57 (L.length * 4) (ef L L.length)
theorem Es.below {w w' : World} {b : Nat} {L : List Ed} (h : Es w b L) (hb : Below w.heap.size w w') : Es w' b L := World.rowIs.of_block h (hb.block b (World.rowIs.lt h))
theorem Es.lt {w : World} {b : Nat} {L : List Ed} (h : Es w b L) : b < w.heap.size := World.rowIs.lt h
theorem Es.at {w : World} {b : Nat} {L : List Ed} (h : Es w b L) {k : Nat} (hk : k < L.length) : EdAt w b (k * 4) (L.getD k e0) := by
  refine ⟨?_, ?_, ?_, ?_⟩
  · have e1 : k * 4 / 4 = k := by omega
    have e2 : k * 4 % 4 = 0 := by omega
    rw [World.rowIs.cell h (i := k * 4) (by omega)]; simp [ef, e1, e2, hk]
  · have e1 : (k * 4 + 1) / 4 = k := by omega
    have e2 : (k * 4 + 1) % 4 = 1 := by omega
    rw [World.rowIs.cell h (i := k * 4 + 1) (by omega)]; simp [ef, e1, e2, hk]
  · have e1 : (k * 4 + 2) / 4 = k := by omega
    have e2 : (k * 4 + 2) % 4 = 2 := by omega
    rw [World.rowIs.cell h (i := k * 4 + 2) (by omega)]; simp [ef, e1, e2, hk]
  · have e1 : (k * 4 + 3) / 4 = k := by omega
    have e2 : (k * 4 + 3) % 4 = 3 := by omega
    rw [World.rowIs.cell h (i := k * 4 + 3) (by omega)]; simp [ef, e1, e2, hk]
theorem Es.list {w : World} {b : Nat} {L : List Ed} (h : Es w b L) (cap : Nat) : ListE w (.slice (some ⟨b, 0, none⟩) L.length cap) L :=
  .inr ⟨_, cap, rfl, fun _ => h.lt, fun k hk => by
    obtain ⟨h1, h2, h3, h4⟩ := h.at hk
    rw [Addr.add_lit, Nat.zero_add]
    exact ⟨h1, h2, h3, h4⟩⟩
theorem ef_step (L : List Ed) (k j : Nat) :
    (if j = k * 4 + 3 then Value.string (L.getD k e0).2.2.2 else if j = k * 4 + 2 then .string (L.getD k e0).2.2.1 else if j = k * 4 + 1 then .int .i64 (L.getD k e0).2.1 else if j = k * 4 then .int .i64 (L.getD k e0).1 else ef L k j) = ef L (k + 1) j := by
  unfold ef
  by_cases q3 : j = k * 4 + 3
  · subst q3
    have h1 : (k * 4 + 3) / 4 = k := by omega
    have h2 : (k * 4 + 3) % 4 = 3 := by omega
    simp [h1, h2]
  by_cases q2 : j = k * 4 + 2
  · subst q2
    have h1 : (k * 4 + 2) / 4 = k := by omega
    have h2 : (k * 4 + 2) % 4 = 2 := by omega
    simp [h1, h2]
  by_cases q1 : j = k * 4 + 1
  · subst q1
    have h1 : (k * 4 + 1) / 4 = k := by omega
    have h2 : (k * 4 + 1) % 4 = 1 := by omega
    simp [h1, h2]
  by_cases q0 : j = k * 4
  · subst q0
    have h1 : (k * 4) / 4 = k := by omega
    have h2 : (k * 4) % 4 = 0 := by omega
    simp [h1, h2]
  rw [if_neg q3, if_neg q2, if_neg q1, if_neg q0]
  by_cases h : j / 4 < k
  · have h4 : j / 4 < k + 1 := by omega
    rw [if_pos h, if_pos h4]
  · have h4 : ¬ j / 4 < k + 1 := by omega
    rw [if_neg h, if_neg h4]
end Go.Proofs.YteioilnelmnndaaDoor
