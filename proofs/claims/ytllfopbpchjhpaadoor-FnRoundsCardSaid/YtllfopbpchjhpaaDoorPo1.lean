/- Quotas and lists of quotas: copied. -/
import Derived.Test.YtllfopbpchjhpaaDoorVo3
namespace Go.Proofs.YtllfopbpchjhpaaDoor
set_option linter.unusedSimpArgs false
set_option linter.unusedVariables false
open Go.ChangeShapes Go.WideShapes Go.ChangeAt Go.RowKit Go.Deep
abbrev Qt := List Int × Int × Int
abbrev q0 : Qt := ([], 0, 0)
theorem run_make3 {P : Program} (t e : TypeId) (z0 z1 z2 : Value) (bytes : Nat) (ht : P.underlying t = some (.slice e)) (hinfo : (P.info? e).map (fun i => (i.zero, i.size, i.bytes)) = some (some (.agg #[z0, z1, z2]), 3, bytes)) (h0 : (Value.agg #[z0, z1, z2]).cells = #[z0, z1, z2])
    (kl kc : IntKind) (n : Nat) (hbytes : bytes * n ≤ 281474976710656) (h63 : n ≤ 9223372036854775807) (w : World) :
    (Instr.makeSlice t (.int kl (n : Int)) (.int kc (n : Int))).run P w = .ok (.slice (some ⟨w.heap.size, 0, none⟩) n n) (w.alloc (.cells (madeCells #[z0, z1, z2] (n * 3)) e)) := by
  obtain ⟨i, hi, hzz⟩ := Option.map_eq_some_iff.1 hinfo
  simp only [Prod.mk.injEq] at hzz
  obtain ⟨hz, hs, hb⟩ := hzz
  have hb' : (i.bytes : Int) * (n : Int) ≤ 281474976710656 := by
    have h : ((i.bytes * n : Nat) : Int) ≤ 281474976710656 := by rw [hb]; omega
    rwa [Int.natCast_mul] at h
  have hr := run_make (P := P) w t e i _ ht hi hz kl kc n n (by omega) (Int.le_refl _) hb' (by omega)
  simp only [Int.toNat_natCast, hs, h0] at hr
  exact hr
theorem rowIs_made3 (w : World) (z0 z1 z2 : Value) (n : Nat) (t : TypeId) : (w.alloc (.cells (madeCells #[z0, z1, z2] (n * 3)) t)).rowIs w.heap.size t (n * 3) (fun j => if j % 3 = 0 then z0 else if j % 3 = 1 then z1 else z2) :=
  ⟨_, blk_alloc_new _ _, size_madeCells _ _, fun i hi => by
    have e : (#[z0, z1, z2] : Array Value).size = 3 := rfl
    simp only [madeCells, Array.getElem?_map, Array.getElem?_range, if_pos hi, e]
    have : i % 3 = 0 ∨ i % 3 = 1 ∨ i % 3 = 2 := by omega
    rcases this with h | h | h <;> simp [h]⟩
/-- Element k of a list of quotas that lies at x, each of three cells. -/
def ArgQ (w : World) (x : Addr) (L : List Qt) : Prop :=
  ∀ k, k < L.length → ∃ v, w.cell? (x.add (k * 3)) = some v ∧ w.cell? ⟨(x.add (k * 3)).block, (x.add (k * 3)).off + 1, none⟩ = some (.int .i64 (L.getD k q0).2.1) ∧ w.cell? ⟨(x.add (k * 3)).block, (x.add (k * 3)).off + 2, none⟩ = some (.int .i64 (L.getD k q0).2.2) ∧ RowV w v (L.getD k q0).1
theorem ArgQ.below {w w' : World} {x : Addr} {L : List Qt} (h : ArgQ w x L) (hx : 0 < L.length → x.block < w.heap.size) (hb : Below w.heap.size w w') : ArgQ w' x L := fun k hk => by
  have hx := hx (by omega)
  obtain ⟨v, h1, h2, h3, h4⟩ := h k hk
  exact ⟨v, (hb.cell (by rw [block_add]; exact hx)).trans h1, (hb.cell (by show (x.add (k * 3)).block < _; rw [block_add]; exact hx)).trans h2, (hb.cell (by show (x.add (k * 3)).block < _; rw [block_add]; exact hx)).trans h3, h4.below hb⟩
def ListQ (w : World) (v : Value) (L : List Qt) : Prop := (v = .slice none 0 0 ∧ L = []) ∨ ∃ (x : Addr) (cap : Nat), v = .slice (some x) L.length cap ∧ (0 < L.length → x.block < w.heap.size) ∧ ArgQ w x L
theorem ListQ.below {w w' : World} {v : Value} {L : List Qt} (h : ListQ w v L) (hb : Below w.heap.size w w') : ListQ w' v L := by
  rcases h with h | ⟨x, cap, rfl, hx, h⟩
  · exact .inl h
  · exact .inr ⟨x, cap, rfl, fun h => Nat.lt_of_lt_of_le (hx h) hb.size, h.below hx hb⟩
theorem ListQ.shape {w : World} {v : Value} {L : List Qt} (h : ListQ w v L) : ∃ a cap, v = .slice a L.length cap := by
  rcases h with ⟨rfl, rfl⟩ | ⟨x, cap, rfl, -, -⟩
  · exact ⟨none, 0, rfl⟩
  · exact ⟨_, cap, rfl⟩
/-- What cell j of the new row holds when the first k quotas are laid. -/
def qf (L : List Qt) (c : Nat → Nat) (k : Nat) : Nat → Value := fun j =>
  if j / 3 < k then (if j % 3 = 0 then .slice (some ⟨c (j / 3), 0, none⟩) (L.getD (j / 3) q0).1.length (L.getD (j / 3) q0).1.length else if j % 3 = 1 then .int .i64 (L.getD (j / 3) q0).2.1 else .int .i64 (L.getD (j / 3) q0).2.2)
  else (if j % 3 = 0 then .slice none 0 0 else if j % 3 = 1 then .int .i64 0 else .int .i64 0)
theorem qf_step (L : List Qt) (c : Nat → Nat) (k c' : Nat) (j : Nat) :
    (if j = k * 3 + 2 then Value.int .i64 (L.getD k q0).2.2 else if j = k * 3 + 1 then .int .i64 (L.getD k q0).2.1 else if j = k * 3 then .slice (some ⟨c', 0, none⟩) (L.getD k q0).1.length (L.getD k q0).1.length else qf L c k j) =
      qf L (fun i => if i = k then c' else c i) (k + 1) j := by
  unfold qf
  by_cases e2 : j = k * 3 + 2
  · subst e2
    have h1 : (k * 3 + 2) / 3 = k := by omega
    have h2 : (k * 3 + 2) % 3 = 2 := by omega
    simp [h1, h2]
  · by_cases e1 : j = k * 3 + 1
    · subst e1
      have h1 : (k * 3 + 1) / 3 = k := by omega
      have h2 : (k * 3 + 1) % 3 = 1 := by omega
      simp [h1, h2]
    · by_cases e0 : j = k * 3
      · subst e0
        have h1 : (k * 3) / 3 = k := by omega
        have h2 : (k * 3) % 3 = 0 := by omega
        simp [h1, h2]
      · have h3 : j / 3 ≠ k := by omega
        rw [if_neg e2, if_neg e1, if_neg e0]
        by_cases h : j / 3 < k
        · have h4 : j / 3 < k + 1 := by omega
          rw [if_pos h, if_pos h4]; simp [h3]
        · have h4 : ¬ j / 3 < k + 1 := by omega
          rw [if_neg h, if_neg h4]
end Go.Proofs.YtllfopbpchjhpaaDoor
