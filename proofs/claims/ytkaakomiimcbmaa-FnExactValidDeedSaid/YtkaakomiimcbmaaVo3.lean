/- toVoiceS by its contract. -/
import Derived.Test.YtkaakomiimcbmaaVo2
namespace Go.Proofs.Ytkaakomiimcbmaa
open Go.ChangeShapes Go.WideShapes Go.ChangeAt Go.RowKit Go.Deep
set_option linter.unusedSimpArgs false
set_option linter.unusedVariables false
theorem run_make2 {P : Program} (t e : TypeId) (z0 z1 : Value) (bytes : Nat) (ht : P.underlying t = some (.slice e)) (hinfo : (P.info? e).map (fun i => (i.zero, i.size, i.bytes)) = some (some (.agg #[z0, z1]), 2, bytes)) (h0 : z0.cells = #[z0]) (h1 : z1.cells = #[z1])
    (kl kc : IntKind) (n : Nat) (hbytes : bytes * n ≤ 281474976710656) (h63 : n ≤ 9223372036854775807) (w : World) :
    (Instr.makeSlice t (.int kl (n : Int)) (.int kc (n : Int))).run P w = .ok (.slice (some ⟨w.heap.size, 0, none⟩) n n) (w.alloc (.cells (madeCells #[z0, z1] (n * 2)) e)) := by
  obtain ⟨i, hi, hzz⟩ := Option.map_eq_some_iff.1 hinfo
  simp only [Prod.mk.injEq] at hzz
  obtain ⟨hz, hs, hb⟩ := hzz
  have hb' : (i.bytes : Int) * (n : Int) ≤ 281474976710656 := by
    have h : ((i.bytes * n : Nat) : Int) ≤ 281474976710656 := by rw [hb]; omega
    rwa [Int.natCast_mul] at h
  have hr := run_make (P := P) w t e i _ ht hi hz kl kc n n (by omega) (Int.le_refl _) hb' (by omega)
  have hc : (Value.agg #[z0, z1]).cells = #[z0, z1] := by rfl
  simp only [Int.toNat_natCast, hs, hc] at hr
  exact hr
theorem rowIs_made2 (w : World) (z0 z1 : Value) (n : Nat) (t : TypeId) : (w.alloc (.cells (madeCells #[z0, z1] (n * 2)) t)).rowIs w.heap.size t (n * 2) (fun j => if j % 2 = 0 then z0 else z1) :=
  ⟨_, blk_alloc_new _ _, size_madeCells _ _, fun i hi => by
    have e : (#[z0, z1] : Array Value).size = 2 := rfl
    simp only [madeCells, Array.getElem?_map, Array.getElem?_range, if_pos hi, e]
    rcases Nat.mod_two_eq_zero_or_one i with h | h <;> simp [h]⟩
/-- What cell j of the new row holds when the first k voices are laid. -/
def vf (L : List Vc) (c : Nat → Nat) (k : Nat) : Nat → Value := fun j =>
  if j / 2 < k then (if j % 2 = 0 then .bool (L.getD (j / 2) (false, [])).1 else .slice (some ⟨c (j / 2), 0, none⟩) (L.getD (j / 2) (false, [])).2.length (L.getD (j / 2) (false, [])).2.length)
  else (if j % 2 = 0 then .bool false else .slice none 0 0)
theorem vf_step (L : List Vc) (c : Nat → Nat) (k c' : Nat) (j : Nat) :
    (if j = k * 2 + 1 then Value.slice (some ⟨c', 0, none⟩) (L.getD k (false, [])).2.length (L.getD k (false, [])).2.length else if j = k * 2 then .bool (L.getD k (false, [])).1 else vf L c k j) =
      vf L (fun i => if i = k then c' else c i) (k + 1) j := by
  unfold vf
  by_cases e1 : j = k * 2 + 1
  · subst e1
    have h1 : (k * 2 + 1) / 2 = k := by omega
    have h2 : (k * 2 + 1) % 2 = 1 := by omega
    simp [h1, h2]
  · by_cases e2 : j = k * 2
    · subst e2
      have h1 : (k * 2) / 2 = k := by omega
      have h2 : (k * 2) % 2 = 0 := by omega
      simp [h1, h2]
    · have h3 : j / 2 ≠ k := by omega
      rw [if_neg e1, if_neg e2]
      by_cases h : j / 2 < k
      · have h4 : j / 2 < k + 1 := by omega
        rw [if_pos h, if_pos h4]; simp [h3]
      · have h4 : ¬ j / 2 < k + 1 := by omega
        rw [if_neg h, if_neg h4]
theorem ArgV.below {w w' : World} {x : Addr} {L : List Vc} (h : ArgV w x L) (hx : 0 < L.length → x.block < w.heap.size) (hb : Below w.heap.size w w') : ArgV w' x L := fun k hk => by
  have hx := hx (by omega)
  obtain ⟨v, h1, h2, h3⟩ := h k hk
  exact ⟨v, (hb.cell (by rw [block_add]; exact hx)).trans h1, (hb.cell (by show (x.add (k * 2)).block < _; rw [block_add]; exact hx)).trans h2, h3.below hb⟩
/-- A list of voices that lies at value v. -/
def ListV (w : World) (v : Value) (L : List Vc) : Prop := (v = .slice none 0 0 ∧ L = []) ∨ ∃ (x : Addr) (cap : Nat), v = .slice (some x) L.length cap ∧ (0 < L.length → x.block < w.heap.size) ∧ ArgV w x L
theorem ListV.below {w w' : World} {v : Value} {L : List Vc} (h : ListV w v L) (hb : Below w.heap.size w w') : ListV w' v L := by
  rcases h with h | ⟨x, cap, rfl, hx, h⟩
  · exact .inl h
  · exact .inr ⟨x, cap, rfl, fun h => Nat.lt_of_lt_of_le (hx h) hb.size, h.below hx hb⟩
theorem OwnI.row {w : World} {c : Nat} {l : List Int} (h : OwnI w c l) (cap : Nat) : RowV w (.slice (some ⟨c, 0, none⟩) l.length cap) l :=
  .inr ⟨_, cap, rfl, fun _ => h.lt, fun i hi => by rw [Addr.add_lit, Nat.zero_add]; exact World.rowIs.cell h hi⟩
end Go.Proofs.Ytkaakomiimcbmaa
