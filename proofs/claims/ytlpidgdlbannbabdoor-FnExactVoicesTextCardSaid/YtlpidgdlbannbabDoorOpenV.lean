/- Arguments that hold lists of numbers and lists of voices, opened. -/
import Derived.Test.YtlpidgdlbannbabDoorVo4
import Derived.ProofKit
import Derived.OpenShut
import Derived.ChangeOld
import Derived.Deep.Slices
import Derived.Deep.Fields
import Derived.ChangeSame
import Derived.Lib.SmallJoins
namespace Go.Proofs.YtlpidgdlbannbabDoor
open Go.ChangeShapes Go.WideShapes Go.ChangeAt Go.RowKit Go.Joins Go.Deep
set_option linter.unusedVariables false
set_option linter.unusedSimpArgs false
set_option maxRecDepth 100000
theorem cellsB : Tryd.prog.cellsOf 4 = 1 := by kernel_rfl
theorem cellsS : Tryd.prog.cellsOf 31 = 1 := by kernel_rfl
theorem cellsVc : Tryd.prog.cellsOf 33 = 2 := by kernel_rfl
section
variable {H : Type} {enc : TypeId × Value → H} {w : World} {base : Nat} {spare : Nat → Bool} {held : Bool}
theorem at_spot {x : Addr} {v : Value} (h : w.cell? x = some v) : x.spot = none := by
  unfold World.cell? at h
  split at h
  · split at h
    · cases h
    · rename_i q; simpa using q
  · cases h
/-- A slice of numbers reads as a list of numbers. -/
theorem row_of {fuel : Nat} {v : Value} {x : DataW H × List MemPlace} (h : DataW.trod enc Tryd.prog w base spare held fuel 31 [v] = some x) :
    ∃ l, RowV w v l ∧ l.length ≤ 9223372036854775807 ∧ ∀ n ∈ l, (Lit.int .i64 n).wf = true := by
  rcases open_ints Tryd.underlying31 Tryd.underlying2 (by kernel_rfl) h with ⟨hcs, _⟩ | ⟨a, len, cap, zs, hcs, _, hl, hm, hz, _, hcell, hwz⟩
  · simp only [List.cons.injEq, and_true] at hcs
    subst hcs
    exact ⟨[], .inl ⟨rfl, rfl⟩, by simp, by simp⟩
  · simp only [List.cons.injEq, and_true] at hcs
    subst hcs
    have hle : len ≤ zs.length := by rw [hz]; split <;> omega
    have hlen : (zs.take len).length = len := by simp; omega
    have hget : ∀ i, i < len → (zs.take len).getD i 0 = zs.getD i 0 := fun i hi => by simp [List.getD, List.getElem?_take, hi]
    unfold maxLen at hm
    refine ⟨zs.take len, .inr ⟨a, cap, by rw [hlen], fun q => ?_, fun i hi => ?_⟩, by omega, fun n hn => hwz n (List.mem_of_mem_take hn)⟩
    · have := World.block_lt_of_cell? _ _ (hcell 0 (by omega))
      rwa [block_add] at this
    · rw [hlen] at hi
      rw [hget i hi]
      exact hcell i (by omega)
/-- A slice of voices reads as a list of voices. -/
theorem list_of {b0 : Nat} {v : Value} {d : DataW H} {p : List MemPlace}
    (hv : Value.okWide Tryd.prog w .any b0 22 v) (h : DataW.Trod enc Tryd.prog w base spare held 22 v d p) : ∃ L, ListV w v L ∧ Room L := by
  obtain ⟨a0, len0, cap0, rfl⟩ := okWide_slice Tryd.underlying22 hv
  obtain ⟨fuel, hf⟩ := h
  rcases open_slice Tryd.underlying22 hf with ⟨hcs, _⟩ | ⟨a, len, cap, m, n, D, Pl, hcs, _, hl, hm, hmm, _, hi⟩
  · simp [Value.cells] at hcs
    obtain ⟨rfl, rfl, rfl⟩ := hcs
    exact ⟨[], .inl ⟨rfl, rfl⟩, by simp, fun k hk => absurd hk (Nat.not_lt_zero _)⟩
  · simp [Value.cells] at hcs
    obtain ⟨rfl, rfl, rfl⟩ := hcs
    rename_i len cap
    have hlm : len0 ≤ m := by rw [hmm]; split <;> omega
    unfold maxLen at hm
    have key : ∀ i, ∃ q : Vc, i < len0 → ∃ v, w.cell? (a.add (i * 2)) = some (.bool q.1) ∧ w.cell? ⟨(a.add (i * 2)).block, (a.add (i * 2)).off + 1, none⟩ = some v ∧ RowV w v q.2 ∧ q.2.length ≤ 9223372036854775807 := by
      intro i
      by_cases hlt : i < len0
      · obtain ⟨cs, hc, ht⟩ := hi i (by omega)
        rw [cellsVc] at hc
        obtain ⟨ys, n', _, _, hlen, hyl, hfd⟩ := DataW.trod_struct Tryd.underlying33 ht
        rw [cellsVc] at hlen
        obtain ⟨_, _, hat⟩ := World.cells?_some hc
        match cs, hlen with
        | [c0, c1], _ =>
          have q0 := hfd 0 _ rfl
          have q1 := hfd 1 _ rfl
          have e0 := hat 0 (by omega)
          have e1 := hat 1 (by omega)
          simp [cellsB, cellsS] at q0 q1 e0 e1
          have hy2 : ys.length = 2 := hyl
          have z0 : ys[0]? = some (ys[0]'(by omega)) := List.getElem?_eq_getElem _
          have z1 : ys[1]? = some (ys[1]'(by omega)) := List.getElem?_eq_getElem _
          obtain ⟨s, hs, _⟩ := DataW.trod_bool Tryd.underlying4 (q0.trans z0)
          simp only [List.cons.injEq, and_true] at hs
          subst hs
          obtain ⟨l, hl1, hl2, _⟩ := row_of (q1.trans z1)
          have e0' : w.cell? (a.add (i * 2)) = some (.bool s) := by
            have hz : (a.add (i * 2)).add 0 = a.add (i * 2) := by simp [Addr.add]
            rwa [hz] at e0
          have hsp := at_spot e0'
          have e1' : w.cell? ⟨(a.add (i * 2)).block, (a.add (i * 2)).off + 1, none⟩ = some c1 := by
            revert e1 hsp
            generalize a.add (i * 2) = x
            obtain ⟨xb, xo, xs⟩ := x
            intro e1 hsp
            simp only at hsp
            subst hsp
            rwa [Addr.add_lit] at e1
          exact ⟨(s, l), fun _ => ⟨c1, e0', e1', hl1, hl2⟩⟩
      · exact ⟨(false, []), fun q => absurd q hlt⟩
    obtain ⟨f, hf⟩ := Classical.axiomOfChoice key
    have hlenL : ((List.range len0).map f).length = len0 := by simp
    have hget : ∀ k, k < len0 → ((List.range len0).map f).getD k (false, []) = f k := fun k hk => by simp [List.getD, hk]
    refine ⟨(List.range len0).map f, .inr ⟨a, cap0, by rw [hlenL], fun q => ?_, fun k hk => ?_⟩, by rw [hlenL]; omega, fun k hk => ?_⟩
    · obtain ⟨v, h1, _⟩ := hf 0 (by omega)
      have := World.block_lt_of_cell? _ _ h1
      rwa [block_add] at this
    · rw [hlenL] at hk
      obtain ⟨v, h1, h2, h3, _⟩ := hf k hk
      rw [hget k hk]
      exact ⟨v, h1, h2, h3⟩
    · rw [hlenL] at hk
      obtain ⟨v, _, _, _, h4⟩ := hf k hk
      rw [hget k hk]
      exact h4
theorem ints_of {b0 : Nat} {v : Value} {d : DataW H} {p : List MemPlace}
    (hv : Value.okWide Tryd.prog w .any b0 31 v) (h : DataW.Trod enc Tryd.prog w base spare held 31 v d p) : ∃ l, RowV w v l ∧ l.length ≤ 9223372036854775807 ∧ ∀ n ∈ l, (Lit.int .i64 n).wf = true := by
  obtain ⟨a0, len0, cap0, rfl⟩ := okWide_slice Tryd.underlying31 hv
  obtain ⟨fuel, hf⟩ := h
  exact row_of (v := .slice a0 len0 cap0) hf
end
end Go.Proofs.YtlpidgdlbannbabDoor
