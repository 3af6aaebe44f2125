/- A map from Ids to edits that the call has made; the first edit with an Id, by the specification. -/
import Derived.Test.YtkpnkaihehneiaaDoorCf1
import Derived.Maps.Own
import Derived.Maps.OwnSet
import Derived.Maps.Views
namespace Go.Proofs.YtkpnkaihehneiaaDoor
open Go.ChangeShapes Go.WideShapes Go.ChangeAt Go.RowKit Go.Deep Go.Maps
set_option linter.unusedSimpArgs false
set_option linter.unusedVariables false
abbrev TE : TypeId := 109
theorem keyI7 : Keyed Tryd.prog 2 := int_keyed Tryd.underlying2
theorem zeroEd (w : World) : (zeroValue 70).run Tryd.prog w = .ok (vE e0) w := by kernel_rfl
def dEd (e : Ed) : DataW Unit := .agg [.lit (.int .i64 e.1), .lit (.int .i64 e.2.1), .lit (.string e.2.2.1.data.toList), .lit (.string e.2.2.2.data.toList)]
theorem vE_inj {e e' : Ed} (h : vE e = vE e') : e = e' := by
  obtain ⟨a, b, c, d⟩ := e
  obtain ⟨a', b', c', d'⟩ := e'
  simp only [vE, Value.agg.injEq, Array.mk.injEq, List.cons.injEq, Value.int.injEq, Value.string.injEq, true_and, and_true] at h
  obtain ⟨rfl, rfl, rfl, rfl⟩ := h
  rfl
theorem bytes_inj {a b : ByteArray} (h : a.data.toList = b.data.toList) : a = b := ByteArray.ext (by simpa using h)
theorem dEd_inj {e e' : Ed} (h : dEd e = dEd e') : e = e' := by
  obtain ⟨a, b, c, d⟩ := e
  obtain ⟨a', b', c', d'⟩ := e'
  simp only [dEd, DataW.agg.injEq, List.cons.injEq, DataW.lit.injEq, Lit.int.injEq, Lit.string.injEq, true_and, and_true] at h
  obtain ⟨rfl, rfl, h3, h4⟩ := h
  rw [bytes_inj h3, bytes_inj h4]
noncomputable def rEd (v : Value) : Option (DataW Unit × List MemPlace) := @dite _ (∃ e, v = vE e) (Classical.propDecidable _) (fun h => some (dEd (Classical.choose h), [])) (fun _ => none)
theorem rEd_mk (e : Ed) : rEd (vE e) = some (dEd e, []) := by
  have h : ∃ x, vE e = vE x := ⟨e, rfl⟩
  unfold rEd
  rw [dif_pos h, ← vE_inj (Classical.choose_spec h)]
theorem rEd_inv {v : Value} {z : DataW Unit × List MemPlace} (h : rEd v = some z) : ∃ e, v = vE e ∧ z.1 = dEd e := by
  unfold rEd at h
  split at h
  · rename_i hx
    cases h
    exact ⟨_, Classical.choose_spec hx, rfl⟩
  · cases h
/-- The call's own map holds the edits of L by their Ids. -/
def MapE (w : World) (b n : Nat) (L : List Ed) : Prop :=
  ∃ D : DataW Unit, w.ownsMap Tryd.prog 2 rEd b n D ∧ ∀ y : Int, has D (.int .i64 y) = (lst L y).isSome ∧ D.atKey (.int .i64 y) (dEd e0) = dEd ((lst L y).getD e0)
theorem MapE.made (w : World) : MapE (w.alloc (.map #[] 0)) w.heap.size 0 [] := ⟨_, World.ownsMap_made w _ _ _, fun y => ⟨by simp [has, lst_nil], by simp [WideAt.atKey_none, lst_nil]⟩⟩
theorem MapE.lt {w : World} {b n : Nat} {L : List Ed} (h : MapE w b n L) : b < w.heap.size := by
  obtain ⟨D, h, _⟩ := h
  exact h.lt
theorem MapE.below {w w' : World} {b n : Nat} {L : List Ed} (h : MapE w b n L) (hb : Below w.heap.size w w') : MapE w' b n L := by
  obtain ⟨D, h, hD⟩ := h
  have hl := h.lt
  obtain ⟨es, clock, hh, F, hs, e⟩ := h
  exact ⟨D, ⟨es, clock, (hb.block b hl).trans hh, F, hs, e⟩, hD⟩
theorem MapE.look {w : World} {b n : Nat} {L : List Ed} (h : MapE w b n L) (y : Int) (hy : (Lit.int .i64 y).wf = true) :
    (Instr.lookup TE (.map (some b)) (.int .i64 y) true).run Tryd.prog w = .ok (.tuple #[vE ((lst L y).getD e0), .bool (lst L y).isSome]) w := by
  obtain ⟨D, h, hD⟩ := h
  obtain ⟨v, ps, hrun, hv⟩ := h.look_ok keyI7 Tryd.underlying109 (zeroEd w) (rEd_mk e0) (keyOf_int_mk Tryd.underlying2 hy)
  obtain ⟨e, rfl, hx⟩ := rEd_inv hv
  have hh := (hD y).2.symm.trans hx
  rw [hrun, (hD y).1, dEd_inj hh]
theorem MapE.store {w : World} {b n : Nat} {L : List Ed} (h : MapE w b n L) (hn : n < maxLen) (e : Ed) (hy : (Lit.int .i64 e.2.1).wf = true) :
    ∃ w', (Instr.mapUpdate TE (.map (some b)) (.int .i64 e.2.1) (vE e)).run Tryd.prog w = .ok () w' ∧ MapE w' b (n + 1) (L ++ [e]) ∧ w.grownBy w' (some b) := by
  obtain ⟨D, h, hD⟩ := h
  obtain ⟨w', hrun, h', hg⟩ := h.update keyI7 Tryd.underlying109 hn (keyOf_int_mk Tryd.underlying2 hy) (rEd_mk e)
  refine ⟨w', hrun, ⟨_, h', fun z => ?_⟩, hg⟩
  rw [lst_snoc]
  by_cases q : e.2.1 = z
  · subst q
    rw [atKey_put_same h.isMap (by exact trivial), has_put_same h.isMap (by exact trivial)]
    simp
  · have hne : (Lit.int IntKind.i64 z) ≠ (Lit.int IntKind.i64 e.2.1) := by intro k; injection k with _ k; exact q k.symm
    rw [atKey_put_other hne, has_put_other hne, if_neg q]
    exact hD z
set_option maxHeartbeats 1000000 in
set_option maxRecDepth 100000 in
theorem sedof (L : List Ed) (b cap : Nat) (y : Int) (w : World) (h : Es w b L) (hl : L.length ≤ 1048576) :
    Calls Tryd.prog 60 #[.slice (some ⟨b, 0, none⟩) L.length cap, .int .i64 y] w fun e w' => e = .returned (vE ((fnd L y).getD e0)) ∧ Below w.heap.size w w' := by
  have HX := Lib.hid h
  clear h
  have b1 := (Below.refl w.heap.size w).alloc (Nat.le_refl _) (.cells #[.int .i64 0, .int .i64 0, .string ⟨#[]⟩, .string ⟨#[]⟩] 70)
  go_enter Tryd.func60, Tryd.ntmps60
  go_wp2
  obtain ⟨W1, hW1⟩ : ∃ W1, W1 = w.alloc (.cells #[.int .i64 0, .int .i64 0, .string ⟨#[]⟩, .string ⟨#[]⟩] 70) := ⟨_, rfl⟩
  have q0 : W1.cell? ⟨w.heap.size, 0, none⟩ = some (.int .i64 0) := by rw [hW1]; go_simp
  have q1 : W1.cell? ⟨w.heap.size, 1, none⟩ = some (.int .i64 0) := by rw [hW1]; go_simp
  have q2 : W1.cell? ⟨w.heap.size, 2, none⟩ = some (.string ⟨#[]⟩) := by rw [hW1]; go_simp
  have q3 : W1.cell? ⟨w.heap.size, 3, none⟩ = some (.string ⟨#[]⟩) := by rw [hW1]; go_simp
  have z0 : W1.frozen? ⟨w.heap.size, 0, none⟩ = false := by rw [hW1]; go_simp
  have z1 : W1.frozen? ⟨w.heap.size, 1, none⟩ = false := by rw [hW1]; go_simp
  have z2 : W1.frozen? ⟨w.heap.size, 2, none⟩ = false := by rw [hW1]; go_simp
  have z3 : W1.frozen? ⟨w.heap.size, 3, none⟩ = false := by rw [hW1]; go_simp
  rw [← hW1] at b1
  simp only [← hW1]
  have HW := Lib.hid hW1
  clear hW1
  go_loopg [5] L.length (fun g i wr => ∃ k : Nat, k ≤ L.length ∧ g = L.length - k ∧ i = .int .i64 k ∧ wr = W1 ∧ Hid (∀ j, j < k → (L.getD j e0).2.1 ≠ y))
  case atStart => exact ⟨0, Nat.zero_le _, rfl, rfl, rfl, fun j hj => absurd hj (Nat.not_lt_zero _)⟩
  case round =>
    obtain ⟨k, hk, rfl, rfl, rfl, H⟩ := hrel
    by_cases hlt : k < L.length
    · obtain ⟨a1, a2, a3, a4⟩ := (HX.out.below b1).at hlt
      have lb := HX.out.lt
      obtain ⟨q, hq⟩ : ∃ q, L.getD k e0 = q := ⟨_, rfl⟩
      rw [hq] at a1 a2 a3 a4
      obtain ⟨n, i, sa, sb⟩ := q
      have HQ := Lib.hid hq
      simp only at a1 a2 a3 a4
      clear hq
      by_cases hy : i = y
      · subst hy
        have HF : Hid (fnd L i = some (n, i, sa, sb)) := by
          have e : L[k] = (n, i, sa, sb) := by rw [← HQ.out]; simp [List.getD, hlt]
          refine List.find?_eq_some_iff_getElem.2 ⟨by simp, k, hlt, e, fun j hj => ?_⟩
          have := H.out j hj
          have hjl : j < L.length := by omega
          simpa [List.getD, hjl] using this
        have lbs := b1.size
        go_wp2
        refine bodyPost_ret (v := .agg #[.int .i64 n, .int .i64 i, .string sa, .string sb]) (by simp [results, Tryd.results60, go_sem, q0, q1, q2, q3]) rfl ⟨by rw [HF.out]; rfl, ?_⟩
        exact (((b1.setCell (Nat.le_refl _) _).setCell (Nat.le_refl _) _).setCell (Nat.le_refl _) _).setCell (Nat.le_refl _) _
      · have hyb : (i == y) = false := by simpa using hy
        have HY := Lib.hid hy
        clear hy
        go_wp2
        go_roundg (L.length - (k + 1))
        case measure => omega
        case rel =>
          refine ⟨k + 1, by omega, rfl, by simp, rfl, fun j hj => ?_⟩
          by_cases e : j = k
          · subst e; rw [HQ.out]; exact HY.out
          · exact H.out j (by omega)
    · obtain rfl : k = L.length := by omega
      have HF : Hid (fnd L y = none) := fnd_none.2 fun e he => by
        obtain ⟨j, hj, rfl⟩ := List.mem_iff_getElem.1 he
        have := H.out j hj
        simpa [List.getD, hj] using this
      go_wp2
      refine bodyPost_ret (v := .agg #[.int .i64 0, .int .i64 0, .string ⟨#[]⟩, .string ⟨#[]⟩]) (by simp [results, Tryd.results60, go_sem, q0, q1, q2, q3]) rfl ⟨by rw [HF.out]; rfl, ?_⟩
      exact (((b1.setCell (Nat.le_refl _) _).setCell (Nat.le_refl _) _).setCell (Nat.le_refl _) _).setCell (Nat.le_refl _) _
end Go.Proofs.YtkpnkaihehneiaaDoor
