/- Several of this claim's texts in one: Cf1, Cf2, Cf3, Cf4, Cf5. -/
import Derived.Test.YtkaakomiimcbmaaDoorIn2
import Derived.Maps.Own
import Derived.Maps.OwnSet
import Derived.Maps.Views
/- Patches as lists: sorted by their Ids; what two of them share. No program in sight. -/
namespace Go.Proofs.YtkaakomiimcbmaaDoor
open Go.ChangeShapes Go.WideShapes Go.ChangeAt Go.RowKit Go.Deep
set_option linter.unusedSimpArgs false
set_option linter.unusedVariables false
theorem sorted_ext : ∀ (l l' : List Int), l.Pairwise (· < ·) → l'.Pairwise (· < ·) → (∀ x, x ∈ l ↔ x ∈ l') → l = l' := by
  intro l
  induction l with
  | nil =>
    intro l' _ _ h
    cases l' with
    | nil => rfl
    | cons a t => exact absurd ((h a).2 (by simp)) (by simp)
  | cons a t ih =>
    intro l' hs hs' h
    cases l' with
    | nil => exact absurd ((h a).1 (by simp)) (by simp)
    | cons b t' =>
      rw [List.pairwise_cons] at hs hs'
      have hab : a = b := by
        have h1 : a ∈ b :: t' := (h a).1 (by simp)
        have h2 : b ∈ a :: t := (h b).2 (by simp)
        rcases List.mem_cons.1 h1 with e | e
        · exact e
        · rcases List.mem_cons.1 h2 with e' | e'
          · exact e'.symm
          · have := hs.1 b e'
            have := hs'.1 a e
            omega
      subst hab
      have ht : t = t' := ih t' hs.2 hs'.2 fun x => by
        constructor
        · intro hx
          rcases List.mem_cons.1 ((h x).1 (List.mem_cons_of_mem _ hx)) with e | e
          · have := hs.1 x hx; omega
          · exact e
        · intro hx
          rcases List.mem_cons.1 ((h x).2 (List.mem_cons_of_mem _ hx)) with e | e
          · have := hs'.1 x hx; omega
          · exact e
      rw [ht]
theorem pat_lt {L : List Ed} (h : ∀ k, k < L.length → pat1 L k) : ∀ j i, i < j → j < L.length → (L.getD i e0).2.1 < (L.getD j e0).2.1 := by
  intro j
  induction j with
  | zero => intro i hi; omega
  | succ j ih =>
    intro i hi hj
    have h1 := (h (j + 1) hj).2.2 (by omega)
    rw [Nat.add_sub_cancel] at h1
    by_cases e : i = j
    · subst e; exact h1
    · have := ih i (by omega) (by omega); omega
/-- The Ids increase. -/
def incs (L : List Ed) : Prop := (L.map (fun e => e.2.1)).Pairwise (· < ·)
theorem pat_incs {L : List Ed} (h : ∀ k, k < L.length → pat1 L k) : incs L := by
  unfold incs
  rw [List.pairwise_iff_getElem]
  intro i j hi hj hij
  simp only [List.length_map] at hi hj
  have := pat_lt h j i hij hj
  simpa [List.getD, hi, hj] using this
theorem incs_cons {e : Ed} {L : List Ed} : incs (e :: L) ↔ (∀ x ∈ L, e.2.1 < x.2.1) ∧ incs L := by
  unfold incs
  rw [List.map_cons, List.pairwise_cons]
  constructor
  · rintro ⟨h1, h2⟩; exact ⟨fun x hx => h1 _ (List.mem_map_of_mem hx), h2⟩
  · rintro ⟨h1, h2⟩
    refine ⟨fun y hy => ?_, h2⟩
    obtain ⟨x, hx, rfl⟩ := List.mem_map.1 hy
    exact h1 x hx
theorem incs_filter {L : List Ed} (h : incs L) (p : Ed → Bool) : incs (L.filter p) := by
  induction L with
  | nil => exact h
  | cons e t ih =>
    rw [incs_cons] at h
    rw [List.filter_cons]
    split
    · rw [incs_cons]
      exact ⟨fun x hx => h.1 x ((List.mem_filter.1 hx).1), ih h.2⟩
    · exact ih h.2
theorem incs_inj {L : List Ed} (h : incs L) {x y : Ed} (hx : x ∈ L) (hy : y ∈ L) (e : x.2.1 = y.2.1) : x = y := by
  induction L with
  | nil => cases hx
  | cons a t ih =>
    rw [incs_cons] at h
    rcases List.mem_cons.1 hx with rfl | hx'
    · rcases List.mem_cons.1 hy with rfl | hy'
      · rfl
      · have := h.1 y hy'; omega
    · rcases List.mem_cons.1 hy with rfl | hy'
      · have := h.1 x hx'; omega
      · exact ih h.2 hx' hy'
/-- The first edit with an Id. -/
def fnd (L : List Ed) (y : Int) : Option Ed := L.find? (fun e => e.2.1 == y)
theorem fnd_some {L : List Ed} {y : Int} {e : Ed} (h : fnd L y = some e) : e ∈ L ∧ e.2.1 = y := by
  unfold fnd at h
  exact ⟨List.mem_of_find?_eq_some h, by simpa using List.find?_some h⟩
theorem fnd_none {L : List Ed} {y : Int} : fnd L y = none ↔ ∀ e ∈ L, e.2.1 ≠ y := by
  unfold fnd
  rw [List.find?_eq_none]
  simp
theorem fnd_of_mem {L : List Ed} (h : incs L) {e : Ed} (he : e ∈ L) : fnd L e.2.1 = some e := by
  cases hf : fnd L e.2.1 with
  | none => exact absurd rfl (fnd_none.1 hf e he)
  | some x =>
    obtain ⟨h1, h2⟩ := fnd_some hf
    rw [incs_inj h h1 he h2]
/-- The last edit with an Id. -/
def lst (L : List Ed) (y : Int) : Option Ed := L.reverse.find? (fun e => e.2.1 == y)
theorem lst_nil (y : Int) : lst [] y = none := rfl
theorem lst_snoc (L : List Ed) (e : Ed) (y : Int) : lst (L ++ [e]) y = if e.2.1 = y then some e else lst L y := by
  unfold lst
  rw [List.reverse_append, List.reverse_cons, List.reverse_nil, List.nil_append, List.singleton_append, List.find?_cons]
  by_cases h : e.2.1 = y
  · simp [h]
  · have : (e.2.1 == y) = false := by simpa using h
    simp [this, h]
theorem lst_some {L : List Ed} {y : Int} {e : Ed} (h : lst L y = some e) : e ∈ L ∧ e.2.1 = y := by
  unfold lst at h
  exact ⟨by simpa using List.mem_of_find?_eq_some h, by simpa using List.find?_some h⟩
theorem lst_none {L : List Ed} {y : Int} : lst L y = none ↔ ∀ e ∈ L, e.2.1 ≠ y := by
  unfold lst
  rw [List.find?_eq_none]
  simp
theorem lst_fnd {L : List Ed} (h : incs L) (y : Int) : lst L y = fnd L y := by
  cases hf : fnd L y with
  | none => exact lst_none.2 (fnd_none.1 hf)
  | some e =>
    obtain ⟨h1, h2⟩ := fnd_some hf
    cases hl : lst L y with
    | none => exact absurd h2 (lst_none.1 hl e h1)
    | some e' =>
      obtain ⟨h3, h4⟩ := lst_some hl
      rw [incs_inj h h3 h1 (by omega)]
/-- The Ids that an edit x of P and an edit y of Q have for which a condition holds. -/
def shd (P Q : List Ed) (c : Ed → Ed → Bool) : List Int := (Q.filter fun y => match lst P y.2.1 with | some x => c x y | none => false).map fun y => y.2.1
theorem shd_incs {P Q : List Ed} (h : incs Q) (c : Ed → Ed → Bool) : (shd P Q c).Pairwise (· < ·) := incs_filter h _
theorem shd_mem {P Q : List Ed} {c : Ed → Ed → Bool} {i : Int} : i ∈ shd P Q c ↔ ∃ y ∈ Q, y.2.1 = i ∧ ∃ x, lst P i = some x ∧ c x y = true := by
  unfold shd
  rw [List.mem_map]
  constructor
  · rintro ⟨y, hy, rfl⟩
    rw [List.mem_filter] at hy
    obtain ⟨h1, h2⟩ := hy
    refine ⟨y, h1, rfl, ?_⟩
    cases hl : lst P y.2.1 with
    | none => rw [hl] at h2; cases h2
    | some x => rw [hl] at h2; exact ⟨x, rfl, h2⟩
  · rintro ⟨y, h1, rfl, x, h2, h3⟩
    refine ⟨y, ?_, rfl⟩
    rw [List.mem_filter]
    exact ⟨h1, by simp only [h2]; exact h3⟩
/-- The Ids of the edits of P that Q has otherwise. -/
noncomputable def cfl (P Q : List Ed) : List Int := (P.filter fun x => match fnd Q x.2.1 with | some y => @decide (y ≠ x) (Classical.propDecidable _) | none => false).map fun x => x.2.1
noncomputable def neE (x y : Ed) : Bool := @decide (x ≠ y) (Classical.propDecidable _)
theorem cfl_mem {P Q : List Ed} {i : Int} : i ∈ cfl P Q ↔ ∃ x ∈ P, x.2.1 = i ∧ ∃ y, fnd Q i = some y ∧ y ≠ x := by
  unfold cfl
  rw [List.mem_map]
  constructor
  · rintro ⟨x, hx, rfl⟩
    rw [List.mem_filter] at hx
    obtain ⟨h1, h2⟩ := hx
    refine ⟨x, h1, rfl, ?_⟩
    cases hl : fnd Q x.2.1 with
    | none => rw [hl] at h2; cases h2
    | some y => rw [hl] at h2; exact ⟨y, rfl, by simpa using h2⟩
  · rintro ⟨x, h1, rfl, y, h2, h3⟩
    refine ⟨x, ?_, rfl⟩
    rw [List.mem_filter]
    exact ⟨h1, by simp only [h2]; simpa using h3⟩
theorem cfl_shd {P Q : List Ed} (hP : incs P) (hQ : incs Q) : cfl P Q = shd P Q neE := by
  refine sorted_ext _ _ (incs_filter hP _) (shd_incs hQ _) fun i => ?_
  rw [cfl_mem, shd_mem]
  constructor
  · rintro ⟨x, hx, rfl, y, hy, hne⟩
    obtain ⟨h1, h2⟩ := fnd_some hy
    refine ⟨y, h1, h2, x, ?_, ?_⟩
    · rw [lst_fnd hP, fnd_of_mem hP hx]
    · simp only [neE, decide_eq_true_eq]; exact fun e => hne e.symm
  · rintro ⟨y, hy, rfl, x, hx, hc⟩
    obtain ⟨h1, h2⟩ := lst_some hx
    refine ⟨x, h1, h2, y, fnd_of_mem hQ hy, ?_⟩
    simp only [neE, decide_eq_true_eq] at hc
    exact fun e => hc e.symm
end Go.Proofs.YtkaakomiimcbmaaDoor
/- A map from Ids to edits that the call has made; the first edit with an Id, by the specification. -/
namespace Go.Proofs.YtkaakomiimcbmaaDoor
open Go.ChangeShapes Go.WideShapes Go.ChangeAt Go.RowKit Go.Deep Go.Maps
set_option linter.unusedSimpArgs false
set_option linter.unusedVariables false
abbrev TE : TypeId := 119
theorem keyI7 : Keyed Tryd.prog 2 := int_keyed Tryd.underlying2
theorem zeroEd (w : World) : (zeroValue 93).run Tryd.prog w = .ok (vE e0) w := by kernel_rfl
def dEd (e : Ed) : DataW Unit := .agg [.lit (.int .i64 e.1), .lit (.int .i64 e.2.1), .lit (.string e.2.2.1.data.toList), .lit (.string e.2.2.2.data.toList)]
theorem vE_inj {e e' : Ed} (h : vE e = vE e') : e = e' := by
  obtain ⟨a, b, c, d⟩ := e
  obtain ⟨a', b', c', d'⟩ := e'
  simp only [vE, Value.agg.injEq, Array.mk.injEq, List.cons.injEq, Value.int.injEq, Value.string.injEq, true_and, and_true] at h
  obtain ⟨rfl, rfl, rfl, rfl⟩ := h
  rfl
theorem bytes_inj {a b : ByteArray} (h : a.data.toList = b.data.toList) : a = b := ByteArray.ext (by simpa using h)
theorem dEd_inj {e e' : Ed} (h : dEd e = dEd e') : e = e' := by
  obtain ⟨a, b, c, d⟩ := e
  obtain ⟨a', b', c', d'⟩ := e'
  simp only [dEd, DataW.agg.injEq, List.cons.injEq, DataW.lit.injEq, Lit.int.injEq, Lit.string.injEq, true_and, and_true] at h
  obtain ⟨rfl, rfl, h3, h4⟩ := h
  rw [bytes_inj h3, bytes_inj h4]
noncomputable def rEd (v : Value) : Option (DataW Unit × List MemPlace) := @dite _ (∃ e, v = vE e) (Classical.propDecidable _) (fun h => some (dEd (Classical.choose h), [])) (fun _ => none)
theorem rEd_mk (e : Ed) : rEd (vE e) = some (dEd e, []) := by
  have h : ∃ x, vE e = vE x := ⟨e, rfl⟩
  unfold rEd
  rw [dif_pos h, ← vE_inj (Classical.choose_spec h)]
theorem rEd_inv {v : Value} {z : DataW Unit × List MemPlace} (h : rEd v = some z) : ∃ e, v = vE e ∧ z.1 = dEd e := by
  unfold rEd at h
  split at h
  · rename_i hx
    cases h
    exact ⟨_, Classical.choose_spec hx, rfl⟩
  · cases h
/-- The call's own map holds the edits of L by their Ids. -/
def MapE (w : World) (b n : Nat) (L : List Ed) : Prop :=
  ∃ D : DataW Unit, w.ownsMap Tryd.prog 2 rEd b n D ∧ ∀ y : Int, has D (.int .i64 y) = (lst L y).isSome ∧ D.atKey (.int .i64 y) (dEd e0) = dEd ((lst L y).getD e0)
theorem MapE.made (w : World) : MapE (w.alloc (.map #[] 0)) w.heap.size 0 [] := ⟨_, World.ownsMap_made w _ _ _, fun y => ⟨by simp [has, lst_nil], by simp [WideAt.atKey_none, lst_nil]⟩⟩
theorem MapE.lt {w : World} {b n : Nat} {L : List Ed} (h : MapE w b n L) : b < w.heap.size := by
  obtain ⟨D, h, _⟩ := h
  exact h.lt
theorem MapE.below {w w' : World} {b n : Nat} {L : List Ed} (h : MapE w b n L) (hb : Below w.heap.size w w') : MapE w' b n L := by
  obtain ⟨D, h, hD⟩ := h
  have hl := h.lt
  obtain ⟨es, clock, hh, F, hs, e⟩ := h
  exact ⟨D, ⟨es, clock, (hb.block b hl).trans hh, F, hs, e⟩, hD⟩
theorem MapE.look {w : World} {b n : Nat} {L : List Ed} (h : MapE w b n L) (y : Int) (hy : (Lit.int .i64 y).wf = true) :
    (Instr.lookup TE (.map (some b)) (.int .i64 y) true).run Tryd.prog w = .ok (.tuple #[vE ((lst L y).getD e0), .bool (lst L y).isSome]) w := by
  obtain ⟨D, h, hD⟩ := h
  obtain ⟨v, ps, hrun, hv⟩ := h.look_ok keyI7 Tryd.underlying119 (zeroEd w) (rEd_mk e0) (keyOf_int_mk Tryd.underlying2 hy)
  obtain ⟨e, rfl, hx⟩ := rEd_inv hv
  have hh := (hD y).2.symm.trans hx
  rw [hrun, (hD y).1, dEd_inj hh]
theorem MapE.store {w : World} {b n : Nat} {L : List Ed} (h : MapE w b n L) (hn : n < maxLen) (e : Ed) (hy : (Lit.int .i64 e.2.1).wf = true) :
    ∃ w', (Instr.mapUpdate TE (.map (some b)) (.int .i64 e.2.1) (vE e)).run Tryd.prog w = .ok () w' ∧ MapE w' b (n + 1) (L ++ [e]) ∧ w.grownBy w' (some b) := by
  obtain ⟨D, h, hD⟩ := h
  obtain ⟨w', hrun, h', hg⟩ := h.update keyI7 Tryd.underlying119 hn (keyOf_int_mk Tryd.underlying2 hy) (rEd_mk e)
  refine ⟨w', hrun, ⟨_, h', fun z => ?_⟩, hg⟩
  rw [lst_snoc]
  by_cases q : e.2.1 = z
  · subst q
    rw [atKey_put_same h.isMap (by exact trivial), has_put_same h.isMap (by exact trivial)]
    simp
  · have hne : (Lit.int IntKind.i64 z) ≠ (Lit.int IntKind.i64 e.2.1) := by intro k; injection k with _ k; exact q k.symm
    rw [atKey_put_other hne, has_put_other hne, if_neg q]
    exact hD z
set_option maxHeartbeats 1000000 in
set_option maxRecDepth 100000 in
theorem sedof (L : List Ed) (b cap : Nat) (y : Int) (w : World) (h : Es w b L) (hl : L.length ≤ 1048576) :
    Calls Tryd.prog 74 #[.slice (some ⟨b, 0, none⟩) L.length cap, .int .i64 y] w fun e w' => e = .returned (vE ((fnd L y).getD e0)) ∧ Below w.heap.size w w' := by
  have HX := Lib.hid h
  clear h
  have b1 := (Below.refl w.heap.size w).alloc (Nat.le_refl _) (.cells #[.int .i64 0, .int .i64 0, .string ⟨#[]⟩, .string ⟨#[]⟩] 93)
  go_enter Tryd.func74, Tryd.ntmps74
  go_wp2
  obtain ⟨W1, hW1⟩ : ∃ W1, W1 = w.alloc (.cells #[.int .i64 0, .int .i64 0, .string ⟨#[]⟩, .string ⟨#[]⟩] 93) := ⟨_, rfl⟩
  have q0 : W1.cell? ⟨w.heap.size, 0, none⟩ = some (.int .i64 0) := by rw [hW1]; go_simp
  have q1 : W1.cell? ⟨w.heap.size, 1, none⟩ = some (.int .i64 0) := by rw [hW1]; go_simp
  have q2 : W1.cell? ⟨w.heap.size, 2, none⟩ = some (.string ⟨#[]⟩) := by rw [hW1]; go_simp
  have q3 : W1.cell? ⟨w.heap.size, 3, none⟩ = some (.string ⟨#[]⟩) := by rw [hW1]; go_simp
  have z0 : W1.frozen? ⟨w.heap.size, 0, none⟩ = false := by rw [hW1]; go_simp
  have z1 : W1.frozen? ⟨w.heap.size, 1, none⟩ = false := by rw [hW1]; go_simp
  have z2 : W1.frozen? ⟨w.heap.size, 2, none⟩ = false := by rw [hW1]; go_simp
  have z3 : W1.frozen? ⟨w.heap.size, 3, none⟩ = false := by rw [hW1]; go_simp
  rw [← hW1] at b1
  simp only [← hW1]
  have HW := Lib.hid hW1
  clear hW1
  go_loopg [5] L.length (fun g i wr => ∃ k : Nat, k ≤ L.length ∧ g = L.length - k ∧ i = .int .i64 k ∧ wr = W1 ∧ Hid (∀ j, j < k → (L.getD j e0).2.1 ≠ y))
  case atStart => exact ⟨0, Nat.zero_le _, rfl, rfl, rfl, fun j hj => absurd hj (Nat.not_lt_zero _)⟩
  case round =>
    obtain ⟨k, hk, rfl, rfl, rfl, H⟩ := hrel
    by_cases hlt : k < L.length
    · obtain ⟨a1, a2, a3, a4⟩ := (HX.out.below b1).at hlt
      have lb := HX.out.lt
      obtain ⟨q, hq⟩ : ∃ q, L.getD k e0 = q := ⟨_, rfl⟩
      rw [hq] at a1 a2 a3 a4
      obtain ⟨n, i, sa, sb⟩ := q
      have HQ := Lib.hid hq
      simp only at a1 a2 a3 a4
      clear hq
      by_cases hy : i = y
      · subst hy
        have HF : Hid (fnd L i = some (n, i, sa, sb)) := by
          have e : L[k] = (n, i, sa, sb) := by rw [← HQ.out]; simp [List.getD, hlt]
          refine List.find?_eq_some_iff_getElem.2 ⟨by simp, k, hlt, e, fun j hj => ?_⟩
          have := H.out j hj
          have hjl : j < L.length := by omega
          simpa [List.getD, hjl] using this
        have lbs := b1.size
        go_wp2
        refine bodyPost_ret (v := .agg #[.int .i64 n, .int .i64 i, .string sa, .string sb]) (by simp [results, Tryd.results74, go_sem, q0, q1, q2, q3]) rfl ⟨by rw [HF.out]; rfl, ?_⟩
        exact (((b1.setCell (Nat.le_refl _) _).setCell (Nat.le_refl _) _).setCell (Nat.le_refl _) _).setCell (Nat.le_refl _) _
      · have hyb : (i == y) = false := by simpa using hy
        have HY := Lib.hid hy
        clear hy
        go_wp2
        go_roundg (L.length - (k + 1))
        case measure => omega
        case rel =>
          refine ⟨k + 1, by omega, rfl, by simp, rfl, fun j hj => ?_⟩
          by_cases e : j = k
          · subst e; rw [HQ.out]; exact HY.out
          · exact H.out j (by omega)
    · obtain rfl : k = L.length := by omega
      have HF : Hid (fnd L y = none) := fnd_none.2 fun e he => by
        obtain ⟨j, hj, rfl⟩ := List.mem_iff_getElem.1 he
        have := H.out j hj
        simpa [List.getD, hj] using this
      go_wp2
      refine bodyPost_ret (v := .agg #[.int .i64 0, .int .i64 0, .string ⟨#[]⟩, .string ⟨#[]⟩]) (by simp [results, Tryd.results74, go_sem, q0, q1, q2, q3]) rfl ⟨by rw [HF.out]; rfl, ?_⟩
      exact (((b1.setCell (Nat.le_refl _) _).setCell (Nat.le_refl _) _).setCell (Nat.le_refl _) _).setCell (Nat.le_refl _) _
end Go.Proofs.YtkaakomiimcbmaaDoor
/- What two patches share: the program's sharedIds, for any condition. -/
namespace Go.Proofs.YtkaakomiimcbmaaDoor
open Go.ChangeShapes Go.WideShapes Go.ChangeAt Go.RowKit Go.Deep Go.Maps
set_option linter.unusedSimpArgs false
set_option linter.unusedVariables false
theorem shd_take {P Q : List Ed} (c : Ed → Ed → Bool) {k : Nat} (hk : k < Q.length) :
    shd P (Q.take (k + 1)) c = shd P (Q.take k) c ++ (if (match lst P (Q.getD k e0).2.1 with | some x => c x (Q.getD k e0) | none => false) then [(Q.getD k e0).2.1] else []) := by
  have e : Q.take (k + 1) = Q.take k ++ [Q.getD k e0] := by
    rw [List.take_add_one, List.getElem?_eq_getElem hk]
    simp [List.getD, hk]
  unfold shd
  rw [e, List.filter_append, List.map_append]
  congr 1
  generalize Q.getD k e0 = q
  cases hl : lst P q.2.1 with
  | none => simp [hl]
  | some x =>
    cases hc : c x q with
    | true => simp [hl, hc]
    | false => simp [hl, hc]
theorem shd_len (P Q : List Ed) (c : Ed → Ed → Bool) : (shd P Q c).length ≤ Q.length := by
  unfold shd
  rw [List.length_map]
  exact List.length_filter_le _ _
theorem snocL7 (l : List Int) (x : Int) : (l ++ [x]).length = l.length + 1 := by simp
theorem snocM7 (l : List Int) (x : Int) : (l ++ [x]).map (Value.int .i64) = l.map (Value.int .i64) ++ [.int .i64 x] := by simp
theorem own_below7 {w w' : World} {base size n : Nat} {e : TypeId} {v : Value} {xs : List Value} (h : w.ownsRow base e size v n xs) (hb : Below w.heap.size w w') : w'.ownsRow base e size v n xs := own_block7 h fun g _ hg => hb.block g hg
theorem take_snoc {L : List Ed} {k : Nat} (hk : k < L.length) : L.take (k + 1) = L.take k ++ [L.getD k e0] := by
  rw [List.take_add_one, List.getElem?_eq_getElem hk]
  simp [List.getD, hk]
set_option maxHeartbeats 4000000 in
set_option maxRecDepth 100000 in
theorem ishared (F : FuncId) (HF : ∀ args w, (callFunc F args).run Tryd.prog w = .ok (.enter F args) w) (c : Ed → Ed → Bool) (P Q : List Ed) (bp cp bq cq : Nat) (w : World) (hp : Es w bp P) (hq : Es w bq Q) (lp : P.length ≤ 1048576) (lq : Q.length ≤ 1048576)
    (wp : ∀ k, k < P.length → (Lit.int .i64 (P.getD k e0).2.1).wf = true) (wq : ∀ k, k < Q.length → (Lit.int .i64 (Q.getD k e0).2.1).wf = true)
    (HT : ∀ x y w', x ∈ P → y ∈ Q → Calls Tryd.prog F #[vE x, vE y] w' fun e w'' => e = .returned (.bool (c x y)) ∧ Below w'.heap.size w' w'') :
    Calls Tryd.prog 78 #[.slice (some ⟨bp, 0, none⟩) P.length cp, .slice (some ⟨bq, 0, none⟩) Q.length cq, .func (.func F) #[] #[]] w fun e w' => (∃ v, e = .returned v ∧ OwI w' w.heap.size w'.heap.size v (shd P Q c)) ∧ Below w.heap.size w w' := by
  obtain ⟨i0, hi, hz0, hz1, hz2⟩ := info_parts7 infoI
  have HP := Lib.hid hp
  have HQ := Lib.hid hq
  have WP := Lib.hid wp
  have WQ := Lib.hid wq
  have HTT := Lib.hid HT
  have lbp := hp.lt
  have lbq := hq.lt
  have hmm := @run_makeMap Tryd.prog
  have hb0 := (Below.refl w.heap.size w).alloc (Nat.le_refl _) (.map #[] 0)
  have hM0 := MapE.made w
  clear hp hq wp wq HT
  go_enter Tryd.func78, Tryd.ntmps78
  go_wp2
  go_loopg [9, 18] P.length (fun g _ i wr => ∃ k : Nat, k ≤ P.length ∧ g = P.length - k ∧ i = .int .i64 k ∧ Below w.heap.size w wr ∧ MapE wr w.heap.size k (P.take k))
  case atStart => exact ⟨0, Nat.zero_le _, rfl, rfl, hb0, by simpa using hM0⟩
  case round =>
    clear hmm hb0 hM0
    obtain ⟨k, hk, rfl, rfl, hb, hM⟩ := hrel
    by_cases hlt : k < P.length
    · obtain ⟨a1, a2, a3, a4⟩ := (HP.out.below hb).at hlt
      have hwf := WP.out k hlt
      have hts := take_snoc hlt
      obtain ⟨q, hq⟩ : ∃ q, P.getD k e0 = q := ⟨_, rfl⟩
      rw [hq] at a1 a2 a3 a4 hwf hts
      obtain ⟨n, y, sa, sb⟩ := q
      simp only at a1 a2 a3 a4 hwf
      have ba := (Below.refl wr.heap.size wr).alloc (Nat.le_refl _) (.cells #[.int .i64 n, .int .i64 y, .string sa, .string sb] 93)
      obtain ⟨w2, hst, hM2, hg2⟩ := (hM.below ba).store (by unfold maxLen; omega) (n, y, sa, sb) hwf
      have hb2 := (hb.trans (ba.mono hb.size)).grown hg2 (hb.trans (ba.mono hb.size)).size (fun j hj => by cases hj; exact Nat.le_refl _)
      rw [← hts] at hM2
      unfold vE at hst
      simp only at hst
      have lbs := hb.size
      clear hq hts hM hg2 ba
      go_wp2
      go_roundg (P.length - (k + 1))
      case measure => omega
      case rel => exact ⟨k + 1, by omega, rfl, by simp, hb2, hM2⟩
    · obtain rfl : k = P.length := by omega
      rw [List.take_length] at hM
      have HM := Lib.hid hM
      have HBB := Lib.hid hb
      have lmap := hM.lt
      clear hM
      go_wp2
      obtain ⟨W1, hW1⟩ : ∃ W1, W1 = wr := ⟨_, rfl⟩
      rw [← hW1] at HM HBB hb lmap ⊢
      clear hW1
      have hO0 : W1.ownsRow W1.heap.size 2 1 (.slice none 0 0) ([] : List Int).length (([] : List Int).map (Value.int .i64)) := World.ownsRow_nil _ _ _ _
      go_loopg [10, 12, 13, 14, 29] Q.length (fun g v _ _ _ i wr => ∃ (k : Nat) (l : List Int), k ≤ Q.length ∧ g = Q.length - k ∧ i = .int .i64 k ∧ Below W1.heap.size W1 wr ∧ l.length ≤ k ∧ Hid (l = shd P (Q.take k) c) ∧ wr.ownsRow W1.heap.size 2 1 v l.length (l.map (Value.int .i64)))
      case atStart => exact ⟨0, [], Nat.zero_le _, rfl, rfl, Below.refl _ _, Nat.le_refl _, rfl, hO0⟩
      case round =>
        clear hO0
        obtain ⟨k, l, hk, rfl, rfl, hb, hll, HL, hO⟩ := hrel
        have lbs := hb.size
        by_cases hlt : k < Q.length
        · obtain ⟨a1, a2, a3, a4⟩ := (HQ.out.below (HBB.out.trans (hb.mono HBB.out.size))).at hlt
          have hwf := WQ.out k hlt
          have hst := shd_take (P := P) c hlt
          have hmq : Q.getD k e0 ∈ Q := by simp [List.getD, hlt]
          obtain ⟨q, hq⟩ : ∃ q, Q.getD k e0 = q := ⟨_, rfl⟩
          rw [hq] at a1 a2 a3 a4 hwf hst hmq
          obtain ⟨n, y, sa, sb⟩ := q
          simp only at a1 a2 a3 a4 hwf hst
          have ba := (Below.refl wr.heap.size wr).alloc (Nat.le_refl _) (.cells #[.int .i64 n, .int .i64 y, .string sa, .string sb] 93)
          have hlook := ((HM.out.below hb).below ba).look y hwf
          have HST := Lib.hid hst
          have HMQ := Lib.hid hmq
          clear hq hst hmq
          cases hl : lst P y with
          | none =>
            rw [hl] at hlook HST
            have HE : Hid (l = shd P (Q.take (k + 1)) c) := by show l = _; rw [HST.out, ← HL.out]; simp
            unfold vE at hlook
            simp only [Option.getD_none, Option.isSome_none] at hlook
            have bx := ((Below.refl wr.heap.size wr).alloc (Nat.le_refl _) (.cells #[.int .i64 n, .int .i64 y, .string sa, .string sb] 93)).alloc (by simp) (.cells #[.int .i64 0, .int .i64 0, .string ⟨#[]⟩, .string ⟨#[]⟩] 93)
            have hO2 := own_below7 hO bx
            have hb2 := hb.trans (bx.mono hb.size)
            clear hl hO bx
            go_wp2
            go_roundg (Q.length - (k + 1))
            case measure => omega
            case rel => exact ⟨k + 1, l, by omega, rfl, by simp, hb2, by omega, HE, hO2⟩
          | some x =>
            rw [hl] at hlook HST
            obtain ⟨hxm, -⟩ := lst_some hl
            obtain ⟨n', y', sa', sb'⟩ := x
            have HC := fun w' => HTT.out (n', y', sa', sb') (n, y, sa, sb) w' hxm HMQ.out
            obtain ⟨z, hz⟩ : ∃ z, c (n', y', sa', sb') (n, y, sa, sb) = z := ⟨_, rfl⟩
            rw [hz] at HC
            have hst2 : shd P (Q.take (k + 1)) c = l ++ (if z then [y] else []) := by
              have := HST.out
              simp only [hz] at this
              rw [this, ← HL.out]
            have HST2 := Lib.hid hst2
            unfold vE at hlook HC
            simp only [Option.getD_some, Option.isSome_some] at hlook HC
            have bx := ((Below.refl wr.heap.size wr).alloc (Nat.le_refl _) (.cells #[.int .i64 n, .int .i64 y, .string sa, .string sb] 93)).alloc (by simp) (.cells #[.int .i64 n', .int .i64 y', .string sa', .string sb'] 93)
            have k1 : ((wr.alloc (.cells #[.int .i64 n, .int .i64 y, .string sa, .string sb] 93)).alloc (.cells #[.int .i64 n', .int .i64 y', .string sa', .string sb'] 93)).cell? ⟨wr.heap.size, 1, none⟩ = some (.int .i64 y) := by go_simp
            have K1 := Lib.hid k1
            have BX := Lib.hid bx
            clear hl hxm hz hst2 HST bx k1
            go_wp2_with fail
            refine (HC _).mono ?_
            rintro e w2 ⟨rfl, hb2⟩
            have hbx := BX.out.trans (hb2.mono BX.out.size)
            have e1 := (hb2.cell (p := ⟨wr.heap.size, 1, none⟩) (by simp; omega)).trans K1.out
            have hO2 := own_below7 hO hbx
            have hb3 := hb.trans (hbx.mono hb.size)
            have hs2 := hb3.size
            have lw2 := hbx.size
            clear hO hbx hb2 HC hlook
            cases z with
            | false =>
              have HE : Hid (l = shd P (Q.take (k + 1)) c) := by show l = _; rw [HST2.out]; simp
              go_wp2
              go_roundg (Q.length - (k + 1))
              case measure => omega
              case rel => exact ⟨k + 1, l, by omega, rfl, by simp, hb3, by omega, HE, hO2⟩
            | true =>
              have HE : Hid (l ++ [y] = shd P (Q.take (k + 1)) c) := by show l ++ [y] = _; rw [HST2.out]; simp
              go_wp2_with (first
                | (at_builtin; refine wpList_append_own _ rfl _ _ 29 rfl W1.heap.size 2 i0 (.int .i64 0) 1 8 Tryd.underlying29 hi hz0 hz1 hz2 rfl (by decide) _ _ _ rfl (hO2.alloc _) ⟨w2.heap.size, 0, none⟩ 1 1 [.int .i64 y] rfl rfl ?c1 ?c2 ?c3 ?c4 ?c5 ?_))
              case c1 => exact World.news_of_block (cs := #[.int .i64 y]) (t := 2) (fr := (0, 0)) (heap_alloc_new w2 _)
              case c2 => simp [Value.oneCell']
              case c3 => unfold maxLen; omega
              case c4 => omega
              case c5 => simp; omega
              intro v' w3 hown3 hgrow _
              have hb4 := (hb3.alloc hs2 (.cells #[.int .i64 y] 2)).grown hgrow (by simp; omega) (fun x e => (hO2.lt x e).1)
              have HO : Hid (w3.ownsRow W1.heap.size 2 1 v' (l ++ [y]).length ((l ++ [y]).map (Value.int .i64))) := by rw [snocL7, snocM7]; exact hown3
              have HLN := Lib.hid (snocL7 l y)
              clear hown3 hgrow
              go_wp2
              go_roundg (Q.length - (k + 1))
              case measure => omega
              case rel => exact ⟨k + 1, l ++ [y], by omega, rfl, by simp, hb4, by rw [HLN.out]; omega, HE, HO.out⟩
        · obtain rfl : k = Q.length := by omega
          have hl := HL.out
          rw [List.take_length] at hl
          have hbw := HBB.out.trans (hb.mono HBB.out.size)
          have hOW := (ow_of_own hO (Nat.le_refl _) (by omega)).mono (e1 := HBB.out.size) (e2 := Nat.le_refl _)
          rw [hl] at hOW
          have HOW := Lib.hid hOW
          clear hO hl hOW
          go_wp2
          go_ret
          exact ⟨⟨_, rfl, HOW.out⟩, hbw⟩
end Go.Proofs.YtkaakomiimcbmaaDoor
/- Conflicts of two patches: the program's condition; the specification's list. -/
namespace Go.Proofs.YtkaakomiimcbmaaDoor
open Go.ChangeShapes Go.WideShapes Go.ChangeAt Go.RowKit Go.Deep Go.Maps
set_option linter.unusedSimpArgs false
set_option linter.unusedVariables false
theorem neE_self (x : Ed) : neE x x = false := by simp [neE]
theorem neE_ne {x y : Ed} (h : x ≠ y) : neE x y = true := by simp [neE, h]
theorem cfl_take {P Q : List Ed} {k : Nat} (hk : k < P.length) :
    cfl (P.take (k + 1)) Q = cfl (P.take k) Q ++ (if (match fnd Q (P.getD k e0).2.1 with | some y => neE y (P.getD k e0) | none => false) then [(P.getD k e0).2.1] else []) := by
  rw [take_snoc hk]
  unfold cfl
  rw [List.filter_append, List.map_append]
  congr 1
  generalize P.getD k e0 = q
  cases hl : fnd Q q.2.1 with
  | none => simp [hl]
  | some x =>
    by_cases hc : x = q
    · simp [hl, hc, neE]
    · simp [hl, hc, neE]
theorem edF_kind {e : Ed} (h : edF e) : (e.1 == 0) = false := by
  have : e.1 ≠ 0 := by rcases h with h | h | h <;> omega
  simpa using this
end Go.Proofs.YtkaakomiimcbmaaDoor
/- Conflicts of two patches: both answers. -/
namespace Go.Proofs.YtkaakomiimcbmaaDoor
open Go.ChangeShapes Go.WideShapes Go.ChangeAt Go.RowKit Go.Deep Go.Maps
set_option linter.unusedSimpArgs false
set_option linter.unusedVariables false
theorem CpD.kept {w w' : World} {lo hi : Nat} {v : Value} {l : List Ed} {S : Nat → Prop} (h : CpD w lo hi v l) (hk : Kept w w' S) (hs : ∀ b, lo ≤ b → b < hi → ¬ S b) : CpD w' lo hi v l := ⟨h.1, hk.row h.2.1 (hs lo (Nat.le_refl _) h.2.2.1), h.2.2⟩
theorem CpA.kept {w w' : World} {lo hi : Nat} {v : Value} {l : List Ar} {S : Nat → Prop} (h : CpA w lo hi v l) (hk : Kept w w' S) (hs : ∀ b, lo ≤ b → b < hi → ¬ S b) : CpA w' lo hi v l := ⟨h.1, hk.row h.2.1 (hs lo (Nat.le_refl _) h.2.2.1), h.2.2⟩
theorem pat_wf {L : List Ed} (h : patF L) : ∀ k, k < L.length → (Lit.int .i64 (L.getD k e0).2.1).wf = true := fun k hk => by
  have := (h.2 k hk).1
  exact Go.WalkArith.wf_i64 ⟨by omega, by omega⟩
theorem pat_ok {L : List Ed} (h : patF L) : ∀ e ∈ L, edF e := fun e he => by
  obtain ⟨k, hk, rfl⟩ := List.mem_iff_getElem.1 he
  have := (h.2 k hk).2.1
  simpa [List.getD, hk] using this
theorem cfl_len (P Q : List Ed) : (cfl P Q).length ≤ P.length := by
  unfold cfl
  rw [List.length_map]
  exact List.length_filter_le _ _
noncomputable def mConf (P Q : List Ed) : List Int × Bool := if patB P && patB Q then (cfl P Q, true) else ([], false)
end Go.Proofs.YtkaakomiimcbmaaDoor
