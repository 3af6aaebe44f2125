/- Several of this claim's texts in one: Mg1, Mg2, Mg3, Mg4. -/
import Derived.Test.YtkaakomiimcbmaaDoorCfa
import Derived.Test.YtkaakomiimcbmaaDoorShelfG
import Derived.Lib.SliceRun
import Derived.Deep.RegionHeld3
/- Two lists of edits merged by their Ids. No program in sight. -/
namespace Go.Proofs.YtkaakomiimcbmaaDoor
open Go.ChangeShapes Go.WideShapes Go.ChangeAt Go.RowKit Go.Deep
set_option linter.unusedSimpArgs false
set_option linter.unusedVariables false
/-- Both lists in one; what j says stands for two edits with one Id. -/
def mrg (j : Ed → Ed → Ed) : List Ed → List Ed → List Ed
  | [], ys => ys
  | x :: xs, [] => x :: xs
  | x :: xs, y :: ys => if x.2.1 < y.2.1 then x :: mrg j xs (y :: ys) else if y.2.1 < x.2.1 then y :: mrg j (x :: xs) ys else j x y :: mrg j xs ys
termination_by xs ys => xs.length + ys.length
theorem mrg_nil_left (j : Ed → Ed → Ed) (ys : List Ed) : mrg j [] ys = ys := by unfold mrg; rfl
theorem mrg_nil_right (j : Ed → Ed → Ed) (xs : List Ed) : mrg j xs [] = xs := by
  cases xs with
  | nil => exact mrg_nil_left j []
  | cons x t => unfold mrg; rfl
theorem mrg_cons (j : Ed → Ed → Ed) (x y : Ed) (xs ys : List Ed) : mrg j (x :: xs) (y :: ys) = if x.2.1 < y.2.1 then x :: mrg j xs (y :: ys) else if y.2.1 < x.2.1 then y :: mrg j (x :: xs) ys else j x y :: mrg j xs ys := by
  conv => lhs; unfold mrg
theorem mrg_len (j : Ed → Ed → Ed) : ∀ (n : Nat) (xs ys : List Ed), xs.length + ys.length ≤ n → (mrg j xs ys).length ≤ xs.length + ys.length := by
  intro n
  induction n with
  | zero =>
    intro xs ys h
    have h1 : xs = [] := List.eq_nil_of_length_eq_zero (by omega)
    have h2 : ys = [] := List.eq_nil_of_length_eq_zero (by omega)
    subst h1 h2
    rw [mrg_nil_left]; simp
  | succ n ih =>
    intro xs ys h
    cases xs with
    | nil => rw [mrg_nil_left]; simp
    | cons x xs =>
      cases ys with
      | nil => rw [mrg_nil_right]; simp
      | cons y ys =>
        rw [mrg_cons]
        simp only [List.length_cons] at h ⊢
        split
        · have := ih xs (y :: ys) (by simp only [List.length_cons]; omega)
          simp only [List.length_cons] at this ⊢; omega
        · split
          · have := ih (x :: xs) ys (by simp only [List.length_cons]; omega)
            simp only [List.length_cons] at this ⊢; omega
          · have := ih xs ys (by omega)
            simp only [List.length_cons]; omega
/-- What stands at an Id in the merged list: the edit of the one, of the other, or both together. -/
def mid (j : Ed → Ed → Ed) (a b : Option Ed) : Option Ed := match a, b with
  | some x, some y => some (j x y)
  | some x, none => some x
  | none, b => b
theorem fnd_cons (e : Ed) (L : List Ed) (i : Int) : fnd (e :: L) i = if e.2.1 = i then some e else fnd L i := by
  unfold fnd
  rw [List.find?_cons]
  by_cases h : e.2.1 = i
  · simp [h]
  · have : (e.2.1 == i) = false := by simpa using h
    simp [this, h]
theorem fnd_lt {L : List Ed} {i : Int} (h : ∀ x ∈ L, i < x.2.1) : fnd L i = none := fnd_none.2 fun e he q => by have := h e he; omega
theorem mrg_ids (j : Ed → Ed → Ed) (hj : ∀ x y, (j x y).2.1 = x.2.1) : ∀ (n : Nat) (xs ys : List Ed), xs.length + ys.length ≤ n → ∀ e ∈ mrg j xs ys, (∃ x ∈ xs, e.2.1 = x.2.1) ∨ ∃ y ∈ ys, e.2.1 = y.2.1 := by
  intro n
  induction n with
  | zero =>
    intro xs ys h e he
    have h1 : xs = [] := List.eq_nil_of_length_eq_zero (by omega)
    have h2 : ys = [] := List.eq_nil_of_length_eq_zero (by omega)
    subst h1 h2
    rw [mrg_nil_left] at he
    cases he
  | succ n ih =>
    intro xs ys h e he
    cases xs with
    | nil => rw [mrg_nil_left] at he; exact .inr ⟨e, he, rfl⟩
    | cons x xs =>
      cases ys with
      | nil => rw [mrg_nil_right] at he; exact .inl ⟨e, he, rfl⟩
      | cons y ys =>
        rw [mrg_cons] at he
        simp only [List.length_cons] at h
        split at he
        · rcases List.mem_cons.1 he with rfl | he
          · exact .inl ⟨_, by simp, rfl⟩
          · rcases ih xs (y :: ys) (by simp only [List.length_cons]; omega) e he with ⟨a, ha, q⟩ | r
            · exact .inl ⟨a, List.mem_cons_of_mem _ ha, q⟩
            · exact .inr r
        · split at he
          · rcases List.mem_cons.1 he with rfl | he
            · exact .inr ⟨_, by simp, rfl⟩
            · rcases ih (x :: xs) ys (by simp only [List.length_cons]; omega) e he with r | ⟨a, ha, q⟩
              · exact .inl r
              · exact .inr ⟨a, List.mem_cons_of_mem _ ha, q⟩
          · rcases List.mem_cons.1 he with rfl | he
            · exact .inl ⟨x, by simp, hj x y⟩
            · rcases ih xs ys (by omega) e he with ⟨a, ha, q⟩ | ⟨a, ha, q⟩
              · exact .inl ⟨a, List.mem_cons_of_mem _ ha, q⟩
              · exact .inr ⟨a, List.mem_cons_of_mem _ ha, q⟩
theorem mrg_incs (j : Ed → Ed → Ed) (hj : ∀ x y, (j x y).2.1 = x.2.1) : ∀ (n : Nat) (xs ys : List Ed), xs.length + ys.length ≤ n → incs xs → incs ys → incs (mrg j xs ys) ∧ ∀ i, fnd (mrg j xs ys) i = mid j (fnd xs i) (fnd ys i) := by
  intro n
  induction n with
  | zero =>
    intro xs ys h hx hy
    have h1 : xs = [] := List.eq_nil_of_length_eq_zero (by omega)
    have h2 : ys = [] := List.eq_nil_of_length_eq_zero (by omega)
    subst h1 h2
    rw [mrg_nil_left]
    exact ⟨hx, fun i => rfl⟩
  | succ n ih =>
    intro xs ys h hx hy
    cases xs with
    | nil => rw [mrg_nil_left]; exact ⟨hy, fun i => rfl⟩
    | cons x xs =>
      cases ys with
      | nil =>
        rw [mrg_nil_right]
        refine ⟨hx, fun i => ?_⟩
        have e : fnd [] i = none := rfl
        rw [e]
        cases fnd (x :: xs) i <;> rfl
      | cons y ys =>
        rw [mrg_cons]
        simp only [List.length_cons] at h
        have hx' := incs_cons.1 hx
        have hy' := incs_cons.1 hy
        split
        · rename_i hlt
          obtain ⟨h1, h2⟩ := ih xs (y :: ys) (by simp only [List.length_cons]; omega) hx'.2 hy
          refine ⟨incs_cons.2 ⟨fun e he => ?_, h1⟩, fun i => ?_⟩
          · rcases mrg_ids j hj _ xs (y :: ys) (Nat.le_refl _) e he with ⟨a, ha, q⟩ | ⟨a, ha, q⟩
            · have := hx'.1 a ha; omega
            · rcases List.mem_cons.1 ha with rfl | ha
              · omega
              · have := hy'.1 a ha; omega
          · rw [fnd_cons, fnd_cons, h2 i]
            by_cases q : x.2.1 = i
            · subst q
              rw [if_pos rfl, if_pos rfl, fnd_lt (L := y :: ys) (fun e he => by
                rcases List.mem_cons.1 he with rfl | he
                · exact hlt
                · have := hy'.1 e he; omega)]
              rfl
            · rw [if_neg q, if_neg q]
        · rename_i hnl
          split
          · rename_i hgt
            obtain ⟨h1, h2⟩ := ih (x :: xs) ys (by simp only [List.length_cons]; omega) hx hy'.2
            refine ⟨incs_cons.2 ⟨fun e he => ?_, h1⟩, fun i => ?_⟩
            · rcases mrg_ids j hj _ (x :: xs) ys (Nat.le_refl _) e he with ⟨a, ha, q⟩ | ⟨a, ha, q⟩
              · rcases List.mem_cons.1 ha with rfl | ha
                · omega
                · have := hx'.1 a ha; omega
              · have := hy'.1 a ha; omega
            · rw [fnd_cons, h2 i, fnd_cons (e := y)]
              by_cases q : y.2.1 = i
              · subst q
                rw [if_pos rfl, if_pos rfl, fnd_lt (L := x :: xs) (fun e he => by
                  rcases List.mem_cons.1 he with rfl | he
                  · exact hgt
                  · have := hx'.1 e he; omega)]
                rfl
              · rw [if_neg q, if_neg q]
          · rename_i hng
            have heq : x.2.1 = y.2.1 := by omega
            obtain ⟨h1, h2⟩ := ih xs ys (by omega) hx'.2 hy'.2
            refine ⟨incs_cons.2 ⟨fun e he => ?_, h1⟩, fun i => ?_⟩
            · rw [hj]
              rcases mrg_ids j hj _ xs ys (Nat.le_refl _) e he with ⟨a, ha, q⟩ | ⟨a, ha, q⟩
              · have := hx'.1 a ha; omega
              · have := hy'.1 a ha; omega
            · rw [fnd_cons, fnd_cons, fnd_cons, h2 i, hj]
              by_cases q : x.2.1 = i
              · rw [if_pos q, if_pos q, if_pos (by omega)]; rfl
              · rw [if_neg q, if_neg q, if_neg (by omega)]
/-- A list whose Ids increase from 1 to 99 is what stands at each Id, in order. -/
def idsOf (f : Int → Option Ed) : List Ed := (List.range 99).filterMap fun k : Nat => f ((k : Int) + 1)
theorem idsOf_incs_aux {f : Int → Option Ed} (hf : ∀ i e, f i = some e → e.2.1 = i) : ∀ (m : Nat) (l : List Nat), l.Pairwise (· < ·) → incs (l.filterMap fun k : Nat => f ((k : Int) + 1)) := by
  intro m l
  induction l with
  | nil => intro _; exact List.Pairwise.nil
  | cons a t ih =>
    intro h
    rw [List.pairwise_cons] at h
    rw [List.filterMap_cons]
    cases hfa : f ((a : Int) + 1) with
    | none => exact ih h.2
    | some e =>
      refine incs_cons.2 ⟨fun x hx => ?_, ih h.2⟩
      obtain ⟨b, hb, hfb⟩ := List.mem_filterMap.1 hx
      have h1 := hf _ _ hfa
      have h2 := hf _ _ hfb
      have := h.1 b hb
      omega
theorem idsOf_incs {f : Int → Option Ed} (hf : ∀ i e, f i = some e → e.2.1 = i) : incs (idsOf f) := idsOf_incs_aux hf 0 _ List.pairwise_lt_range
theorem incs_ext : ∀ {L L' : List Ed}, incs L → incs L' → (∀ e, e ∈ L ↔ e ∈ L') → L = L' := by
  intro L
  induction L with
  | nil =>
    intro L' _ _ h
    cases L' with
    | nil => rfl
    | cons b t => exact absurd ((h b).2 (by simp)) (by simp)
  | cons a t ih =>
    intro L' h1 h2 h
    cases L' with
    | nil => exact absurd ((h a).1 (by simp)) (by simp)
    | cons b t' =>
      have c1 := incs_cons.1 h1
      have c2 := incs_cons.1 h2
      have hab : a = b := by
        rcases List.mem_cons.1 ((h a).1 (by simp)) with e | e
        · exact e
        · rcases List.mem_cons.1 ((h b).2 (by simp)) with e' | e'
          · exact e'.symm
          · have := c1.1 b e'; have := c2.1 a e; omega
      subst hab
      rw [ih c1.2 c2.2 fun e => ?_]
      constructor
      · intro he
        rcases List.mem_cons.1 ((h e).1 (List.mem_cons_of_mem _ he)) with q | q
        · subst q; have := c1.1 e he; omega
        · exact q
      · intro he
        rcases List.mem_cons.1 ((h e).2 (List.mem_cons_of_mem _ he)) with q | q
        · subst q; have := c2.1 e he; omega
        · exact q
theorem fnd_mem {L : List Ed} (h : incs L) {e : Ed} : e ∈ L ↔ fnd L e.2.1 = some e := ⟨fun he => fnd_of_mem h he, fun he => (fnd_some he).1⟩
theorem idsOf_mem {f : Int → Option Ed} (hf : ∀ i e, f i = some e → e.2.1 = i ∧ 1 ≤ i ∧ i ≤ 99) {e : Ed} : e ∈ idsOf f ↔ f e.2.1 = some e := by
  unfold idsOf
  rw [List.mem_filterMap]
  constructor
  · rintro ⟨k, hk, h⟩
    have := (hf _ _ h).1
    rw [this]; exact h
  · intro h
    have h1 := hf _ _ h
    refine ⟨(e.2.1 - 1).toNat, ?_, ?_⟩
    · rw [List.mem_range]; omega
    · rw [show (((e.2.1 - 1).toNat : Nat) : Int) + 1 = e.2.1 by omega]; exact h
theorem idsOf_eq {f : Int → Option Ed} {L : List Ed} (hf : ∀ i e, f i = some e → e.2.1 = i ∧ 1 ≤ i ∧ i ≤ 99) (hL : incs L) (h : ∀ i, fnd L i = f i) : idsOf f = L := by
  refine incs_ext (idsOf_incs fun i e q => (hf i e q).1) hL fun e => ?_
  rw [idsOf_mem hf, fnd_mem hL, h]
theorem fnd_filter {L : List Ed} (h : incs L) (p : Ed → Bool) (i : Int) : fnd (L.filter p) i = (fnd L i).filter p := by
  cases hf : fnd L i with
  | none =>
    rw [fnd_none.2 fun e he => fnd_none.1 hf e (List.mem_filter.1 he).1]
    rfl
  | some e =>
    obtain ⟨h1, h2⟩ := fnd_some hf
    cases hp : p e with
    | true =>
      have hm : e ∈ L.filter p := List.mem_filter.2 ⟨h1, hp⟩
      have := fnd_of_mem (incs_filter h p) hm
      rw [h2] at this
      rw [this]
      simp [Option.filter, hp]
    | false =>
      rw [fnd_none.2 fun x hx q => ?_]
      · simp [Option.filter, hp]
      · obtain ⟨hx1, hx2⟩ := List.mem_filter.1 hx
        rw [incs_inj h hx1 h1 (by omega), hp] at hx2
        cases hx2
end Go.Proofs.YtkaakomiimcbmaaDoor
/- Lists of edits in one: slices.Grow, slices.Concat. -/
namespace Go.Proofs.YtkaakomiimcbmaaDoor
open Go.ChangeShapes Go.WideShapes Go.ChangeAt Go.RowKit Go.Deep
set_option linter.unusedSimpArgs false
set_option linter.unusedVariables false
theorem fl_app (L : List Ed) : ∀ (n : Nat) (M : List Ed), M.length = n → fl (L ++ M) = fl L ++ fl M := by
  intro n
  induction n with
  | zero =>
    intro M h
    have : M = [] := List.eq_nil_of_length_eq_zero h
    subst this
    rw [fl_nil, List.append_nil, List.append_nil]
  | succ n ih =>
    intro M h
    have hne : M ≠ [] := by intro e; subst e; simp at h
    obtain ⟨M', e, rfl⟩ : ∃ M' e, M = M' ++ [e] := ⟨M.dropLast, M.getLast hne, (List.dropLast_concat_getLast hne).symm⟩
    rw [← List.append_assoc, fl_snoc, ih M' (by simpa using h), fl_snoc, List.append_assoc]
theorem ListE.cells {w : World} {x : Addr} {M : List Ed} (h : ArgE w x M) (hs : 0 < M.length → x.spot = none) {j : Nat} (hj : j < M.length * 4) : w.cell? (x.add j) = some (ec M j) := by
  obtain ⟨c1, c2, c3, c4⟩ := h (j / 4) (by omega)
  have hsp := hs (by omega)
  obtain ⟨xb, xo, xs⟩ := x
  simp only at hsp
  subst hsp
  simp only [Addr.add_lit] at c1 c2 c3 c4 ⊢
  unfold ec
  have hm : j % 4 = 0 ∨ j % 4 = 1 ∨ j % 4 = 2 ∨ j % 4 = 3 := by omega
  rcases hm with m | m | m | m
  · rw [if_pos m, show xo + j = xo + j / 4 * 4 by omega]; exact c1
  · rw [if_neg (by omega), if_pos m, show xo + j = xo + j / 4 * 4 + 1 by omega]; exact c2
  · rw [if_neg (by omega), if_neg (by omega), if_pos m, show xo + j = xo + j / 4 * 4 + 2 by omega]; exact c3
  · rw [if_neg (by omega), if_neg (by omega), if_neg (by omega), show xo + j = xo + j / 4 * 4 + 3 by omega]; exact c4
theorem ArgE.spot {w : World} {x : Addr} {M : List Ed} (h : ArgE w x M) (hm : 0 < M.length) : x.spot = none := by
  obtain ⟨c1, _⟩ := h 0 hm
  rw [show x.add (0 * 4) = x by simp [Addr.add]] at c1
  unfold World.cell? at c1
  split at c1
  · split at c1
    · cases c1
    · rename_i q; simpa using q
  · cases c1
theorem ec_one7 (L : List Ed) (j : Nat) : (ec L j).oneCell' = true := by
  unfold ec
  split
  · rfl
  · split
    · rfl
    · split <;> rfl
/-- append(v, x...) at a list that was built by append. -/
theorem run_app7 (ty : TypeId) (base : Nat) (v vx : Value) (L M : List Ed) (w : World) (hB : BldD w base v L) (hx : ListE w vx M) (hl : L.length + M.length ≤ 4000000) (hbase : base ≤ w.heap.size) :
    ∃ v' w', (Builtin.append_ #[49, 49] ty #[v, vx]).run Tryd.prog w = .ok v' w' ∧ BldD w' base v' (L ++ M) ∧ w.grownBy w' v.ownBlock := by
  obtain ⟨i0, hi, hz0, hz1, hz2⟩ := info_parts7 infoE
  rcases hx with ⟨rfl, rfl⟩ | ⟨x, cap, rfl, hxb, hc⟩
  · refine ⟨v, w, ?_, by rw [List.append_nil]; exact hB, ⟨rfl, rfl, rfl, Nat.le_refl _, fun _ _ _ => rfl⟩⟩
    obtain ⟨_, ⟨rfl, h0⟩ | ⟨g, cap, cur, rfl, hb, hg, hn, hcap, hs, ht⟩⟩ := hB
    · simp [Builtin.append_, run_underlying Tryd.underlying49, sizeOf, typeInfo, hi, Builtin.lenOf, Builtin.firstCells, loadCells, loadCellsFrom]
    · have hn' : L.length + 0 ≤ cap := by omega
      simp [Builtin.append_, run_underlying Tryd.underlying49, sizeOf, typeInfo, hi, Builtin.lenOf, Builtin.firstCells, loadCells, loadCellsFrom, hn', hn, storeCells, go_sem]
  · obtain ⟨v', w', h1, h2, h3, _⟩ := run_append_own (P := Tryd.prog) (w := w) base 49 ty 93 i0 _ 4 48 Tryd.underlying49 hi hz0 hz1 hz2 rfl (by decide) v L.length (fl L) hB x M.length cap (fl M) (by rw [fl_len])
      (fun j u hj => by
        have hlen : j < M.length * 4 := by
          have := (List.getElem?_eq_some_iff.1 hj).1
          simpa [fl_len] using this
        rw [ListE.cells hc (fun h => hc.spot h) hlen]
        simpa [fl, hlen] using hj)
      (fun u hu => by
        obtain ⟨j, _, rfl⟩ := List.mem_map.1 hu
        exact ec_one7 M j)
      (by unfold maxLen; omega) (by omega) hbase
    refine ⟨v', w', h1, ?_, h3⟩
    unfold BldD
    rw [List.length_append, fl_app L _ M rfl]
    exact h2
theorem grow7 (n : Nat) (w : World) (hn : n ≤ 4000000) : Calls Tryd.prog 95 #[.slice none 0 0, .int .i64 (n : Int)] w fun e w' => (∃ v, e = .returned v ∧ BldD w' w.heap.size v []) ∧ Below w.heap.size w w' := by
  obtain ⟨i0, hi, hz0, hz1, hz2⟩ := info_parts7 infoE
  by_cases h0 : n = 0
  · subst h0
    exact (Any8.slices_Grow_room Tryd.laysGrow none 0 0 0 w (Nat.le_refl _) (by omega) (by omega) (by omega)).mono fun e w' ⟨he, hw⟩ => ⟨⟨_, he, World.ownsRow_nil _ _ _ _⟩, hw ▸ Below.refl _ _⟩
  · have h := Any8.slices_Grow_grow Tryd.laysGrow i0 (.agg #[.int .i64 0, .int .i64 0, .string ⟨#[]⟩, .string ⟨#[]⟩]) hi hz0 (by rw [hz1]; omega) none 0 0 n [] w (Nat.le_refl _) (by omega) (by rw [hz2]; omega) (by omega) (by simp) (fun _ => rfl) (fun a ha => by cases ha)
    refine h.mono fun e w' ⟨he, hw⟩ => ⟨⟨_, he, ?_⟩, ?_⟩
    · rw [hw]
      have hG1 := grownCap_ge w (0 + n) 0 (Tryd.laysGrow_ren.t 25)
      have hG2 := grownCap_le_maxLen w (0 + n) 0 (Tryd.laysGrow_ren.t 25) (by unfold maxLen; omega)
      refine World.ownsRow_made w.drew _ _ (Nat.le_refl _) hG2 ?_
      simp only [Nat.zero_add] at hG1 ⊢
      have hz : (Value.agg #[.int .i64 0, .int .i64 0, .string ⟨#[]⟩, .string ⟨#[]⟩]).cells.size = 4 := rfl
      simp only [Array.size_append, size_zeroCells, hz]
      simp
      omega
    · rw [hw]
      exact (Below.refl _ _).drew.alloc (Nat.le_refl _) _
end Go.Proofs.YtkaakomiimcbmaaDoor
/- Lists of edits in one: slices.Concat of three of them, walked. -/
namespace Go.Proofs.YtkaakomiimcbmaaDoor
open Go.ChangeShapes Go.WideShapes Go.ChangeAt Go.RowKit Go.Deep
set_option linter.unusedSimpArgs false
set_option linter.unusedVariables false
def catE (Ls : Nat → List Ed) : Nat → List Ed
  | 0 => []
  | k + 1 => catE Ls k ++ Ls k
theorem catE_len {Ls : Nat → List Ed} (h : ∀ k, k < 3 → (Ls k).length ≤ 1048576) : ∀ k, k ≤ 3 → (catE Ls k).length ≤ 1048576 * k
  | 0, _ => by simp [catE]
  | k + 1, hk => by
    have h1 := catE_len h k (by omega)
    have h2 := h k (by omega)
    simp only [catE, List.length_append]
    omega
set_option maxHeartbeats 4000000 in
set_option maxRecDepth 100000 in
theorem concat7 (ba : Nat) (vs : Nat → Value) (Ls : Nat → List Ed) (w : World) (hba : ba < w.heap.size) (hcell : ∀ k, k < 3 → w.cell? ⟨ba, k, none⟩ = some (vs k)) (hlist : ∀ k, k < 3 → ListE w (vs k) (Ls k)) (hlen : ∀ k, k < 3 → (Ls k).length ≤ 1048576) :
    Calls Tryd.prog 86 #[.slice (some ⟨ba, 0, none⟩) 3 3] w fun e w' => (∃ v, e = .returned v ∧ OwD w' w.heap.size w'.heap.size v (catE Ls 3) ∨ 1048576 < (catE Ls 3).length) ∧ (∃ v, e = .returned v ∧ BldD w' w.heap.size v (catE Ls 3)) ∧ Below w.heap.size w w' := by
  have HC := Lib.hid hcell
  have HL := Lib.hid hlist
  have HN := Lib.hid hlen
  have hcl := catE_len hlen
  have HCL := Lib.hid hcl
  clear hcell hlist hlen hcl
  go_enter Tryd.func86, Tryd.ntmps86
  go_wp2
  go_loopg [3, 5, 11] 3 (fun g s _ i wr => ∃ k : Nat, k ≤ 3 ∧ g = 3 - k ∧ s = .int .i64 ((catE Ls k).length : Int) ∧ i = .int .i64 k ∧ w = wr)
  case atStart => exact ⟨0, by omega, rfl, rfl, rfl, rfl⟩
  case round =>
    obtain ⟨k, hk, rfl, rfl, rfl, rfl⟩ := hrel
    have hck := HCL.out k hk
    by_cases hlt : k < 3
    · have c1 := HC.out k hlt
      obtain ⟨va, vc, hv⟩ := (HL.out k hlt).shape
      have hn := HN.out k hlt
      rw [hv] at c1
      have hs : (catE Ls (k + 1)).length = (catE Ls k).length + (Ls k).length := by simp [catE]
      have HS := Lib.hid hs
      have HV := Lib.hid hv
      clear hs hv
      obtain ⟨n, hnn⟩ : ∃ n, (Ls k).length = n := ⟨_, rfl⟩
      obtain ⟨m, hmm⟩ : ∃ m, (catE Ls k).length = m := ⟨_, rfl⟩
      rw [hnn] at c1 hn HS
      rw [hmm] at hck HS
      simp only [hmm]
      clear hnn hmm
      go_wp2
      go_roundg (3 - (k + 1))
      case measure => omega
      case rel => exact ⟨k + 1, by omega, rfl, by rw [HS.out]; simp, by simp, rfl⟩
    · obtain rfl : k = 3 := by omega
      have HG := grow7 (catE Ls 3).length w (by omega)
      obtain ⟨m, hmm⟩ : ∃ m, (catE Ls 3).length = m := ⟨_, rfl⟩
      have HM := Lib.hid hmm
      rw [hmm] at hck HG
      simp only [hmm]
      clear hmm
      go_wp2_with fail
      refine HG.mono ?_
      rintro e w1 ⟨⟨v1, rfl, hB1⟩, hb1⟩
      have hs1 := hb1.size
      clear HG
      go_wp2
      go_loopg [6, 8, 27] 3 (fun g v _ i wr => ∃ k : Nat, k ≤ 3 ∧ g = 3 - k ∧ i = .int .i64 k ∧ BldD wr w.heap.size v (catE Ls k) ∧ Below w.heap.size w wr)
      case atStart => exact ⟨0, by omega, rfl, rfl, hB1, hb1⟩
      case round =>
        clear hB1
        obtain ⟨k, hk, rfl, rfl, hB, hb⟩ := hrel
        have hsx := hb.size
        have hck := HCL.out k hk
        by_cases hlt : k < 3
        · have c1 := (hb.cell (p := ⟨ba, k, none⟩) hba).trans (HC.out k hlt)
          have hx := (HL.out k hlt).below hb
          have hn := HN.out k hlt
          have hrun := fun ty => run_app7 ty w.heap.size u6 (vs k) (catE Ls k) (Ls k) wr hB hx (by omega) hsx
          obtain ⟨v', w2, h1, h2, h3⟩ := hrun 49
          have hall : ∀ ty, (Builtin.append_ #[49, 49] ty #[u6, vs k]).run Tryd.prog wr = .ok v' w2 := fun ty => h1
          have hb2 := hb.grown h3 hsx (fun x e => (hB.lt x e).1)
          have hB2 : BldD w2 w.heap.size v' (catE Ls (k + 1)) := h2
          have HB2 := Lib.hid hB2
          obtain ⟨vk, hvk⟩ : ∃ x, vs k = x := ⟨_, rfl⟩
          rw [hvk] at c1 hall
          clear hrun h1 h2 h3 hB hx hvk hB2 hb
          go_wp2_with (at_builtin; refine Lib.wpList_append_run _ rfl _ _ _ _ rfl _ _ rfl rfl _ _ (hall _) ?_)
          go_roundg (3 - (k + 1))
          case measure => omega
          case rel => exact ⟨k + 1, by omega, rfl, by simp, HB2.out, hb2⟩
        · obtain rfl : k = 3 := by omega
          have HB := Lib.hid hB
          clear hB
          go_wp2
          go_ret
          refine ⟨?_, ⟨_, rfl, HB.out⟩, hb⟩
          by_cases hbig : 1048576 < (catE Ls 3).length
          · exact ⟨.slice none 0 0, .inr hbig⟩
          · exact ⟨_, .inl ⟨rfl, HB.out.done (Nat.le_refl _) (by omega)⟩⟩
end Go.Proofs.YtkaakomiimcbmaaDoor
/- Two lists of edits merged: the program's, for any way to join two edits. -/
namespace Go.Proofs.YtkaakomiimcbmaaDoor
open Go.ChangeShapes Go.WideShapes Go.ChangeAt Go.RowKit Go.Deep
set_option linter.unusedSimpArgs false
set_option linter.unusedVariables false
def cmpI (x y : Ed) : Int := if x.2.1 < y.2.1 then -1 else if y.2.1 < x.2.1 then 1 else 0
theorem drop_cons {L : List Ed} {i : Nat} (h : i < L.length) : L.drop i = L.getD i e0 :: L.drop (i + 1) := by
  rw [List.drop_eq_getElem_cons h]
  simp [List.getD, h]
theorem bsnoc {w : World} {base : Nat} {v : Value} {L : List Ed} {e : Ed} (h : w.ownsRow base 93 4 v (L.length + 1) (fl L ++ [.int .i64 e.1, .int .i64 e.2.1, .string e.2.2.1, .string e.2.2.2])) : BldD w base v (L ++ [e]) := by
  have hl : (L ++ [e]).length = L.length + 1 := by simp
  unfold BldD
  rw [hl, fl_snoc]
  exact h
theorem run_tail7 (b o n c : Nat) (h1 : 1 ≤ n) (h2 : n ≤ c) (w : World) :
    (Instr.sliceAt 49 (.slice (some ⟨b, o, none⟩) n c) (some (.int .i64 1)) none none).run Tryd.prog w = .ok (.slice (some ⟨b, if c = 1 then o else o + 4, none⟩) (n - 1) (c - 1)) w := by
  by_cases hc : c = 1
  · subst hc
    have : n = 1 := by omega
    subst this
    simp [Instr.sliceAt, Instr.slice, run_underlying Tryd.underlying49, Instr.sliceBounds, run_sliceBound, sliced, go_sem]
  · have h : ¬ c = 1 := hc
    have h3 : ¬ (n : Int) < 1 := by omega
    simp [Instr.sliceAt, Instr.slice, run_underlying Tryd.underlying49, Instr.sliceBounds, run_sliceBound, sliced, go_sem, h, h1, h2, h3, Addr.add_lit]
theorem tailE {w : World} {b : Nat} {P : List Ed} (h : Es w b P) {i o c : Nat} (ho : i < P.length → o = i * 4) : ListE w (.slice (some ⟨b, o, none⟩) (P.length - i) c) (P.drop i) := by
  refine .inr ⟨⟨b, o, none⟩, c, by rw [List.length_drop], fun _ => h.lt, fun k hk => ?_⟩
  rw [List.length_drop] at hk
  have h1 := ho (by omega)
  subst h1
  obtain ⟨c1, c2, c3, c4⟩ := h.at (k := i + k) (by omega)
  have hg : (P.drop i).getD k e0 = P.getD (i + k) e0 := by simp [List.getD]
  rw [hg, Addr.add_lit, show i * 4 + k * 4 = (i + k) * 4 by omega]
  exact ⟨c1, c2, c3, c4⟩
theorem BldD.low {w : World} {base base' : Nat} {v : Value} {L : List Ed} (h : BldD w base v L) (hb : base' ≤ base) : BldD w base' v L := by
  obtain ⟨h0, h | ⟨g, cap, cur, rfl, h1, h2, h3⟩⟩ := h
  · exact ⟨h0, .inl h⟩
  · exact ⟨h0, .inr ⟨g, cap, cur, rfl, by omega, h2, h3⟩⟩
set_option maxHeartbeats 1000000 in
theorem concat3 (v0 v1 v2 : Value) (L0 L1 L2 : List Ed) (w : World) (h0 : ListE w v0 L0) (h1 : ListE w v1 L1) (h2 : ListE w v2 L2) (n0 : L0.length ≤ 10000) (n1 : L1.length ≤ 10000) (n2 : L2.length ≤ 10000) :
    Calls Tryd.prog 86 #[.slice (some ⟨w.heap.size, 0, none⟩) 3 3] (w.alloc (.cells #[v0, v1, v2] 49)) fun e w' => (∃ v, e = .returned v ∧ BldD w' w.heap.size v (L0 ++ L1 ++ L2)) ∧ Below w.heap.size w w' := by
  have hb : Below w.heap.size w (w.alloc (.cells #[v0, v1, v2] 49)) := (Below.refl _ _).alloc (Nat.le_refl _) _
  have h := concat7 w.heap.size (fun k => if k = 0 then v0 else if k = 1 then v1 else v2) (fun k => if k = 0 then L0 else if k = 1 then L1 else L2) (w.alloc (.cells #[v0, v1, v2] 49)) (by simp)
    (fun k hk => by
      have : k = 0 ∨ k = 1 ∨ k = 2 := by omega
      rcases this with rfl | rfl | rfl <;> simp)
    (fun k hk => by
      have : k = 0 ∨ k = 1 ∨ k = 2 := by omega
      rcases this with rfl | rfl | rfl
      · exact h0.below hb
      · exact h1.below hb
      · exact h2.below hb)
    (fun k hk => by
      have : k = 0 ∨ k = 1 ∨ k = 2 := by omega
      rcases this with rfl | rfl | rfl
      · show L0.length ≤ _; omega
      · show L1.length ≤ _; omega
      · show L2.length ≤ _; omega)
  refine h.mono fun e w' ⟨_, ⟨v, he, hB⟩, hw⟩ => ⟨⟨v, he, ?_⟩, hb.trans (hw.mono (by simp))⟩
  have hB' : BldD w' (w.alloc (.cells #[v0, v1, v2] 49)).heap.size v (L0 ++ L1 ++ L2) := hB
  exact hB'.low (by simp)
set_option maxHeartbeats 40000000 in
set_option maxRecDepth 100000 in
theorem imergeB (Fc Fj : FuncId) (HFc : ∀ args w, (callFunc Fc args).run Tryd.prog w = .ok (.enter Fc args) w) (HFj : ∀ args w, (callFunc Fj args).run Tryd.prog w = .ok (.enter Fj args) w) (jn : Ed → Ed → Ed)
    (HCmp : ∀ x y w', Calls Tryd.prog Fc #[vE x, vE y] w' fun e w'' => e = .returned (.int .i64 (cmpI x y)) ∧ Below w'.heap.size w' w'')
    (HJn : ∀ x y w', Calls Tryd.prog Fj #[vE x, vE y] w' fun e w'' => e = .returned (vE (jn x y)) ∧ Below w'.heap.size w' w'')
    (P Q : List Ed) (bp cp bq cq : Nat) (w : World) (hp : Es w bp P) (hq : Es w bq Q) (lp : P.length ≤ 1000) (lq : Q.length ≤ 1000) (kp : P.length ≤ cp) (kq : Q.length ≤ cq) (kp9 : cp ≤ 1048576) (kq9 : cq ≤ 1048576) :
    Calls Tryd.prog 80 #[.slice (some ⟨bp, 0, none⟩) P.length cp, .slice (some ⟨bq, 0, none⟩) Q.length cq, .func (.func Fc) #[] #[], .func (.func Fj) #[] #[]] w fun e w' => (∃ v, e = .returned v ∧ BldD w' w.heap.size v (mrg jn P Q)) ∧ Below w.heap.size w w' := by
  obtain ⟨i0, hi, hz0, hz1, hz2⟩ := info_parts7 infoE
  have HP := Lib.hid hp
  have HQ := Lib.hid hq
  have HC := Lib.hid HCmp
  have HJ := Lib.hid HJn
  have lbp := hp.lt
  have lbq := hq.lt
  clear hp hq HCmp HJn
  go_enter Tryd.func80, Tryd.ntmps80
  go_wp2
  go_loopg [0, 1, 9, 10] (P.length + Q.length) (fun g a b v _ wr => ∃ (i j : Nat) (l : List Ed) (oa ob ca cb : Nat), i ≤ P.length ∧ j ≤ Q.length ∧ g = (P.length - i) + (Q.length - j) ∧ a = .slice (some ⟨bp, oa, none⟩) (P.length - i) ca ∧ b = .slice (some ⟨bq, ob, none⟩) (Q.length - j) cb ∧ Hid ((i < P.length → oa = i * 4) ∧ (j < Q.length → ob = j * 4)) ∧ P.length - i ≤ ca ∧ Q.length - j ≤ cb ∧ ca ≤ 1048576 ∧ cb ≤ 1048576 ∧ l.length ≤ i + j ∧ BldD wr w.heap.size v l ∧ Hid (mrg jn P Q = l ++ mrg jn (P.drop i) (Q.drop j)) ∧ Below w.heap.size w wr)
  case atStart => exact ⟨0, 0, [], 0, 0, cp, cq, Nat.zero_le _, Nat.zero_le _, rfl, by simp, by simp, ⟨fun _ => rfl, fun _ => rfl⟩, kp, kq, kp9, kq9, by simp, World.ownsRow_nil _ _ _ _, Lib.hid (by simp), Below.refl _ _⟩
  case round =>
    obtain ⟨i, j, l, oa, ob, ca, cb, hil, hjl, rfl, rfl, rfl, HO, hca, hcb, hca9, hcb9, hll, hB, HM, hb⟩ := hrel
    have lbs := hb.size
    by_cases hip : i < P.length
    · by_cases hjq : j < Q.length
      · obtain rfl := HO.out.1 hip
        obtain rfl := HO.out.2 hjq
        have hpa := (HP.out.below hb).at hip
        have hqa := (HQ.out.below hb).at hjq
        have dp := drop_cons hip
        have dq := drop_cons hjq
        obtain ⟨x, hx⟩ : ∃ x, P.getD i e0 = x := ⟨_, rfl⟩
        obtain ⟨y, hy⟩ : ∃ y, Q.getD j e0 = y := ⟨_, rfl⟩
        rw [hx] at hpa dp
        rw [hy] at hqa dq
        have hst := mrg_cons jn x y (P.drop (i + 1)) (Q.drop (j + 1))
        rw [← dp, ← dq] at hst
        have HST := Lib.hid hst
        have DP := Lib.hid dp
        have DQ := Lib.hid dq
        obtain ⟨na, hna⟩ : ∃ na, P.length - i = na := ⟨_, rfl⟩
        obtain ⟨nb, hnb⟩ : ∃ nb, Q.length - j = nb := ⟨_, rfl⟩
        rw [hna] at hca
        rw [hnb] at hcb
        simp only [hna, hnb]
        have n1 : 0 < (na : Int) := by omega
        have n2 : 0 < (nb : Int) := by omega
        have HPA := Lib.hid hpa
        have HQA := Lib.hid hqa
        have HCM := HC.out x y wr.drew
        have HXY := Lib.hid (rfl : cmpI x y = cmpI x y)
        obtain ⟨cm, hcm⟩ : ∃ cm, cmpI x y = cm := ⟨_, rfl⟩
        rw [hcm] at HCM
        have HCC := Lib.hid hcm
        obtain ⟨x0, x1, x2, x3⟩ := x
        obtain ⟨y0, y1, y2, y3⟩ := y
        obtain ⟨a1, a2, a3, a4⟩ := hpa
        obtain ⟨b1, b2, b3, b4⟩ := hqa
        unfold vE at HCM
        simp only at a1 a2 a3 a4 b1 b2 b3 b4 HCM
        have HSA := fun W => run_tail7 bp (i * 4) na ca (by omega) hca W
        have HSB := fun W => run_tail7 bq (j * 4) nb cb (by omega) hcb W
        obtain ⟨oa, hoa⟩ : ∃ o, (if ca = 1 then i * 4 else i * 4 + 4) = o := ⟨_, rfl⟩
        obtain ⟨ob, hob⟩ : ∃ o, (if cb = 1 then j * 4 else j * 4 + 4) = o := ⟨_, rfl⟩
        obtain ⟨na', hna'⟩ : ∃ n, na - 1 = n := ⟨_, rfl⟩
        obtain ⟨nb', hnb'⟩ : ∃ n, nb - 1 = n := ⟨_, rfl⟩
        obtain ⟨ca', hca'⟩ : ∃ n, ca - 1 = n := ⟨_, rfl⟩
        obtain ⟨cb', hcb'⟩ : ∃ n, cb - 1 = n := ⟨_, rfl⟩
        have HOA : Hid ((i + 1 < P.length → oa = (i + 1) * 4) ∧ P.length - (i + 1) = na' ∧ na' ≤ ca' ∧ ca' ≤ 1048576) := Lib.hid ⟨fun h => by rw [← hoa, if_neg (by omega)]; omega, by omega, by omega, by omega⟩
        have HOB : Hid ((j + 1 < Q.length → ob = (j + 1) * 4) ∧ Q.length - (j + 1) = nb' ∧ nb' ≤ cb' ∧ cb' ≤ 1048576) := Lib.hid ⟨fun h => by rw [← hob, if_neg (by omega)]; omega, by omega, by omega, by omega⟩
        rw [hoa, hna', hca'] at HSA
        rw [hob, hnb', hcb'] at HSB
        have hcA : P.length - i ≤ ca := by omega
        have hcB : Q.length - j ≤ cb := by omega
        clear hx hy dp dq hst hcm hoa hob hna' hnb' hca' hcb'
        go_wp2_with fail
        go_still_tail 7, (by kernel_rfl)
        change wpList _ _ _ _ _ wr.drew
        go_wp2_with fail
        refine HCM.mono ?_
        rintro e w1 ⟨rfl, hb1⟩
        have hbd : Below wr.heap.size wr w1 := ((Below.refl _ _).drew).trans hb1
        have hpa1 := HPA.out.below hbd
        have hqa1 := HQA.out.below hbd
        have hB1 := hB.below hbd
        have hb2 := hb.trans (hbd.mono lbs)
        have ls1 := hb2.size
        have lw1 := hbd.size
        clear a1 a2 a3 a4 b1 b2 b3 b4 hB hb1 hbd HCM
        by_cases c1 : x1 < y1
        · have hc : cm = -1 := by rw [← HCC.out]; unfold cmpI; rw [if_pos c1]
          subst hc
          obtain ⟨a1, a2, a3, a4⟩ := hpa1
          simp only at a1 a2 a3 a4
          have hown : w1.ownsRow w.heap.size 93 4 u9 l.length (fl l) := hB1
          have av2 : u9.ownBlock ≠ some bp := fun e => by have := (hown.lt _ e).1; omega
          have lbw : bp < w1.heap.size := by omega
          have lbn : bp ≠ w1.heap.size := by omega
          go_wp2_with fail
          go_region_held3 (fun w' => w'.cell? ⟨bp, i * 4, none⟩ = some (.int .i64 x0) ∧ w'.cell? ⟨bp, i * 4 + 1, none⟩ = some (.int .i64 x1) ∧ w'.cell? ⟨bp, i * 4 + 2, none⟩ = some (.string x2) ∧ w'.cell? ⟨bp, i * 4 + 3, none⟩ = some (.string x3))
            (first
              | go_keep
              | (go_split_ands
                 refine ⟨?_, ?_, ?_, ?_⟩
                 · (rw [hgrow.cell_far _ (by simp; omega) (Ne.symm av2)]; assumption)
                 · (rw [hgrow.cell_far _ (by simp; omega) (Ne.symm av2)]; assumption)
                 · (rw [hgrow.cell_far _ (by simp; omega) (Ne.symm av2)]; assumption)
                 · (rw [hgrow.cell_far _ (by simp; omega) (Ne.symm av2)]; assumption)))
            (first
              | (refine step_append_lies _ (by rfl) _ _ _ (by rfl) w.heap.size 93 i0 _ 4 48 Tryd.underlying49 hi hz0 hz1 hz2 rfl (by omega) u9 _ _ (by rfl) ((show w1.drew.ownsRow w.heap.size 93 4 u9 l.length (fl l) from hown).alloc _)
                  ⟨w1.heap.size, 0, none⟩ 1 1 [.int .i64 x0, .int .i64 x1, .string x2, .string x3] (by rfl) (by rfl) (World.news_of_block (cs := #[.int .i64 x0, .int .i64 x1, .string x2, .string x3]) (t := 93) (fr := (0, 0)) (heap_alloc_new w1.drew _)) (by simp [Value.oneCell'])
                  (by omega) (by unfold maxLen; omega) (by omega) (by simp; omega) (w1.heap.size + 1) (by simp) ?_; intro gg cap' w3 hown1 hgrow hat hlt'))
          all_goals
            have hb3 : Below w.heap.size w w3 := by
              first
                | exact ((hb2.alloc ls1 _).drew).grown hgrow (by simp; omega) (fun x e => (hown.lt x e).1)
                | exact ((hb2.drew).alloc ls1 _).grown hgrow (by simp; omega) (fun x e => (hown.lt x e).1)
            have HBL : Hid (BldD w3 w.heap.size (.slice (some ⟨gg, 0, none⟩) (l.length + 1) cap') (l ++ [(x0, x1, x2, x3)])) := Lib.hid (bsnoc (e := (x0, x1, x2, x3)) hown1)
            have HMM : Hid (mrg jn P Q = (l ++ [(x0, x1, x2, x3)]) ++ mrg jn (P.drop (i + 1)) (Q.drop j)) := by
              show _ = _
              have h := HST.out
              simp only [c1, if_true] at h
              rw [HM.out, h]
              simp
            have HLN : Hid ((l ++ [(x0, x1, x2, x3)]).length = l.length + 1) := Lib.hid (by simp)
            clear hown1 hgrow hat hown hB1 hb2 a1 a2 a3 a4 hqa1 HM HST
            go_wp2
            go_roundg ((P.length - (i + 1)) + (Q.length - j))
            · have hoa := HOA.out
              exact ⟨i + 1, j, l ++ [(x0, x1, x2, x3)], oa, j * 4, ca', cb, by omega, by omega, rfl, by rw [hoa.2.1], by rw [hnb], Lib.hid ⟨hoa.1, fun _ => rfl⟩, by omega, by omega, by omega, by omega, by rw [HLN.out]; omega, HBL.out, HMM, hb3⟩
            · omega
        · by_cases c2 : y1 < x1
          · have hc : cm = 1 := by rw [← HCC.out]; unfold cmpI; rw [if_neg c1, if_pos c2]
            subst hc
            obtain ⟨a1, a2, a3, a4⟩ := hqa1
            simp only at a1 a2 a3 a4
            have hown : w1.ownsRow w.heap.size 93 4 u9 l.length (fl l) := hB1
            have av2 : u9.ownBlock ≠ some bq := fun e => by have := (hown.lt _ e).1; omega
            have lbw : bq < w1.heap.size := by omega
            have lbn : bq ≠ w1.heap.size := by omega
            go_wp2_with fail
            go_region_held3 (fun w' => w'.cell? ⟨bq, j * 4, none⟩ = some (.int .i64 y0) ∧ w'.cell? ⟨bq, j * 4 + 1, none⟩ = some (.int .i64 y1) ∧ w'.cell? ⟨bq, j * 4 + 2, none⟩ = some (.string y2) ∧ w'.cell? ⟨bq, j * 4 + 3, none⟩ = some (.string y3))
              (first
                | go_keep
                | (go_split_ands
                   refine ⟨?_, ?_, ?_, ?_⟩
                   · (rw [hgrow.cell_far _ (by simp; omega) (Ne.symm av2)]; assumption)
                   · (rw [hgrow.cell_far _ (by simp; omega) (Ne.symm av2)]; assumption)
                   · (rw [hgrow.cell_far _ (by simp; omega) (Ne.symm av2)]; assumption)
                   · (rw [hgrow.cell_far _ (by simp; omega) (Ne.symm av2)]; assumption)))
              (first
                | (refine step_append_lies _ (by rfl) _ _ _ (by rfl) w.heap.size 93 i0 _ 4 48 Tryd.underlying49 hi hz0 hz1 hz2 rfl (by omega) u9 _ _ (by rfl) ((show w1.drew.ownsRow w.heap.size 93 4 u9 l.length (fl l) from hown).alloc _)
                    ⟨w1.heap.size, 0, none⟩ 1 1 [.int .i64 y0, .int .i64 y1, .string y2, .string y3] (by rfl) (by rfl) (World.news_of_block (cs := #[.int .i64 y0, .int .i64 y1, .string y2, .string y3]) (t := 93) (fr := (0, 0)) (heap_alloc_new w1.drew _)) (by simp [Value.oneCell'])
                    (by omega) (by unfold maxLen; omega) (by omega) (by simp; omega) (w1.heap.size + 1) (by simp) ?_; intro gg cap' w3 hown1 hgrow hat hlt'))
            all_goals
              have hb3 : Below w.heap.size w w3 := by
                first
                  | exact ((hb2.alloc ls1 _).drew).grown hgrow (by simp; omega) (fun x e => (hown.lt x e).1)
                  | exact ((hb2.drew).alloc ls1 _).grown hgrow (by simp; omega) (fun x e => (hown.lt x e).1)
              have HBL : Hid (BldD w3 w.heap.size (.slice (some ⟨gg, 0, none⟩) (l.length + 1) cap') (l ++ [(y0, y1, y2, y3)])) := Lib.hid (bsnoc (e := (y0, y1, y2, y3)) hown1)
              have HMM : Hid (mrg jn P Q = (l ++ [(y0, y1, y2, y3)]) ++ mrg jn (P.drop i) (Q.drop (j + 1))) := by
                show _ = _
                have h := HST.out
                simp only [show ¬ (x1 < y1) from by omega, show y1 < x1 from by omega, ↓reduceIte] at h
                rw [HM.out, h]
                simp
              have HLN : Hid ((l ++ [(y0, y1, y2, y3)]).length = l.length + 1) := Lib.hid (by simp)
              clear hown1 hgrow hat hown hB1 hb2 a1 a2 a3 a4 hpa1 HM HST
              go_wp2
              go_roundg ((P.length - i) + (Q.length - (j + 1)))
              · have hob := HOB.out
                exact ⟨i, j + 1, l ++ [(y0, y1, y2, y3)], i * 4, ob, ca, cb', by omega, by omega, rfl, by rw [hna], by rw [hob.2.1], Lib.hid ⟨fun _ => rfl, hob.1⟩, by omega, by omega, by omega, by omega, by rw [HLN.out]; omega, HBL.out, HMM, hb3⟩
              · omega
          · have hc : cm = 0 := by rw [← HCC.out]; unfold cmpI; rw [if_neg c1, if_neg c2]
            subst hc
            obtain ⟨a1, a2, a3, a4⟩ := hpa1
            obtain ⟨b1, b2, b3, b4⟩ := hqa1
            simp only at a1 a2 a3 a4 b1 b2 b3 b4
            have hown : w1.ownsRow w.heap.size 93 4 u9 l.length (fl l) := hB1
            have av1 : u9.ownBlock ≠ some bp := fun e => by have := (hown.lt _ e).1; omega
            have av2 : u9.ownBlock ≠ some bq := fun e => by have := (hown.lt _ e).1; omega
            have lbw1 : bp < w1.heap.size := by omega
            have lbw2 : bq < w1.heap.size := by omega
            have HJX := fun w' => HJ.out (x0, x1, x2, x3) (y0, y1, y2, y3) w'
            obtain ⟨z, hz⟩ : ∃ z, jn (x0, x1, x2, x3) (y0, y1, y2, y3) = z := ⟨_, rfl⟩
            rw [hz] at HJX
            have HZ := Lib.hid hz
            obtain ⟨z0, z1, z2, z3⟩ := z
            unfold vE at HJX
            simp only at HJX
            clear hz HCC HPA HQA
            go_wp2_with fail
            go_region_held3 (fun w' => (w'.cell? ⟨bp, i * 4, none⟩ = some (.int .i64 x0) ∧ w'.cell? ⟨bp, i * 4 + 1, none⟩ = some (.int .i64 x1) ∧ w'.cell? ⟨bp, i * 4 + 2, none⟩ = some (.string x2) ∧ w'.cell? ⟨bp, i * 4 + 3, none⟩ = some (.string x3)) ∧ w'.cell? ⟨bq, j * 4, none⟩ = some (.int .i64 y0) ∧ w'.cell? ⟨bq, j * 4 + 1, none⟩ = some (.int .i64 y1) ∧ w'.cell? ⟨bq, j * 4 + 2, none⟩ = some (.string y2) ∧ w'.cell? ⟨bq, j * 4 + 3, none⟩ = some (.string y3))
              (first
                | go_keep
                | (go_split_ands
                   refine ⟨⟨?_, ?_, ?_, ?_⟩, ?_, ?_, ?_, ?_⟩
                   all_goals (rw [hbj.cell (by first | (show bp < w1.heap.size; exact lbw1) | (show bq < w1.heap.size; exact lbw2))]; assumption))
                | (go_split_ands
                   refine ⟨⟨?_, ?_, ?_, ?_⟩, ?_, ?_, ?_, ?_⟩
                   all_goals (rw [hgrow.cell_far _ (by have := hbj.size; simp at this ⊢; omega) (by first | exact Ne.symm av1 | exact Ne.symm av2)]; assumption)))
              (first
                | (refine (HJX _).mono ?_; rintro e w2 ⟨rfl, hbj⟩)
                | (refine step_append_lies _ (by rfl) _ _ _ (by rfl) w.heap.size 93 i0 _ 4 48 Tryd.underlying49 hi hz0 hz1 hz2 rfl (by omega) u9 _ _ (by rfl) ((own_block7 hown fun g _ hg => (hbj.block g (by simpa using hg)).trans rfl).alloc _)
                    ⟨w2.heap.size, 0, none⟩ 1 1 [.int .i64 z0, .int .i64 z1, .string z2, .string z3] (by rfl) (by rfl) (World.news_of_block (cs := #[.int .i64 z0, .int .i64 z1, .string z2, .string z3]) (t := 93) (fr := (0, 0)) (heap_alloc_new w2 _)) (by simp [Value.oneCell'])
                    (by omega) (by unfold maxLen; omega) (by omega) (by have := hbj.size; simp at this ⊢; omega) (w2.heap.size + 1) (by simp) ?_; intro gg cap' w3 hown1 hgrow hat hlt'))
            all_goals
              have hbj' : Below w.heap.size w w2 := hb2.trans ((Below.refl _ _).drew.trans (hbj.mono (by simp; omega)))
              have lsj := hbj'.size
              have lsj1 : w1.heap.size ≤ w2.heap.size := by have := hbj.size; simp at this; omega
              have hb3 : Below w.heap.size w w3 := by
                first
                  | exact (hbj'.alloc lsj _).grown hgrow (by simp; omega) (fun x e => (hown.lt x e).1)
              have HBL : Hid (BldD w3 w.heap.size (.slice (some ⟨gg, 0, none⟩) (l.length + 1) cap') (l ++ [(z0, z1, z2, z3)])) := Lib.hid (bsnoc (e := (z0, z1, z2, z3)) hown1)
              have HMM : Hid (mrg jn P Q = (l ++ [(z0, z1, z2, z3)]) ++ mrg jn (P.drop (i + 1)) (Q.drop (j + 1))) := by
                show _ = _
                have h := HST.out
                simp only [show ¬ (x1 < y1) from by omega, show ¬ (y1 < x1) from by omega, ↓reduceIte] at h
                rw [HM.out, h, HZ.out]
                simp
              have HLN : Hid ((l ++ [(z0, z1, z2, z3)]).length = l.length + 1) := Lib.hid (by simp)
              clear hown1 hgrow hat hown hB1 hb2 a1 a2 a3 a4 b1 b2 b3 b4 HM HST hbj hbj' HJX
              go_wp2
              go_roundg ((P.length - (i + 1)) + (Q.length - (j + 1)))
              · have hoa := HOA.out
                have hob := HOB.out
                exact ⟨i + 1, j + 1, l ++ [(z0, z1, z2, z3)], oa, ob, ca', cb', by omega, by omega, rfl, by rw [hoa.2.1], by rw [hob.2.1], Lib.hid ⟨hoa.1, hob.1⟩, by omega, by omega, by omega, by omega, by rw [HLN.out]; omega, HBL.out, HMM, hb3⟩
              · omega
      · obtain rfl : j = Q.length := by omega
        clear hjq
        obtain ⟨na, hna⟩ : ∃ na, P.length - i = na := ⟨_, rfl⟩
        have HL9 := (hB.done (Nat.le_refl _) (by omega)).rd.1
        have HTA := tailE (c := ca) (HP.out.below hb) HO.out.1
        have HTB := tailE (c := cb) (HQ.out.below hb) HO.out.2
        have HC3 := concat3 _ _ _ _ _ _ wr HL9 HTA HTB (by omega) (by rw [List.length_drop]; omega) (by rw [List.length_drop]; omega)
        obtain ⟨va, vc, hv⟩ := HL9.shape
        subst hv
        have hmg := HM.out
        rw [List.drop_length, mrg_nil_right] at hmg
        rw [List.drop_length, List.append_nil, ← hmg] at HC3
        rw [hna, Nat.sub_self] at HC3
        rw [hna] at hca
        simp only [hna, Nat.sub_self]
        have n1 : 0 < (na : Int) := by omega
        have HB0 := Lib.hid hb
        clear hB HL9 HTA HTB hmg HM
        go_wp2_with fail
        refine HC3.mono ?_
        rintro e w1 ⟨⟨v, rfl, hO⟩, hb1⟩
        have hO' := hO.low lbs
        have hb2 := HB0.out.trans (hb1.mono lbs)
        clear HC3 hO hb1
        have HO1 := Lib.hid hO'
        clear hO'
        go_wp2
        go_ret
        exact ⟨⟨_, rfl, HO1.out⟩, hb2⟩
    · obtain rfl : i = P.length := by omega
      clear hip
      have HL9 := (hB.done (Nat.le_refl _) (by omega)).rd.1
      have HTA := tailE (c := ca) (HP.out.below hb) HO.out.1
      have HTB := tailE (c := cb) (HQ.out.below hb) HO.out.2
      have HC3 := concat3 _ _ _ _ _ _ wr HL9 HTA HTB (by omega) (by rw [List.length_drop]; omega) (by rw [List.length_drop]; omega)
      obtain ⟨va, vc, hv⟩ := HL9.shape
      subst hv
      have hmg := HM.out
      rw [List.drop_length, mrg_nil_left] at hmg
      rw [List.drop_length, List.append_nil, ← hmg] at HC3
      obtain ⟨nb, hnb⟩ : ∃ nb, Q.length - j = nb := ⟨_, rfl⟩
      rw [hnb, Nat.sub_self] at HC3
      rw [hnb] at hcb
      simp only [hnb, Nat.sub_self]
      have HB0 := Lib.hid hb
      clear hB HL9 HTA HTB hmg HM
      go_wp2_with fail
      refine HC3.mono ?_
      rintro e w1 ⟨⟨v, rfl, hO⟩, hb1⟩
      have hO' := hO.low lbs
      have hb2 := HB0.out.trans (hb1.mono lbs)
      clear HC3 hO hb1
      have HO1 := Lib.hid hO'
      clear hO'
      go_wp2
      go_ret
      exact ⟨⟨_, rfl, HO1.out⟩, hb2⟩
theorem imerge (Fc Fj : FuncId) (HFc : ∀ args w, (callFunc Fc args).run Tryd.prog w = .ok (.enter Fc args) w) (HFj : ∀ args w, (callFunc Fj args).run Tryd.prog w = .ok (.enter Fj args) w) (jn : Ed → Ed → Ed)
    (HCmp : ∀ x y w', Calls Tryd.prog Fc #[vE x, vE y] w' fun e w'' => e = .returned (.int .i64 (cmpI x y)) ∧ Below w'.heap.size w' w'')
    (HJn : ∀ x y w', Calls Tryd.prog Fj #[vE x, vE y] w' fun e w'' => e = .returned (vE (jn x y)) ∧ Below w'.heap.size w' w'')
    (P Q : List Ed) (bp cp bq cq : Nat) (w : World) (hp : Es w bp P) (hq : Es w bq Q) (lp : P.length ≤ 1000) (lq : Q.length ≤ 1000) (kp : P.length ≤ cp) (kq : Q.length ≤ cq) (kp9 : cp ≤ 1048576) (kq9 : cq ≤ 1048576) :
    Calls Tryd.prog 80 #[.slice (some ⟨bp, 0, none⟩) P.length cp, .slice (some ⟨bq, 0, none⟩) Q.length cq, .func (.func Fc) #[] #[], .func (.func Fj) #[] #[]] w fun e w' => (∃ v, e = .returned v ∧ OwD w' w.heap.size w'.heap.size v (mrg jn P Q)) ∧ Below w.heap.size w w' := by
  refine (imergeB Fc Fj HFc HFj jn HCmp HJn P Q bp cp bq cq w hp hq lp lq kp kq kp9 kq9).mono fun e w' ⟨⟨v, he, hB⟩, hb⟩ => ⟨⟨v, he, hB.done (Nat.le_refl _) ?_⟩, hb⟩
  have := mrg_len jn _ P Q (Nat.le_refl _)
  omega
end Go.Proofs.YtkaakomiimcbmaaDoor
